/-
  The plain mathematics of the statements' own small functions: pick, code.
-/
import Derived.Test.YtfggaacijcggeaaCodeC
namespace Go.Proofs.Ytfggaacijcggeaa
namespace H

/-- Which of n things the raw number c speaks of. -/
def pk (c n : Int) : Int := (if c < 0 then -(c + 1) else c) % n

theorem pk_range (c n : Int) (h : 0 < n) : 0 ≤ pk c n ∧ pk c n < n := by
  unfold pk
  exact ⟨Int.emod_nonneg _ (by omega), Int.emod_lt_of_pos _ h⟩

theorem okFrom_of (n : Nat) : ∀ (l : List (Int × Int)) (k : Nat), (∀ i x, l[i]? = some x → alone x.1 x.2 = true ∧ lands n (k + i) x.1 x.2 = true) → okFrom n k l = true
  | [], _, _ => rfl
  | y :: r, k, h => by
    have h0 := h 0 y rfl
    have hr := okFrom_of n r (k + 1) (fun i x hx => by
      have := h (i + 1) x (by simpa using hx)
      rwa [show k + 1 + i = k + (i + 1) by omega])
    simp only [okFrom]
    simp at h0
    rw [h0.1, h0.2, hr]
    rfl

/-- A list whose instructions are right, up to the place that it has come to, in a program of n. -/
def good (n : Nat) (l : List (Int × Int)) : Prop := ∀ i x, l[i]? = some x → alone x.1 x.2 = true ∧ lands n i x.1 x.2 = true ∧ 0 ≤ x.1

theorem good_snoc {n : Nat} {l : List (Int × Int)} {o a : Int} (h : good n l) (h1 : alone o a = true) (h2 : lands n l.length o a = true) (h3 : 0 ≤ o) : good n (l ++ [(o, a)]) := by
  intro i x hx
  by_cases hi : i < l.length
  · rw [List.getElem?_append_left hi] at hx
    exact h i x hx
  · rw [List.getElem?_append_right (by omega)] at hx
    have hi0 : i - l.length = 0 := by
      have := (List.getElem?_eq_some_iff.1 hx).1
      simp at this; omega
    rw [hi0] at hx
    simp at hx
    subst hx
    have : i = l.length := by omega
    subst this
    exact ⟨h1, h2, h3⟩

theorem good_okFrom {n : Nat} {l : List (Int × Int)} (h : good n l) : okFrom n 0 l = true :=
  okFrom_of n l 0 (fun i x hx => by rw [Nat.zero_add]; exact ⟨(h i x hx).1, (h i x hx).2.1⟩)

theorem good_nil (n : Nat) : good n [] := by intro i x hx; simp at hx

end H
end Go.Proofs.Ytfggaacijcggeaa
