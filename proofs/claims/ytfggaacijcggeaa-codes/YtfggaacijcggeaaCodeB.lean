/-
  The plain mathematics of Encode.
-/
import Derived.Test.YtfggaacijcggeaaCode
namespace Go.Proofs.Ytfggaacijcggeaa
namespace H

def encAll (l : List (Int × Int)) : List Int := l.flatMap fun x => enc x.1 x.2

/-- The instructions from i on are right, in a program of n. -/
def okFrom (n : Nat) : Nat → List (Int × Int) → Bool
  | _, [] => true
  | i, x :: r => alone x.1 x.2 && lands n i x.1 x.2 && okFrom n (i + 1) r

def okProg (l : List (Int × Int)) : Bool := decide (1 ≤ l.length ∧ l.length ≤ 64) && okFrom l.length 0 l

theorem encAll_length (l : List (Int × Int)) : l.length ≤ (encAll l).length ∧ (encAll l).length ≤ 3 * l.length := by
  unfold encAll
  induction l with
  | nil => simp
  | cons x r ih =>
    have h1 := enc_length x.1 x.2
    have h2 := wid_le x.1
    simp only [List.flatMap_cons, List.length_append, List.length_cons]
    omega

theorem encAll_snoc (l : List (Int × Int)) (x : Int × Int) : encAll (l ++ [x]) = encAll l ++ enc x.1 x.2 := by
  simp [encAll]

theorem take_snoc (l : List (Int × Int)) (k : Nat) (x : Int × Int) (h : l[k]? = some x) : l.take (k + 1) = l.take k ++ [x] := by
  obtain ⟨hk, hx⟩ := List.getElem?_eq_some_iff.1 h
  rw [List.take_succ_eq_append_getElem hk, hx]

theorem drop_cons (l : List (Int × Int)) (k : Nat) (x : Int × Int) (h : l[k]? = some x) : l.drop k = x :: l.drop (k + 1) := by
  obtain ⟨hk, hx⟩ := List.getElem?_eq_some_iff.1 h
  rw [List.drop_eq_getElem_cons hk, hx]

theorem okFrom_step (n : Nat) (l : List (Int × Int)) (k : Nat) (x : Int × Int) (h : l[k]? = some x) :
    okFrom n k (l.drop k) = (alone x.1 x.2 && lands n k x.1 x.2 && okFrom n (k + 1) (l.drop (k + 1))) := by
  rw [drop_cons l k x h]
  rfl

end H
end Go.Proofs.Ytfggaacijcggeaa
