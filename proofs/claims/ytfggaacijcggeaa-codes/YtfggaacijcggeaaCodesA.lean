/-
  Rows of instructions that are written over with one mark.
-/
import Derived.Test.YtfggaacijcggeaaRefF
import Derived.OwnWalk
import Derived.ArgAppend
namespace Go.Proofs.Ytfggaacijcggeaa
open Go.RowKit
set_option linter.unusedVariables false

theorem insCells_set : ∀ (l : List (Int × Int)) (k : Nat) (x : Int × Int), ((insCells l).set (k * 2) (.int .u8 x.1)).set (k * 2 + 1) (.int .i64 x.2) = insCells (l.set k x)
  | [], k, x => by simp [insCells]
  | y :: r, 0, x => by
    have e : insCells (y :: r) = .int .u8 y.1 :: .int .i64 y.2 :: insCells r := rfl
    have e2 : insCells ((y :: r).set 0 x) = .int .u8 x.1 :: .int .i64 x.2 :: insCells r := rfl
    rw [e, e2]
    rfl
  | y :: r, k + 1, x => by
    have e : insCells (y :: r) = .int .u8 y.1 :: .int .i64 y.2 :: insCells r := rfl
    have e2 : insCells ((y :: r).set (k + 1) x) = .int .u8 y.1 :: .int .i64 y.2 :: insCells (r.set k x) := rfl
    rw [e, e2, ← insCells_set r k x, show (k + 1) * 2 = k * 2 + 1 + 1 by omega, show k * 2 + 1 + 1 + 1 = (k * 2 + 1) + 1 + 1 by omega]
    rfl

/-- An element of one's own row is written over. -/
theorem own_set2 {w : World} {base g n cap : Nat} {l : List (Int × Int)} (h : w.ownsRow base 28 2 (.slice (some ⟨g, 0, none⟩) n cap) n (insCells l)) (k : Nat) (x : Int × Int) :
    ((w.setCell ⟨g, k * 2, none⟩ (.int .u8 x.1)).setCell ⟨g, k * 2 + 1, none⟩ (.int .i64 x.2)).ownsRow base 28 2 (.slice (some ⟨g, 0, none⟩) n cap) n (insCells (l.set k x)) := by
  obtain ⟨h1, h2⟩ := h
  refine ⟨by rw [← insCells_set]; simpa using h1, ?_⟩
  rcases h2 with ⟨hv, _⟩ | ⟨g', cap', cur, hv, hb, hh, h3, h4, h5, h6⟩
  · simp at hv
  · simp only [Value.slice.injEq, Option.some.injEq, Addr.mk.injEq, and_true, true_and] at hv
    obtain ⟨rfl, rfl⟩ := hv
    have hB : Blk w g cur 28 := hh
    refine Or.inr ⟨g, cap, _, rfl, hb, (hB.set (k * 2) (.int .u8 x.1)).set (k * 2 + 1) (.int .i64 x.2), h3, h4, by simpa using h5, ?_⟩
    rw [Array.toList_setIfInBounds, Array.toList_setIfInBounds, List.take_set, List.take_set, h6, insCells_set]

/-- A list of marks, somewhere. -/
def MarkAt (w : World) (v : Value) (n : Nat) : Prop :=
  ∃ ao cap, v = .slice ao n cap ∧ (n = 0 ∨ ∃ g cur, ao = some ⟨g, 0, none⟩ ∧ Blk w g cur 28 ∧ InsRow w g 0 (List.replicate n (200, 200)))

theorem InsRow.take {w : World} {b off : Nat} {n m : Nat} {x : Int × Int} (h : InsRow w b off (List.replicate n x)) (hm : m ≤ n) : InsRow w b off (List.replicate m x) := by
  intro i y hy
  have hi : i < m := by
    have := (List.getElem?_eq_some_iff.1 hy).1
    simpa using this
  have hyx : y = x := by
    rw [List.getElem?_replicate, if_pos hi] at hy
    exact (Option.some.inj hy).symm
  exact h i y (by rw [List.getElem?_replicate, if_pos (by omega), hyx])

theorem MarkAt.other {w w' : World} {v : Value} {n : Nat} {row : Option Nat} (h : MarkAt w v n) (hg : w.grownBy w' row) (hne : ∀ g cur, Blk w g cur 28 → some g ≠ row) : MarkAt w' v n := by
  obtain ⟨ao, cap, rfl, h⟩ := h
  refine ⟨ao, cap, rfl, ?_⟩
  rcases h with h | ⟨g, cur, e, hb, hr⟩
  · exact Or.inl h
  · refine Or.inr ⟨g, cur, e, hb.grown hg (hne g cur hb), ?_⟩
    intro i x hx
    obtain ⟨c0, c1⟩ := hr i x hx
    exact ⟨hg.cell c0 (hne g cur hb), hg.cell c1 (hne g cur hb)⟩

theorem MarkAt.below {B : Nat} {w w' : World} {v : Value} {n : Nat} (h : MarkAt w v n) (hb : Below B w w') (hB : w.heap.size ≤ B) : MarkAt w' v n := by
  obtain ⟨ao, cap, rfl, h⟩ := h
  refine ⟨ao, cap, rfl, ?_⟩
  rcases h with h | ⟨g, cur, e, hk, hr⟩
  · exact Or.inl h
  · exact Or.inr ⟨g, cur, e, hk.below hb (by have := hk.lt; omega), hr.below hb (by have := hk.lt; omega)⟩

/-- One's own row of marks. -/
theorem own_mark {w : World} {base n : Nat} {v : Value} (h : w.ownsRow base 28 2 v n (insCells (List.replicate n (200, 200)))) : MarkAt w v n := by
  rcases h.2 with ⟨hv, h0⟩ | ⟨g, cap, cur, hv, hb, hh, _⟩
  · subst hv
    subst h0
    exact ⟨none, 0, rfl, Or.inl rfl⟩
  · subst hv
    exact ⟨_, _, rfl, Or.inr ⟨g, cur, rfl, hh, own_insRow h (by simp)⟩⟩

/-- Where a mark joins one's own row within its room, a list that lies there stays one of marks. -/
theorem MarkAt.fits {w w' : World} {base g k cap m : Nat} {v : Value} (h : MarkAt w v m) (hm : m ≤ k + 1) (hg : w.grownBy w' (some g)) (ho : w'.ownsRow base 28 2 (.slice (some ⟨g, 0, none⟩) (k + 1) cap) (k + 1) (insCells (List.replicate (k + 1) (200, 200)))) : MarkAt w' v m := by
  obtain ⟨ao, cp, rfl, h⟩ := h
  refine ⟨ao, cp, rfl, ?_⟩
  rcases h with h | ⟨g', cur, e, hb, hr⟩
  · exact Or.inl h
  · by_cases hgg : g' = g
    · subst hgg
      rcases ho.2 with ⟨hv, _⟩ | ⟨g2, cap2, cur2, hv, _, hh, _⟩
      · simp at hv
      · simp only [Value.slice.injEq, Option.some.injEq, Addr.mk.injEq, and_true, true_and] at hv
        obtain ⟨rfl, rfl⟩ := hv
        exact Or.inr ⟨g', cur2, e, hh, (own_insRow ho (by simp)).take hm⟩
    · have hne : some g' ≠ some g := by intro h; exact hgg (Option.some.inj h)
      refine Or.inr ⟨g', cur, e, hb.grown hg hne, ?_⟩
      intro i x hx
      obtain ⟨c0, c1⟩ := hr i x hx
      exact ⟨hg.cell c0 hne, hg.cell c1 hne⟩

end Go.Proofs.Ytfggaacijcggeaa
