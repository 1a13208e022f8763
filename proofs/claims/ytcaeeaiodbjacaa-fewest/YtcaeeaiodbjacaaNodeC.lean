/-
  Rows of nodes of a call's own.
-/
import Derived.Test.YtcaeeaiodbjacaaTextC
import Derived.Laws.OwnMore
namespace Go.Proofs.Ytcaeeaiodbjacaa
open Go.RowKit
set_option linter.unusedVariables false

theorem info60 : (Try.prog.info? 60).map (fun i => (i.zero, i.size, i.bytes)) = some (some (.agg #[.int .u8 0, .int .u16 0, .string ⟨#[]⟩]), 3, 24) := by kernel_rfl

def ndCells (l : List T.Nd) : List Value := l.flatMap fun x => [.int .u8 x.1, .int .u16 x.2.1, .string x.2.2]

theorem ndCells_snoc (l : List T.Nd) (x : T.Nd) : ndCells (l ++ [x]) = ndCells l ++ [.int .u8 x.1, .int .u16 x.2.1, .string x.2.2] := by simp [ndCells]

theorem ndCells_at : ∀ (l : List T.Nd) (i : Nat) (x : T.Nd), l[i]? = some x → (ndCells l)[i * 3]? = some (.int .u8 x.1) ∧ (ndCells l)[i * 3 + 1]? = some (.int .u16 x.2.1) ∧ (ndCells l)[i * 3 + 2]? = some (.string x.2.2)
  | [], i, x, h => by simp at h
  | y :: r, 0, x, h => by
    simp at h; subst h
    exact ⟨rfl, rfl, rfl⟩
  | y :: r, i + 1, x, h => by
    have := ndCells_at r i x (by simpa using h)
    have e : ndCells (y :: r) = .int .u8 y.1 :: .int .u16 y.2.1 :: .string y.2.2 :: ndCells r := rfl
    rw [e, show (i + 1) * 3 = i * 3 + 3 by omega]
    simpa using this

theorem ndCells_length (l : List T.Nd) : (ndCells l).length = l.length * 3 := by
  induction l with
  | nil => rfl
  | cons x r ih =>
    have e : ndCells (x :: r) = .int .u8 x.1 :: .int .u16 x.2.1 :: .string x.2.2 :: ndCells r := rfl
    rw [e]
    simp [ih]; omega

theorem own_nodeRow {w : World} {base g n cap : Nat} {l : List T.Nd} (h : w.ownsRow base 60 3 (.slice (some ⟨g, 0, none⟩) n cap) n (ndCells l)) (hn : l.length = n) : NodeRow w g 0 l := by
  intro i x hx
  obtain ⟨h0, h1, h2⟩ := ndCells_at l i x hx
  have hi : i < n := by have := (List.getElem?_eq_some_iff.1 hx).1; omega
  refine ⟨?_, ?_, ?_⟩
  · rw [Nat.zero_add, h.cellAt (i * 3) (by omega)]; exact h0
  · rw [Nat.zero_add, h.cellAt (i * 3 + 1) (by omega)]; exact h1
  · rw [Nat.zero_add, h.cellAt (i * 3 + 2) (by omega)]; exact h2

/-- A row of nodes of one's own, as a slice. -/
theorem own_node {w : World} {base : Nat} {v : Value} {l : List T.Nd} (h : w.ownsRow base 60 3 v l.length (ndCells l)) :
    ∃ ao cap, v = .slice ao l.length cap ∧ l.length ≤ cap ∧ l.length ≤ maxLen ∧ NodeAt w ao l := by
  rcases h.2 with ⟨hv, h0⟩ | ⟨g, cap, cur, hv, hb, hh, h1, h2, h3⟩
  · have : l = [] := List.eq_nil_of_length_eq_zero h0
    subst this
    exact ⟨none, 0, hv, by simp, by simp, Or.inl rfl⟩
  · subst hv
    exact ⟨some ⟨g, 0, none⟩, cap, rfl, h1, by omega, Or.inr ⟨g, 0, rfl, lt_of_block hh, own_nodeRow h rfl⟩⟩

theorem new_three (w : World) (x y z : Value) (t : TypeId) : ∀ j u, [x, y, z][j]? = some u → (w.alloc (.cells #[x, y, z] t)).cell? ((⟨w.heap.size, 0, none⟩ : Addr).add j) = some u := by
  intro j u hj
  match j, hj with
  | 0, hj => simp at hj; subst hj; simp [Addr.add]
  | 1, hj => simp at hj; subst hj; simp [Addr.add]
  | 2, hj => simp at hj; subst hj; simp [Addr.add]
  | (j + 3), hj => simp at hj

theorem new_three1 (w : World) (o : Obj) (x y z : Value) (t : TypeId) : ∀ j u, [x, y, z][j]? = some u → ((w.alloc o).alloc (.cells #[x, y, z] t)).cell? ((⟨w.heap.size + 1, 0, none⟩ : Addr).add j) = some u := by
  have h := new_three (w.alloc o) x y z t
  rwa [show (w.alloc o).heap.size = w.heap.size + 1 by simp] at h

end Go.Proofs.Ytcaeeaiodbjacaa
