/-
  Patches: their cells, a copy of them.
-/
import Derived.Test.YtcaeeaiodbjacaaApplyW
import Derived.Test.YtcaeeaiodbjacaaLentW
namespace Go.Proofs.Ytcaeeaiodbjacaa
open Go.RowKit
set_option linter.unusedVariables false

theorem infoPt : (Try.prog.info? 46).map (fun i => (i.zero, i.size, i.bytes)) = some (some (.agg #[.int .u8 0, .int .u8 0, .int .i64 0, .int .u16 0, .string ⟨#[]⟩]), 5, 40) := by kernel_rfl

def ptCells (l : List T.Pt) : List Value := l.flatMap fun x => [.int .u8 x.1, .int .u8 x.2.1, .int .i64 x.2.2.1, .int .u16 x.2.2.2.1, .string x.2.2.2.2]

theorem ptCells_snoc (l : List T.Pt) (x : T.Pt) : ptCells (l ++ [x]) = ptCells l ++ [.int .u8 x.1, .int .u8 x.2.1, .int .i64 x.2.2.1, .int .u16 x.2.2.2.1, .string x.2.2.2.2] := by simp [ptCells]

theorem ptCells_length (l : List T.Pt) : (ptCells l).length = l.length * 5 := by
  induction l with
  | nil => rfl
  | cons x r ih =>
    have e : ptCells (x :: r) = .int .u8 x.1 :: .int .u8 x.2.1 :: .int .i64 x.2.2.1 :: .int .u16 x.2.2.2.1 :: .string x.2.2.2.2 :: ptCells r := rfl
    rw [e]
    simp [ih]; omega

theorem ptCells_at : ∀ (l : List T.Pt) (i : Nat) (x : T.Pt), l[i]? = some x → (ptCells l)[i * 5]? = some (.int .u8 x.1) ∧ (ptCells l)[i * 5 + 1]? = some (.int .u8 x.2.1) ∧ (ptCells l)[i * 5 + 2]? = some (.int .i64 x.2.2.1) ∧ (ptCells l)[i * 5 + 3]? = some (.int .u16 x.2.2.2.1) ∧ (ptCells l)[i * 5 + 4]? = some (.string x.2.2.2.2)
  | [], i, x, h => by simp at h
  | y :: r, 0, x, h => by
    simp at h; subst h
    exact ⟨rfl, rfl, rfl, rfl, rfl⟩
  | y :: r, i + 1, x, h => by
    have := ptCells_at r i x (by simpa using h)
    have e : ptCells (y :: r) = .int .u8 y.1 :: .int .u8 y.2.1 :: .int .i64 y.2.2.1 :: .int .u16 y.2.2.2.1 :: .string y.2.2.2.2 :: ptCells r := rfl
    rw [e, show (i + 1) * 5 = i * 5 + 5 by omega]
    simpa using this

theorem ptCells_one (l : List T.Pt) : ∀ v ∈ ptCells l, v.oneCell' = true := by
  intro v hv
  unfold ptCells at hv
  obtain ⟨x, _, hx⟩ := List.mem_flatMap.1 hv
  simp at hx
  rcases hx with rfl | rfl | rfl | rfl | rfl <;> rfl

theorem ptRow_cells {w : World} {b off : Nat} {l : List T.Pt} (h : PtRow w b off l) : ∀ j v, (ptCells l)[j]? = some v → w.cell? ((⟨b, off, none⟩ : Addr).add j) = some v := by
  intro j v hj
  have hlt : j < l.length * 5 := by
    have := (List.getElem?_eq_some_iff.1 hj).1
    rwa [ptCells_length] at this
  obtain ⟨x, hx⟩ : ∃ x, l[j / 5]? = some x := ⟨l[j / 5]'(by omega), List.getElem?_eq_getElem (by omega)⟩
  obtain ⟨c0, c1, c2, c3, c4⟩ := h _ _ hx
  obtain ⟨d0, d1, d2, d3, d4⟩ := ptCells_at l _ _ hx
  rw [Addr.add_lit]
  rcases (show j = j / 5 * 5 ∨ j = j / 5 * 5 + 1 ∨ j = j / 5 * 5 + 2 ∨ j = j / 5 * 5 + 3 ∨ j = j / 5 * 5 + 4 by omega) with e | e | e | e | e
  · rw [e] at hj ⊢
    rw [d0] at hj
    rw [← hj]
    exact c0
  · rw [e] at hj ⊢
    rw [d1] at hj
    rw [← hj]
    exact c1
  · rw [e] at hj ⊢
    rw [d2] at hj
    rw [← hj]
    exact c2
  · rw [e] at hj ⊢
    rw [d3] at hj
    rw [← hj]
    exact c3
  · rw [e] at hj ⊢
    rw [d4] at hj
    rw [← hj]
    exact c4

theorem ptRow_of {w : World} {g : Nat} {l : List T.Pt} {cs : Array Value} (h : Blk w g cs 46) (e : cs = (ptCells l).toArray) : PtRow w g 0 l := by
  subst e
  intro i x hx
  obtain ⟨d0, d1, d2, d3, d4⟩ := ptCells_at l i x hx
  refine ⟨?_, ?_, ?_, ?_, ?_⟩
  · rw [Nat.zero_add, h.cell]; simpa using d0
  · rw [Nat.zero_add, h.cell]; simpa using d1
  · rw [Nat.zero_add, h.cell]; simpa using d2
  · rw [Nat.zero_add, h.cell]; simpa using d3
  · rw [Nat.zero_add, h.cell]; simpa using d4

theorem PtRow.front {w : World} {b off : Nat} {l m : List T.Pt} (h : PtRow w b off (l ++ m)) : PtRow w b off l := by
  intro i x hx
  refine h i x ?_
  rw [List.getElem?_append_left (by exact (List.getElem?_eq_some_iff.1 hx).1)]
  exact hx

theorem PtAt.below {B : Nat} {w w' : World} {ao : Option Addr} {l : List T.Pt} (h : PtAt w ao l) (hb : Below B w w') (hB : w.heap.size ≤ B) (hs : w.heap.size ≤ w'.heap.size) : PtAt w' ao l := by
  rcases h with h | ⟨b, off, e, hl, h⟩
  · exact Or.inl h
  · exact Or.inr ⟨b, off, e, by omega, h.below hb (by omega)⟩

theorem made_last5 (a b c d e : Value) (n : Nat) : ((madeCells #[a, b, c, d, e] ((n + 1) * 5)).toList).drop (n * 5) = [a, b, c, d, e] := by
  apply List.ext_getElem?
  intro i
  rw [List.getElem?_drop]
  simp only [madeCells, Array.toList_map, Array.toList_range, List.getElem?_map]
  match i with
  | 0 => rw [List.getElem?_range (by omega)]; simp
  | 1 =>
    rw [List.getElem?_range (by omega)]
    have e : (n * 5 + 1) % 5 = 1 := by omega
    simp [e]
  | 2 =>
    rw [List.getElem?_range (by omega)]
    have e : (n * 5 + 2) % 5 = 2 := by omega
    simp [e]
  | 3 =>
    rw [List.getElem?_range (by omega)]
    have e : (n * 5 + 3) % 5 = 3 := by omega
    simp [e]
  | 4 =>
    rw [List.getElem?_range (by omega)]
    have e : (n * 5 + 4) % 5 = 4 := by omega
    simp [e]
  | i + 5 =>
    rw [List.getElem?_eq_none (by simp; omega)]
    simp

/-- copy, of patches, into a row of one's own. -/
theorem run_copy_pt (w : World) (g n cap : Nat) (lo : Option Addr) (sCap : Nat) (cur : Array Value) (cs : List Value) (hg : w.heap[g]? = some (.cells cur 46 (0, 0))) (hn : cs.length = n * 5)
    (hsrc : (lo = none ∧ n = 0 ∧ sCap = 0) ∨ ∃ a, lo = some a ∧ ∀ j v, cs[j]? = some v → w.cell? (a.add j) = some v) (hfit : cs.length ≤ cur.size) (h1 : ∀ v ∈ cs, v.oneCell' = true) :
    (Builtin.copy_ #[44, 44] 3 #[.slice (some ⟨g, 0, none⟩) (n + 1) cap, .slice lo n sCap]).run Try.prog w = .ok (goInt n) (w.setRow g (cs ++ cur.toList.drop cs.length).toArray) := by
  have hst := run_storeCells_at Try.prog g 0 46 cs 0 cur w hg (by simpa using hfit) h1
  obtain ⟨i, hq, hz0, hz1, hz2⟩ := info_parts infoPt
  have hm : Nat.min n (n + 1) = n := Nat.min_eq_left (by omega)
  rcases hsrc with ⟨rfl, rfl, rfl⟩ | ⟨a, rfl, hsrc⟩
  · have hcs : cs = [] := List.eq_nil_of_length_eq_zero (by omega)
    subst hcs
    simp [Builtin.copy_, run_underlying Try.underlying44, Builtin.lenOf, Builtin.firstCells, sizeOf, typeInfo, hq, storeCells]
    rw [setRow_self w g cur 46 (0, 0) hg]
  · have hl := run_loadCells_list (P := Try.prog) w a cs hsrc
    rw [hn] at hl
    simp [Builtin.copy_, run_underlying Try.underlying44, Builtin.lenOf, Builtin.firstCells, sizeOf, typeInfo, hq, hz1, hm, hl]
    simp at hst
    rw [hst]
    simp

end Go.Proofs.Ytcaeeaiodbjacaa
