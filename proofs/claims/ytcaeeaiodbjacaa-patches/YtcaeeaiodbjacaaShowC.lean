/-
  Shows: their cells, a copy of them; the walk of sameShows.
-/
import Derived.Test.YtcaeeaiodbjacaaPlanW
import Derived.Test.YtcaeeaiodbjacaaLentW
import Derived.BigQuiet
namespace Go.Proofs.Ytcaeeaiodbjacaa
open Go.RowKit
set_option linter.unusedVariables false

theorem infoSh : (Try.prog.info? 27).map (fun i => (i.zero, i.size, i.bytes)) = some (some (.agg #[.int .u16 0, .string ⟨#[]⟩]), 2, 24) := by kernel_rfl

def shCells (l : List T.Sh) : List Value := l.flatMap fun x => [.int .u16 x.1, .string x.2]

theorem shCells_snoc (l : List T.Sh) (x : T.Sh) : shCells (l ++ [x]) = shCells l ++ [.int .u16 x.1, .string x.2] := by simp [shCells]

theorem shCells_length (l : List T.Sh) : (shCells l).length = l.length * 2 := by
  induction l with
  | nil => rfl
  | cons x r ih =>
    have e : shCells (x :: r) = .int .u16 x.1 :: .string x.2 :: shCells r := rfl
    rw [e]
    simp [ih]; omega

theorem shCells_at : ∀ (l : List T.Sh) (i : Nat) (x : T.Sh), l[i]? = some x → (shCells l)[i * 2]? = some (.int .u16 x.1) ∧ (shCells l)[i * 2 + 1]? = some (.string x.2)
  | [], i, x, h => by simp at h
  | y :: r, 0, x, h => by
    simp at h; subst h
    exact ⟨rfl, rfl⟩
  | y :: r, i + 1, x, h => by
    have := shCells_at r i x (by simpa using h)
    have e : shCells (y :: r) = .int .u16 y.1 :: .string y.2 :: shCells r := rfl
    rw [e, show (i + 1) * 2 = i * 2 + 2 by omega]
    simpa using this

theorem shCells_one (l : List T.Sh) : ∀ v ∈ shCells l, v.oneCell' = true := by
  intro v hv
  unfold shCells at hv
  obtain ⟨x, _, hx⟩ := List.mem_flatMap.1 hv
  simp at hx
  rcases hx with rfl | rfl <;> rfl

theorem shRow_cells {w : World} {b off : Nat} {l : List T.Sh} (h : ShRow w b off l) : ∀ j v, (shCells l)[j]? = some v → w.cell? ((⟨b, off, none⟩ : Addr).add j) = some v := by
  intro j v hj
  have hlt : j < l.length * 2 := by
    have := (List.getElem?_eq_some_iff.1 hj).1
    rwa [shCells_length] at this
  obtain ⟨x, hx⟩ : ∃ x, l[j / 2]? = some x := ⟨l[j / 2]'(by omega), List.getElem?_eq_getElem (by omega)⟩
  obtain ⟨c0, c1⟩ := h _ _ hx
  obtain ⟨d0, d1⟩ := shCells_at l _ _ hx
  rw [Addr.add_lit]
  rcases (show j = j / 2 * 2 ∨ j = j / 2 * 2 + 1 by omega) with e | e
  · rw [e] at hj ⊢
    rw [d0] at hj
    rw [← hj]
    exact c0
  · rw [e] at hj ⊢
    rw [d1] at hj
    rw [← hj]
    exact c1

theorem shRow_of {w : World} {g : Nat} {l : List T.Sh} {cs : Array Value} (h : Blk w g cs 27) (e : cs = (shCells l).toArray) : ShRow w g 0 l := by
  subst e
  intro i x hx
  obtain ⟨d0, d1⟩ := shCells_at l i x hx
  refine ⟨?_, ?_⟩
  · rw [Nat.zero_add, h.cell]; simpa using d0
  · rw [Nat.zero_add, h.cell]; simpa using d1

theorem ShRow.front {w : World} {b off : Nat} {l m : List T.Sh} (h : ShRow w b off (l ++ m)) : ShRow w b off l := by
  intro i x hx
  refine h i x ?_
  rw [List.getElem?_append_left (by exact (List.getElem?_eq_some_iff.1 hx).1)]
  exact hx

theorem made_last2 (a b : Value) (n : Nat) : ((madeCells #[a, b] ((n + 1) * 2)).toList).drop (n * 2) = [a, b] := by
  apply List.ext_getElem?
  intro i
  rw [List.getElem?_drop]
  simp only [madeCells, Array.toList_map, Array.toList_range, List.getElem?_map]
  match i with
  | 0 => rw [List.getElem?_range (by omega)]; simp
  | 1 =>
    rw [List.getElem?_range (by omega)]
    have e : (n * 2 + 1) % 2 = 1 := by omega
    simp [e]
  | i + 2 =>
    rw [List.getElem?_eq_none (by simp; omega)]
    simp

/-- copy, of shows, into a row of one's own. -/
theorem run_copy_sh (w : World) (g n cap : Nat) (lo : Option Addr) (sCap : Nat) (cur : Array Value) (cs : List Value) (hg : w.heap[g]? = some (.cells cur 27 (0, 0))) (hn : cs.length = n * 2)
    (hsrc : (lo = none ∧ n = 0 ∧ sCap = 0) ∨ ∃ a, lo = some a ∧ ∀ j v, cs[j]? = some v → w.cell? (a.add j) = some v) (hfit : cs.length ≤ cur.size) (h1 : ∀ v ∈ cs, v.oneCell' = true) :
    (Builtin.copy_ #[23, 23] 3 #[.slice (some ⟨g, 0, none⟩) (n + 1) cap, .slice lo n sCap]).run Try.prog w = .ok (goInt n) (w.setRow g (cs ++ cur.toList.drop cs.length).toArray) := by
  have hst := run_storeCells_at Try.prog g 0 27 cs 0 cur w hg (by simpa using hfit) h1
  obtain ⟨i, hq, hz0, hz1, hz2⟩ := info_parts infoSh
  have hm : Nat.min n (n + 1) = n := Nat.min_eq_left (by omega)
  rcases hsrc with ⟨rfl, rfl, rfl⟩ | ⟨a, rfl, hsrc⟩
  · have hcs : cs = [] := List.eq_nil_of_length_eq_zero (by omega)
    subst hcs
    simp [Builtin.copy_, run_underlying Try.underlying23, Builtin.lenOf, Builtin.firstCells, sizeOf, typeInfo, hq, storeCells]
    rw [setRow_self w g cur 27 (0, 0) hg]
  · have hl := run_loadCells_list (P := Try.prog) w a cs hsrc
    rw [hn] at hl
    simp [Builtin.copy_, run_underlying Try.underlying23, Builtin.lenOf, Builtin.firstCells, sizeOf, typeInfo, hq, hz1, hm, hl]
    simp at hst
    rw [hst]
    simp

set_option maxHeartbeats 2000000 in
/-- sameShows, of two lists that are alike. -/
theorem sameSh_any (ao bo : Option Addr) (ca cb : Nat) (l : List T.Sh) (w : World) (hl : l.length ≤ maxLen) (ha : ShAt w ao l) (hb : ShAt w bo l) :
    Calls Try.prog 17 #[.slice ao l.length ca, .slice bo l.length cb] w fun e w' => e = .returned (.bool true) ∧ Below w.heap.size w w' := by
  unfold maxLen at hl
  obtain ⟨n, hn⟩ : ∃ n, n = l.length := ⟨_, rfl⟩
  have Hn : Hid (l.length = n) := hn.symm
  rw [← hn]
  rw [← hn] at hl
  have HA : Hid (ShAt w ao l) := ha
  have HB : Hid (ShAt w bo l) := hb
  clear hn ha hb
  go_enter Try.func17, Try.ntmps17
  go_wp2
  go_loopw [5] (fun i wr => ∃ (k q : Nat), k ≤ n ∧ i = .int .i64 k ∧ wr = w.drewN q)
    (fun i _ => n - (intOf i).toNat)
  case atStart => exact ⟨0, 0, Nat.zero_le _, rfl, rfl⟩
  case round =>
    obtain ⟨k, q, hk, rfl, rfl⟩ := hrel
    by_cases hlt : k < n
    · obtain ⟨x, hx⟩ : ∃ x, l[k]? = some x := ⟨l[k]'(by have := Hn.out; omega), List.getElem?_eq_getElem (by have := Hn.out; omega)⟩
      obtain ⟨b1, f1, rfl, _, hr1⟩ : ∃ b off, ao = some ⟨b, off, none⟩ ∧ b < w.heap.size ∧ ShRow w b off l := HA.out.resolve_left (by rintro rfl; simp at hx)
      obtain ⟨b2, f2, rfl, _, hr2⟩ : ∃ b off, bo = some ⟨b, off, none⟩ ∧ b < w.heap.size ∧ ShRow w b off l := HB.out.resolve_left (by rintro rfl; simp at hx)
      obtain ⟨x1, x2⟩ := x
      obtain ⟨c0, c1⟩ := hr1 k _ hx
      obtain ⟨d0, d1⟩ := hr2 k _ hx
      simp only at c0 c1 d0 d1
      have hi : (k : Int) < (n : Int) := by omega
      have h0 : (0 : Int) ≤ (k : Int) := by omega
      have t1 : (x1 == x1) = true := by simp
      have t2 : (x2.toList == x2.toList) = true := by simp
      clear hx hr1 hr2
      go_wp2_with fail
      go_quiet (fail)
      go_wp2
      go_roundw
      case rel => exact ⟨k + 1, _, by omega, by go_num, by first | rfl | simp⟩
      case measure => simp [intOf]; omega
    · go_wp2
      go_ret
      exact ⟨rfl, below_drewN (Below.refl _ _) _⟩

end Go.Proofs.Ytcaeeaiodbjacaa
