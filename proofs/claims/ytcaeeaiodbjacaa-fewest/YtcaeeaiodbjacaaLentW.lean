/-
  The walks of lent and back.
-/
import Derived.Test.YtcaeeaiodbjacaaSameN
import Derived.Test.YtcaeeaiodbjacaaNodeC
import Derived.Laws.CopyOwn
import Derived.Laws.MakeOwn
import Derived.Lib.LazyBuf
namespace Go.Proofs.Ytcaeeaiodbjacaa
open Go.RowKit
set_option linter.unusedVariables false

theorem made_last (a b c : Value) (n : Nat) : ((madeCells #[a, b, c] ((n + 1) * 3)).toList).drop (n * 3) = [a, b, c] := by
  apply List.ext_getElem?
  intro i
  rw [List.getElem?_drop]
  simp only [madeCells, Array.toList_map, Array.toList_range, List.getElem?_map]
  match i with
  | 0 => rw [List.getElem?_range (by omega)]; simp
  | 1 =>
    rw [List.getElem?_range (by omega)]
    have e : (n * 3 + 1) % 3 = 1 := by omega
    simp [e]
  | 2 =>
    rw [List.getElem?_range (by omega)]
    have e : (n * 3 + 2) % 3 = 2 := by omega
    simp [e]
  | i + 3 =>
    rw [List.getElem?_eq_none (by simp; omega)]
    simp

/-- copy, of elements of three cells, into a row of one's own. -/
theorem run_copy_three (w : World) (g n cap : Nat) (a : Addr) (sCap : Nat) (cur : Array Value) (cs : List Value) (hg : w.heap[g]? = some (.cells cur 60 (0, 0))) (hn : cs.length = n * 3)
    (hsrc : ∀ j v, cs[j]? = some v → w.cell? (a.add j) = some v) (hfit : cs.length ≤ cur.size) (h1 : ∀ v ∈ cs, v.oneCell' = true) :
    (Builtin.copy_ #[22, 22] 3 #[.slice (some ⟨g, 0, none⟩) (n + 1) cap, .slice (some a) n sCap]).run Try.prog w = .ok (goInt n) (w.setRow g (cs ++ cur.toList.drop cs.length).toArray) := by
  have hl := run_loadCells_list (P := Try.prog) w a cs hsrc
  have hst := run_storeCells_at Try.prog g 0 60 cs 0 cur w hg (by simpa using hfit) h1
  obtain ⟨i, hq, hz0, hz1, hz2⟩ := info_parts info60
  have hm : Nat.min n (n + 1) = n := Nat.min_eq_left (by omega)
  rw [hn] at hl
  simp [Builtin.copy_, run_underlying Try.underlying22, Builtin.lenOf, Builtin.firstCells, sizeOf, typeInfo, hq, hz1, hm, hl]
  simp at hst
  rw [hst]
  simp

theorem wpList_copy_three {w : World} {ops : Array Oper} {rest : List Oper} {o : Oper} {a : Act} {Q : Exit → Act → World → Prop} (hgd : o.guard = none) (d s : Operand)
    (ho : o.op = .call { callee := .builtin .copy, args := #[d, s], argTypes := #[22, 22] }) (hty : o.type = 3) (g n cap sCap : Nat) (ad : Addr) (hd : a.eval d = .slice (some ⟨g, 0, none⟩) (n + 1) cap) (hs : a.eval s = .slice (some ad) n sCap)
    (cur : Array Value) (hg : w.heap[g]? = some (.cells cur 60 (0, 0))) (cs : List Value) (hn : cs.length = n * 3) (hsrc : ∀ j v, cs[j]? = some v → w.cell? (ad.add j) = some v) (hfit : cs.length ≤ cur.size) (h1 : ∀ v ∈ cs, v.oneCell' = true)
    (h : wpList Try.prog ops Q rest (a.put o.dst (goInt n)) (w.setRow g (cs ++ cur.toList.drop cs.length).toArray)) : wpList Try.prog ops Q (o :: rest) a w := by
  refine wpList_plain hgd fun K hK => ?_
  have hrun := run_copy_three w g n cap ad sCap cur cs hg hn hsrc hfit h1
  unfold Oper.wp
  simp [execOp, ho, resolve, invoke, builtin, hd, hs, hty, hrun, Result.andThen]
  exact hK _ _ h

theorem eq_nil (u : World) (a : Option Addr) (l c : Nat) : (binOp .eql 22 (.slice a l c) (.slice none 0 0)).run Try.prog u = .ok (.bool a.isNone) u :=
  _root_.Go.run_eql_slice_nil (P := Try.prog) u 22 60 a l c Try.underlying22

/-- The node that stands in the spare room. -/
def spareNd : T.Nd := (0, 200, ⟨#[]⟩)

/-- What lent hands back, of a list that is not nil. -/
def lentEnd (l : List T.Nd) (w : World) (e : Ending) (w' : World) : Prop :=
  ∃ g, e = .returned (.slice (some ⟨g, 0, none⟩) l.length (l.length + 1)) ∧ w.heap.size ≤ g ∧ g < w'.heap.size ∧ NodeRow w' g 0 (l ++ [spareNd]) ∧ Below w.heap.size w w'

set_option maxRecDepth 100000 in
set_option maxHeartbeats 400000 in
theorem lent_nil (w : World) : Calls Try.prog 10 #[.slice none 0 0] w fun e w' => e = .returned (.slice none 0 0) ∧ w = w' := by
  have hnil : ∀ u : World, (binOp .eql 22 (.slice none 0 0) (.slice none 0 0)).run Try.prog u = .ok (.bool true) u := fun u => eq_nil u none 0 0
  go_enter Try.func10, Try.ntmps10
  go_wp2
  go_ret
  exact ⟨rfl, rfl⟩

theorem nd_cell (l : List T.Nd) (x : T.Nd) : ndCells (l ++ [x]) = ndCells l ++ [.int .u8 x.1, .int .u16 x.2.1, .string x.2.2] := ndCells_snoc l x

theorem ndCells_one (l : List T.Nd) : ∀ v ∈ ndCells l, v.oneCell' = true := by
  intro v hv
  unfold ndCells at hv
  obtain ⟨x, _, hx⟩ := List.mem_flatMap.1 hv
  simp at hx
  rcases hx with rfl | rfl | rfl <;> rfl

theorem nodeRow_cells {w : World} {b off : Nat} {l : List T.Nd} (h : NodeRow w b off l) : ∀ j v, (ndCells l)[j]? = some v → w.cell? ((⟨b, off, none⟩ : Addr).add j) = some v := by
  intro j v hj
  have hlt : j < l.length * 3 := by
    have := (List.getElem?_eq_some_iff.1 hj).1
    rwa [ndCells_length] at this
  obtain ⟨x, hx⟩ : ∃ x, l[j / 3]? = some x := ⟨l[j / 3]'(by omega), List.getElem?_eq_getElem (by omega)⟩
  obtain ⟨c0, c1, c2⟩ := h _ _ hx
  obtain ⟨d0, d1, d2⟩ := ndCells_at l _ _ hx
  rw [Addr.add_lit]
  rcases (show j = j / 3 * 3 ∨ j = j / 3 * 3 + 1 ∨ j = j / 3 * 3 + 2 by omega) with e | e | e
  · rw [e] at hj ⊢
    rw [d0] at hj
    rw [← hj]
    exact c0
  · rw [e] at hj ⊢
    rw [d1] at hj
    rw [← hj]
    exact c1
  · rw [e] at hj ⊢
    rw [d2] at hj
    rw [← hj]
    exact c2

set_option maxRecDepth 100000 in
set_option maxHeartbeats 2000000 in
theorem lent_some (a : Addr) (cap : Nat) (l : List T.Nd) (w : World) (hl : l.length ≤ 5864062014800) (ha : NodeAt w (some a) l) :
    Calls Try.prog 10 #[.slice (some a) l.length cap] w fun e w' => lentEnd l w e w' := by
  obtain ⟨i0, hi, hz0, hz1, hz2⟩ := info_parts info60
  obtain ⟨n, hn⟩ : ∃ n, n = l.length := ⟨_, rfl⟩
  have Hn : Hid (l.length = n) := hn.symm
  rw [← hn]
  rw [← hn] at hl
  have HA : Hid (NodeAt w (some a) l) := ha
  have hnil : ∀ u : World, (binOp .eql 22 (.slice (some a) n cap) (.slice none 0 0)).run Try.prog u = .ok (.bool false) u := fun u => eq_nil u (some a) n cap
  clear hn ha
  go_enter Try.func10, Try.ntmps10
  go_wp2_with (at_make; refine wpList_make_full _ rfl (.tmp 10) (.tmp 10) 22 rfl w.heap.size 60 i0 (.agg #[.int .u8 0, .int .u16 0, .string ⟨#[]⟩]) 3 Try.underlying22 hi hz0 hz1 .i64 .i64 _ _ (n + 1) rfl rfl (by first | rfl | go_num | (simp; omega) | omega) (by first | rfl | go_num | (simp; omega) | omega) (by rw [hz2]; omega) (by unfold maxLen; omega) (Nat.le_refl _) ?_)
  intro w1 ho1 hg1
  obtain ⟨cur, hcur, hcs⟩ : ∃ cur : Array Value, w1.heap[w.heap.size]? = some (.cells cur 60 (0, 0)) ∧ cur.toList = (madeCells #[.int .u8 0, .int .u16 0, .string ⟨#[]⟩] ((n + 1) * 3)).toList := by
    rcases ho1.2 with ⟨h, _⟩ | ⟨g, cp, cur, h, _, h2, _, _, h5, h6⟩
    · simp at h
    · simp only [Value.slice.injEq, Option.some.injEq, Addr.mk.injEq, and_true, true_and] at h
      obtain ⟨rfl, rfl⟩ := h
      refine ⟨cur, h2, ?_⟩
      rw [← h6, List.take_of_length_le (by simp [h5])]
  have hnl : (ndCells l).length = n * 3 := by rw [ndCells_length, Hn.out]
  have hcz : cur.size = (n + 1) * 3 := by
    have := congrArg List.length hcs
    simpa [madeCells] using this
  have hdrop : cur.toList.drop (ndCells l).length = [.int .u8 0, .int .u16 0, .string ⟨#[]⟩] := by rw [hcs, hnl]; exact made_last _ _ _ n
  have hsrc : ∀ j v, (ndCells l)[j]? = some v → w1.cell? (a.add j) = some v := by
    intro j v hj
    rcases HA.out with h | ⟨b, off, e, hb, hr⟩
    · subst h; simp [ndCells] at hj
    · simp only [Option.some.injEq] at e
      subst e
      have h1 := nodeRow_cells hr j v hj
      rw [← h1]
      exact World.cell?_of_block (by rw [Addr.add_lit]; exact hg1.block b hb (by simp))
  have hb1 : Below w.heap.size w w1 := (Below.refl _ _).grown hg1 (Nat.le_refl _) (by simp)
  have B1 : Hid (Below w.heap.size w w1) := hb1
  have HSRC : Hid (∀ j v, (ndCells l)[j]? = some v → w1.cell? (a.add j) = some v) := hsrc
  have HCUR : Hid (w1.heap[w.heap.size]? = some (.cells cur 60 (0, 0))) := hcur
  have HNL : Hid ((ndCells l).length = n * 3) := hnl
  have HDR : Hid (cur.toList.drop (ndCells l).length = [.int .u8 0, .int .u16 0, .string ⟨#[]⟩]) := hdrop
  have HFIT : Hid ((ndCells l).length ≤ cur.size) := by unfold Hid; rw [hnl, hcz]; omega
  clear ho1 hg1 hcur hcs hnl hcz hdrop hsrc hb1
  have hcopy := run_copy_three w1 w.heap.size n (n + 1) a cap cur (ndCells l) HCUR.out HNL.out HSRC.out HFIT.out (ndCells_one l)
  rw [HDR.out] at hcopy
  have hblk : Blk (w1.setRow w.heap.size (ndCells l ++ ([.int .u8 0, .int .u16 0, .string ⟨#[]⟩] : List Value)).toArray) w.heap.size (ndCells l ++ ([.int .u8 0, .int .u16 0, .string ⟨#[]⟩] : List Value)).toArray 60 := setRow_heap w1 w.heap.size cur _ 60 (0, 0) HCUR.out
  have hbel : Below w.heap.size w (w1.setRow w.heap.size (ndCells l ++ ([.int .u8 0, .int .u16 0, .string ⟨#[]⟩] : List Value)).toArray) := below_setRow B1.out (Nat.le_refl _) _
  generalize w1.setRow w.heap.size (ndCells l ++ ([.int .u8 0, .int .u16 0, .string ⟨#[]⟩] : List Value)).toArray = w2 at hcopy hblk hbel
  have HBLK : Hid (Blk w2 w.heap.size (ndCells l ++ ([.int .u8 0, .int .u16 0, .string ⟨#[]⟩] : List Value)).toArray 60) := hblk
  have B2 : Hid (Below w.heap.size w w2) := hbel
  have c1 : w2.cell? ⟨w.heap.size, n * 3 + 1, none⟩ = some (.int .u16 0) := by
    rw [hblk.cell, ← HNL.out]
    simp
  have f1 := hblk.free (n * 3 + 1)
  have hlt := hblk.lt
  clear hblk hbel B1 HSRC HCUR HDR HFIT
  go_wp2
  go_ret
  refine ⟨w.heap.size, by rw [Hn.out]; rfl, Nat.le_refl _, by simpa using hlt, ?_, B2.out.setCell (Nat.le_refl _) _⟩
  have h3 := HBLK.out.set (n * 3 + 1) (.int .u16 200)
  have e3 : (ndCells l ++ ([.int .u8 0, .int .u16 0, .string ⟨#[]⟩] : List Value)).toArray.setIfInBounds (n * 3 + 1) (.int .u16 200) = (ndCells (l ++ [spareNd])).toArray := by
    rw [ndCells_snoc, ← HNL.out]
    apply Array.ext'
    simp [spareNd]
  rw [e3] at h3
  intro i x hx
  obtain ⟨q0, q1, q2⟩ := ndCells_at _ i x hx
  refine ⟨?_, ?_, ?_⟩
  · rw [Nat.zero_add, h3.cell]; simpa using q0
  · rw [Nat.zero_add, h3.cell]; simpa using q1
  · rw [Nat.zero_add, h3.cell]; simpa using q2

end Go.Proofs.Ytcaeeaiodbjacaa
