/-
  The walk of rowTo.
  The walk of longestRise.
-/
import Derived.Test.YtcaeeaiodbjacaaDiffA
import Derived.Test.YtcaeeaiodbjacaaHeap
import Derived.Test.YtcaeeaiodbjacaaTextC
import Derived.Laws.OwnMore
import Derived.Test.YtcaeeaiodbjacaaGrown
import Derived.Test.YtcaeeaiodbjacaaBookB
import Derived.Test.YtcaeeaiodbjacaaBookP
namespace Go.Proofs.Ytcaeeaiodbjacaa
open Go.RowKit
set_option linter.unusedVariables false

/-- Rows lie in memory from ⟨b, off⟩ on. -/
def RwRow (w : World) (b off : Nat) (l : List T.Rw) : Prop :=
  ∀ i x, l[i]? = some x → w.cell? ⟨b, off + i * 3, none⟩ = some (.int .i64 x.1) ∧ w.cell? ⟨b, off + i * 3 + 1, none⟩ = some (.int .i64 x.2.1) ∧ w.cell? ⟨b, off + i * 3 + 2, none⟩ = some (.int .i64 x.2.2)

theorem RwRow.below {B : Nat} {w w' : World} {b off : Nat} {l : List T.Rw} (h : RwRow w b off l) (hb : Below B w w') (hl : b < B) : RwRow w' b off l := by
  intro i x hx
  obtain ⟨h0, h1, h2⟩ := h i x hx
  exact ⟨(hb.cell hl).trans h0, (hb.cell hl).trans h1, (hb.cell hl).trans h2⟩

def RwAt (w : World) (ao : Option Addr) (l : List T.Rw) : Prop := l = [] ∨ ∃ b off, ao = some ⟨b, off, none⟩ ∧ b < w.heap.size ∧ RwRow w b off l

set_option maxRecDepth 100000 in
set_option maxHeartbeats 2000000 in
theorem rowTo_any (v : Int) (ro : Option Addr) (rc : Nat) (rows : List T.Rw) (w : World) (hl : rows.length ≤ 16) (ha : RwAt w ro rows) (hb : ∀ r ∈ rows, 0 ≤ r.1 ∧ r.1 ≤ 100) :
    Calls Try.prog 58 #[.int .i64 v, .slice ro rows.length rc] w fun e w' => e = .returned (.agg #[.int .i64 (T.rowTo v rows).1, .int .i64 (T.rowTo v rows).2.1, .int .i64 (T.rowTo v rows).2.2]) ∧ Below w.heap.size w w' := by
  obtain ⟨n, hn⟩ : ∃ n, n = rows.length := ⟨_, rfl⟩
  have Hn : Hid (rows.length = n) := hn.symm
  rw [← hn]
  rw [← hn] at hl
  have HA : Hid (RwAt w ro rows) := ha
  have HB : Hid (∀ r ∈ rows, 0 ≤ r.1 ∧ r.1 ≤ 100) := hb
  clear hn ha hb
  by_cases hv : v < 0
  · have HV : Hid (T.rowTo v rows = (0, v, -1)) := by unfold Hid T.rowTo; rw [if_pos hv]
    go_enter Try.func58, Try.ntmps58
    go_wp2
    refine bodyPost_ret (by simp [results, Try.results58, go_sem]; try rfl) rfl ?_
    rw [HV.out]
    refine ⟨rfl, ?_⟩
    (repeat (first | exact Below.refl _ _ | refine Below.setCell ?_ (by first | exact Nat.le_refl _ | omega | (simp; done) | (simp; omega)) _ | refine Below.alloc ?_ (by first | exact Nat.le_refl _ | omega | (simp; done) | (simp; omega)) _))
  · have HV : Hid (T.rowTo v rows = T.rowFrom v rows 0 (1, v, -1)) := by unfold Hid T.rowTo; rw [if_neg hv]
    go_enter Try.func58, Try.ntmps58
    go_wp2_with fail
    have HS0 : Hid (Blk ((w.alloc (.cells #[.int .i64 0, .int .i64 0, .int .i64 0] 100)).alloc (.cells #[.int .i64 1, .int .i64 v, .int .i64 (-1)] 100)) (w.heap.size + 1) #[.int .i64 1, .int .i64 v, .int .i64 (-1)] 100 ∧ Blk ((w.alloc (.cells #[.int .i64 0, .int .i64 0, .int .i64 0] 100)).alloc (.cells #[.int .i64 1, .int .i64 v, .int .i64 (-1)] 100)) w.heap.size #[.int .i64 0, .int .i64 0, .int .i64 0] 100 ∧ Below w.heap.size w ((w.alloc (.cells #[.int .i64 0, .int .i64 0, .int .i64 0] 100)).alloc (.cells #[.int .i64 1, .int .i64 v, .int .i64 (-1)] 100))) := by
      refine ⟨?_, (Blk.new w _ 100).alloc _, ((Below.refl _ _).alloc (Nat.le_refl _) _).alloc (by simp) _⟩
      have := Blk.new (w.alloc (.cells #[.int .i64 0, .int .i64 0, .int .i64 0] 100)) #[.int .i64 1, .int .i64 v, .int .i64 (-1)] 100
      simpa using this
    go_loopw [16] (fun i wr => ∃ (k : Nat) (r : T.Rw), k ≤ n ∧ i = .int .i64 k ∧ 1 ≤ r.1 ∧ r.1 ≤ 101 ∧ Hid (Blk wr (w.heap.size + 1) #[.int .i64 r.1, .int .i64 r.2.1, .int .i64 r.2.2] 100 ∧ Blk wr w.heap.size #[.int .i64 0, .int .i64 0, .int .i64 0] 100 ∧ Below w.heap.size w wr) ∧ Hid (T.rowFrom v rows 0 (1, v, -1) = T.rowFrom v (rows.drop k) k r))
      (fun i _ => n - (intOf i).toNat)
    case atStart => exact ⟨0, (1, v, -1), Nat.zero_le _, rfl, by simp, by simp, HS0, rfl⟩
    case round =>
      obtain ⟨k, r, hk, rfl, hr1, hr2, HS, HF⟩ := hrel
      clear HS0
      obtain ⟨r1, r2, r3⟩ := r
      simp only at hr1 hr2 HS
      have q0 := HS.out.1.cell 0
      have q1 := HS.out.1.cell 1
      have q2 := HS.out.1.cell 2
      simp at q0 q1 q2
      have f0 := HS.out.1.free 0
      have f2 := HS.out.1.free 2
      have hl1 := HS.out.1.lt
      by_cases hlt : k < n
      · obtain ⟨a, hx⟩ : ∃ x, rows[k]? = some x := ⟨rows[k]'(by have := Hn.out; omega), List.getElem?_eq_getElem (by have := Hn.out; omega)⟩
        obtain ⟨b, off, rfl, hbl, hr⟩ : ∃ b off, ro = some ⟨b, off, none⟩ ∧ b < w.heap.size ∧ RwRow w b off rows := HA.out.resolve_left (by rintro rfl; simp at hx)
        have hab := HB.out a (List.mem_of_getElem? hx)
        have HF1 : Hid (T.rowFrom v rows 0 (1, v, -1) = T.rowFrom v (rows.drop (k + 1)) (k + 1) (if a.2.1 < v ∧ r1 ≤ a.1 then (a.1 + 1, r2, (k : Int)) else (r1, r2, r3))) := by
          unfold Hid
          rw [HF.out, drop_cons rows k _ hx]
          rfl
        obtain ⟨a1, a2, a3⟩ := a
        obtain ⟨c0, c1, c2⟩ := (hr.below HS.out.2.2 hbl) k _ hx
        simp only at c0 c1 c2 hab HF1
        have hki : (k : Int) < (n : Int) := by omega
        have hk0 : (0 : Int) ≤ (k : Int) := by omega
        have hbw : b < wr.heap.size := by have := HS.out.2.2.size; omega
        have hbne : ¬ b = wr.heap.size := by omega
        have hne1 : ¬ w.heap.size + 1 = wr.heap.size := by omega
        have hne2 : ¬ wr.heap.size = w.heap.size + 1 := by omega
        clear hx hr HF
        by_cases h1 : a2 < v
        · by_cases h2 : r1 ≤ a1
          · have HF2 : Hid (T.rowFrom v rows 0 (1, v, -1) = T.rowFrom v (rows.drop (k + 1)) (k + 1) (a1 + 1, r2, (k : Int))) := by unfold Hid; rw [HF1.out, if_pos ⟨h1, h2⟩]
            have hwa : IntKind.i64.wrap (a1 + 1) = a1 + 1 := by rw [IntKind.wrap_i64]; omega
            clear HF1
            go_wp2
            go_roundw
            case rel => exact ⟨k + 1, (a1 + 1, r2, k), by omega, by go_num, by simp only; omega, by simp only; omega, ⟨((HS.out.1.set 0 _).set 2 _).alloc _, ((HS.out.2.1.other _ _ (by simp)).other _ _ (by simp)).alloc _, ((HS.out.2.2.setCell (by simp) _).setCell (by simp) _).alloc (by have := HS.out.2.2.size; simp; omega) _⟩, HF2⟩
            case measure => simp [intOf]; omega
          · have HF2 : Hid (T.rowFrom v rows 0 (1, v, -1) = T.rowFrom v (rows.drop (k + 1)) (k + 1) (r1, r2, r3)) := by unfold Hid; rw [HF1.out, if_neg (by omega)]
            clear HF1
            go_wp2
            go_roundw
            case rel => exact ⟨k + 1, (r1, r2, r3), by omega, by go_num, hr1, hr2, ⟨HS.out.1.alloc _, HS.out.2.1.alloc _, HS.out.2.2.alloc HS.out.2.2.size _⟩, HF2⟩
            case measure => simp [intOf]; omega
        · have HF2 : Hid (T.rowFrom v rows 0 (1, v, -1) = T.rowFrom v (rows.drop (k + 1)) (k + 1) (r1, r2, r3)) := by unfold Hid; rw [HF1.out, if_neg (by omega)]
          clear HF1
          go_wp2
          go_roundw
          case rel => exact ⟨k + 1, (r1, r2, r3), by omega, by go_num, hr1, hr2, ⟨HS.out.1.alloc _, HS.out.2.1.alloc _, HS.out.2.2.alloc HS.out.2.2.size _⟩, HF2⟩
          case measure => simp [intOf]; omega
      · have HE : Hid (T.rowTo v rows = (r1, r2, r3)) := by
          unfold Hid
          rw [HV.out, HF.out, List.drop_of_length_le (by have := Hn.out; omega)]
          rfl
        have hki : ¬ (k : Int) < (n : Int) := by omega
        have z0 := HS.out.2.1.cell 0
        have z1 := HS.out.2.1.cell 1
        have z2 := HS.out.2.1.cell 2
        simp at z0 z1 z2
        have g0 := HS.out.2.1.free 0
        have g1 := HS.out.2.1.free 1
        have g2 := HS.out.2.1.free 2
        go_wp2
        refine bodyPost_ret (by simp [results, Try.results58, go_sem, z0, z1, z2]; try rfl) rfl ?_
        rw [HE.out]
        refine ⟨rfl, ?_⟩
        have := HS.out.2.2
        (repeat (first | assumption | refine Below.setCell ?_ (by first | exact Nat.le_refl _ | omega | (simp; done) | (simp; omega)) _ | refine Below.alloc ?_ (by first | exact Nat.le_refl _ | omega | (simp; done) | (simp; omega)) _))

end Go.Proofs.Ytcaeeaiodbjacaa

namespace Go.Proofs.Ytcaeeaiodbjacaa
open Go.RowKit
set_option linter.unusedVariables false

theorem info100 : (Try.prog.info? 100).map (fun i => (i.zero, i.size, i.bytes)) = some (some (.agg #[.int .i64 0, .int .i64 0, .int .i64 0]), 3, 24) := by kernel_rfl
theorem info4 : (Try.prog.info? 4).map (fun i => (i.zero, i.size, i.bytes)) = some (some (.bool false), 1, 1) := by kernel_rfl

def rwCells (l : List T.Rw) : List Value := l.flatMap fun x => [.int .i64 x.1, .int .i64 x.2.1, .int .i64 x.2.2]

theorem rwCells_snoc (l : List T.Rw) (x : T.Rw) : rwCells (l ++ [x]) = rwCells l ++ [.int .i64 x.1, .int .i64 x.2.1, .int .i64 x.2.2] := by simp [rwCells]

theorem rwCells_at : ∀ (l : List T.Rw) (i : Nat) (x : T.Rw), l[i]? = some x → (rwCells l)[i * 3]? = some (.int .i64 x.1) ∧ (rwCells l)[i * 3 + 1]? = some (.int .i64 x.2.1) ∧ (rwCells l)[i * 3 + 2]? = some (.int .i64 x.2.2)
  | [], i, x, h => by simp at h
  | y :: r, 0, x, h => by
    simp at h; subst h
    exact ⟨rfl, rfl, rfl⟩
  | y :: r, i + 1, x, h => by
    have := rwCells_at r i x (by simpa using h)
    have e : rwCells (y :: r) = .int .i64 y.1 :: .int .i64 y.2.1 :: .int .i64 y.2.2 :: rwCells r := rfl
    rw [e, show (i + 1) * 3 = i * 3 + 3 by omega]
    simpa using this

theorem own_rwAt {w : World} {base n : Nat} {ao : Option Addr} {cap : Nat} {l : List T.Rw} (h : w.ownsRow base 100 3 (.slice ao n cap) n (rwCells l)) (hn : l.length = n) : RwAt w ao l := by
  rcases h.2 with ⟨hv, h0⟩ | ⟨g, c, cur, hv, hb, hh, h1, h2, h3⟩
  · exact Or.inl (List.eq_nil_of_length_eq_zero (by omega))
  · simp only [Value.slice.injEq] at hv
    obtain ⟨rfl, _, rfl⟩ := hv
    refine Or.inr ⟨g, 0, rfl, lt_of_block hh, ?_⟩
    intro i x hx
    obtain ⟨q0, q1, q2⟩ := rwCells_at l i x hx
    have hi : i < n := by have := (List.getElem?_eq_some_iff.1 hx).1; omega
    refine ⟨?_, ?_, ?_⟩
    · rw [Nat.zero_add, h.cellAt (i * 3) (by omega)]; exact q0
    · rw [Nat.zero_add, h.cellAt (i * 3 + 1) (by omega)]; exact q1
    · rw [Nat.zero_add, h.cellAt (i * 3 + 2) (by omega)]; exact q2

/-- A row of one type is as it was where a row of another grows. -/
theorem own_grown {w w' : World} {b b2 s s2 n n2 : Nat} {e e2 : TypeId} {v v2 : Value} {xs xs2 : List Value} (h : w.ownsRow b e s v n xs) (hg : w.grownBy w' v2.ownBlock) (h2 : w.ownsRow b2 e2 s2 v2 n2 xs2) (hne : e ≠ e2) : w'.ownsRow b e s v n xs := by
  obtain ⟨q1, q2⟩ := h
  refine ⟨q1, ?_⟩
  rcases q2 with q2 | ⟨g, cap, cur, hv, hgb, hh, r⟩
  · exact Or.inl q2
  · have hB : Blk w g cur e := hh
    exact Or.inr ⟨g, cap, cur, hv, hgb, hB.grown hg (hB.ne_own h2 hne), r⟩

/-- A cell of one's own row is written over. -/
theorem own_set1 {w : World} {base g n cap : Nat} {e : TypeId} {xs : List Value} (h : w.ownsRow base e 1 (.slice (some ⟨g, 0, none⟩) n cap) n xs) (k : Nat) (x : Value) :
    (w.setCell ⟨g, k, none⟩ x).ownsRow base e 1 (.slice (some ⟨g, 0, none⟩) n cap) n (xs.set k x) := by
  obtain ⟨h1, h2⟩ := h
  refine ⟨by simpa using h1, ?_⟩
  rcases h2 with ⟨hv, _⟩ | ⟨g', cap', cur, hv, hb, hh, h3, h4, h5, h6⟩
  · simp at hv
  · simp only [Value.slice.injEq, Option.some.injEq, Addr.mk.injEq, and_true, true_and] at hv
    obtain ⟨rfl, rfl⟩ := hv
    have hB : Blk w g cur e := hh
    refine Or.inr ⟨g, cap, _, rfl, hb, hB.set k x, h3, h4, by simpa using h5, ?_⟩
    rw [Array.toList_setIfInBounds, List.take_set, h6]

namespace T
theorem rows_le (l : List Int) : ∀ (i : Nat) (r : Rw), (rowsOf l)[i]? = some r → 0 ≤ r.1 ∧ r.1 ≤ i + 1 := by
  have hk := rowsOf_ok l.length l rfl
  have hlen := rowsOf_length l
  intro i
  induction i using Nat.strongRecOn with
  | ind i ih =>
    intro r hr
    have hi : i < l.length := by have := (List.getElem?_eq_some_iff.1 hr).1; omega
    have ho := hk i l[i] r (List.getElem?_eq_getElem hi) hr
    by_cases h0 : l[i] < 0
    · have := (ho.neg h0).1
      omega
    · rcases (ho.pos (by omega)).2 with ⟨_, h⟩ | ⟨b, q, u, _, hb, hq, _, hq1, _⟩
      · omega
      · have := ih b hb q hq
        omega

theorem rows_take (l : List Int) (k : Nat) (v : Int) (h : l[k]? = some v) : rowsOf (l.take (k + 1)) = rowsOf (l.take k) ++ [rowTo v (rowsOf (l.take k))] := by
  rw [List.take_add_one, h]
  exact rowsOf_snoc _ _

theorem best_take (l : List Int) (k : Nat) (v : Int) (h : l[k]? = some v) : bestOf (rowsOf (l.take (k + 1))) = if (bestOf (rowsOf (l.take k))).1 < (rowTo v (rowsOf (l.take k))).1 then ((rowTo v (rowsOf (l.take k))).1, (k : Int)) else bestOf (rowsOf (l.take k)) := by
  rw [rows_take l k v h]
  unfold bestOf
  rw [bestFrom_snoc]
  have hk : k < l.length := (List.getElem?_eq_some_iff.1 h).1
  have : 0 + (rowsOf (l.take k)).length = k := by rw [rowsOf_length, List.length_take]; omega
  rw [this]

theorem best_range (l : List Int) : 0 ≤ (bestOf (rowsOf l)).1 ∧ (bestOf (rowsOf l)).1 ≤ l.length ∧ -1 ≤ (bestOf (rowsOf l)).2 ∧ (bestOf (rowsOf l)).2 < l.length := by
  obtain ⟨h1, h2, h3⟩ := bestFrom_spec (rowsOf l) 0 (0, -1)
  unfold bestOf
  rcases h3 with h3 | ⟨k, a, ha, hs, h3⟩
  · rw [h3]
    refine ⟨by simp, by simp, by simp, ?_⟩
    show (-1 : Int) < _
    omega
  · rw [h3]
    have hk : k < l.length := by
      have := (List.getElem?_eq_some_iff.1 ha).1
      rw [rowsOf_length] at this
      exact this
    have := rows_le l k a ha
    simp only
    omega

theorem before_lt (l : List Int) {i : Nat} {r : Rw} (h : (rowsOf l)[i]? = some r) : -1 ≤ r.2.2 ∧ r.2.2 < i := by
  have hk := rowsOf_ok l.length l rfl
  have hi : i < l.length := by
    have := (List.getElem?_eq_some_iff.1 h).1
    rw [rowsOf_length] at this
    exact this
  have ho := hk i l[i] r (List.getElem?_eq_getElem hi) h
  by_cases h0 : l[i] < 0
  · have := (ho.neg h0).2
    omega
  · rcases (ho.pos (by omega)).2 with ⟨h, _⟩ | ⟨b, q, u, e, hb, _⟩
    · omega
    · omega

/-- The marks of places. -/
def marksL (n : Nat) (c : List Nat) : List Bool := (List.range n).map fun i => decide (i ∈ c)

theorem marksL_nil (n : Nat) : marksL n [] = List.replicate n false := by
  unfold marksL
  apply List.ext_getElem?
  intro i
  by_cases hi : i < n
  · simp [hi]
  · rw [List.getElem?_eq_none (by simp; omega), List.getElem?_eq_none (by simp; omega)]

theorem marksL_snoc (n : Nat) (c : List Nat) (i : Nat) : marksL n (c ++ [i]) = (marksL n c).set i true := by
  unfold marksL
  apply List.ext_getElem?
  intro j
  rw [List.getElem?_set]
  by_cases hj : j < n
  · by_cases hij : i = j
    · subst hij
      simp [hj]
    · have : ¬ j = i := fun e => hij e.symm
      simp [hj, hij, this]
  · rw [List.getElem?_eq_none (by simp; omega)]
    split
    · rw [if_neg (by simp; omega)]
    · rw [List.getElem?_eq_none (by simp; omega)]

end T

def bls (l : List Bool) : List Value := l.map fun b => .bool b

set_option maxRecDepth 100000 in
set_option maxHeartbeats 4000000 in
theorem rise_any (lo : Option Addr) (lc : Nat) (l : List Int) (w : World) (hl : l.length ≤ 16) (ha : IntAt w lo l) :
    Calls Try.prog 53 #[.slice lo l.length lc] w fun e w' => ∃ v, e = .returned v ∧ w'.ownsRow w.heap.size 4 1 v l.length (bls (T.marksOf l)) ∧ Below w.heap.size w w' := by
  obtain ⟨i0, hi, hz0, hz1, hz2⟩ := info_parts info100
  obtain ⟨j0, hj, hy0, hy1, hy2⟩ := info_parts info4
  obtain ⟨n, hn⟩ : ∃ n, n = l.length := ⟨_, rfl⟩
  have Hn : Hid (l.length = n) := hn.symm
  rw [← hn]
  rw [← hn] at hl
  have HA : Hid (IntAt w lo l) := ha
  clear hn ha
  go_enter Try.func53, Try.ntmps53
  go_wp2_with fail
  go_loopw [3, 4, 5, 6, 13] (fun vr vm lg la i wr => ∃ (k rc mc : Nat) (ro mo : Option Addr) (bg bl : Int), vr = .slice ro k rc ∧ vm = .slice mo k mc ∧ lg = .int .i64 bg ∧ la = .int .i64 bl ∧ k ≤ n ∧ i = .int .i64 k ∧ Hid ((bg, bl) = T.bestOf (T.rowsOf (l.take k))) ∧ Hid (wr.ownsRow w.heap.size 100 3 (.slice ro k rc) k (rwCells (T.rowsOf (l.take k))) ∧ wr.ownsRow w.heap.size 4 1 (.slice mo k mc) k (bls (List.replicate k false)) ∧ Below w.heap.size w wr))
    (fun _ _ _ _ i _ => n - (intOf i).toNat)
  case atStart => exact ⟨0, 0, 0, none, none, 0, -1, rfl, rfl, rfl, rfl, Nat.zero_le _, rfl, rfl, World.ownsRow_nil _ _ _ _, World.ownsRow_nil _ _ _ _, Below.refl _ _⟩
  case round =>
    obtain ⟨k, rc, mc, ro, mo, bg, bl, rfl, rfl, rfl, rfl, hk, rfl, HBst, HS⟩ := hrel
    have hsz := HS.out.2.2.size
    have hkl : (l.take k).length = k := by rw [List.length_take]; have := Hn.out; omega
    have hbr := T.best_range (l.take k)
    rw [← HBst.out, hkl] at hbr
    simp only at hbr
    by_cases hlt : k < n
    · obtain ⟨v, hv⟩ : ∃ x, l[k]? = some x := ⟨l[k]'(by have := Hn.out; omega), List.getElem?_eq_getElem (by have := Hn.out; omega)⟩
      obtain ⟨b, off, rfl, hbl, hr⟩ : ∃ b off, lo = some ⟨b, off, none⟩ ∧ b < w.heap.size ∧ IntRow w b off l := HA.out.resolve_left (by rintro rfl; simp at hv)
      have c0 := (hr.below HS.out.2.2 hbl) k _ hv
      have hrl : (T.rowsOf (l.take k)).length = k := by rw [T.rowsOf_length, hkl]
      have HRo : Hid (∀ u : World, Below wr.heap.size wr u → Calls Try.prog 58 #[.int .i64 v, .slice ro k rc] u fun e w' => e = .returned (.agg #[.int .i64 (T.rowTo v (T.rowsOf (l.take k))).1, .int .i64 (T.rowTo v (T.rowsOf (l.take k))).2.1, .int .i64 (T.rowTo v (T.rowsOf (l.take k))).2.2]) ∧ Below u.heap.size u w') := by
        intro u hu
        have := rowTo_any v ro rc (T.rowsOf (l.take k)) u (by omega) (own_rwAt (own_below' HS.out.1 hu (Nat.le_refl _)) hrl) (by
          intro r hr
          obtain ⟨i, hi⟩ := List.mem_iff_getElem?.1 hr
          have := T.rows_le (l.take k) i r hi
          have := (List.getElem?_eq_some_iff.1 hi).1
          omega)
        rw [hrl] at this
        exact this
      have HRT : Hid (T.rowsOf (l.take (k + 1)) = T.rowsOf (l.take k) ++ [T.rowTo v (T.rowsOf (l.take k))]) := T.rows_take l k v hv
      have HBT : Hid (T.bestOf (T.rowsOf (l.take (k + 1))) = if bg < (T.rowTo v (T.rowsOf (l.take k))).1 then ((T.rowTo v (T.rowsOf (l.take k))).1, (k : Int)) else (bg, bl)) := by
        unfold Hid
        rw [T.best_take l k v hv, ← HBst.out]
      obtain ⟨R, hR⟩ : ∃ R, R = T.rowTo v (T.rowsOf (l.take k)) := ⟨_, rfl⟩
      rw [← hR] at HRo HRT HBT
      obtain ⟨r1, r2, r3⟩ := R
      simp only at HRo HRT HBT
      have hki : (k : Int) < (n : Int) := by omega
      have hk0 : (0 : Int) ≤ (k : Int) := by omega
      clear hv hr hkl hrl hR
      go_wp2_with fail
      refine (HRo.out _ (Below.refl _ _)).mono ?_
      rintro e w1 ⟨rfl, hb1⟩
      have HS1 : Hid (w1.ownsRow w.heap.size 100 3 (.slice ro k rc) k (rwCells (T.rowsOf (l.take k))) ∧ w1.ownsRow w.heap.size 4 1 (.slice mo k mc) k (bls (List.replicate k false)) ∧ Below w.heap.size w w1) := ⟨own_below' HS.out.1 hb1 (Nat.le_refl _), own_below' HS.out.2.1 hb1 (Nat.le_refl _), HS.out.2.2.trans (hb1.mono hsz)⟩
      have hs1 : w.heap.size ≤ w1.heap.size := by have := hb1.size; omega
      clear hb1 HRo HS c0
      have hnews : Hid (∀ j u, [Value.int .i64 r1, .int .i64 r2, .int .i64 r3][j]? = some u → ((w1.alloc (.cells #[.int .i64 r1, .int .i64 r2, .int .i64 r3] 100)).alloc (.cells #[.int .i64 r1, .int .i64 r2, .int .i64 r3] 100)).cell? ((⟨w1.heap.size + 1, 0, none⟩ : Addr).add j) = some u) := by
        have h := Blk.new (w1.alloc (.cells #[.int .i64 r1, .int .i64 r2, .int .i64 r3] 100)) #[.int .i64 r1, .int .i64 r2, .int .i64 r3] 100
        intro j u hj
        rw [show (w1.alloc (.cells #[.int .i64 r1, .int .i64 r2, .int .i64 r3] 100)).heap.size = w1.heap.size + 1 by simp] at h
        rw [Addr.add_lit, Nat.zero_add, h.cell, ← hj]
        simp
      have HFin : Hid (∀ v2 w2, w2.ownsRow w.heap.size 100 3 v2 (k + 1) (rwCells (T.rowsOf (l.take k)) ++ [.int .i64 r1, .int .i64 r2, .int .i64 r3]) → ((w1.alloc (.cells #[.int .i64 r1, .int .i64 r2, .int .i64 r3] 100)).alloc (.cells #[.int .i64 r1, .int .i64 r2, .int .i64 r3] 100)).grownBy w2 (Value.slice ro k rc).ownBlock → ∃ ro2 rc2, v2 = .slice ro2 (k + 1) rc2 ∧ Hid (w2.ownsRow w.heap.size 100 3 (.slice ro2 (k + 1) rc2) (k + 1) (rwCells (T.rowsOf (l.take (k + 1)))) ∧ w2.ownsRow w.heap.size 4 1 (.slice mo k mc) k (bls (List.replicate k false)) ∧ Below w.heap.size w w2 ∧ w.heap.size ≤ w2.heap.size)) := by
        intro v2 w2 ho2 hg2
        obtain ⟨ro2, rc2, rfl⟩ := own_is ho2
        have hb2 : Below w.heap.size w w2 := below_app ((HS1.out.2.2.alloc hs1 _).alloc (by simp; omega) _) hg2 ((HS1.out.1.alloc _).alloc _) (Nat.le_refl _) (by simp; omega)
        refine ⟨ro2, rc2, rfl, by rw [HRT.out, rwCells_snoc]; exact ho2, own_grown ((HS1.out.2.1.alloc _).alloc _) hg2 ((HS1.out.1.alloc _).alloc _) (by decide), hb2, hb2.size⟩
      have HFin2 : Hid (∀ v3 w2 w3, w2.ownsRow w.heap.size 4 1 (.slice mo k mc) k (bls (List.replicate k false)) → Below w.heap.size w w2 → w3.ownsRow w.heap.size 4 1 v3 (k + 1) (bls (List.replicate k false) ++ [.bool false]) → (w2.alloc (.cells #[.bool false] 4)).grownBy w3 (Value.slice mo k mc).ownBlock → ∀ {ro2 rc2}, w2.ownsRow w.heap.size 100 3 (.slice ro2 (k + 1) rc2) (k + 1) (rwCells (T.rowsOf (l.take (k + 1)))) → ∃ mo2 mc2, v3 = .slice mo2 (k + 1) mc2 ∧ Hid (w3.ownsRow w.heap.size 100 3 (.slice ro2 (k + 1) rc2) (k + 1) (rwCells (T.rowsOf (l.take (k + 1)))) ∧ w3.ownsRow w.heap.size 4 1 (.slice mo2 (k + 1) mc2) (k + 1) (bls (List.replicate (k + 1) false)) ∧ Below w.heap.size w w3)) := by
        intro v3 w2 w3 hm2 hb2 ho3 hg3 ro2 rc2 hr2
        obtain ⟨mo2, mc2, rfl⟩ := own_is ho3
        have hb3 : Below w.heap.size w w3 := below_app (hb2.alloc hb2.size _) hg3 (hm2.alloc _) (Nat.le_refl _) (by have := hb2.size; simp; omega)
        refine ⟨mo2, mc2, rfl, own_grown (hr2.alloc _) hg3 (hm2.alloc _) (by decide), ?_, hb3⟩
        have e : bls (List.replicate (k + 1) false) = bls (List.replicate k false) ++ [.bool false] := by unfold bls; rw [List.replicate_succ', List.map_append]; rfl
        rw [e]
        exact ho3
      by_cases hgt : bg < r1
      · have HB2 : Hid ((r1, (k : Int)) = T.bestOf (T.rowsOf (l.take (k + 1)))) := by unfold Hid; rw [HBT.out, if_pos hgt]
        clear HBT HRT HBst
        go_wp2_with (at_builtin; refine wpList_append_own _ rfl (.tmp 28) (.tmp 30) 98 rfl w.heap.size 100 i0 (.agg #[.int .i64 0, .int .i64 0, .int .i64 0]) 3 24 Try.underlying98 hi hz0 hz1 hz2 rfl (by decide) _ _ _ rfl ((HS1.out.1.alloc _).alloc _) ⟨w1.heap.size + 1, 0, none⟩ 1 1 [.int .i64 r1, .int .i64 r2, .int .i64 r3] rfl rfl hnews.out (by intro u hu; simp at hu; rcases hu with rfl | rfl | rfl <;> rfl) (by unfold maxLen; omega) (by omega) (by simp; omega) ?_)
        intro v2 w2 ho2 hg2 _
        obtain ⟨ro2, rc2, rfl, HS2⟩ := HFin.out v2 w2 ho2 hg2
        have hs2 := HS2.out.2.2.2
        clear ho2 hg2 hnews HS1 HFin hs1
        go_wp2_with (at_builtin; refine wpList_append_own _ rfl (.tmp 32) (.tmp 33) 91 rfl w.heap.size 4 j0 (.bool false) 1 1 Try.underlying91 hj hy0 hy1 hy2 rfl (by decide) _ _ _ rfl (HS2.out.2.1.alloc _) ⟨w2.heap.size, 0, none⟩ 1 1 [.bool false] rfl rfl (new_one _ _ _) (by intro u hu; simp at hu; subst hu; rfl) (by unfold maxLen; omega) (by omega) (by simp; omega) ?_)
        intro v3 w3 ho3 hg3 _
        obtain ⟨mo2, mc2, rfl, HS3⟩ := HFin2.out v3 w2 w3 HS2.out.2.1 HS2.out.2.2.1 ho3 hg3 HS2.out.1
        clear ho3 hg3 HS2 HFin2 hs2
        go_wp2
        go_roundw
        case rel => exact ⟨k + 1, rc2, mc2, ro2, mo2, r1, k, rfl, rfl, rfl, rfl, by omega, by go_num, HB2, HS3⟩
        case measure => simp [intOf]; omega
      · have HB2 : Hid ((bg, bl) = T.bestOf (T.rowsOf (l.take (k + 1)))) := by unfold Hid; rw [HBT.out, if_neg hgt]
        clear HBT HRT HBst
        go_wp2_with (at_builtin; refine wpList_append_own _ rfl (.tmp 28) (.tmp 30) 98 rfl w.heap.size 100 i0 (.agg #[.int .i64 0, .int .i64 0, .int .i64 0]) 3 24 Try.underlying98 hi hz0 hz1 hz2 rfl (by decide) _ _ _ rfl ((HS1.out.1.alloc _).alloc _) ⟨w1.heap.size + 1, 0, none⟩ 1 1 [.int .i64 r1, .int .i64 r2, .int .i64 r3] rfl rfl hnews.out (by intro u hu; simp at hu; rcases hu with rfl | rfl | rfl <;> rfl) (by unfold maxLen; omega) (by omega) (by simp; omega) ?_)
        intro v2 w2 ho2 hg2 _
        obtain ⟨ro2, rc2, rfl, HS2⟩ := HFin.out v2 w2 ho2 hg2
        have hs2 := HS2.out.2.2.2
        clear ho2 hg2 hnews HS1 HFin hs1
        go_wp2_with (at_builtin; refine wpList_append_own _ rfl (.tmp 32) (.tmp 33) 91 rfl w.heap.size 4 j0 (.bool false) 1 1 Try.underlying91 hj hy0 hy1 hy2 rfl (by decide) _ _ _ rfl (HS2.out.2.1.alloc _) ⟨w2.heap.size, 0, none⟩ 1 1 [.bool false] rfl rfl (new_one _ _ _) (by intro u hu; simp at hu; subst hu; rfl) (by unfold maxLen; omega) (by omega) (by simp; omega) ?_)
        intro v3 w3 ho3 hg3 _
        obtain ⟨mo2, mc2, rfl, HS3⟩ := HFin2.out v3 w2 w3 HS2.out.2.1 HS2.out.2.2.1 ho3 hg3 HS2.out.1
        clear ho3 hg3 HS2 HFin2 hs2
        go_wp2
        go_roundw
        case rel => exact ⟨k + 1, rc2, mc2, ro2, mo2, bg, bl, rfl, rfl, rfl, rfl, by omega, by go_num, HB2, HS3⟩
        case measure => simp [intOf]; omega
    · obtain rfl : k = n := by omega
      have htk : l.take k = l := List.take_of_length_le (by have := Hn.out; omega)
      rw [htk] at HBst HS
      have HLa : Hid (bl = T.lastOf l) := by unfold Hid T.lastOf; rw [← HBst.out]
      have HM0 : Hid (bls (List.replicate k false) = bls (T.marksL k [])) := by unfold Hid; rw [T.marksL_nil]
      have hki : ¬ (k : Int) < (k : Int) := by omega
      have HRl : Hid ((T.rowsOf l).length = k) := by unfold Hid; rw [T.rowsOf_length, Hn.out]
      obtain ⟨w0, hw0⟩ : ∃ w0, w0 = wr := ⟨_, rfl⟩
      subst hw0
      clear htk hkl HBst hlt
      go_wp2_with fail
      go_loopw [10] (fun i wr => ∃ (iv : Int) (f : Nat) (done : List Nat), i = .int .i64 iv ∧ -1 ≤ iv ∧ iv < k ∧ iv < f ∧ Hid (T.chain (T.rowsOf l) k (T.lastOf l) = done ++ T.chain (T.rowsOf l) f iv) ∧ Hid (wr.ownsRow w.heap.size 100 3 (.slice ro k rc) k (rwCells (T.rowsOf l)) ∧ wr.ownsRow w.heap.size 4 1 (.slice mo k mc) k (bls (T.marksL k done)) ∧ Below w.heap.size w wr))
        (fun i _ => (intOf i + 1).toNat)
      case atStart => exact ⟨bl, k, [], rfl, hbr.2.2.1, hbr.2.2.2, hbr.2.2.2, by unfold Hid; rw [HLa.out]; rfl, HS.out.1, by rw [← HM0.out]; exact HS.out.2.1, HS.out.2.2⟩
      case round =>
        obtain ⟨iv, f, done, rfl, h1, h2, h3, HCh, HW⟩ := hrel
        clear HS
        by_cases h0 : 0 ≤ iv
        · obtain ⟨p, rfl⟩ : ∃ p : Nat, iv = p := ⟨iv.toNat, by omega⟩
          obtain ⟨f', rfl⟩ : ∃ f', f = f' + 1 := ⟨f - 1, by omega⟩
          have hpk : p < k := by omega
          obtain ⟨r, hr⟩ : ∃ r, (T.rowsOf l)[p]? = some r := ⟨(T.rowsOf l)[p]'(by have := HRl.out; omega), List.getElem?_eq_getElem (by have := HRl.out; omega)⟩
          obtain ⟨gr, fr, rfl, hgr, hrr⟩ := (own_rwAt HW.out.1 HRl.out).resolve_left (by intro e; rw [e] at hr; simp at hr)
          obtain ⟨c0, c1, c2⟩ := hrr p r hr
          have hbf := T.before_lt l hr
          obtain ⟨gm, rfl⟩ : ∃ g, mo = some ⟨g, 0, none⟩ := by
            rcases HW.out.2.1.2 with ⟨h, h0⟩ | ⟨g, cp, cur, hv, hb, hh, _⟩
            · omega
            · simp only [Value.slice.injEq] at hv
              exact ⟨g, hv.1⟩
          obtain ⟨mcur, hmb⟩ : ∃ cur, Blk wr gm cur 4 := by
            rcases HW.out.2.1.2 with ⟨h, _⟩ | ⟨g', cp, cur, hv, _, hh, _⟩
            · simp at h
            · simp only [Value.slice.injEq, Option.some.injEq, Addr.mk.injEq] at hv
              obtain ⟨⟨rfl, _⟩, _⟩ := hv
              exact ⟨cur, hh⟩
          have hmc : ∃ bv, wr.cell? ⟨gm, p, none⟩ = some (.bool bv) := by
            have hcell := HW.out.2.1.cellAt p (by omega)
            have hml : (T.marksL k done).length = k := by simp [T.marksL]
            have e : (bls (T.marksL k done))[p]? = some (.bool (T.marksL k done)[p]) := by
              unfold bls
              rw [List.getElem?_map, List.getElem?_eq_getElem (by omega)]
              rfl
            exact ⟨_, hcell.trans e⟩
          obtain ⟨bv, hmc⟩ := hmc
          have hmf := hmb.free p
          have hgne : gr ≠ gm := by
            rintro rfl
            rcases HW.out.1.2 with ⟨h, _⟩ | ⟨g', cp, cur, hv, _, hh, _⟩
            · simp at h
            · simp only [Value.slice.injEq, Option.some.injEq, Addr.mk.injEq] at hv
              obtain ⟨⟨rfl, _⟩, _⟩ := hv
              have hq : Blk wr gr cur 100 := hh
              exact hq.ne hmb (by decide) rfl
          have HCh2 : Hid (T.chain (T.rowsOf l) k (T.lastOf l) = (done ++ [p]) ++ T.chain (T.rowsOf l) f' r.2.2) := by
            unfold Hid
            rw [HCh.out]
            have hg : (T.rowsOf l).getD p (0, 0, -1) = r := by rw [List.getD, hr]; rfl
            have e : T.chain (T.rowsOf l) (f' + 1) (p : Int) = p :: T.chain (T.rowsOf l) f' r.2.2 := by
              show (if ((p : Int)) < 0 then [] else ((p : Int)).toNat :: T.chain (T.rowsOf l) f' ((T.rowsOf l).getD ((p : Int)).toNat (0, 0, -1)).2.2) = _
              rw [if_neg (by omega), show ((p : Int)).toNat = p by omega, hg]
            rw [e]
            simp
          have HW2 : Hid ((wr.setCell ⟨gm, p, none⟩ (.bool true)).ownsRow w.heap.size 100 3 (.slice (some ⟨gr, fr, none⟩) k rc) k (rwCells (T.rowsOf l)) ∧ (wr.setCell ⟨gm, p, none⟩ (.bool true)).ownsRow w.heap.size 4 1 (.slice (some ⟨gm, 0, none⟩) k mc) k (bls (T.marksL k (done ++ [p]))) ∧ Below w.heap.size w (wr.setCell ⟨gm, p, none⟩ (.bool true))) := by
            refine ⟨own_block HW.out.1 fun x hx => Below.heap_setCell _ _ _ _ ?_, ?_, HW.out.2.2.setCell ?_ _⟩
            · simp only [Value.ownBlock, Option.some.injEq] at hx
              subst hx
              exact hgne
            · have h := own_set1 HW.out.2.1 p (.bool true)
              have e : bls (T.marksL k (done ++ [p])) = (bls (T.marksL k done)).set p (.bool true) := by
                unfold bls
                rw [T.marksL_snoc, List.map_set]
              rw [e]
              exact h
            · exact (HW.out.2.1.lt gm rfl).1
          obtain ⟨r1, r2, r3⟩ := r
          simp only at c0 c1 c2 hbf HCh2
          have hpi : (p : Int) < (k : Int) := by omega
          have hgne2 : ¬ gm = gr := fun e => hgne e.symm
          clear hr hrr hmb HCh HW
          go_wp2
          go_roundw
          case rel => exact ⟨r3, f', done ++ [p], rfl, hbf.1, by omega, by omega, HCh2, HW2⟩
          case measure => simp [intOf]; omega
        · have HE : Hid (bls (T.marksOf l) = bls (T.marksL k done)) := by
            have e : T.chain (T.rowsOf l) f iv = [] := by
              cases f with
              | zero => rfl
              | succ f =>
                show (if iv < 0 then [] else _) = _
                rw [if_pos (by omega)]
            have h := HCh.out
            rw [e, List.append_nil] at h
            unfold Hid T.marksOf T.marksL
            rw [Hn.out, h]
          clear HCh
          go_wp2
          go_ret
          exact ⟨_, rfl, by rw [HE.out]; exact HW.out.2.1, HW.out.2.2⟩

end Go.Proofs.Ytcaeeaiodbjacaa
