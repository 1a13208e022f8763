/-
  The walk of rowTo.
-/
import Derived.Test.YtcaeeaiodbjacaaDiffB
import Derived.Test.YtcaeeaiodbjacaaHeap
import Derived.Test.YtcaeeaiodbjacaaTextC
import Derived.Laws.OwnMore
namespace Go.Proofs.Ytcaeeaiodbjacaa
open Go.RowKit
set_option linter.unusedVariables false

/-- Rows lie in memory from ⟨b, off⟩ on. -/
def RwRow (w : World) (b off : Nat) (l : List T.Rw) : Prop :=
  ∀ i x, l[i]? = some x → w.cell? ⟨b, off + i * 3, none⟩ = some (.int .i64 x.1) ∧ w.cell? ⟨b, off + i * 3 + 1, none⟩ = some (.int .i64 x.2.1) ∧ w.cell? ⟨b, off + i * 3 + 2, none⟩ = some (.int .i64 x.2.2)

theorem RwRow.below {B : Nat} {w w' : World} {b off : Nat} {l : List T.Rw} (h : RwRow w b off l) (hb : Below B w w') (hl : b < B) : RwRow w' b off l := by
  intro i x hx
  obtain ⟨h0, h1, h2⟩ := h i x hx
  exact ⟨(hb.cell hl).trans h0, (hb.cell hl).trans h1, (hb.cell hl).trans h2⟩

def RwAt (w : World) (ao : Option Addr) (l : List T.Rw) : Prop := l = [] ∨ ∃ b off, ao = some ⟨b, off, none⟩ ∧ b < w.heap.size ∧ RwRow w b off l

set_option maxRecDepth 100000 in
set_option maxHeartbeats 2000000 in
theorem rowTo_any (v : Int) (ro : Option Addr) (rc : Nat) (rows : List T.Rw) (w : World) (hl : rows.length ≤ 16) (ha : RwAt w ro rows) (hb : ∀ r ∈ rows, 0 ≤ r.1 ∧ r.1 ≤ 100) :
    Calls Try.prog 58 #[.int .i64 v, .slice ro rows.length rc] w fun e w' => e = .returned (.agg #[.int .i64 (T.rowTo v rows).1, .int .i64 (T.rowTo v rows).2.1, .int .i64 (T.rowTo v rows).2.2]) ∧ Below w.heap.size w w' := by
  obtain ⟨n, hn⟩ : ∃ n, n = rows.length := ⟨_, rfl⟩
  have Hn : Hid (rows.length = n) := hn.symm
  rw [← hn]
  rw [← hn] at hl
  have HA : Hid (RwAt w ro rows) := ha
  have HB : Hid (∀ r ∈ rows, 0 ≤ r.1 ∧ r.1 ≤ 100) := hb
  clear hn ha hb
  by_cases hv : v < 0
  · have HV : Hid (T.rowTo v rows = (0, v, -1)) := by unfold Hid T.rowTo; rw [if_pos hv]
    go_enter Try.func58, Try.ntmps58
    go_wp2
    refine bodyPost_ret (by simp [results, Try.results58, go_sem]; try rfl) rfl ?_
    rw [HV.out]
    refine ⟨rfl, ?_⟩
    (repeat (first | exact Below.refl _ _ | refine Below.setCell ?_ (by first | exact Nat.le_refl _ | omega | (simp; done) | (simp; omega)) _ | refine Below.alloc ?_ (by first | exact Nat.le_refl _ | omega | (simp; done) | (simp; omega)) _))
  · have HV : Hid (T.rowTo v rows = T.rowFrom v rows 0 (1, v, -1)) := by unfold Hid T.rowTo; rw [if_neg hv]
    go_enter Try.func58, Try.ntmps58
    go_wp2_with fail
    have HS0 : Hid (Blk ((w.alloc (.cells #[.int .i64 0, .int .i64 0, .int .i64 0] 100)).alloc (.cells #[.int .i64 1, .int .i64 v, .int .i64 (-1)] 100)) (w.heap.size + 1) #[.int .i64 1, .int .i64 v, .int .i64 (-1)] 100 ∧ Blk ((w.alloc (.cells #[.int .i64 0, .int .i64 0, .int .i64 0] 100)).alloc (.cells #[.int .i64 1, .int .i64 v, .int .i64 (-1)] 100)) w.heap.size #[.int .i64 0, .int .i64 0, .int .i64 0] 100 ∧ Below w.heap.size w ((w.alloc (.cells #[.int .i64 0, .int .i64 0, .int .i64 0] 100)).alloc (.cells #[.int .i64 1, .int .i64 v, .int .i64 (-1)] 100))) := by
      refine ⟨?_, (Blk.new w _ 100).alloc _, ((Below.refl _ _).alloc (Nat.le_refl _) _).alloc (by simp) _⟩
      have := Blk.new (w.alloc (.cells #[.int .i64 0, .int .i64 0, .int .i64 0] 100)) #[.int .i64 1, .int .i64 v, .int .i64 (-1)] 100
      simpa using this
    go_loopw [16] (fun i wr => ∃ (k : Nat) (r : T.Rw), k ≤ n ∧ i = .int .i64 k ∧ 1 ≤ r.1 ∧ r.1 ≤ 101 ∧ Hid (Blk wr (w.heap.size + 1) #[.int .i64 r.1, .int .i64 r.2.1, .int .i64 r.2.2] 100 ∧ Blk wr w.heap.size #[.int .i64 0, .int .i64 0, .int .i64 0] 100 ∧ Below w.heap.size w wr) ∧ Hid (T.rowFrom v rows 0 (1, v, -1) = T.rowFrom v (rows.drop k) k r))
      (fun i _ => n - (intOf i).toNat)
    case atStart => exact ⟨0, (1, v, -1), Nat.zero_le _, rfl, by simp, by simp, HS0, rfl⟩
    case round =>
      obtain ⟨k, r, hk, rfl, hr1, hr2, HS, HF⟩ := hrel
      clear HS0
      obtain ⟨r1, r2, r3⟩ := r
      simp only at hr1 hr2 HS
      have q0 := HS.out.1.cell 0
      have q1 := HS.out.1.cell 1
      have q2 := HS.out.1.cell 2
      simp at q0 q1 q2
      have f0 := HS.out.1.free 0
      have f2 := HS.out.1.free 2
      have hl1 := HS.out.1.lt
      by_cases hlt : k < n
      · obtain ⟨a, hx⟩ : ∃ x, rows[k]? = some x := ⟨rows[k]'(by have := Hn.out; omega), List.getElem?_eq_getElem (by have := Hn.out; omega)⟩
        obtain ⟨b, off, rfl, hbl, hr⟩ : ∃ b off, ro = some ⟨b, off, none⟩ ∧ b < w.heap.size ∧ RwRow w b off rows := HA.out.resolve_left (by rintro rfl; simp at hx)
        have hab := HB.out a (List.mem_of_getElem? hx)
        have HF1 : Hid (T.rowFrom v rows 0 (1, v, -1) = T.rowFrom v (rows.drop (k + 1)) (k + 1) (if a.2.1 < v ∧ r1 ≤ a.1 then (a.1 + 1, r2, (k : Int)) else (r1, r2, r3))) := by
          unfold Hid
          rw [HF.out, drop_cons rows k _ hx]
          rfl
        obtain ⟨a1, a2, a3⟩ := a
        obtain ⟨c0, c1, c2⟩ := (hr.below HS.out.2.2 hbl) k _ hx
        simp only at c0 c1 c2 hab HF1
        have hki : (k : Int) < (n : Int) := by omega
        have hk0 : (0 : Int) ≤ (k : Int) := by omega
        have hbw : b < wr.heap.size := by have := HS.out.2.2.size; omega
        have hbne : ¬ b = wr.heap.size := by omega
        have hne1 : ¬ w.heap.size + 1 = wr.heap.size := by omega
        have hne2 : ¬ wr.heap.size = w.heap.size + 1 := by omega
        clear hx hr HF
        by_cases h1 : a2 < v
        · by_cases h2 : r1 ≤ a1
          · have HF2 : Hid (T.rowFrom v rows 0 (1, v, -1) = T.rowFrom v (rows.drop (k + 1)) (k + 1) (a1 + 1, r2, (k : Int))) := by unfold Hid; rw [HF1.out, if_pos ⟨h1, h2⟩]
            have hwa : IntKind.i64.wrap (a1 + 1) = a1 + 1 := by rw [IntKind.wrap_i64]; omega
            clear HF1
            go_wp2
            go_roundw
            case rel => exact ⟨k + 1, (a1 + 1, r2, k), by omega, by go_num, by simp only; omega, by simp only; omega, ⟨((HS.out.1.set 0 _).set 2 _).alloc _, ((HS.out.2.1.other _ _ (by simp)).other _ _ (by simp)).alloc _, ((HS.out.2.2.setCell (by simp) _).setCell (by simp) _).alloc (by have := HS.out.2.2.size; simp; omega) _⟩, HF2⟩
            case measure => simp [intOf]; omega
          · have HF2 : Hid (T.rowFrom v rows 0 (1, v, -1) = T.rowFrom v (rows.drop (k + 1)) (k + 1) (r1, r2, r3)) := by unfold Hid; rw [HF1.out, if_neg (by omega)]
            clear HF1
            go_wp2
            go_roundw
            case rel => exact ⟨k + 1, (r1, r2, r3), by omega, by go_num, hr1, hr2, ⟨HS.out.1.alloc _, HS.out.2.1.alloc _, HS.out.2.2.alloc HS.out.2.2.size _⟩, HF2⟩
            case measure => simp [intOf]; omega
        · have HF2 : Hid (T.rowFrom v rows 0 (1, v, -1) = T.rowFrom v (rows.drop (k + 1)) (k + 1) (r1, r2, r3)) := by unfold Hid; rw [HF1.out, if_neg (by omega)]
          clear HF1
          go_wp2
          go_roundw
          case rel => exact ⟨k + 1, (r1, r2, r3), by omega, by go_num, hr1, hr2, ⟨HS.out.1.alloc _, HS.out.2.1.alloc _, HS.out.2.2.alloc HS.out.2.2.size _⟩, HF2⟩
          case measure => simp [intOf]; omega
      · have HE : Hid (T.rowTo v rows = (r1, r2, r3)) := by
          unfold Hid
          rw [HV.out, HF.out, List.drop_of_length_le (by have := Hn.out; omega)]
          rfl
        have hki : ¬ (k : Int) < (n : Int) := by omega
        have z0 := HS.out.2.1.cell 0
        have z1 := HS.out.2.1.cell 1
        have z2 := HS.out.2.1.cell 2
        simp at z0 z1 z2
        have g0 := HS.out.2.1.free 0
        have g1 := HS.out.2.1.free 1
        have g2 := HS.out.2.1.free 2
        go_wp2
        refine bodyPost_ret (by simp [results, Try.results58, go_sem, z0, z1, z2]; try rfl) rfl ?_
        rw [HE.out]
        refine ⟨rfl, ?_⟩
        have := HS.out.2.2
        (repeat (first | assumption | refine Below.setCell ?_ (by first | exact Nat.le_refl _ | omega | (simp; done) | (simp; omega)) _ | refine Below.alloc ?_ (by first | exact Nat.le_refl _ | omega | (simp; done) | (simp; omega)) _))

end Go.Proofs.Ytcaeeaiodbjacaa
