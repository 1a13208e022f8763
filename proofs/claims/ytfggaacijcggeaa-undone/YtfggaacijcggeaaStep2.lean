/-
  The walk of step: Load, Store, Jump; and at every instruction.
-/
import Derived.Test.YtfggaacijcggeaaStep
namespace Go.Proofs.Ytfggaacijcggeaa
open Go.RowKit
set_option linter.unusedVariables false

set_option maxRecDepth 100000 in
set_option maxHeartbeats 1000000 in
theorem step_load {w : World} {base b : Nat} {pile : List Int} {sv dv : Value} {M : H.Mach} (h : MB w base b pile sv dv M) (v : InV) (hv : v.ok) (ds : List Int) (hn0 : 0 ≤ M.next) (hn1 : M.next ≤ 900) (k : Nat) (hk : k < 8) :
    Calls Try.prog 34 (stepArgs b 2 (k : Int) v) w fun e w' => e = .returned (.tuple #[]) ∧ Aft w base b (H.step 2 (k : Int) (v.inp ds) M) w' := by
  obtain ⟨fuel, k0, k1, k2, k3, k4, k5, k6, k7, what, by_, arg, src, route, ao, n, cap⟩ := v
  unfold stepArgs InV.arr
  obtain ⟨⟨wh0, wh1⟩, ⟨ar0, ar1⟩, ⟨sr0, sr1⟩, ⟨ro0, ro1⟩, hcs⟩ := hv
  simp only at *
  obtain ⟨nx, hnx⟩ : ∃ nx, nx = M.next := ⟨_, rfl⟩
  obtain ⟨o1, ho1⟩ : ∃ o1, o1 = Obj.cells #[.int .u8 2, .int .i64 (k : Int)] 28 := ⟨_, rfl⟩
  obtain ⟨o2, ho2⟩ : ∃ o2, o2 = Obj.cells #[.int .i64 fuel, .int .u16 k0, .int .u16 k1, .int .u16 k2, .int .u16 k3, .int .u16 k4, .int .u16 k5, .int .u16 k6, .int .u16 k7, .int .u8 what, .int .u8 by_, .int .u16 arg, .int .u8 src, .int .u8 route, .slice ao n cap] 39 := ⟨_, rfl⟩
  have r21 := h.c21
  have g21 := h.free 21
  rw [← hnx] at hn0 hn1 r21
  have hbl := h.blk.lt
  have hlt := h.lt
  have HM : Hid (MB (((w.setCell ⟨b, 21, none⟩ (.int .i64 (nx + 1))).alloc o1).alloc o2) base b pile sv dv { M with next := nx + 1 }) := ((h.set_next _).alloc o1).alloc o2
  have hsz : (w.setCell ⟨b, 21, none⟩ (.int .i64 (nx + 1))).heap.size = w.heap.size := by simp [World.setCell]
  have HF : Hid (Fr base w (((w.setCell ⟨b, 21, none⟩ (.int .i64 (nx + 1))).alloc o1).alloc o2)) := ((h.fr_set (Fr.refl base w) _ _).alloc (by omega) o1).alloc (by simp; omega) o2
  have HE : Hid (H.step 2 (k : Int) (InV.inp ⟨fuel, k0, k1, k2, k3, k4, k5, k6, k7, what, by_, arg, src, route, ao, n, cap⟩ ds) M = H.push (M.cells.getD k 0) { M with next := nx + 1 }) := by
    unfold Hid H.step
    rw [hnx]
    rfl
  have hb1 : ¬ b = w.heap.size := by omega
  have hb2 : ¬ b = w.heap.size + 1 := by omega
  have hb3 : ¬ w.heap.size = b := by omega
  have hb4 : ¬ w.heap.size + 1 = b := by omega
  subst ho1 ho2
  clear hcs hnx hsz
  have rc := h.ccell k hk
  obtain ⟨ck, hck⟩ : ∃ ck, ck = M.cells.getD k 0 := ⟨_, rfl⟩
  rw [← hck] at rc HE
  have hk0 : (0 : Int) ≤ (k : Int) := by omega
  have hk1 : (k : Int) < 8 := by omega
  have hk2 : ¬ 9 + k = 21 := by omega
  have hk3 : ¬ 21 = 9 + k := by omega
  clear hck
  go_enter Try.func34, Try.ntmps34
  go_wp2_with fail
  go_region_with (go_at_call 39; refine (push_any (M := { M with next := nx + 1 }) (by exact HM.out.drew) ck).mono ?_; rintro e w1 ⟨rfl, ha⟩)
  have HA : Hid (Aft w base b _ w1) := ⟨(After.aft ha).1, HF.out.drew.trans (After.aft ha).2⟩
  clear ha
  go_wp2
  go_end0
  exact ⟨rfl, by rw [HE.out]; exact HA.out⟩

set_option maxRecDepth 100000 in
set_option maxHeartbeats 1000000 in
theorem step_jump {w : World} {base b : Nat} {pile : List Int} {sv dv : Value} {M : H.Mach} (h : MB w base b pile sv dv M) (v : InV) (hv : v.ok) (ds : List Int) (hn0 : 0 ≤ M.next) (hn1 : M.next ≤ 900) (a : Int) (ha0 : -128 ≤ a) (ha1 : a ≤ 127) :
    Calls Try.prog 34 (stepArgs b 16 a v) w fun e w' => e = .returned (.tuple #[]) ∧ Aft w base b (H.step 16 a (v.inp ds) M) w' := by
  obtain ⟨fuel, k0, k1, k2, k3, k4, k5, k6, k7, what, by_, arg, src, route, ao, n, cap⟩ := v
  unfold stepArgs InV.arr
  obtain ⟨⟨wh0, wh1⟩, ⟨ar0, ar1⟩, ⟨sr0, sr1⟩, ⟨ro0, ro1⟩, hcs⟩ := hv
  simp only at *
  obtain ⟨nx, hnx⟩ : ∃ nx, nx = M.next := ⟨_, rfl⟩
  obtain ⟨o1, ho1⟩ : ∃ o1, o1 = Obj.cells #[.int .u8 16, .int .i64 a] 28 := ⟨_, rfl⟩
  obtain ⟨o2, ho2⟩ : ∃ o2, o2 = Obj.cells #[.int .i64 fuel, .int .u16 k0, .int .u16 k1, .int .u16 k2, .int .u16 k3, .int .u16 k4, .int .u16 k5, .int .u16 k6, .int .u16 k7, .int .u8 what, .int .u8 by_, .int .u16 arg, .int .u8 src, .int .u8 route, .slice ao n cap] 39 := ⟨_, rfl⟩
  have r21 := h.c21
  have g21 := h.free 21
  rw [← hnx] at hn0 hn1 r21
  have hbl := h.blk.lt
  have hlt := h.lt
  have HM : Hid (MB (((w.setCell ⟨b, 21, none⟩ (.int .i64 (nx + 1))).alloc o1).alloc o2) base b pile sv dv { M with next := nx + 1 }) := ((h.set_next _).alloc o1).alloc o2
  have hsz : (w.setCell ⟨b, 21, none⟩ (.int .i64 (nx + 1))).heap.size = w.heap.size := by simp [World.setCell]
  have HF : Hid (Fr base w (((w.setCell ⟨b, 21, none⟩ (.int .i64 (nx + 1))).alloc o1).alloc o2)) := ((h.fr_set (Fr.refl base w) _ _).alloc (by omega) o1).alloc (by simp; omega) o2
  have HE : Hid (H.step 16 a (InV.inp ⟨fuel, k0, k1, k2, k3, k4, k5, k6, k7, what, by_, arg, src, route, ao, n, cap⟩ ds) M = { M with next := nx + 1 + a }) := by
    unfold Hid H.step
    rw [hnx]
    rfl
  have hb1 : ¬ b = w.heap.size := by omega
  have hb2 : ¬ b = w.heap.size + 1 := by omega
  have hb3 : ¬ w.heap.size = b := by omega
  have hb4 : ¬ w.heap.size + 1 = b := by omega
  subst ho1 ho2
  clear hcs hnx hsz
  have HM2 : Hid (∀ o1 o2, MB ((((w.setCell ⟨b, 21, none⟩ (.int .i64 (nx + 1))).setCell ⟨b, 21, none⟩ (.int .i64 (nx + 1 + a))).alloc o1).alloc o2) base b pile sv dv { M with next := nx + 1 + a }) := fun o1 o2 => (((h.set_next (nx + 1)).set_next (nx + 1 + a)).alloc o1).alloc o2
  have HF2 : Hid (∀ o1 o2, Fr base w ((((w.setCell ⟨b, 21, none⟩ (.int .i64 (nx + 1))).setCell ⟨b, 21, none⟩ (.int .i64 (nx + 1 + a))).alloc o1).alloc o2)) := fun o1 o2 => (((h.set_next _).fr_set (h.fr_set (Fr.refl base w) _ _) _ _).alloc (by simp [World.setCell]; omega) o1).alloc (by simp [World.setCell]; omega) o2
  have hw : IntKind.i64.wrap (nx + 1 + a) = nx + 1 + a := by rw [IntKind.wrap_i64]; omega
  go_enter Try.func34, Try.ntmps34
  go_wp2_with fail
  go_region
  all_goals go_wp2
  all_goals go_end0
  all_goals exact ⟨rfl, by rw [HE.out]; exact ⟨⟨_, _, _, (HM2.out _ _).drew⟩, (HF2.out _ _).drew⟩⟩

set_option maxRecDepth 100000 in
set_option maxHeartbeats 1000000 in
theorem step_store {w : World} {base b : Nat} {pile : List Int} {sv dv : Value} {M : H.Mach} (h : MB w base b pile sv dv M) (v : InV) (hv : v.ok) (ds : List Int) (hn0 : 0 ≤ M.next) (hn1 : M.next ≤ 900) (k : Nat) (hk : k < 8) :
    Calls Try.prog 34 (stepArgs b 3 (k : Int) v) w fun e w' => e = .returned (.tuple #[]) ∧ Aft w base b (H.step 3 (k : Int) (v.inp ds) M) w' := by
  obtain ⟨fuel, k0, k1, k2, k3, k4, k5, k6, k7, what, by_, arg, src, route, ao, n, cap⟩ := v
  unfold stepArgs InV.arr
  obtain ⟨⟨wh0, wh1⟩, ⟨ar0, ar1⟩, ⟨sr0, sr1⟩, ⟨ro0, ro1⟩, hcs⟩ := hv
  simp only at *
  obtain ⟨nx, hnx⟩ : ∃ nx, nx = M.next := ⟨_, rfl⟩
  obtain ⟨o1, ho1⟩ : ∃ o1, o1 = Obj.cells #[.int .u8 3, .int .i64 (k : Int)] 28 := ⟨_, rfl⟩
  obtain ⟨o2, ho2⟩ : ∃ o2, o2 = Obj.cells #[.int .i64 fuel, .int .u16 k0, .int .u16 k1, .int .u16 k2, .int .u16 k3, .int .u16 k4, .int .u16 k5, .int .u16 k6, .int .u16 k7, .int .u8 what, .int .u8 by_, .int .u16 arg, .int .u8 src, .int .u8 route, .slice ao n cap] 39 := ⟨_, rfl⟩
  have r21 := h.c21
  have g21 := h.free 21
  rw [← hnx] at hn0 hn1 r21
  have hbl := h.blk.lt
  have hlt := h.lt
  have HM : Hid (MB (((w.setCell ⟨b, 21, none⟩ (.int .i64 (nx + 1))).alloc o1).alloc o2) base b pile sv dv { M with next := nx + 1 }) := ((h.set_next _).alloc o1).alloc o2
  have hsz : (w.setCell ⟨b, 21, none⟩ (.int .i64 (nx + 1))).heap.size = w.heap.size := by simp [World.setCell]
  have HF : Hid (Fr base w (((w.setCell ⟨b, 21, none⟩ (.int .i64 (nx + 1))).alloc o1).alloc o2)) := ((h.fr_set (Fr.refl base w) _ _).alloc (by omega) o1).alloc (by simp; omega) o2
  have HE : Hid (H.step 3 (k : Int) (InV.inp ⟨fuel, k0, k1, k2, k3, k4, k5, k6, k7, what, by_, arg, src, route, ao, n, cap⟩ ds) M = { H.popM { M with next := nx + 1 } with cells := M.cells.set k (H.popV { M with next := nx + 1 }) }) := by
    unfold Hid H.step
    rw [hnx]
    rfl
  have hb1 : ¬ b = w.heap.size := by omega
  have hb2 : ¬ b = w.heap.size + 1 := by omega
  have hb3 : ¬ w.heap.size = b := by omega
  have hb4 : ¬ w.heap.size + 1 = b := by omega
  subst ho1 ho2
  clear hcs hnx hsz
  have hk0 : (0 : Int) ≤ (k : Int) := by omega
  have hk1 : (k : Int) < 8 := by omega
  have HX : Hid (∀ o2, Blk (((w.setCell ⟨b, 21, none⟩ (.int .i64 (nx + 1))).alloc (.cells #[.int .u8 3, .int .i64 (k : Int)] 28)).alloc o2) w.heap.size #[.int .u8 3, .int .i64 (k : Int)] 28) := fun o2 => by
    have h1 := Blk.new (w.setCell ⟨b, 21, none⟩ (.int .i64 (nx + 1))) #[.int .u8 3, .int .i64 (k : Int)] 28
    rw [show (w.setCell ⟨b, 21, none⟩ (.int .i64 (nx + 1))).heap.size = w.heap.size by simp [World.setCell]] at h1
    exact h1.alloc o2
  go_enter Try.func34, Try.ntmps34
  go_wp2_with fail
  refine (pop_any (M := { M with next := nx + 1 }) (by exact HM.out)).mono ?_
  rintro e w1 ⟨rfl, ⟨pile1, hm1⟩, hf1⟩
  have hx1 := hf1.row _ _ _ (HX.out _) (by decide) (by decide) (by decide)
  have d0 := hx1.cell 0
  have d1 := hx1.cell 1
  simp at d0 d1
  have rc := hm1.ccell k hk
  have fc := hm1.free (9 + k)
  obtain ⟨y, hy⟩ : ∃ y, y = H.popV { M with next := nx + 1 } := ⟨_, rfl⟩
  rw [← hy] at HE ⊢
  obtain ⟨M1, hM1⟩ : ∃ M1, M1 = H.popM { M with next := nx + 1 } := ⟨_, rfl⟩
  have hcl : M1.cells = M.cells := by rw [hM1]; unfold H.popM; split <;> rfl
  rw [← hM1] at HE hm1 rc
  have HM2 : Hid (MB (w1.setCell ⟨b, 9 + k, none⟩ (.int .u16 y)) base b pile1 sv dv { M1 with cells := M1.cells.set k y }) := hm1.set_cell k hk y
  have HF2 : Hid (Fr base w (w1.setCell ⟨b, 9 + k, none⟩ (.int .u16 y))) := hm1.fr_set (HF.out.trans hf1) _ _
  have HCl : Hid (M1.cells = M.cells) := hcl
  clear hm1 hf1 hx1 HX hy hM1 hcl HM HF
  go_wp2_with fail
  go_region
  all_goals go_wp2
  all_goals go_end0
  all_goals exact ⟨rfl, by rw [HE.out]; exact ⟨⟨_, _, _, by have h := HM2.out.drew; rw [HCl.out] at h; exact h⟩, HF2.out.drew⟩⟩

end Go.Proofs.Ytfggaacijcggeaa
