/-
  The document's own run: the walk of pass, at the instructions that take nothing.
-/
import Derived.Test.YtfggaacijcggeaaSpotV
import Derived.Test.YtfggaacijcggeaaJStep
namespace Go.Proofs.Ytfggaacijcggeaa
open Go.RowKit
set_option linter.unusedVariables false
set_option maxRecDepth 100000
set_option maxHeartbeats 2000000

def passArgs (b : Nat) (o a : Int) (v : InV) : Array Value := #[.pointer (some ⟨b, 0, none⟩), .int .i64 o, .int .i64 a, .agg v.arr]

theorem pass_0 {w : World} {base b : Nat} {pv sv dv : Value} {M : H.Mach} (h : SB w base b pv sv dv M) (v : InV) (a : Int) :
    Calls Try.prog 32 (passArgs b 0 a v) w fun e w' => e = .returned (.tuple #[]) ∧ SAft w base b M w' := by
  obtain ⟨fuel, k0, k1, k2, k3, k4, k5, k6, k7, what, by_, arg, src, route, ao, n, cap⟩ := v
  unfold passArgs InV.arr
  simp only at *
  obtain ⟨o2, ho2⟩ : ∃ o2, o2 = Obj.cells #[.int .i64 fuel, .int .u16 k0, .int .u16 k1, .int .u16 k2, .int .u16 k3, .int .u16 k4, .int .u16 k5, .int .u16 k6, .int .u16 k7, .int .u8 what, .int .u8 by_, .int .u16 arg, .int .u8 src, .int .u8 route, .slice ao n cap] 39 := ⟨_, rfl⟩
  have hbl := h.blk.lt
  have hlt := h.lt
  have HM : Hid (SB (w.alloc o2) base b pv sv dv M) := h.alloc o2
  have HF : Hid (SFr base w (w.alloc o2)) := (SFr.refl base w).alloc hlt o2
  have hb1 : ¬ b = w.heap.size := by omega
  have hb3 : ¬ w.heap.size = b := by omega
  subst ho2
  clear h
  go_enter Try.func32, Try.ntmps32
  go_wp2
  go_end0
  exact ⟨rfl, ⟨⟨_, _, _, HM.out⟩, HF.out⟩⟩

theorem pass_1 {w : World} {base b : Nat} {pv sv dv : Value} {M : H.Mach} (h : SB w base b pv sv dv M) (v : InV) (a : Int) :
    Calls Try.prog 32 (passArgs b 1 a v) w fun e w' => e = .returned (.tuple #[]) ∧ SAft w base b (H.push a M) w' := by
  obtain ⟨fuel, k0, k1, k2, k3, k4, k5, k6, k7, what, by_, arg, src, route, ao, n, cap⟩ := v
  unfold passArgs InV.arr
  simp only at *
  obtain ⟨o2, ho2⟩ : ∃ o2, o2 = Obj.cells #[.int .i64 fuel, .int .u16 k0, .int .u16 k1, .int .u16 k2, .int .u16 k3, .int .u16 k4, .int .u16 k5, .int .u16 k6, .int .u16 k7, .int .u8 what, .int .u8 by_, .int .u16 arg, .int .u8 src, .int .u8 route, .slice ao n cap] 39 := ⟨_, rfl⟩
  have hbl := h.blk.lt
  have hlt := h.lt
  have HM : Hid (SB (w.alloc o2) base b pv sv dv M) := h.alloc o2
  have HF : Hid (SFr base w (w.alloc o2)) := (SFr.refl base w).alloc hlt o2
  have hb1 : ¬ b = w.heap.size := by omega
  have hb3 : ¬ w.heap.size = b := by omega
  subst ho2
  clear h
  go_enter Try.func32, Try.ntmps32
  go_wp2_with fail
  refine (lay_any HM.out a).mono ?_
  rintro e w1 ⟨rfl, ha⟩
  have HA : Hid (SAft w base b _ w1) := ⟨ha.1, HF.out.trans ha.2⟩
  clear ha
  go_wp2
  go_end0
  exact ⟨rfl, HA.out⟩

theorem pass_2 {w : World} {base b : Nat} {pv sv dv : Value} {M : H.Mach} (h : SB w base b pv sv dv M) (v : InV) (k : Nat) (hk : k < 8) :
    Calls Try.prog 32 (passArgs b 2 (k : Int) v) w fun e w' => e = .returned (.tuple #[]) ∧ SAft w base b (H.push (M.cells.getD k 0) M) w' := by
  obtain ⟨fuel, k0, k1, k2, k3, k4, k5, k6, k7, what, by_, arg, src, route, ao, n, cap⟩ := v
  unfold passArgs InV.arr
  simp only at *
  obtain ⟨o2, ho2⟩ : ∃ o2, o2 = Obj.cells #[.int .i64 fuel, .int .u16 k0, .int .u16 k1, .int .u16 k2, .int .u16 k3, .int .u16 k4, .int .u16 k5, .int .u16 k6, .int .u16 k7, .int .u8 what, .int .u8 by_, .int .u16 arg, .int .u8 src, .int .u8 route, .slice ao n cap] 39 := ⟨_, rfl⟩
  have hbl := h.blk.lt
  have hlt := h.lt
  have HM : Hid (SB (w.alloc o2) base b pv sv dv M) := h.alloc o2
  have HF : Hid (SFr base w (w.alloc o2)) := (SFr.refl base w).alloc hlt o2
  have hb1 : ¬ b = w.heap.size := by omega
  have hb3 : ¬ w.heap.size = b := by omega
  have rc := h.ccell k hk
  obtain ⟨ck, hck⟩ : ∃ ck, ck = M.cells.getD k 0 := ⟨_, rfl⟩
  rw [← hck] at rc ⊢
  have hk0 : (0 : Int) ≤ (k : Int) := by omega
  have hk1 : (k : Int) < 8 := by omega
  clear hck
  subst ho2
  clear h
  go_enter Try.func32, Try.ntmps32
  go_wp2_with fail
  first | (go_region_with (go_at_call 35; refine (lay_any HM.out.drew ck).mono ?_; rintro e w1 ⟨rfl, ha⟩)) | (refine (lay_any HM.out ck).mono ?_; rintro e w1 ⟨rfl, ha⟩)
  have HA : Hid (SAft w base b _ w1) := ⟨ha.1, by first | exact HF.out.trans ha.2 | exact HF.out.drew.trans ha.2⟩
  clear ha
  go_wp2
  go_end0
  exact ⟨rfl, HA.out⟩

theorem pass_16 {w : World} {base b : Nat} {pv sv dv : Value} {M : H.Mach} (h : SB w base b pv sv dv M) (v : InV) (a : Int) (ha0 : -128 ≤ a) (ha1 : a ≤ 127) (hn0 : 0 ≤ M.next) (hn1 : M.next ≤ 900) :
    Calls Try.prog 32 (passArgs b 16 a v) w fun e w' => e = .returned (.tuple #[]) ∧ SAft w base b { M with next := M.next + a } w' := by
  obtain ⟨fuel, k0, k1, k2, k3, k4, k5, k6, k7, what, by_, arg, src, route, ao, n, cap⟩ := v
  unfold passArgs InV.arr
  simp only at *
  obtain ⟨o2, ho2⟩ : ∃ o2, o2 = Obj.cells #[.int .i64 fuel, .int .u16 k0, .int .u16 k1, .int .u16 k2, .int .u16 k3, .int .u16 k4, .int .u16 k5, .int .u16 k6, .int .u16 k7, .int .u8 what, .int .u8 by_, .int .u16 arg, .int .u8 src, .int .u8 route, .slice ao n cap] 39 := ⟨_, rfl⟩
  have hbl := h.blk.lt
  have hlt := h.lt
  have HM : Hid (SB (w.alloc o2) base b pv sv dv M) := h.alloc o2
  have HF : Hid (SFr base w (w.alloc o2)) := (SFr.refl base w).alloc hlt o2
  have hb1 : ¬ b = w.heap.size := by omega
  have hb3 : ¬ w.heap.size = b := by omega
  obtain ⟨nx, hnx⟩ : ∃ nx, nx = M.next := ⟨_, rfl⟩
  have c15 := h.c15
  have f15 := h.free 15
  rw [← hnx] at c15 hn0 hn1 ⊢
  have hw : IntKind.i64.wrap (nx + a) = nx + a := by rw [IntKind.wrap_i64]; omega
  have HM6 : Hid (SB ((w.setCell ⟨b, 15, none⟩ (.int .i64 (nx + a))).alloc o2) base b pv sv dv { M with next := nx + a }) := (h.set_next _).alloc o2
  have HF6 : Hid (SFr base w ((w.setCell ⟨b, 15, none⟩ (.int .i64 (nx + a))).alloc o2)) := (h.fr_set (SFr.refl base w) _ _).alloc (by simp [World.setCell]; omega) o2
  clear hnx
  subst ho2
  clear h
  go_enter Try.func32, Try.ntmps32
  go_wp2
  first | go_region | skip
  all_goals first | go_wp2 | skip
  all_goals go_end0
  all_goals first | exact ⟨rfl, ⟨⟨_, _, _, HM6.out⟩, HF6.out⟩⟩ | exact ⟨rfl, ⟨⟨_, _, _, HM6.out.drew⟩, HF6.out.drew⟩⟩

theorem pass_18 {w : World} {base b : Nat} {pv sv dv : Value} {M : H.Mach} (h : SB w base b pv sv dv M) (v : InV) (hv : v.ok) (a : Int) :
    Calls Try.prog 32 (passArgs b 18 a v) w fun e w' => e = .returned (.tuple #[]) ∧ SAft w base b (H.push v.what M) w' := by
  obtain ⟨fuel, k0, k1, k2, k3, k4, k5, k6, k7, what, by_, arg, src, route, ao, n, cap⟩ := v
  unfold passArgs InV.arr
  simp only at *
  obtain ⟨o2, ho2⟩ : ∃ o2, o2 = Obj.cells #[.int .i64 fuel, .int .u16 k0, .int .u16 k1, .int .u16 k2, .int .u16 k3, .int .u16 k4, .int .u16 k5, .int .u16 k6, .int .u16 k7, .int .u8 what, .int .u8 by_, .int .u16 arg, .int .u8 src, .int .u8 route, .slice ao n cap] 39 := ⟨_, rfl⟩
  have hbl := h.blk.lt
  have hlt := h.lt
  have HM : Hid (SB (w.alloc o2) base b pv sv dv M) := h.alloc o2
  have HF : Hid (SFr base w (w.alloc o2)) := (SFr.refl base w).alloc hlt o2
  have hb1 : ¬ b = w.heap.size := by omega
  have hb3 : ¬ w.heap.size = b := by omega
  obtain ⟨⟨wh0, wh1⟩, ⟨ar0, ar1⟩, ⟨sr0, sr1⟩, ⟨ro0, ro1⟩, hcs⟩ := hv
  simp only at wh0 wh1 ar0 ar1 sr0 sr1 ro0 ro1
  have e1 : IntKind.i64.wrap what = what := by rw [IntKind.wrap_i64]; omega
  have e2 : IntKind.i64.wrap arg = arg := by rw [IntKind.wrap_i64]; omega
  have e3 : IntKind.i64.wrap src = src := by rw [IntKind.wrap_i64]; omega
  have e4 : IntKind.i64.wrap route = route := by rw [IntKind.wrap_i64]; omega
  clear hcs
  have HM2 : Hid (SB ((w.alloc o2).alloc (.cells #[.int .i64 what, .int .i64 arg, .int .i64 src, .int .i64 route] 3)) base b pv sv dv M) := HM.out.alloc _
  have HF2 : Hid (SFr base w ((w.alloc o2).alloc (.cells #[.int .i64 what, .int .i64 arg, .int .i64 src, .int .i64 route] 3))) := HF.out.alloc (by simp; omega) _
  subst ho2
  clear h
  go_enter Try.func32, Try.ntmps32
  go_wp2_with fail
  refine (lay_any HM2.out what).mono ?_
  rintro e w1 ⟨rfl, ha⟩
  have HA : Hid (SAft w base b _ w1) := ⟨ha.1, HF2.out.trans ha.2⟩
  clear ha
  go_wp2
  go_end0
  exact ⟨rfl, HA.out⟩

theorem pass_19 {w : World} {base b : Nat} {pv sv dv : Value} {M : H.Mach} (h : SB w base b pv sv dv M) (v : InV) (hv : v.ok) (a : Int) :
    Calls Try.prog 32 (passArgs b 19 a v) w fun e w' => e = .returned (.tuple #[]) ∧ SAft w base b (H.push v.arg M) w' := by
  obtain ⟨fuel, k0, k1, k2, k3, k4, k5, k6, k7, what, by_, arg, src, route, ao, n, cap⟩ := v
  unfold passArgs InV.arr
  simp only at *
  obtain ⟨o2, ho2⟩ : ∃ o2, o2 = Obj.cells #[.int .i64 fuel, .int .u16 k0, .int .u16 k1, .int .u16 k2, .int .u16 k3, .int .u16 k4, .int .u16 k5, .int .u16 k6, .int .u16 k7, .int .u8 what, .int .u8 by_, .int .u16 arg, .int .u8 src, .int .u8 route, .slice ao n cap] 39 := ⟨_, rfl⟩
  have hbl := h.blk.lt
  have hlt := h.lt
  have HM : Hid (SB (w.alloc o2) base b pv sv dv M) := h.alloc o2
  have HF : Hid (SFr base w (w.alloc o2)) := (SFr.refl base w).alloc hlt o2
  have hb1 : ¬ b = w.heap.size := by omega
  have hb3 : ¬ w.heap.size = b := by omega
  obtain ⟨⟨wh0, wh1⟩, ⟨ar0, ar1⟩, ⟨sr0, sr1⟩, ⟨ro0, ro1⟩, hcs⟩ := hv
  simp only at wh0 wh1 ar0 ar1 sr0 sr1 ro0 ro1
  have e1 : IntKind.i64.wrap what = what := by rw [IntKind.wrap_i64]; omega
  have e2 : IntKind.i64.wrap arg = arg := by rw [IntKind.wrap_i64]; omega
  have e3 : IntKind.i64.wrap src = src := by rw [IntKind.wrap_i64]; omega
  have e4 : IntKind.i64.wrap route = route := by rw [IntKind.wrap_i64]; omega
  clear hcs
  have HM2 : Hid (SB ((w.alloc o2).alloc (.cells #[.int .i64 what, .int .i64 arg, .int .i64 src, .int .i64 route] 3)) base b pv sv dv M) := HM.out.alloc _
  have HF2 : Hid (SFr base w ((w.alloc o2).alloc (.cells #[.int .i64 what, .int .i64 arg, .int .i64 src, .int .i64 route] 3))) := HF.out.alloc (by simp; omega) _
  subst ho2
  clear h
  go_enter Try.func32, Try.ntmps32
  go_wp2_with fail
  refine (lay_any HM2.out arg).mono ?_
  rintro e w1 ⟨rfl, ha⟩
  have HA : Hid (SAft w base b _ w1) := ⟨ha.1, HF2.out.trans ha.2⟩
  clear ha
  go_wp2
  go_end0
  exact ⟨rfl, HA.out⟩

theorem pass_20 {w : World} {base b : Nat} {pv sv dv : Value} {M : H.Mach} (h : SB w base b pv sv dv M) (v : InV) (hv : v.ok) (a : Int) :
    Calls Try.prog 32 (passArgs b 20 a v) w fun e w' => e = .returned (.tuple #[]) ∧ SAft w base b (H.push v.src M) w' := by
  obtain ⟨fuel, k0, k1, k2, k3, k4, k5, k6, k7, what, by_, arg, src, route, ao, n, cap⟩ := v
  unfold passArgs InV.arr
  simp only at *
  obtain ⟨o2, ho2⟩ : ∃ o2, o2 = Obj.cells #[.int .i64 fuel, .int .u16 k0, .int .u16 k1, .int .u16 k2, .int .u16 k3, .int .u16 k4, .int .u16 k5, .int .u16 k6, .int .u16 k7, .int .u8 what, .int .u8 by_, .int .u16 arg, .int .u8 src, .int .u8 route, .slice ao n cap] 39 := ⟨_, rfl⟩
  have hbl := h.blk.lt
  have hlt := h.lt
  have HM : Hid (SB (w.alloc o2) base b pv sv dv M) := h.alloc o2
  have HF : Hid (SFr base w (w.alloc o2)) := (SFr.refl base w).alloc hlt o2
  have hb1 : ¬ b = w.heap.size := by omega
  have hb3 : ¬ w.heap.size = b := by omega
  obtain ⟨⟨wh0, wh1⟩, ⟨ar0, ar1⟩, ⟨sr0, sr1⟩, ⟨ro0, ro1⟩, hcs⟩ := hv
  simp only at wh0 wh1 ar0 ar1 sr0 sr1 ro0 ro1
  have e1 : IntKind.i64.wrap what = what := by rw [IntKind.wrap_i64]; omega
  have e2 : IntKind.i64.wrap arg = arg := by rw [IntKind.wrap_i64]; omega
  have e3 : IntKind.i64.wrap src = src := by rw [IntKind.wrap_i64]; omega
  have e4 : IntKind.i64.wrap route = route := by rw [IntKind.wrap_i64]; omega
  clear hcs
  have HM2 : Hid (SB ((w.alloc o2).alloc (.cells #[.int .i64 what, .int .i64 arg, .int .i64 src, .int .i64 route] 3)) base b pv sv dv M) := HM.out.alloc _
  have HF2 : Hid (SFr base w ((w.alloc o2).alloc (.cells #[.int .i64 what, .int .i64 arg, .int .i64 src, .int .i64 route] 3))) := HF.out.alloc (by simp; omega) _
  subst ho2
  clear h
  go_enter Try.func32, Try.ntmps32
  go_wp2_with fail
  refine (lay_any HM2.out src).mono ?_
  rintro e w1 ⟨rfl, ha⟩
  have HA : Hid (SAft w base b _ w1) := ⟨ha.1, HF2.out.trans ha.2⟩
  clear ha
  go_wp2
  go_end0
  exact ⟨rfl, HA.out⟩

theorem pass_21 {w : World} {base b : Nat} {pv sv dv : Value} {M : H.Mach} (h : SB w base b pv sv dv M) (v : InV) (hv : v.ok) (a : Int) :
    Calls Try.prog 32 (passArgs b 21 a v) w fun e w' => e = .returned (.tuple #[]) ∧ SAft w base b (H.push v.route M) w' := by
  obtain ⟨fuel, k0, k1, k2, k3, k4, k5, k6, k7, what, by_, arg, src, route, ao, n, cap⟩ := v
  unfold passArgs InV.arr
  simp only at *
  obtain ⟨o2, ho2⟩ : ∃ o2, o2 = Obj.cells #[.int .i64 fuel, .int .u16 k0, .int .u16 k1, .int .u16 k2, .int .u16 k3, .int .u16 k4, .int .u16 k5, .int .u16 k6, .int .u16 k7, .int .u8 what, .int .u8 by_, .int .u16 arg, .int .u8 src, .int .u8 route, .slice ao n cap] 39 := ⟨_, rfl⟩
  have hbl := h.blk.lt
  have hlt := h.lt
  have HM : Hid (SB (w.alloc o2) base b pv sv dv M) := h.alloc o2
  have HF : Hid (SFr base w (w.alloc o2)) := (SFr.refl base w).alloc hlt o2
  have hb1 : ¬ b = w.heap.size := by omega
  have hb3 : ¬ w.heap.size = b := by omega
  obtain ⟨⟨wh0, wh1⟩, ⟨ar0, ar1⟩, ⟨sr0, sr1⟩, ⟨ro0, ro1⟩, hcs⟩ := hv
  simp only at wh0 wh1 ar0 ar1 sr0 sr1 ro0 ro1
  have e1 : IntKind.i64.wrap what = what := by rw [IntKind.wrap_i64]; omega
  have e2 : IntKind.i64.wrap arg = arg := by rw [IntKind.wrap_i64]; omega
  have e3 : IntKind.i64.wrap src = src := by rw [IntKind.wrap_i64]; omega
  have e4 : IntKind.i64.wrap route = route := by rw [IntKind.wrap_i64]; omega
  clear hcs
  have HM2 : Hid (SB ((w.alloc o2).alloc (.cells #[.int .i64 what, .int .i64 arg, .int .i64 src, .int .i64 route] 3)) base b pv sv dv M) := HM.out.alloc _
  have HF2 : Hid (SFr base w ((w.alloc o2).alloc (.cells #[.int .i64 what, .int .i64 arg, .int .i64 src, .int .i64 route] 3))) := HF.out.alloc (by simp; omega) _
  subst ho2
  clear h
  go_enter Try.func32, Try.ntmps32
  go_wp2_with fail
  refine (lay_any HM2.out route).mono ?_
  rintro e w1 ⟨rfl, ha⟩
  have HA : Hid (SAft w base b _ w1) := ⟨ha.1, HF2.out.trans ha.2⟩
  clear ha
  go_wp2
  go_end0
  exact ⟨rfl, HA.out⟩

end Go.Proofs.Ytfggaacijcggeaa
