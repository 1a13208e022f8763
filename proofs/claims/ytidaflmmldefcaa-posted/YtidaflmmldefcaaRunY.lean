/-
  Run with a fuel that may not be.
-/
import Derived.Test.YtidaflmmldefcaaRunX
namespace Go.Proofs.Ytidaflmmldefcaa
open Go.RowKit
set_option linter.unusedVariables false

set_option maxRecDepth 100000 in
set_option maxHeartbeats 4000000 in
theorem runW_fuel (code : ByteArray) (v : InV) (ds : List Int) (w : World) (hc : code.size ≤ maxLen) (hv : v.ok) (hd : Drawn w v ds w.heap.size) (l : List (Int × Int)) (hd1 : H.decode (H.bts code) = (l, 0, 0)) (hl1 : 1 ≤ l.length) (hl64 : l.length ≤ 64) (hlok : H.okFrom l.length 0 l = true) (hf : v.fuel < 0 ∨ 1000 < v.fuel) :
    Calls Try.prog 48 #[.string code, .agg v.arr] w fun e w' => runEnd (H.run (H.bts code) v.cells (v.inp ds)) w.heap.size w e w' := by
  have Hc : Hid (code.size ≤ maxLen) := hc
  have Hv : Hid v.ok := hv
  have HD : Hid (Drawn w v ds w.heap.size) := hd
  obtain ⟨F, hF⟩ : ∃ F, F = v.fuel := ⟨_, rfl⟩
  have HF : Hid (F = v.fuel) := hF
  have harr : v.arr = #[.int .i64 F, .int .u16 v.c0, .int .u16 v.c1, .int .u16 v.c2, .int .u16 v.c3, .int .u16 v.c4, .int .u16 v.c5, .int .u16 v.c6, .int .u16 v.c7, .int .u8 v.what, .int .u8 v.by_, .int .u16 v.arg, .int .u8 v.src, .int .u8 v.route, .slice v.ao v.n v.cap] := by unfold InV.arr; rw [hF]
  have HArr : Hid (v.arr = #[.int .i64 F, .int .u16 v.c0, .int .u16 v.c1, .int .u16 v.c2, .int .u16 v.c3, .int .u16 v.c4, .int .u16 v.c5, .int .u16 v.c6, .int .u16 v.c7, .int .u8 v.what, .int .u8 v.by_, .int .u16 v.arg, .int .u8 v.src, .int .u8 v.route, .slice v.ao v.n v.cap]) := harr
  rw [harr]
  have HDE : Hid (H.decode (H.bts code) = (l, 0, 0)) := hd1
  clear hc hv hd hF harr hd1
  go_enter Try.func48, Try.ntmps48
  go_wp2_with fail
  refine (dec_any code _ Hc.out).mono ?_
  rintro e w1 ⟨v1, rfl, hown1, hb1⟩
  have hbw : Below w.heap.size w w1 := (((Below.refl _ _).alloc (Nat.le_refl _) _).alloc (by simp) _).trans (hb1.mono (by simp; omega))
  have HB1 : Hid (Below w.heap.size w w1) := hbw
  have hs1 := hbw.size
  have hs1b : w.heap.size + 2 ≤ w1.heap.size := by have := hb1.size; simp at this; omega
  have HX1 : Hid (Blk w1 w.heap.size v.arr 112) := by
    unfold Hid
    rw [HArr.out]
    exact ((Blk.new w _ 112).alloc _).below hb1 (by simp; omega)
  have HZ1 : Hid (Blk w1 (w.heap.size + 1) #[.int .u8 0, .int .i64 0, .int .i64 0, .int .u16 0, .int .u16 0, .int .u16 0, .int .u16 0, .int .u16 0, .int .u16 0, .int .u16 0, .int .u16 0, .slice none 0 0, .slice none 0 0] 115) := by
    have h := Blk.new (w.alloc (.cells #[.int .i64 F, .int .u16 v.c0, .int .u16 v.c1, .int .u16 v.c2, .int .u16 v.c3, .int .u16 v.c4, .int .u16 v.c5, .int .u16 v.c6, .int .u16 v.c7, .int .u8 v.what, .int .u8 v.by_, .int .u16 v.arg, .int .u8 v.src, .int .u8 v.route, .slice v.ao v.n v.cap] 112)) #[.int .u8 0, .int .i64 0, .int .i64 0, .int .u16 0, .int .u16 0, .int .u16 0, .int .u16 0, .int .u16 0, .int .u16 0, .int .u16 0, .int .u16 0, .slice none 0 0, .slice none 0 0] 115
    rw [show (w.alloc (.cells #[.int .i64 F, .int .u16 v.c0, .int .u16 v.c1, .int .u16 v.c2, .int .u16 v.c3, .int .u16 v.c4, .int .u16 v.c5, .int .u16 v.c6, .int .u16 v.c7, .int .u8 v.what, .int .u8 v.by_, .int .u16 v.arg, .int .u8 v.src, .int .u8 v.route, .slice v.ao v.n v.cap] 112)).heap.size = w.heap.size + 1 by simp] at h
    exact h.below hb1 (by simp)
  have z0 := HZ1.out.cell 0
  have z1 := HZ1.out.cell 1
  have z2 := HZ1.out.cell 2
  have z3 := HZ1.out.cell 3
  have z4 := HZ1.out.cell 4
  have z5 := HZ1.out.cell 5
  have z6 := HZ1.out.cell 6
  have z7 := HZ1.out.cell 7
  have z8 := HZ1.out.cell 8
  have z9 := HZ1.out.cell 9
  have z10 := HZ1.out.cell 10
  have z11 := HZ1.out.cell 11
  have z12 := HZ1.out.cell 12
  simp at z0 z1 z2 z3 z4 z5 z6 z7 z8 z9 z10 z11 z12
  have zf : ∀ i, w1.frozen? ⟨w.heap.size + 1, i, none⟩ = false := fun i => HZ1.out.free i
  have hd := HDE.out
  rw [← HF.out] at hf
  rw [hd] at hown1 ⊢
  simp only at hown1 ⊢
  obtain ⟨g, cv, rfl, hgl⟩ := own_slice hown1 (by omega)
  obtain ⟨n, hn⟩ : ∃ n, n = l.length := ⟨_, rfl⟩
  have Hn : Hid (l.length = n) := hn.symm
  rw [← hn] at hl1 hl64 hlok hown1 ⊢
  have HPA : Hid (ProgAt w1 g l) := own_progAt hown1 hn.symm
  have HLo : Hid (H.okFrom n 0 l = true) := hlok
  have Hd : Hid (H.decode (H.bts code) = (l, 0, 0)) := hd
  have Hop : Hid (∀ x ∈ l, 0 ≤ x.1) := by
    intro x hx
    have h := dec_ops (H.bts code) l (H.at0_bts_range code) hd x hx
    exact h
  have e0 := HX1.out.cell 0
  have e1 := HX1.out.cell 1
  have e2 := HX1.out.cell 2
  have e3 := HX1.out.cell 3
  have e4 := HX1.out.cell 4
  have e5 := HX1.out.cell 5
  have e6 := HX1.out.cell 6
  have e7 := HX1.out.cell 7
  have e8 := HX1.out.cell 8
  have e9 := HX1.out.cell 9
  have e10 := HX1.out.cell 10
  have e11 := HX1.out.cell 11
  have e12 := HX1.out.cell 12
  have e13 := HX1.out.cell 13
  have e14 := HX1.out.cell 14
  rw [HArr.out] at e0 e1 e2 e3 e4 e5 e6 e7 e8 e9 e10 e11 e12 e13 e14
  simp at e0 e1 e2 e3 e4 e5 e6 e7 e8 e9 e10 e11 e12 e13 e14
  clear hd hown1 hb1 hbw hn hlok
  have HE : Hid (H.run (H.bts code) v.cells (v.inp ds) = H.outNone 2) := by
    unfold Hid H.run; rw [Hd.out, if_pos rfl, if_pos (by rw [show (v.inp ds).fuel = F from HF.out.symm]; exact hf)]
  by_cases hf0 : F < 0
  · clear hf HX1 e1 e2 e3 e4 e5 e6 e7 e8 e9 e10 e11 e12 e13 e14
    go_wp2
    refine bodyPost_ret (v := .tuple #[.agg #[.int .u8 0, .int .i64 0, .int .i64 0, .int .u16 0, .int .u16 0, .int .u16 0, .int .u16 0, .int .u16 0, .int .u16 0, .int .u16 0, .int .u16 0, .slice none 0 0, .slice none 0 0], .int .i64 2]) ?_ rfl ?_
    · simp [results, Try.results48, go_sem, z0, z1, z2, z3, z4, z5, z6, z7, z8, z9, z10, z11, z12]
    · rw [HE.out]
      exact runEnd_none (below_13 HB1.out (by omega) _ _ _ _ _ _ _ _ _ _ _ _ _)
  · have hf1 : 1000 < F := by omega
    have hf2 : decide (F < 0) = false := by simp; omega
    clear hf hf0 HX1 e1 e2 e3 e4 e5 e6 e7 e8 e9 e10 e11 e12 e13 e14
    go_wp2
    refine bodyPost_ret (v := .tuple #[.agg #[.int .u8 0, .int .i64 0, .int .i64 0, .int .u16 0, .int .u16 0, .int .u16 0, .int .u16 0, .int .u16 0, .int .u16 0, .int .u16 0, .int .u16 0, .slice none 0 0, .slice none 0 0], .int .i64 2]) ?_ rfl ?_
    · simp [results, Try.results48, go_sem, z0, z1, z2, z3, z4, z5, z6, z7, z8, z9, z10, z11, z12]
    · rw [HE.out]
      exact runEnd_none (below_13 HB1.out (by omega) _ _ _ _ _ _ _ _ _ _ _ _ _)

end Go.Proofs.Ytidaflmmldefcaa
