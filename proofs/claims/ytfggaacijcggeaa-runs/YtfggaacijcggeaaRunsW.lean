/-
  The walk of Runs.
-/
import Derived.Test.YtfggaacijcggeaaRunsT
import Derived.Test.YtfggaacijcggeaaROut
import Derived.Test.YtfggaacijcggeaaROutc
import Derived.Test.YtfggaacijcggeaaRKept
import Derived.BigQuiet
namespace Go.Proofs.Ytfggaacijcggeaa
open Go.RowKit
set_option linter.unusedVariables false

set_option maxRecDepth 100000 in
set_option maxHeartbeats 16000000 in
theorem runs_any (code other : ByteArray) (v : InV) (ds : List Int) (w : World) (hc : code.size ≤ maxLen) (hot : other.size ≤ maxLen) (hv : v.ok) (hd : Drawn w v ds w.heap.size) (hn : v.n ≤ 70368744175616) (hn0 : v.ao = none → v.n = 0 ∧ v.cap = 0) :
    Calls Try.prog 4 #[.string code, .agg v.arr, .string other] w fun e w' => e = .returned (.bool true) ∧ Below w.heap.size w w' := by
  obtain ⟨i0, hi, hz0, hz1, hz2⟩ := info_parts info33
  have hrng := hd.rng
  obtain ⟨O1, hO1⟩ : ∃ O, O = H.run (H.bts code) v.cells (v.inp ds) := ⟨_, rfl⟩
  obtain ⟨O2, hO2⟩ : ∃ O, O = H.run (H.bts other) v.cells (v.inp ds) := ⟨_, rfl⟩
  obtain ⟨hl1, ht1⟩ := run_lists code v hv ds hrng
  obtain ⟨hl2, ht2⟩ := run_lists other v hv ds hrng
  rw [← hO1] at hl1 ht1
  rw [← hO2] at hl2 ht2
  have HDr : Hid (Drawn w v ds w.heap.size) := hd
  have HV1 : Hid (∀ (g : Nat) (W : World), Drawn W (reDraw v g) ds W.heap.size → Calls Try.prog 13 #[.string code, .agg (reDraw v g).arr] W fun e w' => runEnd O1 W.heap.size W e w') := by
    intro g W hW
    rw [hO1]
    exact runW_any code (reDraw v g) ds W hc (reDraw_ok hv g) hW
  have HR1 : Hid (∀ (W : World), Drawn W v ds W.heap.size → Calls Try.prog 14 #[.string code, .agg v.arr] W fun e w' => runEnd O1 W.heap.size W e w') := by
    intro W hW
    rw [hO1]
    exact refR_any code v ds W hc hv hW
  have HS1 : Hid (∀ (sv dv sv2 dv2 : Value) (b1 b2 : Nat) (w : World), w.ownsRow b1 62 2 sv O1.shows.length (showCells O1.shows) → w.ownsRow b1 85 2 dv O1.sends.length (sendCells O1.sends) → w.ownsRow b2 62 2 sv2 O1.shows.length (showCells O1.shows) → w.ownsRow b2 85 2 dv2 O1.sends.length (sendCells O1.sends) → Calls Try.prog 15 #[outVal O1 sv dv, outVal O1 sv2 dv2] w fun e w' => e = .returned (.bool true) ∧ Below w.heap.size w w') := fun sv dv sv2 dv2 b1 b2 w h1 h2 h3 h4 => sameO_any O1 sv dv sv2 dv2 b1 b2 w hl1 ht1 h1 h2 h3 h4
  have HU1 : Hid (∀ (sv dv : Value) (base : Nat) (c : Int) (w : World), base ≤ w.heap.size → w.ownsRow base 62 2 sv O1.shows.length (showCells O1.shows) → w.ownsRow base 85 2 dv O1.sends.length (sendCells O1.sends) → Calls Try.prog 16 #[outVal O1 sv dv, .int .u16 c] w fun e w' => outsEnd sv.ownBlock dv.ownBlock c w e w') := fun sv dv base c w h0 h1 h2 => outs_any O1 sv dv base c w hl1 ht1 h0 h1 h2
  have HV2 : Hid (∀ (g : Nat) (W : World), Drawn W (reDraw v g) ds W.heap.size → Calls Try.prog 13 #[.string other, .agg (reDraw v g).arr] W fun e w' => runEnd O2 W.heap.size W e w') := by
    intro g W hW
    rw [hO2]
    exact runW_any other (reDraw v g) ds W hot (reDraw_ok hv g) hW
  have HR2 : Hid (∀ (W : World), Drawn W v ds W.heap.size → Calls Try.prog 14 #[.string other, .agg v.arr] W fun e w' => runEnd O2 W.heap.size W e w') := by
    intro W hW
    rw [hO2]
    exact refR_any other v ds W hot hv hW
  have HS2 : Hid (∀ (sv dv sv2 dv2 : Value) (b1 b2 : Nat) (w : World), w.ownsRow b1 62 2 sv O2.shows.length (showCells O2.shows) → w.ownsRow b1 85 2 dv O2.sends.length (sendCells O2.sends) → w.ownsRow b2 62 2 sv2 O2.shows.length (showCells O2.shows) → w.ownsRow b2 85 2 dv2 O2.sends.length (sendCells O2.sends) → Calls Try.prog 15 #[outVal O2 sv dv, outVal O2 sv2 dv2] w fun e w' => e = .returned (.bool true) ∧ Below w.heap.size w w') := fun sv dv sv2 dv2 b1 b2 w h1 h2 h3 h4 => sameO_any O2 sv dv sv2 dv2 b1 b2 w hl2 ht2 h1 h2 h3 h4
  have HU2 : Hid (∀ (sv dv : Value) (base : Nat) (c : Int) (w : World), base ≤ w.heap.size → w.ownsRow base 62 2 sv O2.shows.length (showCells O2.shows) → w.ownsRow base 85 2 dv O2.sends.length (sendCells O2.sends) → Calls Try.prog 16 #[outVal O2 sv dv, .int .u16 c] w fun e w' => outsEnd sv.ownBlock dv.ownBlock c w e w') := fun sv dv base c w h0 h1 h2 => outs_any O2 sv dv base c w hl2 ht2 h0 h1 h2
  clear hO1 hO2 hl1 hl2 ht1 ht2 hc hot hv hd hrng
  obtain ⟨f1, s1, d1, c1, L1, T1, r1⟩ := O1
  unfold outVal outAgg at HS1 HU1
  unfold runEnd outVal outAgg at HV1 HR1
  simp only at HS1 HU1 HV1 HR1
  generalize c1.getD 0 0 = a10 at HS1 HU1 HV1 HR1
  generalize c1.getD 1 0 = a11 at HS1 HU1 HV1 HR1
  generalize c1.getD 2 0 = a12 at HS1 HU1 HV1 HR1
  generalize c1.getD 3 0 = a13 at HS1 HU1 HV1 HR1
  generalize c1.getD 4 0 = a14 at HS1 HU1 HV1 HR1
  generalize c1.getD 5 0 = a15 at HS1 HU1 HV1 HR1
  generalize c1.getD 6 0 = a16 at HS1 HU1 HV1 HR1
  generalize c1.getD 7 0 = a17 at HS1 HU1 HV1 HR1
  generalize L1.length = n1 at HS1 HU1 HV1 HR1
  generalize T1.length = m1 at HS1 HU1 HV1 HR1
  obtain ⟨f2, s2, d2, c2, L2, T2, r2⟩ := O2
  unfold outVal outAgg at HS2 HU2
  unfold runEnd outVal outAgg at HV2 HR2
  simp only at HS2 HU2 HV2 HR2
  generalize c2.getD 0 0 = a20 at HS2 HU2 HV2 HR2
  generalize c2.getD 1 0 = a21 at HS2 HU2 HV2 HR2
  generalize c2.getD 2 0 = a22 at HS2 HU2 HV2 HR2
  generalize c2.getD 3 0 = a23 at HS2 HU2 HV2 HR2
  generalize c2.getD 4 0 = a24 at HS2 HU2 HV2 HR2
  generalize c2.getD 5 0 = a25 at HS2 HU2 HV2 HR2
  generalize c2.getD 6 0 = a26 at HS2 HU2 HV2 HR2
  generalize c2.getD 7 0 = a27 at HS2 HU2 HV2 HR2
  generalize L2.length = n2 at HS2 HU2 HV2 HR2
  generalize T2.length = m2 at HS2 HU2 HV2 HR2
  obtain ⟨fu, k0, k1, k2, k3, k4, k5, k6, k7, what, by_, arg, src, route, da, n, dc⟩ := v
  unfold reDraw at HV1 HV2
  unfold InV.arr at HV1 HV2 HR1 HR2 ⊢
  simp only at hn hn0 HV1 HV2 HR1 HR2 ⊢
  go_enter Try.func4, Try.ntmps4
  go_wp2_with (at_make; refine wpList_make_full _ rfl (.tmp 32) (.tmp 32) 37 rfl (w.heap.size + 1) 33 i0 (.int .u16 0) 1 Try.underlying37 hi hz0 hz1 .i64 .i64 _ _ (n + 1) rfl rfl (by first | rfl | go_num | (simp; omega) | omega) (by first | rfl | go_num | (simp; omega) | omega) (by rw [hz2]; omega) (by unfold maxLen; omega) (by simp) ?_)
  intro w2 ho2 hg2
  obtain ⟨cur, hcur, hcs⟩ : ∃ cur : Array Value, w2.heap[w.heap.size + 1]? = some (.cells cur 33 (0, 0)) ∧ cur.toList = (madeCells #[.int .u16 0] (n + 1)).toList := by
    rcases ho2.2 with ⟨h, _⟩ | ⟨g, cp, cur, h, _, h2, _, _, h5, h6⟩
    · simp at h
    · simp only [Value.slice.injEq, Option.some.injEq, Addr.mk.injEq, and_true, true_and] at h
      obtain ⟨rfl, rfl⟩ := h
      refine ⟨cur, h2, ?_⟩
      rw [List.take_of_length_le (by simp [h5])] at h6
      exact h6
  have hnl : (u16s ds).length = n := by rw [u16s_len]; exact HDr.out.len
  have hcz : cur.size = n + 1 := by
    have := congrArg List.length hcs
    simpa [madeCells] using this
  have hdrop : cur.toList.drop (u16s ds).length = [.int .u16 0] := by
    rw [hcs, hnl]
    have h := made_last1 (.int .u16 0) n
    rwa [Nat.mul_one] at h
  have hb2 : Below w.heap.size w w2 := ((Below.refl _ _).alloc (Nat.le_refl _) _).grown hg2 (by simp) (by simp)
  have hX2 : Blk w2 w.heap.size #[.int .i64 fu, .int .u16 k0, .int .u16 k1, .int .u16 k2, .int .u16 k3, .int .u16 k4, .int .u16 k5, .int .u16 k6, .int .u16 k7, .int .u8 what, .int .u8 by_, .int .u16 arg, .int .u8 src, .int .u8 route, .slice da n dc] 39 := (Blk.new w _ 39).grown hg2 (by simp)
  have hsrc : (da = none ∧ n = 0 ∧ dc = 0) ∨ ∃ a, da = some a ∧ ∀ j x, (u16s ds)[j]? = some x → w2.cell? (a.add j) = some x := by
    cases da with
    | none => exact Or.inl ⟨rfl, hn0 rfl⟩
    | some a =>
      refine Or.inr ⟨a, rfl, ?_⟩
      intro j x hj
      obtain ⟨bd, off, h3, h4⟩ := (HDr.out.fr hb2).row
      have hjl : j < n := by rw [← hnl]; exact (List.getElem?_eq_some_iff.1 hj).1
      obtain ⟨e1, e2⟩ := h3 (show 0 < n by omega)
      simp only [Option.some.injEq] at e1
      subst e1
      have hdl : j < ds.length := by rw [u16s_len] at hnl; omega
      have hx : ds[j]? = some ds[j] := List.getElem?_eq_getElem hdl
      have h5 := h4 j _ hx
      rw [u16s_at hx] at hj
      rw [Addr.add_lit, h5, ← hj]
  have hcopy := run_copy_one w2 (w.heap.size + 1) n (n + 1) da dc cur (u16s ds) hcur hnl hsrc (by rw [hnl, hcz]; omega) (u16s_one ds)
  rw [hdrop] at hcopy
  have hblk : Blk (w2.setRow (w.heap.size + 1) (u16s ds ++ ([.int .u16 0] : List Value)).toArray) (w.heap.size + 1) (u16s ds ++ ([.int .u16 0] : List Value)).toArray 33 := setRow_heap w2 (w.heap.size + 1) cur _ 33 (0, 0) hcur
  have hbel : Below (w.heap.size + 1) w2 (w2.setRow (w.heap.size + 1) (u16s ds ++ ([.int .u16 0] : List Value)).toArray) := below_setRow (Below.refl _ _) (Nat.le_refl _) _
  have hX3 := hX2.below hbel (by omega)
  have xx : w2.cell? ⟨w.heap.size, 14, none⟩ = some (.slice da n dc) := by rw [hX2.cell 14]; rfl
  have hb3 := hb2.trans (hbel.mono (by omega))
  have HNL : Hid ((u16s ds).length = n) := hnl
  clear ho2 hg2 hcur hcs hnl hcz hdrop hsrc hb2 hX2 hbel
  generalize w2.setRow (w.heap.size + 1) (u16s ds ++ ([.int .u16 0] : List Value)).toArray = w3 at hcopy hblk hX3 hb3
  have c1 : w3.cell? ⟨w.heap.size + 1, n, none⟩ = some (.int .u16 0) := by
    rw [hblk.cell, ← HNL.out]
    simp
  have fz := hblk.free n
  obtain ⟨w4, hw4⟩ : ∃ w4, w4 = w3.setCell ⟨w.heap.size + 1, n, none⟩ (.int .u16 200) := ⟨_, rfl⟩
  have hG4 : Blk w4 (w.heap.size + 1) (u16s ds ++ ([.int .u16 200] : List Value)).toArray 33 := by
    rw [hw4]
    have h3 := hblk.set n (.int .u16 200)
    have e3 : (u16s ds ++ ([.int .u16 0] : List Value)).toArray.setIfInBounds n (.int .u16 200) = (u16s ds ++ ([.int .u16 200] : List Value)).toArray := by
      rw [← HNL.out]
      apply Array.ext'
      simp
    rw [e3] at h3
    exact h3
  have hX4 : Blk w4 w.heap.size #[.int .i64 fu, .int .u16 k0, .int .u16 k1, .int .u16 k2, .int .u16 k3, .int .u16 k4, .int .u16 k5, .int .u16 k6, .int .u16 k7, .int .u8 what, .int .u8 by_, .int .u16 arg, .int .u8 src, .int .u8 route, .slice da n dc] 39 := by rw [hw4]; exact hX3.other ⟨w.heap.size + 1, n, none⟩ _ (by simp)
  have hb4 : Below w.heap.size w w4 := by rw [hw4]; exact hb3.setCell (p := ⟨w.heap.size + 1, n, none⟩) (by simp) _
  have hni : (n : Int) < (n : Int) + 1 := by omega
  have hni2 : (n : Int) ≤ (n : Int) + 1 := by omega
  have hpos : (0 : Int) ≤ (n : Int) := by omega
  go_upto_region 5 with fail
  rw [← hw4]
  clear hblk hX3 hb3 hcopy hw4 c1 fz xx
  have hl4 := hG4.lt
  obtain ⟨g, hg⟩ : ∃ g, g = w.heap.size + 1 := ⟨_, rfl⟩
  rw [← hg] at hG4 hl4 ⊢
  have hgw : w.heap.size < g := by omega
  clear hg
  have HG4 : Hid (Blk w4 g (u16s ds ++ ([.int .u16 200] : List Value)).toArray 33) := hG4
  have HX4 : Hid (Blk w4 w.heap.size #[.int .i64 fu, .int .u16 k0, .int .u16 k1, .int .u16 k2, .int .u16 k3, .int .u16 k4, .int .u16 k5, .int .u16 k6, .int .u16 k7, .int .u8 what, .int .u8 by_, .int .u16 arg, .int .u8 src, .int .u8 route, .slice da n dc] 39) := hX4
  have HB4 : Hid (Below w.heap.size w w4) := hb4
  have x0 : w4.cell? ⟨w.heap.size, 0, none⟩ = some (.int .i64 fu) := by rw [hX4.cell 0]; rfl
  have x1 : w4.cell? ⟨w.heap.size, 1, none⟩ = some (.int .u16 k0) := by rw [hX4.cell 1]; rfl
  have x2 : w4.cell? ⟨w.heap.size, 2, none⟩ = some (.int .u16 k1) := by rw [hX4.cell 2]; rfl
  have x3 : w4.cell? ⟨w.heap.size, 3, none⟩ = some (.int .u16 k2) := by rw [hX4.cell 3]; rfl
  have x4 : w4.cell? ⟨w.heap.size, 4, none⟩ = some (.int .u16 k3) := by rw [hX4.cell 4]; rfl
  have x5 : w4.cell? ⟨w.heap.size, 5, none⟩ = some (.int .u16 k4) := by rw [hX4.cell 5]; rfl
  have x6 : w4.cell? ⟨w.heap.size, 6, none⟩ = some (.int .u16 k5) := by rw [hX4.cell 6]; rfl
  have x7 : w4.cell? ⟨w.heap.size, 7, none⟩ = some (.int .u16 k6) := by rw [hX4.cell 7]; rfl
  have x8 : w4.cell? ⟨w.heap.size, 8, none⟩ = some (.int .u16 k7) := by rw [hX4.cell 8]; rfl
  have x9 : w4.cell? ⟨w.heap.size, 9, none⟩ = some (.int .u8 what) := by rw [hX4.cell 9]; rfl
  have x10 : w4.cell? ⟨w.heap.size, 10, none⟩ = some (.int .u8 by_) := by rw [hX4.cell 10]; rfl
  have x11 : w4.cell? ⟨w.heap.size, 11, none⟩ = some (.int .u16 arg) := by rw [hX4.cell 11]; rfl
  have x12 : w4.cell? ⟨w.heap.size, 12, none⟩ = some (.int .u8 src) := by rw [hX4.cell 12]; rfl
  have x13 : w4.cell? ⟨w.heap.size, 13, none⟩ = some (.int .u8 route) := by rw [hX4.cell 13]; rfl
  have x14 : w4.cell? ⟨w.heap.size, 14, none⟩ = some (.slice da n dc) := by rw [hX4.cell 14]; rfl
  obtain ⟨w6, hw6⟩ : ∃ w6, w6 = w4.alloc (.cells #[.int .i64 fu, .int .u16 k0, .int .u16 k1, .int .u16 k2, .int .u16 k3, .int .u16 k4, .int .u16 k5, .int .u16 k6, .int .u16 k7, .int .u8 what, .int .u8 by_, .int .u16 arg, .int .u8 src, .int .u8 route, .slice (some ⟨g, 0, none⟩) n (n + 1)] 39) := ⟨_, rfl⟩
  have HY6 : Hid (Blk w6 w4.heap.size #[.int .i64 fu, .int .u16 k0, .int .u16 k1, .int .u16 k2, .int .u16 k3, .int .u16 k4, .int .u16 k5, .int .u16 k6, .int .u16 k7, .int .u8 what, .int .u8 by_, .int .u16 arg, .int .u8 src, .int .u8 route, .slice (some ⟨g, 0, none⟩) n (n + 1)] 39) := by
    unfold Hid; rw [hw6]; exact Blk.new w4 _ 39
  have hw46 : Below w4.heap.size w4 w6 := by rw [hw6]; exact (Below.refl _ _).alloc (Nat.le_refl _) _
  clear hG4 hX4 hb4
  go_upto_region 7 with fail
  rw [← hw6]
  clear x0 x1 x2 x3 x4 x5 x6 x7 x8 x9 x10 x11 x12 x13 x14
  have HX6 : Hid (Blk w6 w.heap.size #[.int .i64 fu, .int .u16 k0, .int .u16 k1, .int .u16 k2, .int .u16 k3, .int .u16 k4, .int .u16 k5, .int .u16 k6, .int .u16 k7, .int .u8 what, .int .u8 by_, .int .u16 arg, .int .u8 src, .int .u8 route, .slice da n dc] 39) := HX4.out.below hw46 HX4.out.lt
  have HG6 : Hid (Blk w6 g (u16s ds ++ ([.int .u16 200] : List Value)).toArray 33) := HG4.out.below hw46 HG4.out.lt
  have HB6 : Hid (Below w.heap.size w w6) := HB4.out.trans (hw46.mono HB4.out.size)
  have hY6 := HY6.out.lt
  obtain ⟨Y, hY⟩ : ∃ Y, Y = w4.heap.size := ⟨_, rfl⟩
  rw [← hY] at HY6 hY6 hl4 ⊢
  clear hw6 hw46 HX4 HG4 HB4 hY
  have hs6 := HB6.out.size
  have Hn : Hid (ds.length = n) := HDr.out.len
  have HMx : Hid (n ≤ maxLen) := HDr.out.max
  have HGd : Hid (∀ W, Below w6.heap.size w6 W → ∀ i x, ds[i]? = some x → W.cell? ⟨g, i, none⟩ = some (.int .u16 x)) := by
    intro W hW i x hx
    have h := HG6.out.below hW HG6.out.lt
    have hil := (List.getElem?_eq_some_iff.1 hx).1
    rw [h.cell]
    simp [List.getElem?_append_left (show i < (u16s ds).length by rw [u16s_len]; exact hil), u16s_at hx]
  have HDo : Hid (∀ W, Below w6.heap.size w6 W → Drawn W { fuel := fu, c0 := k0, c1 := k1, c2 := k2, c3 := k3, c4 := k4, c5 := k5, c6 := k6, c7 := k7, what := what, by_ := by_, arg := arg, src := src, route := route, ao := some ⟨g, 0, none⟩, n := n, cap := n + 1 } ds W.heap.size) := by
    intro W hW
    refine ⟨Hn.out, HMx.out, ⟨g, 0, fun _ => ⟨rfl, by have := HG6.out.lt; have := hW.size; omega⟩, ?_⟩, HDr.out.rng⟩
    intro i x hx
    rw [Nat.zero_add]
    exact HGd.out W hW i x hx
  have HDi : Hid (∀ W, Below w6.heap.size w6 W → Drawn W { fuel := fu, c0 := k0, c1 := k1, c2 := k2, c3 := k3, c4 := k4, c5 := k5, c6 := k6, c7 := k7, what := what, by_ := by_, arg := arg, src := src, route := route, ao := da, n := n, cap := dc } ds W.heap.size) := by
    intro W hW
    have hb : Below w.heap.size w W := HB6.out.trans (hW.mono hs6)
    obtain ⟨h1, h2, ⟨bd, off, h3, h4⟩, h5⟩ := HDr.out.fr hb
    have hsz := hb.size
    exact ⟨h1, h2, ⟨bd, off, fun h => ⟨(h3 h).1, by have := (h3 h).2; omega⟩, h4⟩, h5⟩
  clear hn0
  have BK6 : Hid (Below w6.heap.size w6 w6) := Below.refl _ _
  have hYp := HY6.out.below BK6.out HY6.out.lt
  have y0 : w6.cell? ⟨Y, 0, none⟩ = some (.int .i64 fu) := by rw [hYp.cell 0]; rfl
  have y1 : w6.cell? ⟨Y, 1, none⟩ = some (.int .u16 k0) := by rw [hYp.cell 1]; rfl
  have y2 : w6.cell? ⟨Y, 2, none⟩ = some (.int .u16 k1) := by rw [hYp.cell 2]; rfl
  have y3 : w6.cell? ⟨Y, 3, none⟩ = some (.int .u16 k2) := by rw [hYp.cell 3]; rfl
  have y4 : w6.cell? ⟨Y, 4, none⟩ = some (.int .u16 k3) := by rw [hYp.cell 4]; rfl
  have y5 : w6.cell? ⟨Y, 5, none⟩ = some (.int .u16 k4) := by rw [hYp.cell 5]; rfl
  have y6 : w6.cell? ⟨Y, 6, none⟩ = some (.int .u16 k5) := by rw [hYp.cell 6]; rfl
  have y7 : w6.cell? ⟨Y, 7, none⟩ = some (.int .u16 k6) := by rw [hYp.cell 7]; rfl
  have y8 : w6.cell? ⟨Y, 8, none⟩ = some (.int .u16 k7) := by rw [hYp.cell 8]; rfl
  have y9 : w6.cell? ⟨Y, 9, none⟩ = some (.int .u8 what) := by rw [hYp.cell 9]; rfl
  have y10 : w6.cell? ⟨Y, 10, none⟩ = some (.int .u8 by_) := by rw [hYp.cell 10]; rfl
  have y11 : w6.cell? ⟨Y, 11, none⟩ = some (.int .u16 arg) := by rw [hYp.cell 11]; rfl
  have y12 : w6.cell? ⟨Y, 12, none⟩ = some (.int .u8 src) := by rw [hYp.cell 12]; rfl
  have y13 : w6.cell? ⟨Y, 13, none⟩ = some (.int .u8 route) := by rw [hYp.cell 13]; rfl
  have y14 : w6.cell? ⟨Y, 14, none⟩ = some (.slice (some ⟨g, 0, none⟩) n (n + 1)) := by rw [hYp.cell 14]; rfl
  clear hYp
  go_wp2_with fail
  refine (HV1.out g w6 (HDo.out w6 BK6.out)).mono ?_
  rintro e w7 ⟨sv, dv, rfl, hs, hd, hb⟩
  obtain ⟨so1, sc1, rfl⟩ := own_shape hs
  obtain ⟨do1, dc1, rfl⟩ := own_shape hd
  have RW1 : Hid (w7.ownsRow w6.heap.size 62 2 (.slice so1 n1 sc1) n1 (showCells L1) ∧ w7.ownsRow w6.heap.size 85 2 (.slice do1 m1 dc1) m1 (sendCells T1)) := ⟨hs, hd⟩
  have HB6_7 : Hid (Below w6.heap.size w6 w7) := hb
  have BK7 : Hid (Below w6.heap.size w6 w7) := BK6.out.trans (hb.mono BK6.out.size)
  have hz6_7 := hb.size
  clear hs hd hb
  clear y0 y1 y2 y3 y4 y5 y6 y7 y8 y9 y10 y11 y12 y13 y14
  obtain ⟨w8, hw8⟩ : ∃ w8, w8 = w7.alloc (.cells #[.int .u8 f1, .int .i64 (s1 : Int), .int .i64 (d1 : Int), .int .u16 a10, .int .u16 a11, .int .u16 a12, .int .u16 a13, .int .u16 a14, .int .u16 a15, .int .u16 a16, .int .u16 a17, .slice so1 n1 sc1, .slice do1 m1 dc1] 43) := ⟨_, rfl⟩
  have HB7_8 : Hid (Below w7.heap.size w7 w8) := by unfold Hid; rw [hw8]; exact (Below.refl _ _).alloc (Nat.le_refl _) _
  have HA : Hid (Blk w8 w7.heap.size #[.int .u8 f1, .int .i64 (s1 : Int), .int .i64 (d1 : Int), .int .u16 a10, .int .u16 a11, .int .u16 a12, .int .u16 a13, .int .u16 a14, .int .u16 a15, .int .u16 a16, .int .u16 a17, .slice so1 n1 sc1, .slice do1 m1 dc1] 43) := by unfold Hid; rw [hw8]; exact Blk.new w7 _ 43
  go_upto_region 8 with fail
  rw [← hw8]
  clear hw8
  have BK8 : Hid (Below w6.heap.size w6 w8) := BK7.out.trans (HB7_8.out.mono BK7.out.size)
  have hz7_8 : w7.heap.size < w8.heap.size := HA.out.lt
  obtain ⟨A, hA⟩ : ∃ x, x = w7.heap.size := ⟨_, rfl⟩
  rw [← hA] at HA ⊢
  have hA1 : w7.heap.size ≤ A := by omega
  have hA2 : A < w8.heap.size := by omega
  clear hA
  have hXp := HX6.out.below BK8.out HX6.out.lt
  have x0 : w8.cell? ⟨w.heap.size, 0, none⟩ = some (.int .i64 fu) := by rw [hXp.cell 0]; rfl
  have x1 : w8.cell? ⟨w.heap.size, 1, none⟩ = some (.int .u16 k0) := by rw [hXp.cell 1]; rfl
  have x2 : w8.cell? ⟨w.heap.size, 2, none⟩ = some (.int .u16 k1) := by rw [hXp.cell 2]; rfl
  have x3 : w8.cell? ⟨w.heap.size, 3, none⟩ = some (.int .u16 k2) := by rw [hXp.cell 3]; rfl
  have x4 : w8.cell? ⟨w.heap.size, 4, none⟩ = some (.int .u16 k3) := by rw [hXp.cell 4]; rfl
  have x5 : w8.cell? ⟨w.heap.size, 5, none⟩ = some (.int .u16 k4) := by rw [hXp.cell 5]; rfl
  have x6 : w8.cell? ⟨w.heap.size, 6, none⟩ = some (.int .u16 k5) := by rw [hXp.cell 6]; rfl
  have x7 : w8.cell? ⟨w.heap.size, 7, none⟩ = some (.int .u16 k6) := by rw [hXp.cell 7]; rfl
  have x8 : w8.cell? ⟨w.heap.size, 8, none⟩ = some (.int .u16 k7) := by rw [hXp.cell 8]; rfl
  have x9 : w8.cell? ⟨w.heap.size, 9, none⟩ = some (.int .u8 what) := by rw [hXp.cell 9]; rfl
  have x10 : w8.cell? ⟨w.heap.size, 10, none⟩ = some (.int .u8 by_) := by rw [hXp.cell 10]; rfl
  have x11 : w8.cell? ⟨w.heap.size, 11, none⟩ = some (.int .u16 arg) := by rw [hXp.cell 11]; rfl
  have x12 : w8.cell? ⟨w.heap.size, 12, none⟩ = some (.int .u8 src) := by rw [hXp.cell 12]; rfl
  have x13 : w8.cell? ⟨w.heap.size, 13, none⟩ = some (.int .u8 route) := by rw [hXp.cell 13]; rfl
  have x14 : w8.cell? ⟨w.heap.size, 14, none⟩ = some (.slice da n dc) := by rw [hXp.cell 14]; rfl
  clear hXp
  go_wp2_with fail
  refine (HR1.out w8 (HDi.out w8 BK8.out)).mono ?_
  rintro e w9 ⟨sv, dv, rfl, hs, hd, hb⟩
  obtain ⟨so2, sc2, rfl⟩ := own_shape hs
  obtain ⟨do2, dc2, rfl⟩ := own_shape hd
  have RW2 : Hid (w9.ownsRow w8.heap.size 62 2 (.slice so2 n1 sc2) n1 (showCells L1) ∧ w9.ownsRow w8.heap.size 85 2 (.slice do2 m1 dc2) m1 (sendCells T1)) := ⟨hs, hd⟩
  have HB8_9 : Hid (Below w8.heap.size w8 w9) := hb
  have BK9 : Hid (Below w6.heap.size w6 w9) := BK8.out.trans (hb.mono BK8.out.size)
  have hz8_9 := hb.size
  clear hs hd hb
  clear x0 x1 x2 x3 x4 x5 x6 x7 x8 x9 x10 x11 x12 x13 x14
  have HA9 := show Hid (Blk w9 A _ 43) from HA.out.below HB8_9.out HA.out.lt
  obtain ⟨w10, hw10⟩ : ∃ w10, w10 = w9.alloc (.cells #[.int .u8 f1, .int .i64 (s1 : Int), .int .i64 (d1 : Int), .int .u16 a10, .int .u16 a11, .int .u16 a12, .int .u16 a13, .int .u16 a14, .int .u16 a15, .int .u16 a16, .int .u16 a17, .slice so2 n1 sc2, .slice do2 m1 dc2] 43) := ⟨_, rfl⟩
  have HB9_10 : Hid (Below w9.heap.size w9 w10) := by unfold Hid; rw [hw10]; exact (Below.refl _ _).alloc (Nat.le_refl _) _
  have HB : Hid (Blk w10 w9.heap.size #[.int .u8 f1, .int .i64 (s1 : Int), .int .i64 (d1 : Int), .int .u16 a10, .int .u16 a11, .int .u16 a12, .int .u16 a13, .int .u16 a14, .int .u16 a15, .int .u16 a16, .int .u16 a17, .slice so2 n1 sc2, .slice do2 m1 dc2] 43) := by unfold Hid; rw [hw10]; exact Blk.new w9 _ 43
  go_upto_region 9 with fail
  rw [← hw10]
  clear hw10
  have BK10 : Hid (Below w6.heap.size w6 w10) := BK9.out.trans (HB9_10.out.mono BK9.out.size)
  have hz9_10 : w9.heap.size < w10.heap.size := HB.out.lt
  obtain ⟨B, hB⟩ : ∃ x, x = w9.heap.size := ⟨_, rfl⟩
  rw [← hB] at HB ⊢
  have hB1 : w9.heap.size ≤ B := by omega
  have hB2 : B < w10.heap.size := by omega
  clear hB
  have HA10 := show Hid (Blk w10 A _ 43) from HA9.out.below HB9_10.out HA9.out.lt
  have hp := HA10.out
  have p0 : w10.cell? ⟨A, 0, none⟩ = some (.int .u8 f1) := by rw [hp.cell 0]; rfl
  have p1 : w10.cell? ⟨A, 1, none⟩ = some (.int .i64 (s1 : Int)) := by rw [hp.cell 1]; rfl
  have p2 : w10.cell? ⟨A, 2, none⟩ = some (.int .i64 (d1 : Int)) := by rw [hp.cell 2]; rfl
  have p3 : w10.cell? ⟨A, 3, none⟩ = some (.int .u16 a10) := by rw [hp.cell 3]; rfl
  have p4 : w10.cell? ⟨A, 4, none⟩ = some (.int .u16 a11) := by rw [hp.cell 4]; rfl
  have p5 : w10.cell? ⟨A, 5, none⟩ = some (.int .u16 a12) := by rw [hp.cell 5]; rfl
  have p6 : w10.cell? ⟨A, 6, none⟩ = some (.int .u16 a13) := by rw [hp.cell 6]; rfl
  have p7 : w10.cell? ⟨A, 7, none⟩ = some (.int .u16 a14) := by rw [hp.cell 7]; rfl
  have p8 : w10.cell? ⟨A, 8, none⟩ = some (.int .u16 a15) := by rw [hp.cell 8]; rfl
  have p9 : w10.cell? ⟨A, 9, none⟩ = some (.int .u16 a16) := by rw [hp.cell 9]; rfl
  have p10 : w10.cell? ⟨A, 10, none⟩ = some (.int .u16 a17) := by rw [hp.cell 10]; rfl
  have p11 : w10.cell? ⟨A, 11, none⟩ = some (.slice so1 n1 sc1) := by rw [hp.cell 11]; rfl
  have p12 : w10.cell? ⟨A, 12, none⟩ = some (.slice do1 m1 dc1) := by rw [hp.cell 12]; rfl
  have hq := HB.out
  have q0 : w10.cell? ⟨B, 0, none⟩ = some (.int .u8 f1) := by rw [hq.cell 0]; rfl
  have q1 : w10.cell? ⟨B, 1, none⟩ = some (.int .i64 (s1 : Int)) := by rw [hq.cell 1]; rfl
  have q2 : w10.cell? ⟨B, 2, none⟩ = some (.int .i64 (d1 : Int)) := by rw [hq.cell 2]; rfl
  have q3 : w10.cell? ⟨B, 3, none⟩ = some (.int .u16 a10) := by rw [hq.cell 3]; rfl
  have q4 : w10.cell? ⟨B, 4, none⟩ = some (.int .u16 a11) := by rw [hq.cell 4]; rfl
  have q5 : w10.cell? ⟨B, 5, none⟩ = some (.int .u16 a12) := by rw [hq.cell 5]; rfl
  have q6 : w10.cell? ⟨B, 6, none⟩ = some (.int .u16 a13) := by rw [hq.cell 6]; rfl
  have q7 : w10.cell? ⟨B, 7, none⟩ = some (.int .u16 a14) := by rw [hq.cell 7]; rfl
  have q8 : w10.cell? ⟨B, 8, none⟩ = some (.int .u16 a15) := by rw [hq.cell 8]; rfl
  have q9 : w10.cell? ⟨B, 9, none⟩ = some (.int .u16 a16) := by rw [hq.cell 9]; rfl
  have q10 : w10.cell? ⟨B, 10, none⟩ = some (.int .u16 a17) := by rw [hq.cell 10]; rfl
  have q11 : w10.cell? ⟨B, 11, none⟩ = some (.slice so2 n1 sc2) := by rw [hq.cell 11]; rfl
  have q12 : w10.cell? ⟨B, 12, none⟩ = some (.slice do2 m1 dc2) := by rw [hq.cell 12]; rfl
  clear hp hq
  have HB7_10 : Hid (Below w7.heap.size w7 w10) := HB7_8.out.trans ((HB8_9.out.trans (HB9_10.out.mono hz8_9)).mono (Nat.le_of_lt hz7_8))
  have RW1a : Hid (w10.ownsRow w6.heap.size 62 2 (.slice so1 n1 sc1) n1 (showCells L1) ∧ w10.ownsRow w6.heap.size 85 2 (.slice do1 m1 dc1) m1 (sendCells T1)) := ⟨own_below' RW1.out.1 HB7_10.out (Nat.le_refl _), own_below' RW1.out.2 HB7_10.out (Nat.le_refl _)⟩
  have RW2a : Hid (w10.ownsRow w8.heap.size 62 2 (.slice so2 n1 sc2) n1 (showCells L1) ∧ w10.ownsRow w8.heap.size 85 2 (.slice do2 m1 dc2) m1 (sendCells T1)) := ⟨own_below' RW2.out.1 HB9_10.out (Nat.le_refl _), own_below' RW2.out.2 HB9_10.out (Nat.le_refl _)⟩
  go_wp2_with fail
  refine (HS1.out _ _ _ _ w6.heap.size w8.heap.size w10 RW1a.out.1 RW1a.out.2 RW2a.out.1 RW2a.out.2).mono ?_
  rintro e w11 ⟨rfl, hb⟩
  have HB10_11 : Hid (Below w10.heap.size w10 w11) := hb
  have BK11 : Hid (Below w6.heap.size w6 w11) := BK10.out.trans (hb.mono BK10.out.size)
  have hz10_11 := hb.size
  clear hb
  clear p0 p1 p2 p3 p4 p5 p6 p7 p8 p9 p10 p11 p12
  clear q0 q1 q2 q3 q4 q5 q6 q7 q8 q9 q10 q11 q12
  have HA11 := show Hid (Blk w11 A _ 43) from HA10.out.below HB10_11.out HA10.out.lt
  have HBB11 := show Hid (Blk w11 B _ 43) from HB.out.below HB10_11.out HB.out.lt
  have RW1b : Hid (w11.ownsRow w6.heap.size 62 2 (.slice so1 n1 sc1) n1 (showCells L1) ∧ w11.ownsRow w6.heap.size 85 2 (.slice do1 m1 dc1) m1 (sendCells T1)) := ⟨own_below' RW1a.out.1 HB10_11.out (Nat.le_refl _), own_below' RW1a.out.2 HB10_11.out (Nat.le_refl _)⟩
  have RW2b : Hid (w11.ownsRow w8.heap.size 62 2 (.slice so2 n1 sc2) n1 (showCells L1) ∧ w11.ownsRow w8.heap.size 85 2 (.slice do2 m1 dc2) m1 (sendCells T1)) := ⟨own_below' RW2a.out.1 HB10_11.out (Nat.le_refl _), own_below' RW2a.out.2 HB10_11.out (Nat.le_refl _)⟩
  have SL1 : Hid (∀ k, some k = Value.ownBlock (.slice so1 n1 sc1) ∨ some k = Value.ownBlock (.slice do1 m1 dc1) → w6.heap.size ≤ k ∧ k < w7.heap.size) := by
    intro k hk
    rcases hk with hk | hk
    · exact RW1.out.1.lt k hk.symm
    · exact RW1.out.2.lt k hk.symm
  clear RW1 RW1a RW2 RW2a HA HA9 HA10 HB
  have t1 : (r1 != r1) = false := by simp
  have t2 : (r2 != r2) = false := by simp
  have hp := HA11.out
  have p0 : w11.cell? ⟨A, 0, none⟩ = some (.int .u8 f1) := by rw [hp.cell 0]; rfl
  have p1 : w11.cell? ⟨A, 1, none⟩ = some (.int .i64 (s1 : Int)) := by rw [hp.cell 1]; rfl
  have p2 : w11.cell? ⟨A, 2, none⟩ = some (.int .i64 (d1 : Int)) := by rw [hp.cell 2]; rfl
  have p3 : w11.cell? ⟨A, 3, none⟩ = some (.int .u16 a10) := by rw [hp.cell 3]; rfl
  have p4 : w11.cell? ⟨A, 4, none⟩ = some (.int .u16 a11) := by rw [hp.cell 4]; rfl
  have p5 : w11.cell? ⟨A, 5, none⟩ = some (.int .u16 a12) := by rw [hp.cell 5]; rfl
  have p6 : w11.cell? ⟨A, 6, none⟩ = some (.int .u16 a13) := by rw [hp.cell 6]; rfl
  have p7 : w11.cell? ⟨A, 7, none⟩ = some (.int .u16 a14) := by rw [hp.cell 7]; rfl
  have p8 : w11.cell? ⟨A, 8, none⟩ = some (.int .u16 a15) := by rw [hp.cell 8]; rfl
  have p9 : w11.cell? ⟨A, 9, none⟩ = some (.int .u16 a16) := by rw [hp.cell 9]; rfl
  have p10 : w11.cell? ⟨A, 10, none⟩ = some (.int .u16 a17) := by rw [hp.cell 10]; rfl
  have p11 : w11.cell? ⟨A, 11, none⟩ = some (.slice so1 n1 sc1) := by rw [hp.cell 11]; rfl
  have p12 : w11.cell? ⟨A, 12, none⟩ = some (.slice do1 m1 dc1) := by rw [hp.cell 12]; rfl
  clear hp
  go_upto_region 12 with fail
  go_cut [15, 16] from 17 (fun va vb wc => Hid (Outs wc w11.heap.size 200 va vb) ∧ Hid (Below w6.heap.size w6 wc) ∧ Hid (Blk wc A #[.int .u8 f1, .int .i64 (s1 : Int), .int .i64 (d1 : Int), .int .u16 a10, .int .u16 a11, .int .u16 a12, .int .u16 a13, .int .u16 a14, .int .u16 a15, .int .u16 a16, .int .u16 a17, .slice so1 n1 sc1, .slice do1 m1 dc1] 43) ∧ Hid (Blk wc B #[.int .u8 f1, .int .i64 (s1 : Int), .int .i64 (d1 : Int), .int .u16 a10, .int .u16 a11, .int .u16 a12, .int .u16 a13, .int .u16 a14, .int .u16 a15, .int .u16 a16, .int .u16 a17, .slice so2 n1 sc2, .slice do2 m1 dc2] 43) ∧ Hid (wc.ownsRow w8.heap.size 62 2 (.slice so2 n1 sc2) n1 (showCells L1) ∧ wc.ownsRow w8.heap.size 85 2 (.slice do2 m1 dc2) m1 (sendCells T1)))
  case first =>
    go_wp2_with fail
    refine (HU1.out _ _ w6.heap.size 200 w11 BK11.out.size RW1b.out.1 RW1b.out.2).mono ?_
    rintro e w12 ⟨v1, v2, rfl, hou, hk⟩
    have HQ12 : Hid (Outs w12 w11.heap.size 200 v1 v2) := hou
    have HK12 := show Hid (Kept _ w11 w12) from hk
    have BK12 : Hid (Below w6.heap.size w6 w12) := BK11.out.trans (hk.below BK11.out.size (fun k q => (SL1.out k q).1))
    have hz11_12 := hk.size
    clear hou hk
    clear p0 p1 p2 p3 p4 p5 p6 p7 p8 p9 p10 p11 p12
    have hz7_12 : w7.heap.size ≤ w11.heap.size := by omega
    have HA12 := show Hid (Blk w12 A _ 43) from HA11.out.of_block (HK12.out.block A HA11.out.lt (fun q => by have := (SL1.out A q).2; omega))
    have HB12 := show Hid (Blk w12 B _ 43) from HBB11.out.of_block (HK12.out.block B HBB11.out.lt (fun q => by have := (SL1.out B q).2; omega))
    have RW2c : Hid (w12.ownsRow w8.heap.size 62 2 (.slice so2 n1 sc2) n1 (showCells L1) ∧ w12.ownsRow w8.heap.size 85 2 (.slice do2 m1 dc2) m1 (sendCells T1)) := ⟨own_keptS HK12.out RW2b.out.1 (fun k q => by have := (SL1.out k q).2; omega), own_keptS HK12.out RW2b.out.2 (fun k q => by have := (SL1.out k q).2; omega)⟩
    clear HA11 HBB11 RW1b RW2b HK12
    go_wp2_with fail
    go_meet
    exact ⟨HQ12, BK12, HA12, HB12, RW2c⟩
  case rest =>
    have hAB : ¬ B = A := by omega
    have hA6 : w6.heap.size ≤ A := by omega
    exact (by assumption : ∀ (a : Act) (w : World), Code.wp Try.prog _ _ a w → _) _ _ (runs_tail HV1 HV2 HR2 HS1 HS2 HU2 HDo HDi HGd HX6 HY6 HG6 HB6 hs6 HNL Hn hn hAB hA6 hcut.2.1 hcut.1 hcut.2.2.1 hcut.2.2.2.1 hcut.2.2.2.2)
end Go.Proofs.Ytfggaacijcggeaa
