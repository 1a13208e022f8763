/-
  The walk of Undone.
-/
import Derived.Test.YtfggaacijcggeaaFuel
import Derived.Test.YtfggaacijcggeaaTextW
import Derived.Test.YtfggaacijcggeaaArr8
import Derived.Deep.Cut
import Derived.Deep.CutRange
namespace Go.Proofs.Ytfggaacijcggeaa
open Go.RowKit
set_option linter.unusedVariables false

/-- What came in, with another fuel. -/
def reFuel (v : InV) (F : Int) : InV := { v with fuel := F }
theorem reFuel_ok {v : InV} (h : v.ok) (F : Int) : (reFuel v F).ok := ⟨h.what, h.arg, h.src, h.route, h.cells⟩
theorem reFuel_drawn {v : InV} {w W : World} {ds : List Int} (h : Drawn w v ds w.heap.size) (hb : Below w.heap.size w W) (F : Int) : Drawn W (reFuel v F) ds W.heap.size := by
  obtain ⟨h1, h2, ⟨bd, off, h3, h4⟩, h5⟩ := h.fr hb
  have hs := hb.size
  exact ⟨h1, h2, ⟨bd, off, fun h => ⟨(h3 h).1, Nat.lt_of_lt_of_le (h3 h).2 hs⟩, h4⟩, h5⟩
theorem InsRow.alloc {w : World} {b off : Nat} {l : List (Int × Int)} (h : InsRow w b off l) (o : Obj) : InsRow (w.alloc o) b off l := by
  intro i x hx
  obtain ⟨h0, h1⟩ := h i x hx
  exact ⟨by rw [World.cell?_alloc_lt _ _ _ (World.block_lt_of_cell? _ _ h0)]; exact h0, by rw [World.cell?_alloc_lt _ _ _ (World.block_lt_of_cell? _ _ h1)]; exact h1⟩
theorem dec_false {p : Prop} [Decidable p] (h : ¬ p) : decide p = false := by simp [h]

set_option maxRecDepth 100000 in
set_option maxHeartbeats 8000000 in
theorem undone_any (ao : Option Addr) (b off n cap : Nat) (raw : List (Int × Int)) (v : InV) (ds : List Int) (more : Int) (w : World) (hao : 0 < n → ao = some ⟨b, off, none⟩) (hn : raw.length = n) (hmax : n ≤ maxLen) (hraw : rawOk raw) (hrow : InsRow w b off raw) (hv : v.ok) (hf0 : -9223372036854775808 ≤ v.fuel) (hf1 : v.fuel ≤ 9223372036854775807) (hd : Drawn w v ds w.heap.size) (hm0 : -9223372036854775808 ≤ more) (hm1 : more ≤ 9223372036854775807) :
    Calls Try.prog 6 #[.slice ao n cap, .agg v.arr, .int .i64 more] w fun e w' => e = .returned (.bool true) ∧ Below w.heap.size w w' := by
  have HTX : Hid (∀ o, Calls Try.prog 19 #[.slice ao n cap] (w.alloc o) fun e w' => textEnd (w.alloc o) e w') := fun o => text_any ao b off n cap raw (w.alloc o) hao hn hmax hraw (hrow.alloc o)
  have HRUN0 : Hid (∀ (W : World) (t : ByteArray) (F : Nat), t.size ≤ 200 → Below w.heap.size w W → Calls Try.prog 13 #[.string t, .agg (reFuel v F).arr] W fun e w' => runEnd (H.run (H.bts t) v.cells { v.inp ds with fuel := F }) W.heap.size W e w') := fun W t F ht hb =>
    runW_any t (reFuel v F) ds W (by unfold maxLen; omega) (reFuel_ok hv F) (reFuel_drawn hd hb F)
  have HLEN : Hid (ds.length = v.n) := hd.len
  have hdmax := hd.max
  unfold maxLen at hdmax
  have HUN : Hid (∀ (L : List Int) (prog : List (Int × Int)) (F : Nat), F ≤ 1000 → H.decode L = (prog, 0, 0) → 1 ≤ prog.length → _) := fun L prog F h1 h2 h3 => undo_of L prog v.cells (v.inp ds) F h1 h2 h3
  clear hao hn hmax hraw hrow hv hd
  obtain ⟨fuel, k0, k1, k2, k3, k4, k5, k6, k7, what, by_, arg, src, route, da, dn, dc⟩ := v
  have HRUN : Hid (∀ (W : World) (t : ByteArray) (F : Nat), t.size ≤ 200 → Below w.heap.size w W → Calls Try.prog 13 #[.string t, .agg #[.int .i64 F, .int .u16 k0, .int .u16 k1, .int .u16 k2, .int .u16 k3, .int .u16 k4, .int .u16 k5, .int .u16 k6, .int .u16 k7, .int .u8 what, .int .u8 by_, .int .u16 arg, .int .u8 src, .int .u8 route, .slice da dn dc]] W fun e w' => runEnd (H.run (H.bts t) [k0, k1, k2, k3, k4, k5, k6, k7] { InV.inp ⟨fuel, k0, k1, k2, k3, k4, k5, k6, k7, what, by_, arg, src, route, da, dn, dc⟩ ds with fuel := F }) W.heap.size W e w') := HRUN0.out
  clear HRUN0
  unfold InV.arr
  simp only at hf0 hf1 HLEN hdmax ⊢
  obtain ⟨I, hI⟩ : ∃ I, I = InV.inp ⟨fuel, k0, k1, k2, k3, k4, k5, k6, k7, what, by_, arg, src, route, da, dn, dc⟩ ds := ⟨_, rfl⟩
  have HId : Hid (I.draws.length = dn) := by unfold Hid; rw [hI]; exact HLEN.out
  rw [← hI] at HRUN HUN
  clear hI HLEN
  go_enter Try.func6, Try.ntmps6
  go_wp2_with fail
  refine (HTX.out _).mono ?_
  rintro e w1 ⟨t, l, rfl, hl1, hdec, htz, hb1⟩
  have HB1 : Hid (Below w.heap.size w w1) := ((Below.refl _ _).alloc (Nat.le_refl _) _).trans (hb1.mono (by simp))
  have hs1 : w.heap.size < w1.heap.size := by have := hb1.size; simp at this; omega
  have HX1 : Hid (Blk w1 w.heap.size #[.int .i64 fuel, .int .u16 k0, .int .u16 k1, .int .u16 k2, .int .u16 k3, .int .u16 k4, .int .u16 k5, .int .u16 k6, .int .u16 k7, .int .u8 what, .int .u8 by_, .int .u16 arg, .int .u8 src, .int .u8 route, .slice da dn dc] 39) := (Blk.new w _ 39).below hb1 (by simp)
  have e0 := HX1.out.cell 0
  simp at e0
  have f0 := HX1.out.free 0
  have HDec : Hid (H.decode (H.bts t) = (l, 0, 0)) := hdec
  have Hl1 : Hid (1 ≤ l.length) := hl1
  clear hb1 HTX hdec hl1
  go_wp2_with fail
  refine (pick_any fuel 1001 _ hf0 hf1 (by decide) (by decide)).mono ?_
  rintro e w' ⟨rfl, rfl⟩
  obtain ⟨p0, p1⟩ := H.pk_range fuel 1001 (by decide)
  generalize H.pk fuel 1001 = F0 at *
  obtain ⟨F, rfl⟩ := Int.eq_ofNat_of_zero_le p0
  have hF : F ≤ 1000 := by omega
  obtain ⟨w2, hw2⟩ : ∃ w2, w2 = w1.setCell ⟨w.heap.size, 0, none⟩ (.int .i64 (F : Int)) := ⟨_, rfl⟩
  have HX2 : Hid (Blk w2 w.heap.size #[.int .i64 (F : Int), .int .u16 k0, .int .u16 k1, .int .u16 k2, .int .u16 k3, .int .u16 k4, .int .u16 k5, .int .u16 k6, .int .u16 k7, .int .u8 what, .int .u8 by_, .int .u16 arg, .int .u8 src, .int .u8 route, .slice da dn dc] 39) := by
    unfold Hid; rw [hw2]; exact HX1.out.set 0 _
  have HB2 : Hid (Below w.heap.size w w2) := by unfold Hid; rw [hw2]; exact HB1.out.setCell (p := ⟨w.heap.size, 0, none⟩) (Nat.le_refl _) _
  have hs2 : w.heap.size < w2.heap.size := HX2.out.lt
  go_upto_region 5 with fail
  rw [← hw2]
  clear hw2 HX1 HB1 e0 f0 p0 p1 hf0 hf1
  have e0 := HX2.out.cell 0
  have e1 := HX2.out.cell 1
  have e2 := HX2.out.cell 2
  have e3 := HX2.out.cell 3
  have e4 := HX2.out.cell 4
  have e5 := HX2.out.cell 5
  have e6 := HX2.out.cell 6
  have e7 := HX2.out.cell 7
  have e8 := HX2.out.cell 8
  have e9 := HX2.out.cell 9
  have e10 := HX2.out.cell 10
  have e11 := HX2.out.cell 11
  have e12 := HX2.out.cell 12
  have e13 := HX2.out.cell 13
  have e14 := HX2.out.cell 14
  simp at e0 e1 e2 e3 e4 e5 e6 e7 e8 e9 e10 e11 e12 e13 e14
  obtain ⟨hU, hU2⟩ := HUN.out (H.bts t) l F hF HDec.out Hl1.out
  have HU2 := show Hid _ from hU2
  go_wp2_with fail
  refine (HRUN.out _ t F htz HB2.out).mono ?_
  rintro e w3 ⟨sv, dv, rfl, hos, hod, hb3⟩
  obtain ⟨O, hO⟩ : ∃ O, O = H.run (H.bts t) [k0, k1, k2, k3, k4, k5, k6, k7] { I with fuel := F } := ⟨_, rfl⟩
  have hU' : Undo [k0, k1, k2, k3, k4, k5, k6, k7] I.draws.length F O := by rw [hO]; exact hU
  have HU' : Hid (O.fault ≠ 1 → (∀ F' : Nat, F ≤ F' → F' ≤ 1000 → H.run (H.bts t) [k0, k1, k2, k3, k4, k5, k6, k7] { I with fuel := F' } = O) ∧
      ∀ G : Nat, G + 1 = O.steps → (H.run (H.bts t) [k0, k1, k2, k3, k4, k5, k6, k7] { I with fuel := G }).fault = 1 ∧ (H.run (H.bts t) [k0, k1, k2, k3, k4, k5, k6, k7] { I with fuel := G }).steps = G ∧ (H.run (H.bts t) [k0, k1, k2, k3, k4, k5, k6, k7] { I with fuel := G }).err = 0) := by
    unfold Hid; rw [hO]; exact HU2.out
  rw [← hO] at hos hod ⊢
  clear hU HU2 hU2 hO HUN
  have HB3 : Hid (Below w.heap.size w w3) := HB2.out.trans (hb3.mono (by omega))
  have HX3 : Hid (Blk w3 w.heap.size #[.int .i64 (F : Int), .int .u16 k0, .int .u16 k1, .int .u16 k2, .int .u16 k3, .int .u16 k4, .int .u16 k5, .int .u16 k6, .int .u16 k7, .int .u8 what, .int .u8 by_, .int .u16 arg, .int .u8 src, .int .u8 route, .slice da dn dc] 39) := HX2.out.below hb3 hs2
  have hs3 : w.heap.size < w3.heap.size := HX3.out.lt
  clear hb3 HX2 HB2 e0 e1 e2 e3 e4 e5 e6 e7 e8 e9 e10 e11 e12 e13 e14
  have e0 := HX3.out.cell 0
  have e1 := HX3.out.cell 1
  have e2 := HX3.out.cell 2
  have e3 := HX3.out.cell 3
  have e4 := HX3.out.cell 4
  have e5 := HX3.out.cell 5
  have e6 := HX3.out.cell 6
  have e7 := HX3.out.cell 7
  have e8 := HX3.out.cell 8
  have e9 := HX3.out.cell 9
  have e10 := HX3.out.cell 10
  have e11 := HX3.out.cell 11
  have e12 := HX3.out.cell 12
  have e13 := HX3.out.cell 13
  have e14 := HX3.out.cell 14
  simp at e0 e1 e2 e3 e4 e5 e6 e7 e8 e9 e10 e11 e12 e13 e14
  have hx1 : ¬ w.heap.size = w3.heap.size := by omega
  have hx2 : ¬ w.heap.size = w3.heap.size + 1 := by omega
  obtain ⟨asx, cs, hsv⟩ := own_shape hos
  obtain ⟨adx, cd, hdv⟩ := own_shape hod
  subst hsv hdv
  have hst := hU'.steps
  have hdr := hU'.draws
  rw [HId.out] at hdr
  unfold outVal outAgg
  rw [hU'.err]
  clear hos hod
  by_cases h1 : O.fault = 1
  · obtain ⟨q1, q2, q3⟩ := hU'.back (by rw [h1]; decide)
    have q4 := hU'.spent h1
    rw [h1, q1, q2, q3, q4]
    simp only [List.getD_cons_zero, List.getD_cons_succ, List.length_nil]
    generalize O.draws = dr at *
    have g1 : decide ((F : Int) < 0) = false := dec_false (by omega)
    have g2 : decide ((F : Int) < (F : Int)) = false := dec_false (by omega)
    have g3 : decide ((dr : Int) < 0) = false := dec_false (by omega)
    have g4 : decide ((dn : Int) < (dr : Int)) = false := dec_false (by omega)
    have hq8 := fun W => arr8_eq k0 k1 k2 k3 k4 k5 k6 k7 W
    clear hU' HU' h1 q1 q2 q3 q4 hst
    by_cases hF0 : F = 0
    · as_aux_lemma =>
        subst hF0
        go_wp2
        go_ret
        exact ⟨rfl, HB3.out.alloc (by omega) _⟩
    · as_aux_lemma =>
        have g5 : ((F : Int) == 0) = false := by rw [beq_eq_false_iff_ne]; omega
        go_wp2
        go_ret
        exact ⟨rfl, HB3.out.alloc (by omega) _⟩
  · have hFp : 0 < F := by
      rcases Nat.eq_zero_or_pos F with h | h
      · exact absurd (hU'.none h) h1
      · exact h
    have hsp := hU'.pos hFp
    obtain ⟨HM, HL⟩ := HU'.out h1
    obtain ⟨G, hG⟩ : ∃ G, G + 1 = O.steps := ⟨O.steps - 1, by omega⟩
    obtain ⟨hL1, hL2, hL3⟩ := HL G hG
    obtain ⟨p0, p1⟩ := H.pk_range more (1000 - (F : Int) + 1) (by omega)
    obtain ⟨F2, hF2⟩ : ∃ F2 : Nat, (F2 : Int) = (F : Int) + H.pk more (1000 - (F : Int) + 1) := ⟨((F : Int) + H.pk more (1000 - (F : Int) + 1)).toNat, by omega⟩
    have hF2a : F ≤ F2 := by omega
    have hF2b : F2 ≤ 1000 := by omega
    have HM2 : Hid (H.run (H.bts t) [k0, k1, k2, k3, k4, k5, k6, k7] { I with fuel := F2 } = O) := HM F2 hF2a hF2b
    obtain ⟨O3, hO3⟩ : ∃ O3, O3 = H.run (H.bts t) [k0, k1, k2, k3, k4, k5, k6, k7] { I with fuel := G } := ⟨_, rfl⟩
    rw [← hO3] at hL1 hL2 hL3
    have HO3 : Hid (O3 = H.run (H.bts t) [k0, k1, k2, k3, k4, k5, k6, k7] { I with fuel := G }) := hO3
    have HO3f : Hid (O3.fault = 1 ∧ O3.steps = G ∧ O3.err = 0) := ⟨hL1, hL2, hL3⟩
    have hw1 : IntKind.i64.wrap (1000 - (F : Int)) = 1000 - (F : Int) := by rw [IntKind.wrap_i64]; omega
    have hw2 : IntKind.i64.wrap (1000 - (F : Int) + 1) = 1000 - (F : Int) + 1 := by rw [IntKind.wrap_i64]; omega
    have hw3 : IntKind.i64.wrap ((F : Int) + H.pk more (1000 - (F : Int) + 1)) = (F2 : Int) := by rw [IntKind.wrap_i64]; omega
    have HOe : Hid (O.err = 0) := hU'.err
    have g1 : decide ((O.steps : Int) < 0) = false := dec_false (by omega)
    have g2 : decide ((F : Int) < (O.steps : Int)) = false := dec_false (by omega)
    have g3 : decide ((O.draws : Int) < 0) = false := dec_false (by omega)
    have g4 : decide ((dn : Int) < (O.draws : Int)) = false := dec_false (by omega)
    have g2n : decide (F < O.steps) = false := dec_false (by omega)
    have g4n : decide (dn < O.draws) = false := dec_false (by omega)
    have g5 : ((O.steps : Int) == 0) = false := by rw [beq_eq_false_iff_ne]; omega
    have g6 : ((F : Int) == 0) = false := by rw [beq_eq_false_iff_ne]; omega
    have g7 : (O.steps : Int) - 1 = (G : Int) := by omega
    have g8 : (O.fault == 1) = false := by rw [beq_eq_false_iff_ne]; exact h1
    have hqk := fun W => arr8_eq k0 k1 k2 k3 k4 k5 k6 k7 W
    have hqc := fun W => arr8_eq (O.cells.getD 0 0) (O.cells.getD 1 0) (O.cells.getD 2 0) (O.cells.getD 3 0) (O.cells.getD 4 0) (O.cells.getD 5 0) (O.cells.getD 6 0) (O.cells.getD 7 0) W
    have HBk : Hid (O.fault ≠ 0 → O.cells = [k0, k1, k2, k3, k4, k5, k6, k7] ∧ O.shows = [] ∧ O.sends = []) := hU'.back
    have hstF : O.steps ≤ F := hst
    have hdrn : O.draws ≤ dn := hdr
    have hst1 : 0 < O.steps := hsp
    clear hU' HU' HM HL hL1 hL2 hL3 hO3 hG hF2 p0 p1 hst hdr hsp h1
    have HOV : Hid (∀ sv dv, outVal O sv dv = .agg #[.int .u8 O.fault, .int .i64 (O.steps : Int), .int .i64 (O.draws : Int), .int .u16 (O.cells.getD 0 0), .int .u16 (O.cells.getD 1 0), .int .u16 (O.cells.getD 2 0), .int .u16 (O.cells.getD 3 0), .int .u16 (O.cells.getD 4 0), .int .u16 (O.cells.getD 5 0), .int .u16 (O.cells.getD 6 0), .int .u16 (O.cells.getD 7 0), sv, dv]) := fun sv dv => rfl
    generalize hst : O.steps = st at *
    generalize hdr : O.draws = dr at *
    by_cases h0 : O.fault = 0
    · as_aux_lemma =>
        rw [h0] at HOV g8 ⊢
        generalize O.cells.getD 0 0 = c0 at *
        generalize O.cells.getD 1 0 = c1 at *
        generalize O.cells.getD 2 0 = c2 at *
        generalize O.cells.getD 3 0 = c3 at *
        generalize O.cells.getD 4 0 = c4 at *
        generalize O.cells.getD 5 0 = c5 at *
        generalize O.cells.getD 6 0 = c6 at *
        generalize O.cells.getD 7 0 = c7 at *
        generalize hns : O.shows.length = ns at *
        generalize hnd : O.sends.length = nd at *
        have Hns : Hid (O.shows.length = ns) := hns
        have Hnd : Hid (O.sends.length = nd) := hnd
        clear hst hdr h0 HBk hns hnd g8
        go_upto_region 15 with fail
        go_cut [118] from 110 to 119 (fun x wx => Blk wx w.heap.size #[.int .i64 (F : Int), .int .u16 k0, .int .u16 k1, .int .u16 k2, .int .u16 k3, .int .u16 k4, .int .u16 k5, .int .u16 k6, .int .u16 k7, .int .u8 what, .int .u8 by_, .int .u16 arg, .int .u8 src, .int .u8 route, .slice da dn dc] 39 ∧ Blk wx w3.heap.size #[.int .u8 0, .int .i64 (st : Int), .int .i64 (dr : Int), .int .u16 c0, .int .u16 c1, .int .u16 c2, .int .u16 c3, .int .u16 c4, .int .u16 c5, .int .u16 c6, .int .u16 c7, .slice asx ns cs, .slice adx nd cd] 43 ∧ Blk wx (w3.heap.size + 1) #[.int .i64 (F2 : Int), .int .u16 k0, .int .u16 k1, .int .u16 k2, .int .u16 k3, .int .u16 k4, .int .u16 k5, .int .u16 k6, .int .u16 k7, .int .u8 what, .int .u8 by_, .int .u16 arg, .int .u8 src, .int .u8 route, .slice da dn dc] 39 ∧ Below w.heap.size w wx)
        case first =>
          go_region_with (go_at_call 20; refine (pick_any more (1000 - (F : Int) + 1) _ hm0 hm1 (by omega) (by omega)).mono ?_; rintro e w' ⟨rfl, rfl⟩)
          all_goals (try go_wp2_with fail)
          all_goals go_meet
          all_goals exact ⟨(HX3.out.alloc _).alloc _, (Blk.new w3 _ 43).alloc _, by have h := Blk.new (w3.alloc (.cells #[.int .u8 0, .int .i64 (st : Int), .int .i64 (dr : Int), .int .u16 c0, .int .u16 c1, .int .u16 c2, .int .u16 c3, .int .u16 c4, .int .u16 c5, .int .u16 c6, .int .u16 c7, .slice asx ns cs, .slice adx nd cd] 43)) #[.int .i64 (F2 : Int), .int .u16 k0, .int .u16 k1, .int .u16 k2, .int .u16 k3, .int .u16 k4, .int .u16 k5, .int .u16 k6, .int .u16 k7, .int .u8 what, .int .u8 by_, .int .u16 arg, .int .u8 src, .int .u8 route, .slice da dn dc] 39; rw [show (w3.alloc (.cells #[.int .u8 0, .int .i64 (st : Int), .int .i64 (dr : Int), .int .u16 c0, .int .u16 c1, .int .u16 c2, .int .u16 c3, .int .u16 c4, .int .u16 c5, .int .u16 c6, .int .u16 c7, .slice asx ns cs, .slice adx nd cd] 43)).heap.size = w3.heap.size + 1 by simp] at h; exact h, ((HB3.out.alloc (by omega) _).alloc (by simp; omega) _).drew⟩
        case rest =>
          obtain ⟨hX, hA, hL, hB⟩ := hcut
          have HXc := show Hid (Blk wc w.heap.size _ 39) from hX
          have HAc := show Hid (Blk wc w3.heap.size _ 43) from hA
          have HLc := show Hid (Blk wc (w3.heap.size + 1) _ 39) from hL
          have HBc : Hid (Below w.heap.size w wc) := hB
          have hsc := hL.lt
          clear hX hA hL hB e0 e1 e2 e3 e4 e5 e6 e7 e8 e9 e10 e11 e12 e13 e14 hw1 hw2 hw3 HX3 HB3
          have l0 := HLc.out.cell 0
          have l1 := HLc.out.cell 1
          have l2 := HLc.out.cell 2
          have l3 := HLc.out.cell 3
          have l4 := HLc.out.cell 4
          have l5 := HLc.out.cell 5
          have l6 := HLc.out.cell 6
          have l7 := HLc.out.cell 7
          have l8 := HLc.out.cell 8
          have l9 := HLc.out.cell 9
          have l10 := HLc.out.cell 10
          have l11 := HLc.out.cell 11
          have l12 := HLc.out.cell 12
          have l13 := HLc.out.cell 13
          have l14 := HLc.out.cell 14
          simp at l0 l1 l2 l3 l4 l5 l6 l7 l8 l9 l10 l11 l12 l13 l14
          go_wp2_with fail
          refine (HRUN.out _ t F2 htz HBc.out).mono ?_
          rintro e w6 ⟨sv6, dv6, rfl, hos6, hod6, hb6⟩
          rw [HM2.out] at hos6 hod6 ⊢
          obtain ⟨as6, cs6, hsv6⟩ := own_shape hos6
          obtain ⟨ad6, cd6, hdv6⟩ := own_shape hod6
          rw [Hns.out] at hsv6
          rw [Hnd.out] at hdv6
          subst hsv6 hdv6
          rw [HOV.out, HOe.out]
          have HX6 := show Hid (Blk w6 w.heap.size _ 39) from HXc.out.below hb6 HXc.out.lt
          have HA6 := show Hid (Blk w6 w3.heap.size _ 43) from HAc.out.below hb6 HAc.out.lt
          have HB6 : Hid (Below w.heap.size w w6) := HBc.out.trans (hb6.mono HBc.out.size)
          have hs6 : w3.heap.size + 1 < w6.heap.size := by have := hb6.size; omega
          clear hos6 hod6 hb6 HXc HAc HLc HBc HM2 l0 l1 l2 l3 l4 l5 l6 l7 l8 l9 l10 l11 l12 l13 l14
          have e0 := HX6.out.cell 0
          have e1 := HX6.out.cell 1
          have e2 := HX6.out.cell 2
          have e3 := HX6.out.cell 3
          have e4 := HX6.out.cell 4
          have e5 := HX6.out.cell 5
          have e6 := HX6.out.cell 6
          have e7 := HX6.out.cell 7
          have e8 := HX6.out.cell 8
          have e9 := HX6.out.cell 9
          have e10 := HX6.out.cell 10
          have e11 := HX6.out.cell 11
          have e12 := HX6.out.cell 12
          have e13 := HX6.out.cell 13
          have e14 := HX6.out.cell 14
          simp at e0 e1 e2 e3 e4 e5 e6 e7 e8 e9 e10 e11 e12 e13 e14
          have a1 := HA6.out.cell 1
          simp at a1
          have y1 : ¬ w.heap.size = w6.heap.size := by omega
          have y5 : w.heap.size < w6.heap.size := by omega
          have y6 : w3.heap.size < w6.heap.size := by omega
          have y2 : ¬ w3.heap.size = w6.heap.size := by omega
          have y3 : ¬ w.heap.size = w6.heap.size + 1 := by omega
          have y4 : ¬ w3.heap.size = w6.heap.size + 1 := by omega
          go_wp2_with fail
          refine (HRUN.out _ t G htz ((HB6.out.alloc (by omega) _).alloc (by simp; omega) _)).mono ?_
          rintro e w9 ⟨sv9, dv9, rfl, hos9, hod9, hb9⟩
          rw [← HO3.out] at hos9 hod9 ⊢
          obtain ⟨as9, cs9, hsv9⟩ := own_shape hos9
          obtain ⟨ad9, cd9, hdv9⟩ := own_shape hod9
          subst hsv9 hdv9
          unfold outVal outAgg
          rw [HO3f.out.1, HO3f.out.2.1, HO3f.out.2.2]
          have HA9 := show Hid (Blk w9 w3.heap.size _ 43) from ((HA6.out.alloc _).alloc _).below hb9 (by simp; omega)
          have HO9 : Hid (Blk w9 w6.heap.size #[.int .u8 0, .int .i64 (st : Int), .int .i64 (dr : Int), .int .u16 c0, .int .u16 c1, .int .u16 c2, .int .u16 c3, .int .u16 c4, .int .u16 c5, .int .u16 c6, .int .u16 c7, .slice as6 ns cs6, .slice ad6 nd cd6] 43) := ((Blk.new w6 _ 43).alloc _).below hb9 (by simp; omega)
          have HS9 : Hid (Blk w9 (w6.heap.size + 1) #[.int .i64 (G : Int), .int .u16 k0, .int .u16 k1, .int .u16 k2, .int .u16 k3, .int .u16 k4, .int .u16 k5, .int .u16 k6, .int .u16 k7, .int .u8 what, .int .u8 by_, .int .u16 arg, .int .u8 src, .int .u8 route, .slice da dn dc] 39) := by
            have h := Blk.new (w6.alloc (.cells #[.int .u8 0, .int .i64 (st : Int), .int .i64 (dr : Int), .int .u16 c0, .int .u16 c1, .int .u16 c2, .int .u16 c3, .int .u16 c4, .int .u16 c5, .int .u16 c6, .int .u16 c7, .slice as6 ns cs6, .slice ad6 nd cd6] 43)) #[.int .i64 (G : Int), .int .u16 k0, .int .u16 k1, .int .u16 k2, .int .u16 k3, .int .u16 k4, .int .u16 k5, .int .u16 k6, .int .u16 k7, .int .u8 what, .int .u8 by_, .int .u16 arg, .int .u8 src, .int .u8 route, .slice da dn dc] 39
            rw [show (w6.alloc (.cells #[.int .u8 0, .int .i64 (st : Int), .int .i64 (dr : Int), .int .u16 c0, .int .u16 c1, .int .u16 c2, .int .u16 c3, .int .u16 c4, .int .u16 c5, .int .u16 c6, .int .u16 c7, .slice as6 ns cs6, .slice ad6 nd cd6] 43)).heap.size = w6.heap.size + 1 by simp] at h
            exact h.below hb9 (by simp)
          have HB9 : Hid (Below w.heap.size w w9) := ((HB6.out.alloc (by omega) _).alloc (by simp; omega) _).trans (hb9.mono (by simp; omega))
          have hs9 : w6.heap.size + 1 < w9.heap.size := HS9.out.lt
          generalize O3.draws = dr9
          generalize O3.shows.length = ns9
          generalize O3.sends.length = nd9
          generalize O3.cells.getD 0 0 = x0
          generalize O3.cells.getD 1 0 = x1
          generalize O3.cells.getD 2 0 = x2
          generalize O3.cells.getD 3 0 = x3
          generalize O3.cells.getD 4 0 = x4
          generalize O3.cells.getD 5 0 = x5
          generalize O3.cells.getD 6 0 = x6
          generalize O3.cells.getD 7 0 = x7
          clear hos9 hod9 hb9 HX6 HA6 HB6 HO3 HO3f HRUN e0 e1 e2 e3 e4 e5 e6 e7 e8 e9 e10 e11 e12 e13 e14 a1
          have a0 := HA9.out.cell 0
          have a1 := HA9.out.cell 1
          have a3 := HA9.out.cell 3
          have a4 := HA9.out.cell 4
          have a5 := HA9.out.cell 5
          have a6 := HA9.out.cell 6
          have a7 := HA9.out.cell 7
          have a8 := HA9.out.cell 8
          have a9 := HA9.out.cell 9
          have a10 := HA9.out.cell 10
          have a11 := HA9.out.cell 11
          have a12 := HA9.out.cell 12
          simp at a0 a1 a3 a4 a5 a6 a7 a8 a9 a10 a11 a12
          have b0 := HO9.out.cell 0
          have b1 := HO9.out.cell 1
          have b3 := HO9.out.cell 3
          have b4 := HO9.out.cell 4
          have b5 := HO9.out.cell 5
          have b6 := HO9.out.cell 6
          have b7 := HO9.out.cell 7
          have b8 := HO9.out.cell 8
          have b9 := HO9.out.cell 9
          have b10 := HO9.out.cell 10
          have b11 := HO9.out.cell 11
          have b12 := HO9.out.cell 12
          simp at b0 b1 b3 b4 b5 b6 b7 b8 b9 b10 b11 b12
          have s0 := HS9.out.cell 0
          simp at s0
          have z1 : ¬ w3.heap.size = w9.heap.size := by omega
          have z4 : w3.heap.size < w9.heap.size := by omega
          have z5 : w6.heap.size < w9.heap.size := by omega
          have z2 : ¬ w6.heap.size = w9.heap.size := by omega
          have z3 : ¬ w6.heap.size + 1 = w9.heap.size := by omega
          go_wp2
          go_ret
          exact ⟨rfl, HB9.out.alloc (by omega) _⟩
    · as_aux_lemma =>
        obtain ⟨q1, q2, q3⟩ := HBk.out h0
        rw [q1] at HOV
        rw [q1, q2, q3]
        simp only [List.getD_cons_zero, List.getD_cons_succ, List.length_nil] at HOV ⊢
        have Hns : Hid (O.shows.length = 0) := by unfold Hid; rw [q2]; rfl
        have Hnd : Hid (O.sends.length = 0) := by unfold Hid; rw [q3]; rfl
        have g9 : (O.fault != 0) = true := by simpa using h0
        have g10 : (O.fault == 0) = false := by simpa using h0
        clear hst hdr h0 HBk q1 q2 q3 hqc
        generalize O.fault = ft at *
        go_upto_region 15 with fail
        go_cut [118] from 110 to 119 (fun x wx => Blk wx w.heap.size #[.int .i64 (F : Int), .int .u16 k0, .int .u16 k1, .int .u16 k2, .int .u16 k3, .int .u16 k4, .int .u16 k5, .int .u16 k6, .int .u16 k7, .int .u8 what, .int .u8 by_, .int .u16 arg, .int .u8 src, .int .u8 route, .slice da dn dc] 39 ∧ Blk wx w3.heap.size #[.int .u8 ft, .int .i64 (st : Int), .int .i64 (dr : Int), .int .u16 k0, .int .u16 k1, .int .u16 k2, .int .u16 k3, .int .u16 k4, .int .u16 k5, .int .u16 k6, .int .u16 k7, .slice asx 0 cs, .slice adx 0 cd] 43 ∧ Blk wx (w3.heap.size + 1) #[.int .i64 (F2 : Int), .int .u16 k0, .int .u16 k1, .int .u16 k2, .int .u16 k3, .int .u16 k4, .int .u16 k5, .int .u16 k6, .int .u16 k7, .int .u8 what, .int .u8 by_, .int .u16 arg, .int .u8 src, .int .u8 route, .slice da dn dc] 39 ∧ Below w.heap.size w wx)
        case first =>
          go_region_with (go_at_call 20; refine (pick_any more (1000 - (F : Int) + 1) _ hm0 hm1 (by omega) (by omega)).mono ?_; rintro e w' ⟨rfl, rfl⟩)
          all_goals (try go_wp2_with fail)
          all_goals go_meet
          all_goals exact ⟨(HX3.out.alloc _).alloc _, (Blk.new w3 _ 43).alloc _, by have h := Blk.new (w3.alloc (.cells #[.int .u8 ft, .int .i64 (st : Int), .int .i64 (dr : Int), .int .u16 k0, .int .u16 k1, .int .u16 k2, .int .u16 k3, .int .u16 k4, .int .u16 k5, .int .u16 k6, .int .u16 k7, .slice asx 0 cs, .slice adx 0 cd] 43)) #[.int .i64 (F2 : Int), .int .u16 k0, .int .u16 k1, .int .u16 k2, .int .u16 k3, .int .u16 k4, .int .u16 k5, .int .u16 k6, .int .u16 k7, .int .u8 what, .int .u8 by_, .int .u16 arg, .int .u8 src, .int .u8 route, .slice da dn dc] 39; rw [show (w3.alloc (.cells #[.int .u8 ft, .int .i64 (st : Int), .int .i64 (dr : Int), .int .u16 k0, .int .u16 k1, .int .u16 k2, .int .u16 k3, .int .u16 k4, .int .u16 k5, .int .u16 k6, .int .u16 k7, .slice asx 0 cs, .slice adx 0 cd] 43)).heap.size = w3.heap.size + 1 by simp] at h; exact h, ((HB3.out.alloc (by omega) _).alloc (by simp; omega) _).drew⟩
        case rest =>
          obtain ⟨hX, hA, hL, hB⟩ := hcut
          have HXc := show Hid (Blk wc w.heap.size _ 39) from hX
          have HAc := show Hid (Blk wc w3.heap.size _ 43) from hA
          have HLc := show Hid (Blk wc (w3.heap.size + 1) _ 39) from hL
          have HBc : Hid (Below w.heap.size w wc) := hB
          have hsc := hL.lt
          clear hX hA hL hB e0 e1 e2 e3 e4 e5 e6 e7 e8 e9 e10 e11 e12 e13 e14 hw1 hw2 hw3 HX3 HB3
          have l0 := HLc.out.cell 0
          have l1 := HLc.out.cell 1
          have l2 := HLc.out.cell 2
          have l3 := HLc.out.cell 3
          have l4 := HLc.out.cell 4
          have l5 := HLc.out.cell 5
          have l6 := HLc.out.cell 6
          have l7 := HLc.out.cell 7
          have l8 := HLc.out.cell 8
          have l9 := HLc.out.cell 9
          have l10 := HLc.out.cell 10
          have l11 := HLc.out.cell 11
          have l12 := HLc.out.cell 12
          have l13 := HLc.out.cell 13
          have l14 := HLc.out.cell 14
          simp at l0 l1 l2 l3 l4 l5 l6 l7 l8 l9 l10 l11 l12 l13 l14
          go_wp2_with fail
          refine (HRUN.out _ t F2 htz HBc.out).mono ?_
          rintro e w6 ⟨sv6, dv6, rfl, hos6, hod6, hb6⟩
          rw [HM2.out] at hos6 hod6 ⊢
          obtain ⟨as6, cs6, hsv6⟩ := own_shape hos6
          obtain ⟨ad6, cd6, hdv6⟩ := own_shape hod6
          rw [Hns.out] at hsv6
          rw [Hnd.out] at hdv6
          subst hsv6 hdv6
          rw [HOV.out, HOe.out]
          have HX6 := show Hid (Blk w6 w.heap.size _ 39) from HXc.out.below hb6 HXc.out.lt
          have HA6 := show Hid (Blk w6 w3.heap.size _ 43) from HAc.out.below hb6 HAc.out.lt
          have HB6 : Hid (Below w.heap.size w w6) := HBc.out.trans (hb6.mono HBc.out.size)
          have hs6 : w3.heap.size + 1 < w6.heap.size := by have := hb6.size; omega
          clear hos6 hod6 hb6 HXc HAc HLc HBc HM2 l0 l1 l2 l3 l4 l5 l6 l7 l8 l9 l10 l11 l12 l13 l14
          have e0 := HX6.out.cell 0
          have e1 := HX6.out.cell 1
          have e2 := HX6.out.cell 2
          have e3 := HX6.out.cell 3
          have e4 := HX6.out.cell 4
          have e5 := HX6.out.cell 5
          have e6 := HX6.out.cell 6
          have e7 := HX6.out.cell 7
          have e8 := HX6.out.cell 8
          have e9 := HX6.out.cell 9
          have e10 := HX6.out.cell 10
          have e11 := HX6.out.cell 11
          have e12 := HX6.out.cell 12
          have e13 := HX6.out.cell 13
          have e14 := HX6.out.cell 14
          simp at e0 e1 e2 e3 e4 e5 e6 e7 e8 e9 e10 e11 e12 e13 e14
          have a1 := HA6.out.cell 1
          simp at a1
          have y1 : ¬ w.heap.size = w6.heap.size := by omega
          have y5 : w.heap.size < w6.heap.size := by omega
          have y6 : w3.heap.size < w6.heap.size := by omega
          have y2 : ¬ w3.heap.size = w6.heap.size := by omega
          have y3 : ¬ w.heap.size = w6.heap.size + 1 := by omega
          have y4 : ¬ w3.heap.size = w6.heap.size + 1 := by omega
          go_wp2_with fail
          refine (HRUN.out _ t G htz ((HB6.out.alloc (by omega) _).alloc (by simp; omega) _)).mono ?_
          rintro e w9 ⟨sv9, dv9, rfl, hos9, hod9, hb9⟩
          rw [← HO3.out] at hos9 hod9 ⊢
          obtain ⟨as9, cs9, hsv9⟩ := own_shape hos9
          obtain ⟨ad9, cd9, hdv9⟩ := own_shape hod9
          subst hsv9 hdv9
          unfold outVal outAgg
          rw [HO3f.out.1, HO3f.out.2.1, HO3f.out.2.2]
          have HA9 := show Hid (Blk w9 w3.heap.size _ 43) from ((HA6.out.alloc _).alloc _).below hb9 (by simp; omega)
          have HO9 : Hid (Blk w9 w6.heap.size #[.int .u8 ft, .int .i64 (st : Int), .int .i64 (dr : Int), .int .u16 k0, .int .u16 k1, .int .u16 k2, .int .u16 k3, .int .u16 k4, .int .u16 k5, .int .u16 k6, .int .u16 k7, .slice as6 0 cs6, .slice ad6 0 cd6] 43) := ((Blk.new w6 _ 43).alloc _).below hb9 (by simp; omega)
          have HS9 : Hid (Blk w9 (w6.heap.size + 1) #[.int .i64 (G : Int), .int .u16 k0, .int .u16 k1, .int .u16 k2, .int .u16 k3, .int .u16 k4, .int .u16 k5, .int .u16 k6, .int .u16 k7, .int .u8 what, .int .u8 by_, .int .u16 arg, .int .u8 src, .int .u8 route, .slice da dn dc] 39) := by
            have h := Blk.new (w6.alloc (.cells #[.int .u8 ft, .int .i64 (st : Int), .int .i64 (dr : Int), .int .u16 k0, .int .u16 k1, .int .u16 k2, .int .u16 k3, .int .u16 k4, .int .u16 k5, .int .u16 k6, .int .u16 k7, .slice as6 0 cs6, .slice ad6 0 cd6] 43)) #[.int .i64 (G : Int), .int .u16 k0, .int .u16 k1, .int .u16 k2, .int .u16 k3, .int .u16 k4, .int .u16 k5, .int .u16 k6, .int .u16 k7, .int .u8 what, .int .u8 by_, .int .u16 arg, .int .u8 src, .int .u8 route, .slice da dn dc] 39
            rw [show (w6.alloc (.cells #[.int .u8 ft, .int .i64 (st : Int), .int .i64 (dr : Int), .int .u16 k0, .int .u16 k1, .int .u16 k2, .int .u16 k3, .int .u16 k4, .int .u16 k5, .int .u16 k6, .int .u16 k7, .slice as6 0 cs6, .slice ad6 0 cd6] 43)).heap.size = w6.heap.size + 1 by simp] at h
            exact h.below hb9 (by simp)
          have HB9 : Hid (Below w.heap.size w w9) := ((HB6.out.alloc (by omega) _).alloc (by simp; omega) _).trans (hb9.mono (by simp; omega))
          have hs9 : w6.heap.size + 1 < w9.heap.size := HS9.out.lt
          generalize O3.draws = dr9
          generalize O3.shows.length = ns9
          generalize O3.sends.length = nd9
          generalize O3.cells.getD 0 0 = x0
          generalize O3.cells.getD 1 0 = x1
          generalize O3.cells.getD 2 0 = x2
          generalize O3.cells.getD 3 0 = x3
          generalize O3.cells.getD 4 0 = x4
          generalize O3.cells.getD 5 0 = x5
          generalize O3.cells.getD 6 0 = x6
          generalize O3.cells.getD 7 0 = x7
          clear hos9 hod9 hb9 HX6 HA6 HB6 HO3 HO3f HRUN e0 e1 e2 e3 e4 e5 e6 e7 e8 e9 e10 e11 e12 e13 e14 a1
          have a0 := HA9.out.cell 0
          have a1 := HA9.out.cell 1
          have a3 := HA9.out.cell 3
          have a4 := HA9.out.cell 4
          have a5 := HA9.out.cell 5
          have a6 := HA9.out.cell 6
          have a7 := HA9.out.cell 7
          have a8 := HA9.out.cell 8
          have a9 := HA9.out.cell 9
          have a10 := HA9.out.cell 10
          have a11 := HA9.out.cell 11
          have a12 := HA9.out.cell 12
          simp at a0 a1 a3 a4 a5 a6 a7 a8 a9 a10 a11 a12
          have b0 := HO9.out.cell 0
          have b1 := HO9.out.cell 1
          have b3 := HO9.out.cell 3
          have b4 := HO9.out.cell 4
          have b5 := HO9.out.cell 5
          have b6 := HO9.out.cell 6
          have b7 := HO9.out.cell 7
          have b8 := HO9.out.cell 8
          have b9 := HO9.out.cell 9
          have b10 := HO9.out.cell 10
          have b11 := HO9.out.cell 11
          have b12 := HO9.out.cell 12
          simp at b0 b1 b3 b4 b5 b6 b7 b8 b9 b10 b11 b12
          have s0 := HS9.out.cell 0
          simp at s0
          have z1 : ¬ w3.heap.size = w9.heap.size := by omega
          have z4 : w3.heap.size < w9.heap.size := by omega
          have z5 : w6.heap.size < w9.heap.size := by omega
          have z2 : ¬ w6.heap.size = w9.heap.size := by omega
          have z3 : ¬ w6.heap.size + 1 = w9.heap.size := by omega
          go_wp2
          go_ret
          exact ⟨rfl, HB9.out.alloc (by omega) _⟩

end Go.Proofs.Ytfggaacijcggeaa
