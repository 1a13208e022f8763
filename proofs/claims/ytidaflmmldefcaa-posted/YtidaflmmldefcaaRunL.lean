/-
  The walk of the machine's run: the rounds.
-/
import Derived.Test.YtidaflmmldefcaaJStep
import Derived.Test.YtidaflmmldefcaaJEnc
import Derived.Deep.LoopGhost
namespace Go.Proofs.Ytidaflmmldefcaa
open Go.RowKit
set_option linter.unusedVariables false

/-- A program lies in the row g. -/
def ProgAt (w : World) (g : Nat) (prog : List (Int × Int)) : Prop := ∃ cur, Blk w g cur 52 ∧ cur.toList.take (prog.length * 2) = insCells prog

theorem ProgAt.row {w : World} {g : Nat} {prog : List (Int × Int)} (h : ProgAt w g prog) : InsRow w g 0 prog := by
  obtain ⟨cur, hb, ht⟩ := h
  intro i x hx
  obtain ⟨h0, h1⟩ := insCells_at prog i x hx
  have hi := (List.getElem?_eq_some_iff.1 hx).1
  rw [Nat.zero_add, hb.cell, hb.cell, ← h0, ← h1, ← ht, List.getElem?_take, List.getElem?_take, if_pos (by omega), if_pos (by omega)]
  simp
theorem ProgAt.fr {base : Nat} {w w' : World} {g : Nat} {prog : List (Int × Int)} (h : ProgAt w g prog) (hf : Fr base w w') : ProgAt w' g prog := by
  obtain ⟨cur, hb, ht⟩ := h
  exact ⟨cur, hf.row _ _ _ hb (by decide) (by decide) (by decide), ht⟩
theorem ProgAt.alloc {w : World} {g : Nat} {prog : List (Int × Int)} (h : ProgAt w g prog) (o : Obj) : ProgAt (w.alloc o) g prog := by
  obtain ⟨cur, hb, ht⟩ := h
  exact ⟨cur, hb.alloc o, ht⟩
theorem own_progAt {w : World} {base g n cap : Nat} {l : List (Int × Int)} (h : w.ownsRow base 52 2 (.slice (some ⟨g, 0, none⟩) n cap) n (insCells l)) (hn : l.length = n) : ProgAt w g l := by
  rcases h.2 with ⟨h1, _⟩ | ⟨g', c, cur, h1, _, hh, _, _, _, ht⟩
  · simp at h1
  · simp at h1
    obtain ⟨rfl, _⟩ := h1
    exact ⟨cur, hh, by rw [hn]; exact ht⟩

theorem Drawn.fr {base : Nat} {w w' : World} {v : InV} {ds : List Int} (h : Drawn w v ds base) (hf : Below base w w') : Drawn w' v ds base := by
  obtain ⟨h1, h2, ⟨bd, off, h3, h4⟩, h5⟩ := h
  refine ⟨h1, h2, ⟨bd, off, h3, ?_⟩, h5⟩
  intro i x hx
  have hi := (List.getElem?_eq_some_iff.1 hx).1
  have hbd := (h3 (by omega)).2
  exact (hf.cell (p := ⟨bd, off + i, none⟩) hbd).trans (h4 i x hx)

theorem runM_halt {prog : List (Int × Int)} {I : H.Inp} {F r : Nat} {M : H.Mach} (h : H.halt prog.length M = true) : H.runM prog I F (r + 1) M = M := by
  simp only [H.runM]; rw [if_pos h]
theorem runM_spent {prog : List (Int × Int)} {I : H.Inp} {F r : Nat} {M : H.Mach} (h : H.halt prog.length M = false) (hs : M.steps = F) : H.runM prog I F (r + 1) M = { M with fault := 1 } := by
  simp only [H.runM]; rw [if_neg (by rw [h]; decide), if_pos hs]
theorem runM_step {prog : List (Int × Int)} {I : H.Inp} {F r : Nat} {M : H.Mach} (h : H.halt prog.length M = false) (hs : M.steps ≠ F) : H.runM prog I F (r + 1) M = H.runM prog I F r (H.adv prog I M) := by
  simp only [H.runM]; rw [if_neg (by rw [h]; decide), if_neg hs]

set_option maxRecDepth 100000 in
set_option maxHeartbeats 4000000 in
theorem run_any {w : World} {base b : Nat} {pile : List Int} {sv dv : Value} {M : H.Mach} (h : MB w base b pile sv dv M) (v : InV) (hv : v.ok) (ds : List Int) (hd : Drawn w v ds base) (g n cv : Nat) (prog : List (Int × Int)) (hpl : prog.length = n) (hn : n ≤ 64) (hp : H.okFrom n 0 prog = true) (hp0 : ∀ x ∈ prog, 0 ≤ x.1) (hpa : ProgAt w g prog)
    (hM : MOk n M) (F : Nat) (hF : v.fuel = F) (hF2 : F ≤ 1000) (hs : M.steps ≤ F) :
    Calls Try.prog 54 #[.pointer (some ⟨b, 0, none⟩), .slice (some ⟨g, 0, none⟩) n cv, .agg v.arr] w fun e w' => e = .returned (.tuple #[]) ∧ Aft w base b (H.runM prog (v.inp ds) F (F + 1 - M.steps) M) w' := by
  have Hv : Hid v.ok := hv
  have HD : Hid (∀ w', Below base w w' → Drawn w' v ds base) := fun w' hb => hd.fr hb
  have Hpl : Hid (prog.length = n) := hpl
  have Hp : Hid (H.okFrom n 0 prog = true) := hp
  have Hp0 : Hid (∀ x ∈ prog, 0 ≤ x.1) := hp0
  have HPA : Hid (ProgAt w g prog) := hpa
  have HMB : Hid (MB w base b pile sv dv M) := h
  have HMO : Hid (MOk n M) := hM
  have HF : Hid (v.fuel = F) := hF
  have Hs : Hid (M.steps ≤ F) := hs
  have Hdr : Hid (InR ds) := hd.rng
  have hlt := h.lt
  have harr : v.arr = #[.int .i64 F, .int .u16 v.c0, .int .u16 v.c1, .int .u16 v.c2, .int .u16 v.c3, .int .u16 v.c4, .int .u16 v.c5, .int .u16 v.c6, .int .u16 v.c7, .int .u8 v.what, .int .u8 v.by_, .int .u16 v.arg, .int .u8 v.src, .int .u8 v.route, .slice v.ao v.n v.cap] := by unfold InV.arr; rw [hF]
  have HArr : Hid (v.arr = #[.int .i64 F, .int .u16 v.c0, .int .u16 v.c1, .int .u16 v.c2, .int .u16 v.c3, .int .u16 v.c4, .int .u16 v.c5, .int .u16 v.c6, .int .u16 v.c7, .int .u8 v.what, .int .u8 v.by_, .int .u16 v.arg, .int .u8 v.src, .int .u8 v.route, .slice v.ao v.n v.cap]) := harr
  rw [harr]
  clear hv hd hpl hp hp0 hpa h hM hF hs harr
  go_enter Try.func54, Try.ntmps54
  go_wp2_with fail
  go_loopg [6] (F + 1 - M.steps) (fun k x wr => ∃ M' pile' sv' dv', MB wr base b pile' sv' dv' M' ∧ Fr base w wr ∧ Blk wr w.heap.size v.arr 112 ∧ MOk n M' ∧ M'.steps ≤ F ∧ k = F + 1 - M'.steps ∧ H.runM prog (v.inp ds) F (F + 1 - M.steps) M = H.runM prog (v.inp ds) F k M')
  case atStart => exact ⟨M, pile, sv, dv, HMB.out.alloc _, (Fr.refl _ _).alloc hlt _, by rw [HArr.out]; exact Blk.new w _ 112, HMO.out, Hs.out, rfl, rfl⟩
  case round =>
    obtain ⟨M', pile', sv', dv', hmb, hfr, hblk, hmo, hst, hk, hrun⟩ := hrel
    have HMr : Hid (MB wr base b pile' sv' dv' M') := hmb
    have HFr : Hid (Fr base w wr) := hfr
    have HBi : Hid (Blk wr w.heap.size v.arr 112) := hblk
    have HMo : Hid (MOk n M') := hmo
    have HRn : Hid (H.runM prog (v.inp ds) F (F + 1 - M.steps) M = H.runM prog (v.inp ds) F gk M') := hrun
    have HK : Hid (gk = F + 1 - M'.steps) := hk
    have Hst : Hid (M'.steps ≤ F) := hst
    have c24 := hmb.c24
    have c25 := hmb.c25
    have c21 := hmb.c21
    have c22 := hmb.c22
    have f22 := hmb.free 22
    have f25 := hmb.free 25
    have n0 := hmo.next0
    have n1 := hmo.next1
    have hgk : gk = (gk - 1) + 1 := by omega
    have HG : Hid (gk = (gk - 1) + 1) := hgk
    clear hmb hfr hblk hmo hrun hk hst hgk
    obtain ⟨en, hen⟩ : ∃ en, en = M'.ended := ⟨_, rfl⟩
    obtain ⟨ft, hft⟩ : ∃ ft, ft = M'.fault := ⟨_, rfl⟩
    obtain ⟨nx, hnx⟩ : ∃ nx, nx = M'.next := ⟨_, rfl⟩
    obtain ⟨sp, hsp⟩ : ∃ sp, sp = M'.steps := ⟨_, rfl⟩
    rw [← hen] at c24
    rw [← hft] at c25
    rw [← hnx] at c21 n0 n1
    rw [← hsp] at c22
    have Hen : Hid (en = M'.ended) := hen
    have Hft : Hid (ft = M'.fault) := hft
    have Hnx : Hid (nx = M'.next) := hnx
    have Hsp : Hid (sp = M'.steps) := hsp
    clear hen hft hnx hsp
    cases en with
    | true =>
      have HE : Hid (H.runM prog (v.inp ds) F (F + 1 - M.steps) M = M') := by
        unfold Hid; rw [HRn.out, HG.out]; exact runM_halt (by unfold H.halt; rw [← Hen.out]; rfl)
      go_wp2
      go_end0
      exact ⟨rfl, by rw [HE.out]; exact ⟨⟨_, _, _, HMr.out⟩, HFr.out⟩⟩
    | false =>
      by_cases hz : ft = 0
      · subst hz
        by_cases hlt2 : nx < (n : Int)
        · have HH : Hid (H.halt prog.length M' = false) := by
            unfold Hid H.halt; rw [← Hen.out, ← Hft.out, ← Hnx.out, Hpl.out]; simp; omega
          by_cases hsf : sp = F
          · have HE : Hid (H.runM prog (v.inp ds) F (F + 1 - M.steps) M = { M' with fault := 1 }) := by
              unfold Hid; rw [HRn.out, HG.out]; exact runM_spent HH.out (by rw [← Hsp.out]; exact hsf)
            have e0 := HBi.out.cell 0
            rw [HArr.out] at e0
            simp at e0
            subst hsf
            go_wp2_with fail
            go_quiet (fail)
            go_wp2
            exact bodyPost_ret (v := .tuple #[]) (by simp [results, Try.results54]) rfl ⟨rfl, by rw [HE.out]; exact ⟨⟨_, _, _, (HMr.out.drewN _).set_fault 1⟩, (HMr.out.drewN _).fr_set (HFr.out.drewN _) _ _⟩⟩
          · have hsf2 : ((sp : Int) == (F : Int)) = false := by rw [beq_eq_false_iff_ne]; omega
            have hspF : sp ≤ F := by rw [Hsp.out]; exact Hst.out
            obtain ⟨k, hk⟩ := Int.eq_ofNat_of_zero_le n0
            subst hk
            have hkn : k < n := by omega
            obtain ⟨x, hx⟩ : ∃ x, prog[k]? = some x := ⟨prog[k]'(by have := Hpl.out; omega), List.getElem?_eq_getElem (by have := Hpl.out; omega)⟩
            obtain ⟨o, a⟩ := x
            have hal := (okFrom_at _ _ _ _ _ Hp.out hx).1
            have hop := Hp0.out _ (List.mem_of_getElem? hx)
            simp only at hal hop
            have hpr := HPA.out.fr HFr.out
            obtain ⟨pc0, pc1⟩ := hpr.row k _ hx
            rw [Nat.zero_add] at pc0 pc1
            have hgb : ¬ g = b := by
              intro e
              obtain ⟨cur, hcb, _⟩ := hpr
              have hmb := HMr.out.blk
              subst e
              unfold Blk at hcb hmb
              rw [hcb] at hmb
              simp at hmb
            have hbi : ¬ w.heap.size = b := by
              intro e
              have hmb := HMr.out.blk
              have hb2 := HBi.out
              subst e
              unfold Blk at hb2 hmb
              rw [hb2] at hmb
              simp at hmb
            have hgb2 : ¬ b = g := fun e => hgb e.symm
            have hbi2 : ¬ b = w.heap.size := fun e => hbi e.symm
            have hadv : H.adv prog (v.inp ds) M' = H.step o a (v.inp ds) { M' with steps := sp + 1 } := by
              unfold H.adv
              rw [← Hnx.out, Int.toNat_natCast, Hsp.out]
              have : prog.getD k (0, 0) = (o, a) := by simp [List.getD, hx]
              rw [this]
            have HAd : Hid (H.adv prog (v.inp ds) M' = H.step o a (v.inp ds) { M' with steps := sp + 1 }) := hadv
            have HAk : Hid (MOk n (H.adv prog (v.inp ds) M')) := by
              have := adv_ok (prog := prog) (M := M') (by rw [Hpl.out]; exact Hp.out) (by rw [Hpl.out]; exact HMo.out) (by rw [← Hnx.out, Hpl.out]; exact hlt2) v Hv.out Hdr.out
              rw [Hpl.out] at this
              exact this
            have HAs : Hid ((H.adv prog (v.inp ds) M').steps = sp + 1) := by
              unfold Hid; rw [(adv_kp prog (v.inp ds) M').1, Hsp.out]
            have HRs : Hid (H.runM prog (v.inp ds) F (F + 1 - M.steps) M = H.runM prog (v.inp ds) F (gk - 1) (H.adv prog (v.inp ds) M')) := by
              unfold Hid; rw [HRn.out]; conv => lhs; rw [HG.out]
              exact runM_step HH.out (by rw [← Hsp.out]; exact hsf)
            have HSTEP : Hid (∀ W, MB W base b pile' sv' dv' { M' with steps := sp + 1 } → Below base w W → Calls Try.prog 58 #[.pointer (some ⟨b, 0, none⟩), .agg #[.int .u8 o, .int .i64 a], .agg #[.int .i64 F, .int .u16 v.c0, .int .u16 v.c1, .int .u16 v.c2, .int .u16 v.c3, .int .u16 v.c4, .int .u16 v.c5, .int .u16 v.c6, .int .u16 v.c7, .int .u8 v.what, .int .u8 v.by_, .int .u16 v.arg, .int .u8 v.src, .int .u8 v.route, .slice v.ao v.n v.cap]] W fun e w' => e = .returned (.tuple #[]) ∧ Aft W base b (H.step o a (v.inp ds) { M' with steps := sp + 1 }) w') := by
              intro W hm hb
              have hmo := HMo.out
              have := step_any hm v Hv.out ds (HD.out W hb) n hn ⟨hmo.st, hmo.cells, hmo.text, hmo.chars, hmo.next0, hmo.next1⟩ o a hop hal
              unfold stepArgs at this
              rw [HArr.out] at this
              exact this
            have HM2 : Hid (∀ q, MB ((wr.drewN q).setCell ⟨b, 22, none⟩ (.int .i64 ((sp : Int) + 1))).drew base b pile' sv' dv' { M' with steps := sp + 1 }) := fun q => ((HMr.out.drewN q).set_steps (sp + 1)).drew
            have HF2 : Hid (∀ q, Fr base w ((wr.drewN q).setCell ⟨b, 22, none⟩ (.int .i64 ((sp : Int) + 1))).drew) := fun q => ((HMr.out.drewN q).fr_set (HFr.out.drewN q) _ _).drew
            have HB2 : Hid (∀ q, Blk ((wr.drewN q).setCell ⟨b, 22, none⟩ (.int .i64 ((sp : Int) + 1))).drew w.heap.size v.arr 112) := fun q => HBi.out.other ⟨b, 22, none⟩ _ hbi
            have e0 := HBi.out.cell 0
            have e1 := HBi.out.cell 1
            have e2 := HBi.out.cell 2
            have e3 := HBi.out.cell 3
            have e4 := HBi.out.cell 4
            have e5 := HBi.out.cell 5
            have e6 := HBi.out.cell 6
            have e7 := HBi.out.cell 7
            have e8 := HBi.out.cell 8
            have e9 := HBi.out.cell 9
            have e10 := HBi.out.cell 10
            have e11 := HBi.out.cell 11
            have e12 := HBi.out.cell 12
            have e13 := HBi.out.cell 13
            have e14 := HBi.out.cell 14
            rw [HArr.out] at e0 e1 e2 e3 e4 e5 e6 e7 e8 e9 e10 e11 e12 e13 e14
            simp at e0 e1 e2 e3 e4 e5 e6 e7 e8 e9 e10 e11 e12 e13 e14
            have hk0 : (0 : Int) ≤ (k : Int) := by omega
            have hspl : sp < F := by omega
            clear hx hal hop hpr hadv hsf
            go_wp2_with fail
            go_quiet (fail)
            go_wp2_with fail
            go_region_with (go_at_call 58; refine (HSTEP.out _ (HM2.out nq) (HF2.out nq).below).mono ?_; rintro e w2 ⟨rfl, ⟨pile2, sv2, dv2, hm2⟩, hf2⟩)
            all_goals
              go_wp2
              go_roundg (gk - 1)
              case measure => have := HG.out; omega
              case rel =>
                rw [← HAd.out] at hm2
                exact ⟨H.adv prog (v.inp ds) M', _, _, _, hm2, (HF2.out nq).trans hf2, hf2.row _ _ _ (HB2.out nq) (by decide) (by decide) (by decide), HAk.out, by rw [HAs.out]; omega, by rw [HAs.out]; have h1 := HK.out; rw [← Hsp.out] at h1; omega, HRs.out⟩
        · have HE : Hid (H.runM prog (v.inp ds) F (F + 1 - M.steps) M = M') := by
            unfold Hid; rw [HRn.out, HG.out]; exact runM_halt (by unfold H.halt; rw [← Hnx.out, Hpl.out]; simp; omega)
          have hb : decide (nx < (n : Int)) = false := by simp; omega
          clear hlt2
          go_wp2
          go_end0
          exact ⟨rfl, by rw [HE.out]; exact ⟨⟨_, _, _, HMr.out⟩, HFr.out⟩⟩
      · have HE : Hid (H.runM prog (v.inp ds) F (F + 1 - M.steps) M = M') := by
          unfold Hid; rw [HRn.out, HG.out]; exact runM_halt (by unfold H.halt; rw [← Hft.out]; simp [hz])
        have hb : (ft == 0) = false := by simpa using hz
        clear hz
        go_wp2
        go_end0
        exact ⟨rfl, by rw [HE.out]; exact ⟨⟨_, _, _, HMr.out⟩, HFr.out⟩⟩

end Go.Proofs.Ytidaflmmldefcaa
