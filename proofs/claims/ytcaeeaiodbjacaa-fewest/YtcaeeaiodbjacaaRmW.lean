/-
  The walks of removeOthers and retext.
  The walk of retext.
-/
import Derived.Test.YtcaeeaiodbjacaaDoW
import Derived.Deep.DeepCutAuto
namespace Go.Proofs.Ytcaeeaiodbjacaa
open Go.RowKit
set_option linter.unusedVariables false

theorem drop_get {α : Type} {l : List α} {i : Nat} {x : α} (h : l[i]? = some x) : l.drop i = x :: l.drop (i + 1) := T.drop_at h

theorem empty_le : (⟨#[]⟩ : ByteArray).size ≤ maxLen := by unfold maxLen; decide

theorem do_len (c : T.Ch) (p : T.Pt) : (T.doP c p).2.length = c.2.length + 1 := by simp [T.doP]

set_option maxRecDepth 100000 in
set_option maxHeartbeats 4000000 in
theorem rm_any {w : World} {base B : Nat} {c : T.Ch} (h : CB w base B c) (hB : base ≤ B) (hs : base ≤ w.heap.size) (hf : Fit c) (hpl : c.2.length ≤ 500) (oo xo : Option Addr) (oc xc : Nat) (old next : List T.Nd) (hol : old.length ≤ 16) (hxl : next.length ≤ 16) (hok : ndOk old)
    (hO : ∀ u : World, Below base w u → NodeAt u oo old) (hX : ∀ u : World, Below base w u → NodeAt u xo next) :
    Calls Try.prog 40 #[.pointer (some ⟨B, 0, none⟩), .slice oo old.length oc, .slice xo next.length xc] w fun e w' => e = .returned (.tuple #[]) ∧ CB w' base B (T.rmAll next old c) ∧ Fm base w w' ∧ Fit (T.rmAll next old c) ∧ (T.rmAll next old c).2.length ≤ c.2.length + 16 := by
  have HO : Hid (∀ u : World, Below base w u → NodeAt u oo old) := hO
  have HX : Hid (∀ u : World, Below base w u → NodeAt u xo next) := hX
  have HP : Hid (∀ (i : Int) (u : World), Below base w u → Calls Try.prog 49 #[.slice xo next.length xc, .int .u8 i] u fun e w' => e = .returned (.int .i64 (T.place next i)) ∧ Below u.heap.size u w') := fun i u hu => place_any xo xc next i u (by unfold maxLen; omega) (hX u hu)
  have HOk : Hid (ndOk old) := hok
  have HC : Hid (CB w base B c ∧ Fit c) := ⟨h, hf⟩
  obtain ⟨n, hn⟩ : ∃ n, n = old.length := ⟨_, rfl⟩
  have Hn : Hid (old.length = n) := hn.symm
  obtain ⟨xn, hxn⟩ : ∃ n, n = next.length := ⟨_, rfl⟩
  have Hxn : Hid (next.length = xn) := hxn.symm
  rw [← hn] at hol ⊢
  rw [← hxn] at HP hxl ⊢
  clear h hf hO hX hok hn hxn
  go_enter Try.func40, Try.ntmps40
  go_wp2_with fail
  go_loopw [11] (fun i wr => ∃ (k : Nat) (d : T.Ch), k ≤ n ∧ i = .int .i64 k ∧ d.2.length ≤ c.2.length + k ∧ Hid (CB wr base B d ∧ Fit d ∧ Fm base w wr) ∧ Hid (T.rmAll next old c = T.rmAll next (old.drop k) d))
    (fun i _ => n - (intOf i).toNat)
  case atStart => exact ⟨0, c, Nat.zero_le _, rfl, by omega, ⟨HC.out.1, HC.out.2, Fm.refl _ _⟩, rfl⟩
  case round =>
    obtain ⟨k, d, hk, rfl, hdl, HD, HR⟩ := hrel
    clear HC
    have hsz := HD.out.2.2.size
    by_cases hlt : k < n
    · obtain ⟨x, hx⟩ : ∃ x, old[k]? = some x := ⟨old[k]'(by have := Hn.out; omega), List.getElem?_eq_getElem (by have := Hn.out; omega)⟩
      have hxk := HOk.out x (List.mem_of_getElem? hx)
      have HR1 : Hid (T.rmAll next old c = T.rmAll next (old.drop (k + 1)) (if T.stays next x then d else T.doP d (1, x.1, 0, 0, ⟨#[]⟩))) := by
        unfold Hid
        rw [HR.out, drop_get hx]
        rfl
      obtain ⟨b, off, rfl, hbl, hr⟩ : ∃ b off, oo = some ⟨b, off, none⟩ ∧ b < wr.heap.size ∧ NodeRow wr b off old := (HO.out wr HD.out.2.2.bel).resolve_left (by rintro rfl; simp at hx)
      obtain ⟨c0, c1, c2⟩ := hr k _ hx
      have hid : 0 ≤ x.1 ∧ x.1 ≤ 255 := ⟨hxk.1.1, hxk.1.2.1⟩
      have HDo : Hid (∀ u : World, Below wr.heap.size wr u → Calls Try.prog 52 #[.pointer (some ⟨B, 0, none⟩), .agg #[.int .u8 1, .int .u8 x.1, .int .i64 0, .int .u16 0, .string ⟨#[]⟩]] u fun e w' => e = .returned (.tuple #[]) ∧ CB w' base B (T.doP d (1, x.1, 0, 0, ⟨#[]⟩)) ∧ Fm base u w') :=
        fun u hu => do_any (HD.out.1.below hu) hB (by have := hu.size; omega) HD.out.2.1.1 HD.out.2.1.2 (by omega) 1 x.1 0 0 ⟨#[]⟩ hid (by omega) (by unfold maxLen; decide)
      have HFit : Hid (Fit (T.doP d (1, x.1, 0, 0, ⟨#[]⟩))) := fit_do HD.out.2.1 ⟨hid, by simp, empty_le⟩
      have HPx : Hid (∀ u : World, Below wr.heap.size wr u → Calls Try.prog 49 #[.slice xo xn xc, .int .u8 x.1] u fun e w' => e = .returned (.int .i64 (T.place next x.1)) ∧ Below u.heap.size u w') :=
        fun u hu => HP.out x.1 u (HD.out.2.2.bel.trans (hu.mono (by omega)))
      have hki : (k : Int) < (n : Int) := by omega
      have hk0 : (0 : Int) ≤ (k : Int) := by omega
      have hbne : ¬ b = wr.heap.size := by omega
      have HX1 : Hid (NodeAt wr xo next) := HX.out wr HD.out.2.2.bel
      clear hr hxk
      cases hh : T.has next x.1 with
      | false =>
        have HR2 : Hid (T.rmAll next old c = T.rmAll next (old.drop (k + 1)) (T.doP d (1, x.1, 0, 0, ⟨#[]⟩))) := by
          unfold Hid
          rw [HR1.out, if_neg]
          unfold T.stays
          rw [T.place_no hh]
          simp
        rw [T.place_no hh] at HPx
        obtain ⟨x1, x2, x3⟩ := x
        simp only at c0 c1 c2 HDo HPx HR2 HFit
        clear hh hx HR1 HR
        go_wp2_with fail
        refine (HPx.out _ ((Below.refl _ _).alloc (Nat.le_refl _) _)).mono ?_
        rintro e w1 ⟨rfl, hb1⟩
        have hxb : Blk w1 wr.heap.size #[.int .u8 x1, .int .u16 x2, .string x3] 60 := (Blk.new wr _ 60).below hb1 (by simp)
        have e0 := hxb.cell 0
        have e1 := hxb.cell 1
        simp at e0 e1
        have HB1 : Hid (Below wr.heap.size wr w1) := ((Below.refl _ _).alloc (Nat.le_refl _) _).trans (hb1.mono (by simp))
        clear hb1 hxb HPx
        go_wp2_with fail
        go_quiet (fail)
        go_wp2_with fail
        refine (HDo.out _ (below_drewN HB1.out _)).mono ?_
        rintro e w2 ⟨rfl, hc2, hf2⟩
        have HD2 : Hid (CB w2 base B (T.doP d (1, x1, 0, 0, ⟨#[]⟩)) ∧ Fit (T.doP d (1, x1, 0, 0, ⟨#[]⟩)) ∧ Fm base w w2) := ⟨hc2, HFit.out, (HD.out.2.2.trans (Fm.of (below_drewN HB1.out _) (by omega))).trans hf2⟩
        clear hc2 hf2 HDo
        go_wp2
        go_roundw
        case rel => exact ⟨k + 1, T.doP d (1, x1, 0, 0, ⟨#[]⟩), by omega, by go_num, by rw [do_len]; omega, HD2, HR2⟩
        case measure => simp [intOf]; omega
      | true =>
        obtain ⟨hp0, hp1⟩ := T.place_yes hh
        obtain ⟨p, hp⟩ : ∃ p : Nat, T.place next x.1 = p := ⟨(T.place next x.1).toNat, by omega⟩
        rw [hp] at HPx hp1
        obtain ⟨y, hy⟩ : ∃ y, next[p]? = some y := ⟨next[p]'(by omega), List.getElem?_eq_getElem (by omega)⟩
        have hyd : next.getD p T.nd0 = y := by rw [List.getD, hy]; rfl
        obtain ⟨bx, fx, rfl, hbx, hrx⟩ : ∃ b off, xo = some ⟨b, off, none⟩ ∧ b < wr.heap.size ∧ NodeRow wr b off next := HX1.out.resolve_left (by rintro rfl; simp at hy)
        have HRx : Hid (NodeRow wr bx fx next) := hrx
        have HY : Hid (next[p]? = some y) := hy
        have hpi : (p : Int) < (xn : Int) := by have := Hxn.out; omega
        have hp00 : (0 : Int) ≤ (p : Int) := by omega
        have hpn : ¬ (p : Int) < 0 := by omega
        obtain ⟨x1, x2, x3⟩ := x
        obtain ⟨y1, y2, y3⟩ := y
        by_cases hyx : y2 = x2
        · have HR2 : Hid (T.rmAll next old c = T.rmAll next (old.drop (k + 1)) d) := by
            unfold Hid
            rw [HR1.out, if_pos]
            unfold T.stays
            rw [hp, show ((p : Int)).toNat = p by omega, hyd]
            simp [hyx]
          simp only at c0 c1 c2 HDo HPx HR2 HFit
          subst hyx
          clear hh hx HR1 HR hp hyd hy hrx hp1 hp0
          go_wp2_with fail
          refine (HPx.out _ ((Below.refl _ _).alloc (Nat.le_refl _) _)).mono ?_
          rintro e w1 ⟨rfl, hb1⟩
          have hxb : Blk w1 wr.heap.size #[.int .u8 x1, .int .u16 y2, .string x3] 60 := (Blk.new wr _ 60).below hb1 (by simp)
          have e0 := hxb.cell 0
          have e1 := hxb.cell 1
          simp at e0 e1
          have hbw1 : Below wr.heap.size wr w1 := ((Below.refl _ _).alloc (Nat.le_refl _) _).trans (hb1.mono (by simp))
          obtain ⟨g0, g1, g2⟩ := (HRx.out.below hbw1 hbx) p _ HY.out
          simp only at g0 g1 g2
          have HB1 : Hid (Below wr.heap.size wr w1) := hbw1
          clear hb1 hxb HPx hbw1
          go_wp2_with fail
          go_quiet (fail)
          go_wp2
          go_roundw
          case rel => exact ⟨k + 1, d, by omega, by go_num, by omega, ⟨HD.out.1.below (below_drewN HB1.out _), HD.out.2.1, HD.out.2.2.trans (Fm.of (below_drewN HB1.out _) (by omega))⟩, HR2⟩
          case measure => simp [intOf]; omega
        · have HR2 : Hid (T.rmAll next old c = T.rmAll next (old.drop (k + 1)) (T.doP d (1, x1, 0, 0, ⟨#[]⟩))) := by
            unfold Hid
            rw [HR1.out, if_neg]
            unfold T.stays
            rw [hp, show ((p : Int)).toNat = p by omega, hyd]
            simp [hyx]
          have hbf : (y2 == x2) = false := by rw [beq_eq_false_iff_ne]; exact hyx
          have hbt : (y2 != x2) = true := by simp [bne, hbf]
          simp only at c0 c1 c2 HDo HPx HR2 HFit
          clear hh hx HR1 HR hp hyd hy hrx hp1 hp0 hyx
          go_wp2_with fail
          refine (HPx.out _ ((Below.refl _ _).alloc (Nat.le_refl _) _)).mono ?_
          rintro e w1 ⟨rfl, hb1⟩
          have hxb : Blk w1 wr.heap.size #[.int .u8 x1, .int .u16 x2, .string x3] 60 := (Blk.new wr _ 60).below hb1 (by simp)
          have e0 := hxb.cell 0
          have e1 := hxb.cell 1
          simp at e0 e1
          have hbw1 : Below wr.heap.size wr w1 := ((Below.refl _ _).alloc (Nat.le_refl _) _).trans (hb1.mono (by simp))
          obtain ⟨g0, g1, g2⟩ := (HRx.out.below hbw1 hbx) p _ HY.out
          simp only at g0 g1 g2
          have HB1 : Hid (Below wr.heap.size wr w1) := hbw1
          clear hb1 hxb HPx hbw1
          go_wp2_with fail
          go_quiet (fail)
          go_wp2_with fail
          refine (HDo.out _ (below_drewN HB1.out _)).mono ?_
          rintro e w2 ⟨rfl, hc2, hf2⟩
          have HD2 : Hid (CB w2 base B (T.doP d (1, x1, 0, 0, ⟨#[]⟩)) ∧ Fit (T.doP d (1, x1, 0, 0, ⟨#[]⟩)) ∧ Fm base w w2) := ⟨hc2, HFit.out, (HD.out.2.2.trans (Fm.of (below_drewN HB1.out _) (by omega))).trans hf2⟩
          clear hc2 hf2 HDo
          go_wp2
          go_roundw
          case rel => exact ⟨k + 1, T.doP d (1, x1, 0, 0, ⟨#[]⟩), by omega, by go_num, by rw [do_len]; omega, HD2, HR2⟩
          case measure => simp [intOf]; omega
    · have HV : Hid (T.rmAll next old c = d) := by
        unfold Hid
        rw [HR.out, List.drop_of_length_le (by have := Hn.out; omega)]
        rfl
      have hki : ¬ (k : Int) < (n : Int) := by omega
      go_wp2
      go_end0
      rw [HV.out]
      exact ⟨rfl, HD.out.1, HD.out.2.2, HD.out.2.1, by omega⟩

end Go.Proofs.Ytcaeeaiodbjacaa

namespace Go.Proofs.Ytcaeeaiodbjacaa
open Go.RowKit
set_option linter.unusedVariables false

set_option maxRecDepth 100000 in
set_option maxHeartbeats 4000000 in
theorem rt_any {w : World} {base B : Nat} {c : T.Ch} (h : CB w base B c) (hB : base ≤ B) (hs : base ≤ w.heap.size) (hf : Fit c) (hpl : c.2.length ≤ 500) (xo : Option Addr) (xc : Nat) (next : List T.Nd) (hxl : next.length ≤ 16) (hok : ndOk next)
    (hX : ∀ u : World, Below base w u → NodeAt u xo next) :
    Calls Try.prog 42 #[.pointer (some ⟨B, 0, none⟩), .slice xo next.length xc] w fun e w' => e = .returned (.tuple #[]) ∧ CB w' base B (T.rtAll next c) ∧ Fm base w w' := by
  have HX : Hid (∀ u : World, Below base w u → NodeAt u xo next) := hX
  have HOk : Hid (ndOk next) := hok
  have HC : Hid (CB w base B c ∧ Fit c) := ⟨h, hf⟩
  obtain ⟨n, hn⟩ : ∃ n, n = next.length := ⟨_, rfl⟩
  have Hn : Hid (next.length = n) := hn.symm
  rw [← hn] at hxl ⊢
  clear h hf hX hok hn
  go_enter Try.func42, Try.ntmps42
  go_wp2_with fail
  go_loopw [9] (fun i wr => ∃ (k : Nat) (d : T.Ch), k ≤ n ∧ i = .int .i64 k ∧ d.2.length ≤ c.2.length + k ∧ Hid (CB wr base B d ∧ Fit d ∧ Fm base w wr) ∧ Hid (T.rtAll next c = T.rtAll (next.drop k) d))
    (fun i _ => n - (intOf i).toNat)
  case atStart => exact ⟨0, c, Nat.zero_le _, rfl, by omega, ⟨HC.out.1, HC.out.2, Fm.refl _ _⟩, rfl⟩
  case round =>
    obtain ⟨k, d, hk, rfl, hdl, HD, HR⟩ := hrel
    clear HC
    have hsz := HD.out.2.2.size
    by_cases hlt : k < n
    · obtain ⟨x, hx⟩ : ∃ x, next[k]? = some x := ⟨next[k]'(by have := Hn.out; omega), List.getElem?_eq_getElem (by have := Hn.out; omega)⟩
      have hxk := HOk.out x (List.mem_of_getElem? hx)
      have HR1 : Hid (T.rtAll next c = T.rtAll (next.drop (k + 1)) (T.rtOne x d)) := by
        unfold Hid
        rw [HR.out, drop_get hx]
        rfl
      obtain ⟨b, off, rfl, hbl, hr⟩ : ∃ b off, xo = some ⟨b, off, none⟩ ∧ b < wr.heap.size ∧ NodeRow wr b off next := (HX.out wr HD.out.2.2.bel).resolve_left (by rintro rfl; simp at hx)
      obtain ⟨c0, c1, c2⟩ := hr k _ hx
      have hid : 0 ≤ x.1 ∧ x.1 ≤ 255 := ⟨hxk.1.1, hxk.1.2.1⟩
      have HDo : Hid (∀ u : World, Below wr.heap.size wr u → Calls Try.prog 52 #[.pointer (some ⟨B, 0, none⟩), .agg #[.int .u8 4, .int .u8 x.1, .int .i64 0, .int .u16 0, .string x.2.2]] u fun e w' => e = .returned (.tuple #[]) ∧ CB w' base B (T.doP d (4, x.1, 0, 0, x.2.2)) ∧ Fm base u w') :=
        fun u hu => do_any (HD.out.1.below hu) hB (by have := hu.size; omega) HD.out.2.1.1 HD.out.2.1.2 (by omega) 4 x.1 0 0 x.2.2 hid (by omega) hxk.2
      have HFit : Hid (Fit (T.doP d (4, x.1, 0, 0, x.2.2))) := fit_do HD.out.2.1 ⟨hid, by simp, hxk.2⟩
      obtain ⟨no, nc, b0, hBl, hnc, hnn, hna⟩ := HD.out.1.now
      have HNA : Hid (NodeAt wr no d.1) := hna
      have HPx : Hid (∀ u : World, Below wr.heap.size wr u → Calls Try.prog 49 #[.slice no d.1.length nc, .int .u8 x.1] u fun e w' => e = .returned (.int .i64 (T.place d.1 x.1)) ∧ Below u.heap.size u w') :=
        fun u hu => place_any no nc d.1 x.1 u (by have := HD.out.2.1.1; unfold maxLen; omega) (hna.below hu (Nat.le_refl _) hu.size)
      obtain ⟨dn, hdn⟩ : ∃ n, n = d.1.length := ⟨_, rfl⟩
      have Hdn : Hid (d.1.length = dn) := hdn.symm
      rw [← hdn] at HPx b0
      have hki : (k : Int) < (n : Int) := by omega
      have hk0 : (0 : Int) ≤ (k : Int) := by omega
      have hbne : ¬ b = wr.heap.size := by omega
      have hBne : ¬ B = wr.heap.size := by omega
      have HBc : Hid (∀ u : World, Below wr.heap.size wr u → u.cell? ⟨B, 0, none⟩ = some (.slice no dn nc)) := by
        intro u hu
        rw [hu.cell hBl]
        exact b0
      clear hr hxk hna hdn
      obtain ⟨x1, x2, x3⟩ := x
      obtain ⟨P, hP⟩ : ∃ P, P = T.place d.1 x1 := ⟨_, rfl⟩
      have HPe : Hid (P = T.place d.1 x1) := hP
      simp only at c0 c1 c2 HDo HPx HFit HR1
      rw [← hP] at HPx
      have HXx : Hid (next[k]? = some (x1, x2, x3)) := hx
      clear hP hx HR
      go_wp2_with fail
      go_cut [6] (fun v wx => v = .int .i64 P ∧ Blk wx wr.heap.size #[.int .u8 x1, .int .u16 x2, .string x3] 60 ∧ Below wr.heap.size wr wx)
      case first =>
        go_region_with (go_at_call 49; refine (HPx.out _ (by first | exact ((Below.refl _ _).alloc (Nat.le_refl _) _).drew | exact ((Below.refl _ _).alloc (Nat.le_refl _) _))).mono ?_; rintro e w1 ⟨rfl, hb1⟩)
        all_goals
          have hbw1 : Below wr.heap.size wr w1 := (((Below.refl _ _).alloc (Nat.le_refl _) _).drew).trans (hb1.mono (by simp))
          have hxa : Blk ((wr.alloc (.cells #[.int .u8 x1, .int .u16 x2, .string x3] 60)).drew) wr.heap.size #[.int .u8 x1, .int .u16 x2, .string x3] 60 := Blk.new wr _ 60
          have hxb := hxa.below hb1 (by simp)
          have HX2 : Hid (Blk w1 wr.heap.size #[.int .u8 x1, .int .u16 x2, .string x3] 60 ∧ Below wr.heap.size wr w1) := ⟨hxb, hbw1⟩
          clear hb1 hxa hxb hbw1
          go_wp2_with fail
          go_meet
          exact ⟨rfl, HX2.out.1, HX2.out.2⟩
      case rest =>
        obtain ⟨rfl, hxb, hbw1⟩ := hcut
        have e0 := hxb.cell 0
        have e2 := hxb.cell 2
        simp at e0 e2
        have bB := HBc.out wc hbw1
        have HB1 : Hid (Below wr.heap.size wr wc) := hbw1
        clear hxb hbw1 HPx c0 c1 c2 b0
        cases hh : T.has d.1 x1 with
        | false =>
          have HR2 : Hid (T.rtAll next c = T.rtAll (next.drop (k + 1)) d) := by
            unfold Hid
            rw [HR1.out]
            unfold T.rtOne
            rw [if_neg]
            simp only
            rw [T.place_no hh]
            omega
          have hpm0 : ¬ (0 : Int) ≤ P := by rw [HPe.out, T.place_no hh]; omega
          have hdec : decide ((0 : Int) ≤ P) = false := decide_eq_false hpm0
          clear hh HR1 hpm0
          go_wp2_with fail
          go_quiet (fail)
          go_wp2
          go_roundw
          case rel => exact ⟨k + 1, d, by omega, by go_num, by omega, ⟨HD.out.1.below (below_drewN HB1.out _), HD.out.2.1, HD.out.2.2.trans (Fm.of (below_drewN HB1.out _) (by omega))⟩, HR2⟩
          case measure => simp [intOf]; omega
        | true =>
          obtain ⟨hp0, hp1⟩ := T.place_yes hh
          obtain ⟨p, hp⟩ : ∃ p : Nat, T.place d.1 x1 = p := ⟨(T.place d.1 x1).toNat, by omega⟩
          have hPp : P = p := by rw [HPe.out, hp]
          subst hPp
          rw [hp] at hp1
          obtain ⟨y, hy⟩ : ∃ y, d.1[p]? = some y := ⟨d.1[p]'(by omega), List.getElem?_eq_getElem (by omega)⟩
          have hyd : d.1.getD p T.nd0 = y := by rw [List.getD, hy]; rfl
          obtain ⟨bx, fx, rfl, hbx, hrx⟩ : ∃ b off, no = some ⟨b, off, none⟩ ∧ b < wr.heap.size ∧ NodeRow wr b off d.1 := HNA.out.resolve_left (by intro q; rw [q] at hy; simp at hy)
          obtain ⟨g0, g1, g2⟩ := (hrx.below HB1.out hbx) p _ hy
          have hpi : (p : Int) < (dn : Int) := by have := Hdn.out; omega
          have hp00 : (0 : Int) ≤ (p : Int) := by omega
          have hdec : decide ((0 : Int) ≤ (p : Int)) = true := decide_eq_true (by omega)
          obtain ⟨y1, y2, y3⟩ := y
          simp only at g0 g1 g2
          by_cases hyx : y3 = x3
          · have HR2 : Hid (T.rtAll next c = T.rtAll (next.drop (k + 1)) d) := by
              unfold Hid
              rw [HR1.out]
              unfold T.rtOne
              rw [if_neg]
              simp only
              rw [hp, show ((p : Int)).toNat = p by omega, hyd]
              simp [hyx]
            subst hyx
            have t3 : (y3.toList == y3.toList) = true := by simp
            have t4 : (y3.toList != y3.toList) = false := by simp
            clear hh HR1 hp hyd hy hrx hp1 hp0
            go_wp2_with fail
            go_quiet (fail)
            go_wp2
            go_roundw
            case rel => exact ⟨k + 1, d, by omega, by go_num, by omega, ⟨HD.out.1.below (below_drewN HB1.out _), HD.out.2.1, HD.out.2.2.trans (Fm.of (below_drewN HB1.out _) (by omega))⟩, HR2⟩
            case measure => simp [intOf]; omega
          · have HR2 : Hid (T.rtAll next c = T.rtAll (next.drop (k + 1)) (T.doP d (4, x1, 0, 0, x3))) := by
              unfold Hid
              rw [HR1.out]
              unfold T.rtOne
              rw [if_pos]
              simp only
              refine ⟨by rw [hp]; omega, ?_⟩
              rw [hp, show ((p : Int)).toNat = p by omega, hyd]
              exact hyx
            have t3 : (y3.toList == x3.toList) = false := text_ne hyx
            have t4 : (y3.toList != x3.toList) = true := by simp [bne, t3]
            clear hh HR1 hp hyd hy hrx hp1 hp0 hyx
            go_wp2_with fail
            go_quiet (fail)
            go_wp2_with fail
            refine (HDo.out _ (below_drewN HB1.out _)).mono ?_
            rintro e w2 ⟨rfl, hc2, hf2⟩
            have HD2 : Hid (CB w2 base B (T.doP d (4, x1, 0, 0, x3)) ∧ Fit (T.doP d (4, x1, 0, 0, x3)) ∧ Fm base w w2) := ⟨hc2, HFit.out, (HD.out.2.2.trans (Fm.of (below_drewN HB1.out _) (by omega))).trans hf2⟩
            clear hc2 hf2
            go_wp2
            go_roundw
            case rel => exact ⟨k + 1, T.doP d (4, x1, 0, 0, x3), by omega, by go_num, by rw [do_len]; omega, HD2, HR2⟩
            case measure => simp [intOf]; omega
    · have HV : Hid (T.rtAll next c = d) := by
        unfold Hid
        rw [HR.out, List.drop_of_length_le (by have := Hn.out; omega)]
        rfl
      have hki : ¬ (k : Int) < (n : Int) := by omega
      go_wp2
      go_end0
      rw [HV.out]
      exact ⟨rfl, HD.out.1, HD.out.2.2⟩

end Go.Proofs.Ytcaeeaiodbjacaa
