/-
  The walk of bounded.
-/
import Derived.Test.YtidaflmmldefcaaBndM
import Derived.Test.YtidaflmmldefcaaFrC
import Derived.Test.YtidaflmmldefcaaArr8
namespace Go.Proofs.Ytidaflmmldefcaa
open Go.RowKit
set_option linter.unusedVariables false

section
variable {w w' : World} {hb tb cap : Nat} {H : Hs} {vs : List Vs}

set_option maxRecDepth 100000 in
set_option maxHeartbeats 16000000 in
theorem bounded_any {ms : List Mf} (h : HostAt w hb tb cap H vs) (hi : HI ms H) (hm1 : 1 ≤ ms.length) (hm4 : ms.length ≤ 4) (b off ncap : Nat) (hr : MfRow w b off ms) (hbl : b < w.heap.size) (hg : ∀ m ∈ ms, m.good) (t : Nat) (ht : t < ms.length) :
    Calls Try.prog 11 #[.pointer (some ⟨hb, 0, none⟩), .slice (some ⟨b, off, none⟩) ms.length ncap, .int .i64 t] w fun e w' => e = .returned (.bool true) ∧ Below w.heap.size w w' := by
  obtain ⟨x, hx⟩ : ∃ x, H.ts[t]? = some x := ⟨H.ts[t]'(by rw [hi.len]; exact ht), List.getElem?_eq_getElem (by rw [hi.len]; exact ht)⟩
  have hti := hi.ten t x hx
  have hle : H.ts.length ≤ 100000 := by have := hi.len; omega
  have htb : tb < w.heap.size := h.tb_lt hx
  have hbx : x.box.length ≤ 100000 := by have := hti.blen hm4; omega
  have CP : Hid (Calls Try.prog 18 #[.pointer (some ⟨hb, 0, none⟩), .int .i64 t] w fun e w' => e = .returned (.int .u8 x.phase) ∧ w = w') := phase_any h t hx hle
  have CC : Hid (Calls Try.prog 17 #[.pointer (some ⟨hb, 0, none⟩), .int .i64 t] w fun e w' => e = .returned (.agg #[.int .u16 (x.cells.getD 0 0), .int .u16 (x.cells.getD 1 0), .int .u16 (x.cells.getD 2 0), .int .u16 (x.cells.getD 3 0), .int .u16 (x.cells.getD 4 0), .int .u16 (x.cells.getD 5 0), .int .u16 (x.cells.getD 6 0), .int .u16 (x.cells.getD 7 0)]) ∧ Below w.heap.size w w') := cells_any h t hx hle htb
  have CT : Hid (∀ u, Below w.heap.size w u → Calls Try.prog 26 #[.pointer (some ⟨hb, 0, none⟩), .int .i64 t] u fun e w' => ∃ rv, e = .returned rv ∧ w'.ownsRow u.heap.size 77 3 rv x.nodes.length (Tr.ndCells x.nodes) ∧ Below u.heap.size u w') := fun u hu => htree_any (h.below hu htb) t hx hle (Nat.le_trans hti.nlen (by decide))
  have CB : Hid (∀ u, Below w.heap.size w u → Calls Try.prog 15 #[.pointer (some ⟨hb, 0, none⟩), .int .i64 t] u fun e w' => ∃ rv, e = .returned rv ∧ w'.ownsRow u.heap.size 58 4 rv x.box.length (evCells x.box) ∧ Below u.heap.size u w') := fun u hu => hbox_any (h.below hu htb) t hx hle hbx
  obtain ⟨p, hp⟩ : ∃ p, p = x.phase := ⟨_, rfl⟩
  obtain ⟨nl, hnl⟩ : ∃ nl, nl = x.nodes.length := ⟨_, rfl⟩
  obtain ⟨bl, hbl'⟩ : ∃ bl, bl = x.box.length := ⟨_, rfl⟩
  have hnl8 : nl ≤ 8 := by rw [hnl]; exact hti.nlen
  have hb19 : bl ≤ 19 := by rw [hbl']; exact hti.blen hm4
  have HPh : Hid (p = 0 ∨ p = 1 ∨ p = 2) := by rw [hp]; exact hti.phase
  have hd2 : decide (2 < p) = false := dec_no (by rcases HPh.out with e | e | e <;> omega)
  have HOut : Hid (p = 0 → x.cells = zeros ∧ nl = 0 ∧ bl = 0) := by
    intro e
    obtain ⟨o1, o2, o3⟩ := hti.out (by rw [← hp]; exact e)
    exact ⟨o1, by rw [hnl, o2]; rfl, by rw [hbl', o3]; rfl⟩
  have HHeld : Hid (p = 2 → (∃ id, x.nodes = [(id, 65535, bang)]) ∧ bl = 0) := by
    intro e
    obtain ⟨o1, o2⟩ := hti.held (by rw [← hp]; exact e)
    exact ⟨o1, by rw [hbl', o2]; rfl⟩
  obtain ⟨n0, hn0⟩ : ∃ n0, n0 = x.box.countP (isEv 0 0) := ⟨_, rfl⟩
  obtain ⟨n1, hn1⟩ : ∃ n1, n1 = x.box.countP (isEv 1 0) := ⟨_, rfl⟩
  have hn01 : n0 ≤ 1 := by rw [hn0, hti.ev0]; exact hti.starts
  have hn16 : n1 ≤ 6 := by rw [hn1, hti.ev1]; exact hti.clicks
  obtain ⟨M, hM⟩ : ∃ M : Nat → Nat, M = fun s : Nat => x.box.countP (isEv 2 ((s : Int) + 1)) := ⟨_, rfl⟩
  have HSum : Hid (bl = n0 + n1 + sumTo M ms.length) := by unfold Hid; rw [hbl', hn0, hn1, hM]; exact hti.sum
  have HMs : Hid (∀ s, (M s : Int) ≤ x.share ∧ M s ≤ 3 ∧ (M s ≠ 0 → s ≠ t ∧ ∀ m, ms[s]? = some m → bits BinOp.and IntKind.u8 m.pub x.sub ≠ 0)) := by
    intro s
    have q1 := hti.msgs ((s : Int) + 1)
    have q2 := hti.good.share.2
    simp only [Tn.mf] at q2
    have e1 : M s = x.waiting ((s : Int) + 1) := by rw [hM]; rfl
    refine ⟨by rw [e1]; exact q1, by omega, fun hs => ?_⟩
    rw [hM] at hs
    obtain ⟨a1, m, a2, a3⟩ := hti.ev2 hs
    refine ⟨a1, fun m' hm' => ?_⟩
    rw [a2] at hm'
    have := Option.some.inj hm'
    subst this
    exact linked_bits (hg m (List.mem_of_getElem? a2)).pub hti.good.sub a3
  have HCt : Hid (∀ u ao c wh by_, BoxAt u (.slice ao bl c) x.box → Calls Try.prog 27 #[.slice ao bl c, .int .u8 wh, .int .u8 by_] u fun e w' => e = .returned (.int .i64 (x.box.countP (isEv wh by_) : Int)) ∧ Below u.heap.size u w') := by
    intro u ao c wh by_ hbo
    rw [hbl'] at hbo ⊢
    exact counted_any wh by_ hbo hbx
  have HM0 : Hid (x.box.countP (isEv 0 0) = n0 ∧ x.box.countP (isEv 1 0) = n1 ∧ ∀ s : Nat, x.box.countP (isEv 2 ((s : Int) + 1)) = M s) := ⟨hn0.symm, hn1.symm, fun s => by rw [hM]⟩
  obtain ⟨n, hn⟩ : ∃ n, n = ms.length := ⟨_, rfl⟩
  have Hn : Hid (ms.length = n) := hn.symm
  have HR : Hid (MfRow w b off ms) := hr
  have HT : Hid (ms[t]? = some x.mf) := hti.mf
  have HMl : Hid (x.nodes.length = nl ∧ x.box.length = bl) := ⟨hnl.symm, hbl'.symm⟩
  rw [← hn] at hm1 hm4 ht HSum ⊢
  rw [← hp] at CP
  rw [← hnl] at CT
  rw [← hbl'] at CB
  have HCe : Hid (p = 0 → x.cells.getD 0 0 = 0 ∧ x.cells.getD 1 0 = 0 ∧ x.cells.getD 2 0 = 0 ∧ x.cells.getD 3 0 = 0 ∧ x.cells.getD 4 0 = 0 ∧ x.cells.getD 5 0 = 0 ∧ x.cells.getD 6 0 = 0 ∧ x.cells.getD 7 0 = 0) := by
    intro e
    rw [(HOut.out e).1]
    exact ⟨rfl, rfl, rfl, rfl, rfl, rfl, rfl, rfl⟩
  generalize x.cells.getD 0 0 = k0 at CC HCe
  generalize x.cells.getD 1 0 = k1 at CC HCe
  generalize x.cells.getD 2 0 = k2 at CC HCe
  generalize x.cells.getD 3 0 = k3 at CC HCe
  generalize x.cells.getD 4 0 = k4 at CC HCe
  generalize x.cells.getD 5 0 = k5 at CC HCe
  generalize x.cells.getD 6 0 = k6 at CC HCe
  generalize x.cells.getD 7 0 = k7 at CC HCe
  have hwl : IntKind.i64.wrap ((n0 : Int) + (n1 : Int)) = (n0 : Int) + (n1 : Int) := by rw [IntKind.wrap_i64]; omega
  clear h hi hr hg hti hx hp hnl hbl' hn0 hn1 hM hn hle htb hbx
  go_enter Try.func11, Try.ntmps11
  go_wp2_with fail
  refine CP.out.mono ?_
  rintro e w1 ⟨rfl, rfl⟩
  go_wp2_with fail
  refine CC.out.mono ?_
  rintro e w1 ⟨rfl, hb1⟩
  have HB1 : Hid (Below w.heap.size w w1) := hb1
  have hs1 := hb1.size
  clear hb1
  obtain ⟨W, hW⟩ : ∃ W, W = w1.alloc (.cells #[.int .u16 k0, .int .u16 k1, .int .u16 k2, .int .u16 k3, .int .u16 k4, .int .u16 k5, .int .u16 k6, .int .u16 k7] 47) := ⟨_, rfl⟩
  have HBW : Hid (Below w.heap.size w W) := by unfold Hid; rw [hW]; exact HB1.out.alloc hs1 _
  have HCW : Hid (Blk W w1.heap.size #[.int .u16 k0, .int .u16 k1, .int .u16 k2, .int .u16 k3, .int .u16 k4, .int .u16 k5, .int .u16 k6, .int .u16 k7] 47) := by unfold Hid; rw [hW]; exact Blk.new w1 _ 47
  go_upto_region 3 with fail
  rw [← hW]
  clear hW
  go_wp2_with fail
  refine (CT.out _ HBW.out).mono ?_
  rintro e w2 ⟨rv, rfl, ho2, hb2⟩
  have HN2 : Hid (w2.ownsRow 0 77 3 rv nl (Tr.ndCells x.nodes)) := own_zero ho2
  obtain ⟨no, nc, rfl⟩ := own_is ho2
  have HB2 : Hid (Below w.heap.size w w2) := HBW.out.trans (hb2.mono HBW.out.size)
  have HC2 : Hid (Blk w2 w1.heap.size #[.int .u16 k0, .int .u16 k1, .int .u16 k2, .int .u16 k3, .int .u16 k4, .int .u16 k5, .int .u16 k6, .int .u16 k7] 47) := HCW.out.below hb2 HCW.out.lt
  clear ho2 hb2 HBW HCW HB1
  go_wp2_with fail
  refine (CB.out _ HB2.out).mono ?_
  rintro e w3 ⟨rv, rfl, ho3, hb3⟩
  have HX3 : Hid (w3.ownsRow 0 58 4 rv bl (evCells x.box)) := own_zero ho3
  obtain ⟨bo, bc, rfl⟩ := own_is ho3
  have HN3 : Hid (w3.ownsRow 0 77 3 (.slice no nl nc) nl (Tr.ndCells x.nodes)) := own_below' HN2.out hb3 (Nat.le_refl _)
  have HB3 : Hid (Below w.heap.size w w3) := HB2.out.trans (hb3.mono HB2.out.size)
  have HC3 : Hid (Blk w3 w1.heap.size #[.int .u16 k0, .int .u16 k1, .int .u16 k2, .int .u16 k3, .int .u16 k4, .int .u16 k5, .int .u16 k6, .int .u16 k7] 47) := HC2.out.below hb3 HC2.out.lt
  have HXb : Hid (∀ u, Below w3.heap.size w3 u → BoxAt u (.slice bo bl bc) x.box) := by
    intro u hu
    have q := own_below' HX3.out hu (Nat.le_refl _)
    rw [← HMl.out.2] at q ⊢
    exact own_box q
  have HCa : Hid (∀ u, Below w3.heap.size w3 u → Calls Try.prog 27 #[.slice bo bl bc, .int .u8 0, .int .u8 0] u fun e w' => e = .returned (.int .i64 (n0 : Int)) ∧ Below w3.heap.size w3 w') := by
    intro u hu
    have q := HCt.out u bo bc 0 0 (HXb.out u hu)
    rw [HM0.out.1] at q
    exact q.mono fun e w' z => ⟨z.1, hu.trans (z.2.mono hu.size)⟩
  have HCb : Hid (∀ u, Below w3.heap.size w3 u → Calls Try.prog 27 #[.slice bo bl bc, .int .u8 1, .int .u8 0] u fun e w' => e = .returned (.int .i64 (n1 : Int)) ∧ Below w3.heap.size w3 w') := by
    intro u hu
    have q := HCt.out u bo bc 1 0 (HXb.out u hu)
    rw [HM0.out.2.1] at q
    exact q.mono fun e w' z => ⟨z.1, hu.trans (z.2.mono hu.size)⟩
  have HCc : Hid (∀ (s : Nat) u, Below w3.heap.size w3 u → Calls Try.prog 27 #[.slice bo bl bc, .int .u8 2, .int .u8 ((s : Int) + 1)] u fun e w' => e = .returned (.int .i64 (M s : Int)) ∧ Below w3.heap.size w3 w') := by
    intro s u hu
    have q := HCt.out u bo bc 2 ((s : Int) + 1) (HXb.out u hu)
    rw [HM0.out.2.2] at q
    exact q.mono fun e w' z => ⟨z.1, hu.trans (z.2.mono hu.size)⟩
  clear ho3 hb3 HX3 HN2 HB2 HC2 HCt HXb CP CC CT CB
  have hg8 : ¬ (8 : Int) < (nl : Int) := by omega
  have hg1 : ¬ (1 : Int) < (n0 : Int) := by omega
  have hg6 : ¬ (6 : Int) < (n1 : Int) := by omega
  go_wp2_with fail
  refine (HCa.out w3 (Below.refl _ _)).mono ?_
  rintro e w4 ⟨rfl, hb4⟩
  have HB4 : Hid (Below w3.heap.size w3 w4) := hb4
  clear hb4
  go_wp2_with fail
  refine (HCb.out w4 HB4.out).mono ?_
  rintro e w5 ⟨rfl, hb5⟩
  have HB5 : Hid (Below w3.heap.size w3 w5) := hb5
  clear hb5
  go_wp2_with fail
  refine (HCa.out w5 HB5.out).mono ?_
  rintro e w6 ⟨rfl, hb6⟩
  have HB6 : Hid (Below w3.heap.size w3 w6) := hb6
  clear hb6
  go_wp2_with fail
  refine (HCb.out w6 HB6.out).mono ?_
  rintro e w7 ⟨rfl, hb7⟩
  have HB7 : Hid (Below w3.heap.size w3 w7) := hb7
  clear hb7 HB4 HB5 HB6 HCa HCb
  go_wp2_with fail
  go_loopw [11, 50] (fun a i wr => ∃ (k : Nat) (s : Nat), k ≤ n ∧ i = .int .i64 k ∧ a = .int .i64 (s : Int) ∧ s ≤ 7 + 3 * k ∧ Hid (s = n0 + n1 + sumTo M k) ∧ Hid (Below w3.heap.size w3 wr))
    (fun _ i _ => n - (intOf i).toNat)
  case atStart =>
    refine ⟨0, n0 + n1, Nat.zero_le _, rfl, by simp, by omega, rfl, HB7.out⟩
  case round =>
    obtain ⟨k, s, hk, rfl, rfl, hs21, HS, HB⟩ := hrel
    have hsz := HB.out.size
    clear HB7
    by_cases hlt : k < n
    · obtain ⟨m, hm⟩ : ∃ m, ms[k]? = some m := ⟨ms[k]'(by have := Hn.out; omega), List.getElem?_eq_getElem (by have := Hn.out; omega)⟩
      obtain ⟨s1, s2, s3⟩ := HMs.out k
      have hpb : M k ≠ 0 → (k : Int) ≠ (t : Int) ∧ bits BinOp.and IntKind.u8 m.pub x.sub ≠ 0 := fun q => ⟨by have := (s3 q).1; omega, (s3 q).2 m hm⟩
      have HSn : Hid (s + M k = n0 + n1 + sumTo M (k + 1)) := by unfold Hid; rw [HS.out]; simp only [sumTo]; omega
      have HRr : Hid (∀ u, Below w3.heap.size w3 u → MfRow u b off ms) := fun u hu => (HR.out.below HB3.out hbl).below hu (by have := HB3.out.size; omega)
      have CM : Hid (Calls Try.prog 27 #[.slice bo bl bc, .int .u8 2, .int .u8 ((k : Int) + 1)] wr fun e w' => e = .returned (.int .i64 (M k : Int)) ∧ Below w3.heap.size w3 w') := HCc.out k wr HB.out
      have HCl : Hid (∀ u, Below w3.heap.size w3 u → u.cell? ⟨b, off + t * 7 + 5, none⟩ = some (.int .i64 x.share) ∧ u.cell? ⟨b, off + k * 7 + 3, none⟩ = some (.int .u8 m.pub) ∧ u.cell? ⟨b, off + t * 7 + 4, none⟩ = some (.int .u8 x.sub)) := by
        intro u hu
        have q := HRr.out u hu
        exact ⟨q t _ HT.out 5 _ rfl, q k m hm 3 _ rfl, q t _ HT.out 4 _ rfl⟩
      generalize M k = mk at *
      have hw1 : IntKind.i64.wrap ((k : Int) + 1) = (k : Int) + 1 := by rw [IntKind.wrap_i64]; omega
      have hw2 : IntKind.u8.wrap ((k : Int) + 1) = (k : Int) + 1 := by rw [IntKind.wrap_u8]; omega
      have hki : (k : Int) < (n : Int) := by omega
      have hk0 : (0 : Int) ≤ (k : Int) := by omega
      have hti : (t : Int) < (n : Int) := by omega
      have ht0 : (0 : Int) ≤ (t : Int) := by omega
      clear hm s3
      go_wp2_with fail
      refine CM.out.mono ?_
      rintro e w8 ⟨rfl, hb8⟩
      have HB8 : Hid (Below w3.heap.size w3 w8) := hb8
      obtain ⟨e5, e3, e4⟩ := HCl.out w8 hb8
      clear hb8 CM HCl
      go_upto_region 12 with fail
      by_cases hmk : mk = 0
      · subst hmk
        have hgs0 : decide (x.share < 0) = false := dec_no (by omega)
        have hgs1 : (0 : Int) ≤ x.share := by omega
        go_quiet (fail)
        go_wp2
        go_roundw
        case rel => exact ⟨k + 1, s, by omega, by go_num, by simp, by omega, HSn.out, ⟨HB8.out.os, HB8.out.tape, HB8.out.output, HB8.out.size, HB8.out.block⟩⟩
        case measure => simp [intOf]; omega
      · obtain ⟨hkt, hbt⟩ := hpb hmk
        have hg0 : decide ((0 : Int) < (mk : Int)) = true := by simp; omega
        have hkt' : ((k : Int) == (t : Int)) = false := by rw [beq_eq_false_iff_ne]; exact hkt
        have hbt' : (bits BinOp.and IntKind.u8 m.pub x.sub == 0) = false := by rw [beq_eq_false_iff_ne]; exact hbt
        clear hpb
        have hgs2 : decide (x.share < (mk : Int)) = false := dec_no (by omega)
        have hg0n : decide (0 < mk) = true := by simp; omega
        go_quiet (fail)
        go_wp2
        go_roundw
        case rel => exact ⟨k + 1, s + mk, by omega, by go_num, by simp, by omega, HSn.out, ⟨HB8.out.os, HB8.out.tape, HB8.out.output, HB8.out.size, HB8.out.block⟩⟩
        case measure => simp [intOf]; omega
    · have hkn : k = n := by omega
      subst hkn
      have hki : ¬ (k : Int) < (k : Int) := by omega
      have hsb : s = bl := by rw [HS.out, HSum.out]
      subst hsb
      have HBe : Hid (Below w.heap.size w wr) := HB3.out.trans (HB.out.mono HB3.out.size)
      have HNe : Hid (wr.ownsRow 0 77 3 (.slice no nl nc) nl (Tr.ndCells x.nodes)) := own_below' HN3.out HB.out (Nat.le_refl _)
      have HCl : Hid (Blk wr w1.heap.size #[.int .u16 k0, .int .u16 k1, .int .u16 k2, .int .u16 k3, .int .u16 k4, .int .u16 k5, .int .u16 k6, .int .u16 k7] 47) := HC3.out.below HB.out HC3.out.lt
      clear HN3 HC3 HB3 HS HSum HCc HMs HR HT
      rcases HPh.out with rfl | rfl | rfl
      · obtain ⟨o1, o2, o3⟩ := HOut.out rfl
        obtain ⟨rfl, rfl, rfl, rfl, rfl, rfl, rfl, rfl⟩ := HCe.out rfl
        subst o2
        subst o3
        have g0 : wr.cell? ⟨w1.heap.size, 0, none⟩ = some (.int .u16 0) := by rw [HCl.out.cell 0]; rfl
        have g1 : wr.cell? ⟨w1.heap.size, 1, none⟩ = some (.int .u16 0) := by rw [HCl.out.cell 1]; rfl
        have g2 : wr.cell? ⟨w1.heap.size, 2, none⟩ = some (.int .u16 0) := by rw [HCl.out.cell 2]; rfl
        have g3 : wr.cell? ⟨w1.heap.size, 3, none⟩ = some (.int .u16 0) := by rw [HCl.out.cell 3]; rfl
        have g4 : wr.cell? ⟨w1.heap.size, 4, none⟩ = some (.int .u16 0) := by rw [HCl.out.cell 4]; rfl
        have g5 : wr.cell? ⟨w1.heap.size, 5, none⟩ = some (.int .u16 0) := by rw [HCl.out.cell 5]; rfl
        have g6 : wr.cell? ⟨w1.heap.size, 6, none⟩ = some (.int .u16 0) := by rw [HCl.out.cell 6]; rfl
        have g7 : wr.cell? ⟨w1.heap.size, 7, none⟩ = some (.int .u16 0) := by rw [HCl.out.cell 7]; rfl
        have hq8 := fun W => arr8_eq 0 0 0 0 0 0 0 0 W
        go_wp2
        go_ret
        exact ⟨rfl, HBe.out⟩
      · go_wp2
        go_ret
        exact ⟨rfl, HBe.out⟩
      · obtain ⟨⟨id, o1⟩, o3⟩ := HHeld.out rfl
        subst o3
        have hnl1 : nl = 1 := by rw [← HMl.out.1, o1]; rfl
        subst hnl1
        have hne := HNe.out
        rw [o1] at hne
        obtain ⟨gn, rfl, p0, p1, p2⟩ := own_three (k := 0) (a := .int .u8 id) (b := .int .u16 65535) (d := .string bang) hne rfl rfl rfl
        clear hne o1
        simp only [Nat.zero_mul, Nat.zero_add] at p0 p1 p2
        unfold bang at p2
        go_wp2
        go_ret
        exact ⟨rfl, HBe.out⟩
end
end Go.Proofs.Ytidaflmmldefcaa
