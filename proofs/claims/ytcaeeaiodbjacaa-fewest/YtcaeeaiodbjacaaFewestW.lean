/-
  The walk of Fewest.
-/
import Derived.Test.YtcaeeaiodbjacaaDiffsW
import Derived.Test.YtcaeeaiodbjacaaFewM
namespace Go.Proofs.Ytcaeeaiodbjacaa
open Go.RowKit
set_option linter.unusedVariables false

theorem diff_tree {g h : List T.Nd} (hg : T.isTree g = true) (hh : T.isTree h = true) (kg : ndOk g) (kh : ndOk h) (ao bo : Option Addr) (ac bc : Nat) (u : World) (hac : g.length ≤ ac) (hbc : h.length ≤ bc) (hn : ao = none → g = [] ∧ ac = 0) (ha : NodeAt u ao g) (hb : NodeAt u bo h) :
    Calls Try.prog 20 #[.slice ao g.length ac, .slice bo h.length bc] u fun e w' => ∃ po pc, e = .returned (.tuple #[.slice po (T.diff g h).length pc, .int .i64 0]) ∧ PtAt w' po (T.diff g h) ∧ Below u.heap.size u w' := by
  have h1 := ((T.isTree_iff g).1 hg).1
  have h2 := ((T.isTree_iff h).1 hh).1
  refine (diff_any ao bo ac bc g h u (by unfold maxLen; omega) (by unfold maxLen; omega) hac hbc hn ha hb kg kh).mono ?_
  rintro e w' ⟨v, rfl, ho, hbl⟩
  have hk : T.diffOk g h = true := by unfold T.diffOk; rw [hg, hh]; rfl
  have hO : T.diffO g h = T.diff g h := by simp [T.diffO, hk]
  have hE : T.diffE g h = 0 := by simp [T.diffE, hk]
  obtain ⟨po, pc, rfl, hp⟩ := own_ptAt ho
  rw [hO] at hp
  exact ⟨po, pc, by rw [hO, hE], hp, hbl⟩

theorem apply_tree {g h : List T.Nd} (hg : T.isTree g = true) (hh : T.isTree h = true) (kg : ndOk g) (kh : ndOk h) (ao po : Option Addr) (ac pc : Nat) (u : World) (hac : g.length ≤ ac) (hn : ao = none → g = [] ∧ ac = 0) (ha : NodeAt u ao g) (hp : PtAt u po (T.diff g h)) :
    Calls Try.prog 18 #[.slice ao g.length ac, .slice po (T.diff g h).length pc] u fun e w' => ∃ mo mc, e = .returned (.tuple #[.slice mo h.length mc, .int .i64 0]) ∧ NodeAt w' mo h ∧ Below u.heap.size u w' := by
  have h1 := ((T.isTree_iff g).1 hg).1
  have hf := T.diff_fine (old := g) (next := h) (fun x hx => (kg x hx).1) (fun x hx => (kh x hx).1) hh
  have hfew := T.diff_few hg hh
  refine (apply_any ao po ac pc g (T.diff g h) u (by omega) hac hn (by have := fewN_len hg hh; omega) ha kg hp (by
    intro p hp
    have := hf p hp
    exact ⟨this.1, this.2.1, by have := this.2.2; unfold maxLen; omega⟩)).mono ?_
  rintro e w' ⟨v, rfl, ho, hbl⟩
  have haO : T.applyO g (T.diff g h) = h := by simp [T.applyO, hg, hfew.1]
  have haE : T.applyE g (T.diff g h) = 0 := by simp [T.applyE, hg, hfew.1]
  rw [haO] at ho
  obtain ⟨mo, mc, rfl, _, _, hm⟩ := own_node ho
  exact ⟨mo, mc, by rw [haE], hm, hbl⟩

theorem one_tree : T.isTree [(1, 1, ⟨#[]⟩)] = true := by decide
theorem nil_tree : T.isTree [] = true := by decide
theorem one_few : T.fewN [] [(1, 1, ⟨#[]⟩)] = 1 := by
  have h1 : T.stayL [] [((1, 1, ⟨#[]⟩) : T.Nd)] = [] := rfl
  have h2 : T.stayL [((1, 1, ⟨#[]⟩) : T.Nd)] [] = [] := rfl
  unfold T.fewN
  rw [h1, h2]
  have h3 : T.shared [] [] = 0 := by unfold T.shared; rw [List.reverse_nil, T.lcs_nil_left]
  rw [h3]
  rfl

set_option maxRecDepth 100000 in
set_option maxHeartbeats 8000000 in
theorem fewest_any (xo yo zo : Option Addr) (xc yc zc : Nat) (x y z : List Int) (w : World) (hx : x.length ≤ 4611686018427387904) (hy : y.length ≤ 4611686018427387904) (hz : z.length ≤ 4611686018427387904) (hxr : rawOk x) (hyr : rawOk y) (hzr : rawOk z) (hxa : IntAt w xo x) (hya : IntAt w yo y) (hza : IntAt w zo z) :
    Calls Try.prog 8 #[.slice xo x.length xc, .slice yo y.length yc, .slice zo z.length zc] w fun e w' => e = .returned (.bool true) ∧ Below w.heap.size w w' := by
  have G1 : Hid (Calls Try.prog 29 #[.slice xo x.length xc] w fun e w' => growEnd w e w') := grown_any xo xc x w hx hxr hxa
  have G2 : Hid (∀ u : World, Below w.heap.size w u → Calls Try.prog 29 #[.slice yo y.length yc] u fun e w' => growEnd u e w') := fun u hu => grown_any yo yc y u hy hyr (hya.below hu (Nat.le_refl _) hu.size)
  have G3 : Hid (∀ u : World, Below w.heap.size w u → Calls Try.prog 29 #[.slice zo z.length zc] u fun e w' => growEnd u e w') := fun u hu => grown_any zo zc z u hz hzr (hza.below hu (Nat.le_refl _) hu.size)
  generalize x.length = xn at G1 ⊢
  generalize y.length = yn at G2 ⊢
  generalize z.length = zn at G3 ⊢
  clear hxa hya hza hxr hyr hzr hx hy hz
  go_enter Try.func8, Try.ntmps8
  go_wp2_with fail
  refine G1.out.mono ?_
  rintro e w1 ⟨v1, ga, rfl, hga, ho1, hb1⟩
  obtain ⟨ao, ac, rfl, hac, hna, han⟩ := own_slice_none ho1
  have GA : Hid (T.isTree ga = true ∧ ndOk ga ∧ ga.length ≤ ac ∧ (ao = none → ga = [] ∧ ac = 0)) := ⟨hga.tree, hga.ok, hac, han⟩
  have NA1 : Hid (NodeAt w1 ao ga) := hna
  have B1 : Hid (Below w.heap.size w w1) := hb1
  clear ho1 hb1 hna hga hac han G1
  obtain ⟨an, hane⟩ : ∃ n, n = ga.length := ⟨_, rfl⟩
  have HAn : Hid (ga.length = an) := hane.symm
  rw [← hane]
  clear hane
  go_wp2_with fail
  refine (G2.out w1 B1.out).mono ?_
  rintro e w2 ⟨v2, gb, rfl, hgb, ho2, hb2⟩
  obtain ⟨bo, bc, rfl, hbc, hnb, hbn⟩ := own_slice_none ho2
  have GB : Hid (T.isTree gb = true ∧ ndOk gb ∧ gb.length ≤ bc ∧ (bo = none → gb = [] ∧ bc = 0)) := ⟨hgb.tree, hgb.ok, hbc, hbn⟩
  have N2 : Hid (NodeAt w2 ao ga ∧ NodeAt w2 bo gb) := ⟨NA1.out.below hb2 (Nat.le_refl _) hb2.size, hnb⟩
  have B2 : Hid (Below w.heap.size w w2) := B1.out.trans (hb2.mono B1.out.size)
  clear ho2 hb2 hnb hgb hbc hbn G2 NA1 B1
  obtain ⟨bn, hbne⟩ : ∃ n, n = gb.length := ⟨_, rfl⟩
  have HBn : Hid (gb.length = bn) := hbne.symm
  rw [← hbne]
  clear hbne
  go_wp2_with fail
  refine (G3.out w2 B2.out).mono ?_
  rintro e w3 ⟨v3, gc, rfl, hgc, ho3, hb3⟩
  obtain ⟨co, cc, rfl, hcc, hnc, hcn⟩ := own_slice_none ho3
  have GC : Hid (T.isTree gc = true ∧ ndOk gc ∧ gc.length ≤ cc ∧ (co = none → gc = [] ∧ cc = 0)) := ⟨hgc.tree, hgc.ok, hcc, hcn⟩
  have N3 : Hid (∀ u : World, Below w3.heap.size w3 u → NodeAt u ao ga ∧ NodeAt u bo gb ∧ NodeAt u co gc) := by
    intro u hu
    exact ⟨(N2.out.1.below hb3 (Nat.le_refl _) hb3.size).below hu (Nat.le_refl _) hu.size, (N2.out.2.below hb3 (Nat.le_refl _) hb3.size).below hu (Nat.le_refl _) hu.size, hnc.below hu (Nat.le_refl _) hu.size⟩
  have B3 : Hid (Below w.heap.size w w3) := B2.out.trans (hb3.mono B2.out.size)
  clear ho3 hb3 hnc hgc hcc hcn G3 N2 B2
  obtain ⟨cn, hcne⟩ : ∃ n, n = gc.length := ⟨_, rfl⟩
  have HCn : Hid (gc.length = cn) := hcne.symm
  rw [← hcne]
  clear hcne
  -- the contracts
  obtain ⟨dab, hdab⟩ : ∃ d, (T.diff ga gb).length = d := ⟨_, rfl⟩
  obtain ⟨dba, hdba⟩ : ∃ d, (T.diff gb ga).length = d := ⟨_, rfl⟩
  obtain ⟨dac, hdac⟩ : ∃ d, (T.diff ga gc).length = d := ⟨_, rfl⟩
  obtain ⟨dcb, hdcb⟩ : ∃ d, (T.diff gc gb).length = d := ⟨_, rfl⟩
  have DAB : Hid (∀ u : World, Below w3.heap.size w3 u → Calls Try.prog 20 #[.slice ao an ac, .slice bo bn bc] u fun e w' => ∃ po pc, e = .returned (.tuple #[.slice po dab pc, .int .i64 0]) ∧ PtAt w' po (T.diff ga gb) ∧ Below u.heap.size u w') := by
    intro u hu
    have := diff_tree GA.out.1 GB.out.1 GA.out.2.1 GB.out.2.1 ao bo ac bc u GA.out.2.2.1 GB.out.2.2.1 GA.out.2.2.2 (N3.out u hu).1 (N3.out u hu).2.1
    rw [HAn.out, HBn.out, hdab] at this
    exact this
  have DBA : Hid (∀ u : World, Below w3.heap.size w3 u → Calls Try.prog 20 #[.slice bo bn bc, .slice ao an ac] u fun e w' => ∃ po pc, e = .returned (.tuple #[.slice po dba pc, .int .i64 0]) ∧ PtAt w' po (T.diff gb ga) ∧ Below u.heap.size u w') := by
    intro u hu
    have := diff_tree GB.out.1 GA.out.1 GB.out.2.1 GA.out.2.1 bo ao bc ac u GB.out.2.2.1 GA.out.2.2.1 GB.out.2.2.2 (N3.out u hu).2.1 (N3.out u hu).1
    rw [HAn.out, HBn.out, hdba] at this
    exact this
  have DAA : Hid (∀ u : World, Below w3.heap.size w3 u → Calls Try.prog 20 #[.slice ao an ac, .slice ao an ac] u fun e w' => ∃ po pc, e = .returned (.tuple #[.slice po 0 pc, .int .i64 0]) ∧ Below u.heap.size u w') := by
    intro u hu
    have := diff_tree GA.out.1 GA.out.1 GA.out.2.1 GA.out.2.1 ao ao ac ac u GA.out.2.2.1 GA.out.2.2.1 GA.out.2.2.2 (N3.out u hu).1 (N3.out u hu).1
    have h0 : (T.diff ga ga).length = 0 := by
      have h1 := (T.diff_few GA.out.1 GA.out.1).2
      rw [T.few_self GA.out.1] at h1
      omega
    rw [HAn.out, h0] at this
    refine this.mono ?_
    rintro e w' ⟨po, pc, h1, _, h2⟩
    exact ⟨po, pc, h1, h2⟩
  have DAC : Hid (∀ u : World, Below w3.heap.size w3 u → Calls Try.prog 20 #[.slice ao an ac, .slice co cn cc] u fun e w' => ∃ po pc, e = .returned (.tuple #[.slice po dac pc, .int .i64 0]) ∧ Below u.heap.size u w') := by
    intro u hu
    have := diff_tree GA.out.1 GC.out.1 GA.out.2.1 GC.out.2.1 ao co ac cc u GA.out.2.2.1 GC.out.2.2.1 GA.out.2.2.2 (N3.out u hu).1 (N3.out u hu).2.2
    rw [HAn.out, HCn.out, hdac] at this
    refine this.mono ?_
    rintro e w' ⟨po, pc, h1, _, h2⟩
    exact ⟨po, pc, h1, h2⟩
  have DCB : Hid (∀ u : World, Below w3.heap.size w3 u → Calls Try.prog 20 #[.slice co cn cc, .slice bo bn bc] u fun e w' => ∃ po pc, e = .returned (.tuple #[.slice po dcb pc, .int .i64 0]) ∧ Below u.heap.size u w') := by
    intro u hu
    have := diff_tree GC.out.1 GB.out.1 GC.out.2.1 GB.out.2.1 co bo cc bc u GC.out.2.2.1 GB.out.2.2.1 GC.out.2.2.2 (N3.out u hu).2.2 (N3.out u hu).2.1
    rw [HCn.out, HBn.out, hdcb] at this
    refine this.mono ?_
    rintro e w' ⟨po, pc, h1, _, h2⟩
    exact ⟨po, pc, h1, h2⟩
  have AAB : Hid (∀ (u : World) (po : Option Addr) (pc : Nat), Below w3.heap.size w3 u → PtAt u po (T.diff ga gb) → Calls Try.prog 18 #[.slice ao an ac, .slice po dab pc] u fun e w' => ∃ mo mc, e = .returned (.tuple #[.slice mo bn mc, .int .i64 0]) ∧ NodeAt w' mo gb ∧ Below u.heap.size u w') := by
    intro u po pc hu hp
    have := apply_tree (h := gb) GA.out.1 GB.out.1 GA.out.2.1 GB.out.2.1 ao po ac pc u GA.out.2.2.1 GA.out.2.2.2 (N3.out u hu).1 hp
    rw [HAn.out, HBn.out, hdab] at this
    exact this
  have ABA : Hid (∀ (u : World) (po : Option Addr) (pc : Nat), Below w3.heap.size w3 u → PtAt u po (T.diff gb ga) → Calls Try.prog 18 #[.slice bo bn bc, .slice po dba pc] u fun e w' => ∃ mo mc, e = .returned (.tuple #[.slice mo an mc, .int .i64 0]) ∧ NodeAt w' mo ga ∧ Below u.heap.size u w') := by
    intro u po pc hu hp
    have := apply_tree (h := ga) GB.out.1 GA.out.1 GB.out.2.1 GA.out.2.1 bo po bc pc u GB.out.2.2.1 GB.out.2.2.2 (N3.out u hu).2.1 hp
    rw [HAn.out, HBn.out, hdba] at this
    exact this
  have SMB : Hid (∀ (u : World) (mo : Option Addr) (mc : Nat), Below w3.heap.size w3 u → NodeAt u mo gb → Calls Try.prog 28 #[.slice mo bn mc, .slice bo bn bc] u fun e w' => e = .returned (.bool true) ∧ Below u.heap.size u w') := by
    intro u mo mc hu hm
    have h16 := ((T.isTree_iff gb).1 GB.out.1).1
    have := same_any mo bo mc bc gb gb u (by unfold maxLen; omega) (by unfold maxLen; omega) hm (N3.out u hu).2.1
    rw [HBn.out] at this
    simpa using this
  have SNA : Hid (∀ (u : World) (mo : Option Addr) (mc : Nat), Below w3.heap.size w3 u → NodeAt u mo ga → Calls Try.prog 28 #[.slice mo an mc, .slice ao an ac] u fun e w' => e = .returned (.bool true) ∧ Below u.heap.size u w') := by
    intro u mo mc hu hm
    have h16 := ((T.isTree_iff ga).1 GA.out.1).1
    have := same_any mo ao mc ac ga ga u (by unfold maxLen; omega) (by unfold maxLen; omega) hm (N3.out u hu).1
    rw [HAn.out] at this
    simpa using this
  have hcount : dab = dba ∧ dab ≤ dac + dcb ∧ dac ≤ 300 ∧ dcb ≤ 300 := by
    have e1 := (T.diff_few GA.out.1 GB.out.1).2
    have e2 := (T.diff_few GB.out.1 GA.out.1).2
    have e3 := (T.diff_few GA.out.1 GC.out.1).2
    have e4 := (T.diff_few GC.out.1 GB.out.1).2
    have e5 := T.few_sym GA.out.1 GB.out.1
    have e6 := T.few_tri GA.out.1 GB.out.1 GC.out.1
    have l3 := fewN_len GA.out.1 GC.out.1
    have l4 := fewN_len GC.out.1 GB.out.1
    omega
  have DN1 : Hid (∀ (u : World) (b : Nat), Blk u b #[.int .u8 1, .int .u16 1, .string ⟨#[]⟩] 60 → Calls Try.prog 20 #[.slice none 0 0, .slice (some ⟨b, 0, none⟩) 1 1] u fun e w' => ∃ po pc, e = .returned (.tuple #[.slice po 1 pc, .int .i64 0]) ∧ Below u.heap.size u w') := by
    intro u b hb
    have hr : NodeRow u b 0 [(1, 1, ⟨#[]⟩)] := by
      intro i x hx
      match i, hx with
      | 0, hx =>
        simp at hx
        subst hx
        exact ⟨by rw [hb.cell]; rfl, by rw [hb.cell]; rfl, by rw [hb.cell]; rfl⟩
      | i + 1, hx => simp at hx
    have := diff_tree nil_tree one_tree (by intro x hx; simp at hx) (by intro x hx; simp at hx; subst hx; exact ⟨⟨by decide, by decide, by decide, by decide⟩, by unfold maxLen; decide⟩) none (some ⟨b, 0, none⟩) 0 1 u (by simp) (by simp) (fun _ => ⟨rfl, rfl⟩) (Or.inl rfl) (Or.inr ⟨b, 0, rfl, hb.lt, hr⟩)
    have h1 : (T.diff [] [((1, 1, ⟨#[]⟩) : T.Nd)]).length = 1 := by
      have h := (T.diff_few nil_tree one_tree).2
      rw [one_few] at h
      omega
    rw [h1] at this
    refine this.mono ?_
    rintro e w' ⟨po, pc, h1, _, h2⟩
    exact ⟨po, pc, h1, h2⟩
  obtain ⟨rfl, htri, hl3, hl4⟩ := hcount
  clear hdab hdba hdac hdcb N3 GA GB GC HAn HBn HCn
  have htri' : (dab : Int) ≤ (dac : Int) + (dcb : Int) := by omega
  go_wp2_with fail
  refine (DAB.out w3 (Below.refl _ _)).mono ?_
  rintro e w4 ⟨tO, tc, rfl, hp4, hb4⟩
  have C4 : Hid (Below w3.heap.size w3 w4) := hb4
  have P4 : Hid (PtAt w4 tO (T.diff ga gb)) := hp4
  clear hb4 hp4 DAB
  go_wp2_with fail
  refine (DBA.out w4 C4.out).mono ?_
  rintro e w5 ⟨kO, kc, rfl, hp5, hb5⟩
  have C5 : Hid (Below w3.heap.size w3 w5) := C4.out.trans (hb5.mono C4.out.size)
  have P5 : Hid (PtAt w5 tO (T.diff ga gb) ∧ PtAt w5 kO (T.diff gb ga)) := ⟨P4.out.below hb5 (Nat.le_refl _) hb5.size, hp5⟩
  clear hb5 hp5 DBA C4 P4
  go_wp2_with fail
  refine (DAA.out w5 C5.out).mono ?_
  rintro e w6 ⟨nO, nc, rfl, hb6⟩
  have C6 : Hid (Below w3.heap.size w3 w6) := C5.out.trans (hb6.mono C5.out.size)
  have P6 : Hid (PtAt w6 tO (T.diff ga gb) ∧ PtAt w6 kO (T.diff gb ga)) := ⟨P5.out.1.below hb6 (Nat.le_refl _) hb6.size, P5.out.2.below hb6 (Nat.le_refl _) hb6.size⟩
  clear hb6 DAA C5 P5
  go_wp2_with fail
  refine (AAB.out w6 tO tc C6.out P6.out.1).mono ?_
  rintro e w7 ⟨mO, mc, rfl, hm7, hb7⟩
  have C7 : Hid (Below w3.heap.size w3 w7) := C6.out.trans (hb7.mono C6.out.size)
  have P7 : Hid (PtAt w7 kO (T.diff gb ga) ∧ NodeAt w7 mO gb) := ⟨P6.out.2.below hb7 (Nat.le_refl _) hb7.size, hm7⟩
  clear hb7 hm7 AAB C6 P6
  go_wp2_with fail
  refine (ABA.out w7 kO kc C7.out P7.out.1).mono ?_
  rintro e w8 ⟨lO, lc, rfl, hm8, hb8⟩
  have C8 : Hid (Below w3.heap.size w3 w8) := C7.out.trans (hb8.mono C7.out.size)
  have P8 : Hid (NodeAt w8 mO gb ∧ NodeAt w8 lO ga) := ⟨P7.out.2.below hb8 (Nat.le_refl _) hb8.size, hm8⟩
  clear hb8 hm8 ABA C7 P7
  go_wp2_with fail
  refine (DAC.out w8 C8.out).mono ?_
  rintro e w9 ⟨fO, fc, rfl, hb9⟩
  have C9 : Hid (Below w3.heap.size w3 w9) := C8.out.trans (hb9.mono C8.out.size)
  have P9 : Hid (NodeAt w9 mO gb ∧ NodeAt w9 lO ga) := ⟨P8.out.1.below hb9 (Nat.le_refl _) hb9.size, P8.out.2.below hb9 (Nat.le_refl _) hb9.size⟩
  clear hb9 DAC C8 P8
  go_wp2_with fail
  refine (DCB.out w9 C9.out).mono ?_
  rintro e w10 ⟨sO, sc, rfl, hb10⟩
  have C10 : Hid (Below w3.heap.size w3 w10) := C9.out.trans (hb10.mono C9.out.size)
  have P10 : Hid (NodeAt w10 mO gb ∧ NodeAt w10 lO ga) := ⟨P9.out.1.below hb10 (Nat.le_refl _) hb10.size, P9.out.2.below hb10 (Nat.le_refl _) hb10.size⟩
  clear hb10 DCB C9 P9
  go_wp2_with fail
  refine (SMB.out w10 mO mc C10.out P10.out.1).mono ?_
  rintro e w11 ⟨rfl, hb11⟩
  have C11 : Hid (Below w3.heap.size w3 w11) := C10.out.trans (hb11.mono C10.out.size)
  have P11 : Hid (NodeAt w11 lO ga) := P10.out.2.below hb11 (Nat.le_refl _) hb11.size
  clear hb11 SMB C10 P10
  go_wp2_with fail
  refine (SNA.out w11 lO lc C11.out P11.out).mono ?_
  rintro e w12 ⟨rfl, hb12⟩
  have C12 : Hid (Below w3.heap.size w3 w12) := C11.out.trans (hb12.mono C11.out.size)
  have B12 : Hid (Below w.heap.size w w12) := B3.out.trans (C12.out.mono B3.out.size)
  have hs12 := B12.out.size
  clear hb12 SNA C11 P11 C12 B3
  go_wp2_with fail
  refine (DN1.out _ w12.heap.size (Blk.new w12 _ 60)).mono ?_
  rintro e w13 ⟨oO, oc, rfl, hb13⟩
  have B13 : Hid (Below w.heap.size w w13) := (B12.out.alloc hs12 _).trans (hb13.mono (by simp; omega))
  clear hb13 DN1 B12
  go_wp2
  go_ret
  exact ⟨rfl, B13.out⟩

end Go.Proofs.Ytcaeeaiodbjacaa
