/-
  The walk of Diffs.
-/
import Derived.Test.YtcaeeaiodbjacaaDiffW
import Derived.Test.YtcaeeaiodbjacaaStayW
import Derived.Test.YtcaeeaiodbjacaaApplyR
import Derived.Test.YtcaeeaiodbjacaaMarksW
namespace Go.Proofs.Ytcaeeaiodbjacaa
open Go.RowKit
set_option linter.unusedVariables false

/-- What lent gives, of any list. -/
theorem lent_gives (oo : Option Addr) (oc : Nat) (old : List T.Nd) (w : World) (hl : old.length ≤ 5864062014800) (hno : oo = none → old = [] ∧ oc = 0) (hao : NodeAt w oo old) :
    Calls Try.prog 10 #[.slice oo old.length oc] w fun e w1 => ∃ ao cap, e = .returned (.slice ao old.length cap) ∧ Below w.heap.size w w1 ∧ old.length ≤ cap ∧ (ao = none → old = [] ∧ cap = 0) ∧ NodeAt w1 ao old ∧
      Hid (∀ u : World, Below w1.heap.size w1 u → Calls Try.prog 16 #[.slice ao old.length cap, .slice oo old.length oc] u fun e w' => e = .returned (.bool true) ∧ Below u.heap.size u w') := by
  cases oo with
  | none =>
    obtain ⟨rfl, rfl⟩ := hno rfl
    refine (lent_nil w).mono ?_
    rintro e w1 ⟨rfl, rfl⟩
    exact ⟨none, 0, rfl, Below.refl _ _, by simp, fun _ => ⟨rfl, rfl⟩, Or.inl rfl, fun u hu => back_nil _ u⟩
  | some a =>
    refine (lent_some a oc old w hl hao).mono ?_
    rintro e w1 ⟨g, rfl, hg0, hg1, hr, hb1⟩
    refine ⟨some ⟨g, 0, none⟩, old.length + 1, rfl, hb1, by omega, (by intro h; cases h), Or.inr ⟨g, 0, rfl, hg1, hr.front⟩, fun u hu => ?_⟩
    exact back_some a oc g old u hl ((hao.below hb1 (Nat.le_refl _) hb1.size).below hu (Nat.le_refl _) hu.size) (by have := hu.size; omega) (hr.below hu hg1)

/-- A patch as Go has it, with a small text. -/
def ptFine (p : T.Pt) : Prop := (0 ≤ p.2.1 ∧ p.2.1 ≤ 255) ∧ (0 ≤ p.2.2.2.1 ∧ p.2.2.2.1 ≤ 65535) ∧ p.2.2.2.2.size ≤ 24

theorem empty24 : (⟨#[]⟩ : ByteArray).size ≤ 24 := by decide

namespace T
theorem do_fine {c : Ch} {p : Pt} (h : ∀ q ∈ c.2, ptFine q) (hp : ptFine p) : ∀ q ∈ (doP c p).2, ptFine q := by
  intro q hq
  have e : (doP c p).2 = c.2 ++ [p] := rfl
  rw [e] at hq
  rcases List.mem_append.1 hq with hq | hq
  · exact h q hq
  · rw [List.mem_singleton] at hq
    subst hq
    exact hp

theorem rm_fine (next : List Nd) : ∀ (l : List Nd) (c : Ch), (∀ x ∈ l, inGo x) → (∀ q ∈ c.2, ptFine q) → ∀ q ∈ (rmAll next l c).2, ptFine q
  | [], c, _, h => h
  | x :: r, c, hl, h => by
      have hx := hl x (by simp)
      refine rm_fine next r _ (fun y hy => hl y (by simp [hy])) ?_
      split
      · exact h
      · exact do_fine h ⟨⟨hx.1, hx.2.1⟩, by simp, empty24⟩

theorem arr_fine (next : List Nd) (was : List Int) (rests : List Bool) : ∀ (l : List Nd) (i : Nat) (c : Ch), (∀ x ∈ l, inGo x ∧ x.2.2.size ≤ 24) → (∀ q ∈ c.2, ptFine q) → ∀ q ∈ (arrFrom next was rests i l c).2, ptFine q
  | [], i, c, _, h => h
  | x :: r, i, c, hl, h => by
      have hx := hl x (by simp)
      refine arr_fine next was rests r (i + 1) _ (fun y hy => hl y (by simp [hy])) ?_
      unfold arrOne
      split
      · exact do_fine h ⟨⟨hx.1.1, hx.1.2.1⟩, ⟨hx.1.2.2.1, hx.1.2.2.2⟩, hx.2⟩
      · split
        · exact h
        · exact do_fine h ⟨⟨hx.1.1, hx.1.2.1⟩, by simp, empty24⟩

theorem rt_fine : ∀ (l : List Nd) (c : Ch), (∀ x ∈ l, inGo x ∧ x.2.2.size ≤ 24) → (∀ q ∈ c.2, ptFine q) → ∀ q ∈ (rtAll l c).2, ptFine q
  | [], c, _, h => h
  | x :: r, c, hl, h => by
      have hx := hl x (by simp)
      refine rt_fine r _ (fun y hy => hl y (by simp [hy])) ?_
      unfold rtOne
      split
      · exact do_fine h ⟨⟨hx.1.1, hx.1.2.1⟩, by simp, hx.2⟩
      · exact h

theorem diff_fine {old next : List Nd} (ho : ∀ x ∈ old, inGo x) (hn : ∀ x ∈ next, inGo x) (ht : isTree next = true) : ∀ q ∈ diff old next, ptFine q := by
  have hx : ∀ x ∈ next, inGo x ∧ x.2.2.size ≤ 24 := fun x hx => ⟨hn x hx, okNd_size (isTree_ok ht x hx)⟩
  exact rt_fine next _ hx (arr_fine next _ _ next 0 _ hx (rm_fine next old _ ho (by intro q hq; simp at hq)))
end T

theorem own_ptAt {w : World} {base : Nat} {v : Value} {l : List T.Pt} (h : w.ownsRow base 46 5 v l.length (ptCells l)) : ∃ ao cap, v = .slice ao l.length cap ∧ PtAt w ao l := by
  rcases h.2 with ⟨hv, h0⟩ | ⟨g, cap, cur, hv, hb, hh, h1, h2, h3⟩
  · have : l = [] := List.eq_nil_of_length_eq_zero h0
    subst this
    exact ⟨none, 0, hv, Or.inl rfl⟩
  · subst hv
    refine ⟨some ⟨g, 0, none⟩, cap, rfl, Or.inr ⟨g, 0, rfl, lt_of_block hh, ?_⟩⟩
    intro i x hx
    obtain ⟨q0, q1, q2, q3, q4⟩ := ptCells_at l i x hx
    have hi : i < l.length := (List.getElem?_eq_some_iff.1 hx).1
    refine ⟨?_, ?_, ?_, ?_, ?_⟩
    · rw [Nat.zero_add, h.cellAt (i * 5) (by omega)]; exact q0
    · rw [Nat.zero_add, h.cellAt (i * 5 + 1) (by omega)]; exact q1
    · rw [Nat.zero_add, h.cellAt (i * 5 + 2) (by omega)]; exact q2
    · rw [Nat.zero_add, h.cellAt (i * 5 + 3) (by omega)]; exact q3
    · rw [Nat.zero_add, h.cellAt (i * 5 + 4) (by omega)]; exact q4

theorem stayL_le {a b : List T.Nd} (ha : T.isTree a = true) (hb : T.isTree b = true) : (T.stayL a b).length ≤ 16 := by
  rw [T.stayL_eq ((T.isTree_iff b).1 hb).2.2]
  have h1 : (T.ids (a.filter (T.stays b))).length = (a.filter (T.stays b)).length := by simp [T.ids]
  rw [h1]
  exact Nat.le_trans (List.length_filter_le _ _) ((T.isTree_iff a).1 ha).1

theorem fewN_len {old next : List T.Nd} (ho : T.isTree old = true) (hn : T.isTree next = true) : (T.diff old next).length ≤ 300 := by
  have h := (T.diff_few ho hn).2
  have h1 := stayL_le ho hn
  have h2 := ((T.isTree_iff old).1 ho).1
  have h3 := ((T.isTree_iff next).1 hn).1
  have h4 := T.shared_range (T.stayL old next) (T.stayL next old)
  have h5 : T.textsN old next ≤ 16 * 16 := by
    unfold T.textsN
    have key : ∀ l : List T.Nd, (l.map fun x => next.countP (T.otherText x)).sum ≤ l.length * 16 := by
      intro l
      induction l with
      | nil => simp
      | cons x r ih =>
        have := List.countP_le_length (p := T.otherText x) (l := next)
        simp only [List.map_cons, List.sum_cons, List.length_cons]
        omega
    have := key old
    omega
  unfold T.fewN at h
  omega

set_option maxRecDepth 100000 in
set_option maxHeartbeats 8000000 in
theorem diffs_any (oo xo : Option Addr) (oc xc : Nat) (old next : List T.Nd) (w : World) (hlo : old.length ≤ 5864062014800) (hlx : next.length ≤ 5864062014800) (hno : oo = none → old = [] ∧ oc = 0) (hnx : xo = none → next = [] ∧ xc = 0) (hao : NodeAt w oo old) (hax : NodeAt w xo next)
    (hko : ndOk old) (hkx : ndOk next) (hso : ndSmall old) (hsx : ndSmall next) :
    Calls Try.prog 5 #[.slice oo old.length oc, .slice xo next.length xc] w fun e w' => e = .returned (.bool true) ∧ Below w.heap.size w w' := by
  have HL1 : Hid (Calls Try.prog 10 #[.slice oo old.length oc] w fun e w1 => ∃ ao cap, e = .returned (.slice ao old.length cap) ∧ Below w.heap.size w w1 ∧ old.length ≤ cap ∧ (ao = none → old = [] ∧ cap = 0) ∧ NodeAt w1 ao old ∧ Hid (∀ u : World, Below w1.heap.size w1 u → Calls Try.prog 16 #[.slice ao old.length cap, .slice oo old.length oc] u fun e w' => e = .returned (.bool true) ∧ Below u.heap.size u w')) := lent_gives oo oc old w hlo hno hao
  have HL2 : Hid (∀ v : World, Below w.heap.size w v → Calls Try.prog 10 #[.slice xo next.length xc] v fun e w1 => ∃ ao cap, e = .returned (.slice ao next.length cap) ∧ Below v.heap.size v w1 ∧ next.length ≤ cap ∧ (ao = none → next = [] ∧ cap = 0) ∧ NodeAt w1 ao next ∧ Hid (∀ u : World, Below w1.heap.size w1 u → Calls Try.prog 16 #[.slice ao next.length cap, .slice xo next.length xc] u fun e w' => e = .returned (.bool true) ∧ Below u.heap.size u w')) := fun v hv => lent_gives xo xc next v hlx hnx (hax.below hv (Nat.le_refl _) hv.size)
  have HT1 : Hid (∀ u : World, Below w.heap.size w u → Calls Try.prog 21 #[.slice oo old.length oc] u fun e w' => e = .returned (.bool (T.isTree old)) ∧ Below u.heap.size u w') := fun u hu => refTree_any oo oc old u (by unfold maxLen; omega) (hao.below hu (Nat.le_refl _) hu.size) hso
  have HT2 : Hid (∀ u : World, Below w.heap.size w u → Calls Try.prog 21 #[.slice xo next.length xc] u fun e w' => e = .returned (.bool (T.isTree next)) ∧ Below u.heap.size u w') := fun u hu => refTree_any xo xc next u (by unfold maxLen; omega) (hax.below hu (Nat.le_refl _) hu.size) hsx
  have HD : Hid (∀ (u : World) (a b : Option Addr) (c d : Nat), old.length ≤ c → next.length ≤ d → (a = none → old = [] ∧ c = 0) → NodeAt u a old → NodeAt u b next → Calls Try.prog 20 #[.slice a old.length c, .slice b next.length d] u fun e w' => diffEnd old next u e w') := fun u a b c d h1 h2 h3 h4 h5 => diff_any a b c d old next u (by unfold maxLen; omega) (by unfold maxLen; omega) h1 h2 h3 h4 h5 hko hkx
  have HAp : Hid (∀ (u : World) (po : Option Addr) (pc : Nat), Below w.heap.size w u → T.isTree old = true → T.isTree next = true → PtAt u po (T.diff old next) → Calls Try.prog 19 #[.slice oo old.length oc, .slice po (T.diff old next).length pc] u fun e w' => refApplyEnd old (T.diff old next) u e w') := by
    intro u po pc hu h1 h2 hp
    have hf := T.diff_fine (old := old) (next := next) (fun x hx => (hko x hx).1) (fun x hx => (hkx x hx).1) h2
    refine refApply_any oo po oc pc old (T.diff old next) u (by unfold maxLen; omega) (by have := fewN_len h1 h2; omega) (hao.below hu (Nat.le_refl _) hu.size) hko hso hp ?_ ?_
    · intro p hp
      have := hf p hp
      exact ⟨this.1, this.2.1, by have := this.2.2; unfold maxLen; omega⟩
    · intro p hp
      have := (hf p hp).2.2
      omega
  have HSm : Hid (∀ (u : World) (mo : Option Addr) (mc : Nat), Below w.heap.size w u → NodeAt u mo next → Calls Try.prog 13 #[.slice mo next.length mc, .slice xo next.length xc] u fun e w' => e = .returned (.bool true) ∧ Below u.heap.size u w') := by
    intro u mo mc hu hm
    have := sameN_any mo xo mc xc next next u (by unfold maxLen; omega) (by unfold maxLen; omega) hm (hax.below hu (Nat.le_refl _) hu.size)
    simpa using this
  have HFw : Hid (∀ u : World, Below w.heap.size w u → T.isTree old = true → T.isTree next = true → Calls Try.prog 22 #[.slice oo old.length oc, .slice xo next.length xc] u fun e w' => e = .returned (.int .i64 (T.fewN old next)) ∧ Below u.heap.size u w') :=
    fun u hu h1 h2 => few_any oo xo oc xc old next u ((T.isTree_iff _).1 h1).1 ((T.isTree_iff _).1 h2).1 (hao.below hu (Nat.le_refl _) hu.size) (hax.below hu (Nat.le_refl _) hu.size) (stayL_le h1 h2) (stayL_le h2 h1)
  generalize old.length = on at HL1 HT1 HD HAp HFw ⊢
  obtain ⟨xn, hxn⟩ : ∃ n, n = next.length := ⟨_, rfl⟩
  have HXn : Hid (next.length = xn) := hxn.symm
  rw [← hxn] at HL2 HT2 HD HSm HFw ⊢
  clear hxn
  clear hlo hlx hno hnx hao hax hko hkx hso hsx
  obtain ⟨b1, hb1e⟩ : ∃ b, b = T.isTree old := ⟨_, rfl⟩
  have Hb1 : Hid (T.isTree old = b1) := hb1e.symm
  obtain ⟨b2, hb2e⟩ : ∃ b, b = T.isTree next := ⟨_, rfl⟩
  have Hb2 : Hid (T.isTree next = b2) := hb2e.symm
  rw [← hb1e] at HT1
  rw [← hb2e] at HT2
  clear hb1e hb2e
  go_enter Try.func5, Try.ntmps5
  go_wp2_with fail
  refine HL1.out.mono ?_
  rintro e w1 ⟨ao1, c1, rfl, hb1, hc1, hn1, ha1, HK1⟩
  have B1 : Hid (Below w.heap.size w w1) := hb1
  have HC1 : Hid ((on ≤ c1) ∧ (ao1 = none → old = [] ∧ c1 = 0) ∧ NodeAt w1 ao1 old) := ⟨hc1, hn1, ha1⟩
  clear hb1 hc1 hn1 ha1 HL1
  go_wp2_with fail
  refine (HL2.out w1 B1.out).mono ?_
  rintro e w2 ⟨ao2, c2, rfl, hb2, hc2, hn2, ha2, HK2⟩
  have HDf : Hid (Calls Try.prog 20 #[.slice ao1 on c1, .slice ao2 xn c2] w2 fun e w' => diffEnd old next w2 e w') := HD.out w2 ao1 ao2 c1 c2 HC1.out.1 hc2 HC1.out.2.1 (HC1.out.2.2.below hb2 (Nat.le_refl _) hb2.size) ha2
  have B12 : Hid (Below w1.heap.size w1 w2) := hb2
  clear hb2 hc2 hn2 ha2 HL2 HD HC1
  go_wp2_with fail
  refine HDf.out.mono ?_
  rintro e w3 ⟨vl, rfl, hl3, hb3⟩
  obtain ⟨po, pc, rfl, hp3⟩ := own_ptAt hl3
  have HP3 : Hid (PtAt w3 po (T.diffO old next)) := hp3
  have C3 : Hid (Below w2.heap.size w2 w3) := hb3
  have B13 : Hid (Below w1.heap.size w1 w3) := B12.out.trans (hb3.mono B12.out.size)
  have B3 : Hid (Below w.heap.size w w3) := B1.out.trans (B13.out.mono B1.out.size)
  clear hl3 hb3 hp3 HDf
  obtain ⟨de, hde⟩ : ∃ d, d = T.diffE old next := ⟨_, rfl⟩
  have Hde : Hid (T.diffE old next = de) := hde.symm
  obtain ⟨dn, hdn⟩ : ∃ d, d = (T.diffO old next).length := ⟨_, rfl⟩
  have Hdn : Hid ((T.diffO old next).length = dn) := hdn.symm
  rw [← hde, ← hdn]
  clear hde hdn
  go_wp2_with fail
  refine (HT1.out w3 B3.out).mono ?_
  rintro e w4 ⟨rfl, hb4⟩
  have C4 : Hid (Below w3.heap.size w3 w4) := hb4
  clear hb4 HT1
  go_wp2_with fail
  refine (HT2.out w4 (B3.out.trans (C4.out.mono B3.out.size))).mono ?_
  rintro e w5 ⟨rfl, hb5⟩
  have C5 : Hid (Below w3.heap.size w3 w5) := C4.out.trans (hb5.mono C4.out.size)
  clear hb5 HT2 C4
  go_wp2_with fail
  refine (HK1.out w5 (B13.out.trans (C5.out.mono B13.out.size))).mono ?_
  rintro e w6 ⟨rfl, hb6⟩
  have C6 : Hid (Below w3.heap.size w3 w6) := C5.out.trans (hb6.mono C5.out.size)
  clear hb6 HK1 C5
  go_wp2_with fail
  refine (HK2.out w6 (C3.out.trans (C6.out.mono C3.out.size))).mono ?_
  rintro e w7 ⟨rfl, hb7⟩
  have C7 : Hid (Below w3.heap.size w3 w7) := C6.out.trans (hb7.mono C6.out.size)
  have B7 : Hid (Below w.heap.size w w7) := B3.out.trans (C7.out.mono B3.out.size)
  clear hb7 HK2 C6 B12 C3 B13 B1 B3
  have HBad : Hid ((b1 && b2) = false → de = 3 ∧ dn = 0) := by
    intro h
    have hk : T.diffOk old next = false := by unfold T.diffOk; rw [Hb1.out, Hb2.out]; exact h
    refine ⟨by rw [← Hde.out]; simp [T.diffE, hk], by rw [← Hdn.out]; simp [T.diffO, hk]⟩
  cases b1 with
  | false =>
    obtain ⟨rfl, rfl⟩ := HBad.out rfl
    clear HBad HP3 HAp HSm HFw
    go_wp2
    go_ret
    exact ⟨rfl, B7.out⟩
  | true =>
    cases b2 with
    | false =>
      obtain ⟨rfl, rfl⟩ := HBad.out rfl
      clear HBad HP3 HAp HSm HFw
      go_wp2
      go_ret
      exact ⟨rfl, B7.out⟩
    | true =>
      have hk : T.diffOk old next = true := by unfold T.diffOk; rw [Hb1.out, Hb2.out]; rfl
      have hO : T.diffO old next = T.diff old next := by simp [T.diffO, hk]
      obtain rfl : de = 0 := by rw [← Hde.out]; simp [T.diffE, hk]
      have hfew := T.diff_few Hb1.out Hb2.out
      have hdl : (T.diff old next).length = dn := by rw [← Hdn.out, hO]
      have haO : T.applyO old (T.diff old next) = next := by simp [T.applyO, Hb1.out, hfew.1]
      have haE : T.applyE old (T.diff old next) = 0 := by simp [T.applyE, Hb1.out, hfew.1]
      have HAp7 : Hid (Calls Try.prog 19 #[.slice oo on oc, .slice po dn pc] w7 fun e w' => ∃ ao cap, e = .returned (.tuple #[.slice ao next.length cap, .int .i64 0]) ∧ NodeAt w' ao next ∧ Below w7.heap.size w7 w') := by
        have h := HAp.out w7 po pc B7.out Hb1.out Hb2.out (by rw [← hO]; exact HP3.out.below C7.out (Nat.le_refl _) C7.out.size)
        rw [hdl] at h
        refine h.mono ?_
        rintro e w' ⟨ao, cap, rfl, h1, h2⟩
        rw [haO] at h1
        exact ⟨ao, cap, by rw [haO, haE], h1, h2⟩
      have hfn : T.fewN old next = (dn : Int) := by rw [← hfew.2, hdl]
      have HFw7 : Hid (∀ u : World, Below w.heap.size w u → Calls Try.prog 22 #[.slice oo on oc, .slice xo xn xc] u fun e w' => e = .returned (.int .i64 dn) ∧ Below u.heap.size u w') := by
        intro u hu
        have := HFw.out u hu Hb1.out Hb2.out
        rw [hfn] at this
        exact this
      have hdn300 : dn ≤ 300 := by rw [← hdl]; exact fewN_len Hb1.out Hb2.out
      clear hk hO hfew hdl haO haE hfn HBad HAp HFw HP3
      go_wp2_with fail
      refine HAp7.out.mono ?_
      rintro e w8 ⟨mo, mc, rfl, hm8, hb8⟩
      have B8 : Hid (Below w.heap.size w w8) := B7.out.trans (hb8.mono B7.out.size)
      have HM8 : Hid (NodeAt w8 mo next) := hm8
      rw [HXn.out]
      clear hm8 hb8 HAp7
      go_wp2_with fail
      refine (HSm.out w8 mo mc B8.out HM8.out).mono ?_
      rintro e w9 ⟨rfl, hb9⟩
      have B9 : Hid (Below w.heap.size w w9) := B8.out.trans (hb9.mono B8.out.size)
      clear hb9 HSm
      go_wp2_with fail
      refine (HFw7.out w9 B9.out).mono ?_
      rintro e w10 ⟨rfl, hb10⟩
      have B10 : Hid (Below w.heap.size w w10) := B9.out.trans (hb10.mono B9.out.size)
      clear hb10 HFw7
      go_wp2
      go_ret
      exact ⟨rfl, B10.out⟩

end Go.Proofs.Ytcaeeaiodbjacaa
