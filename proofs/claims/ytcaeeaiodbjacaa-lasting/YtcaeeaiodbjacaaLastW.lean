/-
  The walk of Lasting.
-/
import Derived.Test.YtcaeeaiodbjacaaShown
namespace Go.Proofs.Ytcaeeaiodbjacaa
open Go.RowKit
set_option linter.unusedVariables false

/-- Lists of ints, as the cells of a list of lists hold them. -/
abbrev Raw := Option Addr × Nat × List Int

def RawsRow (w : World) (b off : Nat) (rs : List Raw) : Prop := ∀ i x, rs[i]? = some x → w.cell? ⟨b, off + i, none⟩ = some (.slice x.1 x.2.2.length x.2.1)

theorem RawsRow.below {B : Nat} {w w' : World} {b off : Nat} {l : List Raw} (h : RawsRow w b off l) (hb : Below B w w') (hl : b < B) : RawsRow w' b off l :=
  fun i x hx => (hb.cell hl).trans (h i x hx)

def RawsAt (w : World) (ao : Option Addr) (rs : List Raw) : Prop := rs = [] ∨ ∃ b off, ao = some ⟨b, off, none⟩ ∧ b < w.heap.size ∧ RawsRow w b off rs

def rawsOk (w : World) (rs : List Raw) : Prop := ∀ x ∈ rs, x.2.2.length ≤ 4611686018427387904 ∧ rawOk x.2.2 ∧ IntAt w x.1 x.2.2

def xs0 : ByteArray := ⟨#[120]⟩

theorem first_ok : T.planOk [] [(7, xs0)] = true := by kernel_rfl
theorem first_o : T.planO [] [(7, xs0)] = [(1, 7, xs0)] := by
  have h : T.planO [] [(7, xs0)] = T.plan [] [(7, xs0)] := by simp [T.planO, first_ok]
  rw [h]
  rfl
theorem first_e : T.planE [] [(7, xs0)] = 0 := by simp [T.planE, first_ok]

theorem planOk_good {ol : List T.Nd} {l : List T.Sh} (ht : T.isTree ol = true) (h8 : ol.length ≤ 8) (hl : Shows l) : T.planOk ol l = true := by
  unfold T.planOk
  rw [ht, T.plan_tree ht h8 hl.okSh]
  simp [hl.few]

theorem plan_good (u : World) (oo so : Option Addr) (oc sc : Nat) (ol : List T.Nd) (l : List T.Sh) (ht : T.isTree ol = true) (h8 : ol.length ≤ 8) (hc : ol.length ≤ oc) (hl : Shows l) (hk : ndOk ol) (h1 : NodeAt u oo ol) (h2 : ShAt u so l) :
    Calls Try.prog 11 #[.slice oo ol.length oc, .slice so l.length sc] u fun e w' => ∃ no nc, e = .returned (.tuple #[.slice no l.length nc, .int .i64 0]) ∧ l.length ≤ nc ∧ NodeAt w' no (T.plan ol l) ∧ Below u.heap.size u w' := by
  have hf := hl.few
  refine (plan_any oo so oc sc ol l u (by unfold maxLen; omega) hc (by unfold maxLen; omega) h1 hk h2 hl.ok).mono ?_
  rintro e w' ⟨v, rfl, ho, hb⟩
  have hg := planOk_good ht h8 hl
  have e1 : T.planO ol l = T.plan ol l := by simp [T.planO, hg]
  have e2 : T.planE ol l = 0 := by simp [T.planE, hg]
  rw [e1] at ho
  obtain ⟨no, nc, rfl, h3, _, h5⟩ := own_node ho
  rw [T.plan_length] at h3 ⊢
  exact ⟨no, nc, by rw [e2], h3, h5, hb⟩

set_option maxRecDepth 100000 in
set_option maxHeartbeats 8000000 in
theorem lasting_any (ao : Option Addr) (cap : Nat) (rs : List Raw) (w : World) (hmax : rs.length ≤ maxLen) (hat : RawsAt w ao rs) (hok : rawsOk w rs) :
    Calls Try.prog 7 #[.slice ao rs.length cap] w fun e w' => e = .returned (.bool true) ∧ Below w.heap.size w w' := by
  unfold maxLen at hmax
  obtain ⟨n, hn⟩ : ∃ n, n = rs.length := ⟨_, rfl⟩
  have Hn : Hid (rs.length = n) := hn.symm
  rw [← hn]
  rw [← hn] at hmax
  have HA : Hid (RawsAt w ao rs) := hat
  have HK : Hid (rawsOk w rs) := hok
  clear hn hat hok
  have P0 : Hid (Calls Try.prog 11 #[.slice none 0 0, .slice (some ⟨w.heap.size, 0, none⟩) 1 1] (w.alloc (.cells #[.int .u16 7, .string ⟨#[120]⟩] 27)) fun e w' => planEnd [] [(7, xs0)] (w.alloc (.cells #[.int .u16 7, .string ⟨#[120]⟩] 27)) e w') := by
    refine plan_any none (some ⟨w.heap.size, 0, none⟩) 0 1 [] [(7, xs0)] _ (by simp) (by simp) (by unfold maxLen; simp) (Or.inl rfl) (by intro x hx; simp at hx) (Or.inr ⟨w.heap.size, 0, rfl, by simp, ?_⟩) ?_
    · intro i x hx
      match i, hx with
      | 0, hx =>
        simp at hx
        subst hx
        exact ⟨(Blk.new w _ 27).cell 0, (Blk.new w _ 27).cell 1⟩
      | i + 1, hx => simp at hx
    · intro x hx
      simp at hx
      subst hx
      exact ⟨by omega, by unfold maxLen xs0; decide⟩
  go_enter Try.func7, Try.ntmps7
  go_wp2_with fail
  refine P0.out.mono ?_
  rintro e w1 ⟨v1, rfl, ho1, hb1⟩
  rw [first_o] at ho1
  rw [first_e]
  obtain ⟨a1, c1, rfl, _, _, hna1⟩ := own_node ho1
  obtain ⟨b1, f1, rfl, hb1l, hr1⟩ : ∃ b off, a1 = some ⟨b, off, none⟩ ∧ b < w1.heap.size ∧ NodeRow w1 b off [(1, 7, xs0)] := hna1.resolve_left (by simp)
  obtain ⟨q0, q1, q2⟩ := hr1 0 _ rfl
  simp only [Nat.zero_mul, Nat.add_zero, xs0] at q0 q1 q2
  have B1 : Hid (Below w.heap.size w w1) := ((Below.refl _ _).alloc (Nat.le_refl _) _).trans (hb1.mono (by simp))
  clear ho1 hb1 hna1 hr1 P0
  go_wp2_with fail
  go_loopw [5, 6] (fun v i wr => ∃ (k oc : Nat) (oo : Option Addr) (ol : List T.Nd), v = .slice oo ol.length oc ∧ k ≤ n ∧ i = .int .i64 k ∧ Below w.heap.size w wr ∧ ol.length ≤ oc ∧ ol.length ≤ 8 ∧ Hid (T.isTree ol = true ∧ ndOk ol ∧ NodeAt wr oo ol))
    (fun _ i _ => n - (intOf i).toNat)
  case atStart => exact ⟨0, 0, none, [], rfl, Nat.zero_le _, rfl, B1.out, by simp, by simp, rfl, by intro x hx; simp at hx, Or.inl rfl⟩
  case round =>
    obtain ⟨k, oc, oo, ol, rfl, hk, rfl, hbel, hoc, ho8, HO⟩ := hrel
    have HB : Hid (Below w.heap.size w wr) := hbel
    have hsz := hbel.size
    clear hbel B1 q0 q1 q2
    by_cases hlt : k < n
    · obtain ⟨y, hy⟩ : ∃ x, rs[k]? = some x := ⟨rs[k]'(by have := Hn.out; omega), List.getElem?_eq_getElem (by have := Hn.out; omega)⟩
      obtain ⟨b, off, rfl, hbl, hr⟩ : ∃ b off, ao = some ⟨b, off, none⟩ ∧ b < w.heap.size ∧ RawsRow w b off rs := HA.out.resolve_left (by rintro rfl; simp at hy)
      have c0 := (hr.below HB.out hbl) k _ hy
      obtain ⟨y1, y2, y3⟩ := HK.out y (List.mem_of_getElem? hy)
      have HS : Hid (Calls Try.prog 27 #[.slice y.1 y.2.2.length y.2.1] wr fun e w' => shEnd wr e w') := shown_any y.1 y.2.1 y.2.2 wr y1 y2 (y3.below HB.out (Nat.le_refl _) hsz)
      obtain ⟨on, hon⟩ : ∃ on, on = ol.length := ⟨_, rfl⟩
      have HOn : Hid (ol.length = on) := hon.symm
      rw [← hon] at hoc ho8 ⊢
      obtain ⟨ra, rc, rl⟩ := y
      simp only at c0 HS
      generalize rl.length = rn at c0 HS
      have hi0 : (k : Int) < (n : Int) := by omega
      clear hy hr y1 y2 y3 hon
      go_wp2_with fail
      refine HS.out.mono ?_
      rintro e w2 ⟨v2, l, rfl, hsl, ho2, hb2⟩
      obtain ⟨lo, lc, rfl, hlc, _, hla2⟩ := own_sh ho2
      have HSL : Hid (Shows l) := hsl
      have hl8 := hsl.few
      have HP1 : Hid (∀ u : World, Below wr.heap.size wr u → ShAt u lo l → Calls Try.prog 11 #[.slice oo on oc, .slice lo l.length lc] u fun e w' => ∃ no nc, e = .returned (.tuple #[.slice no l.length nc, .int .i64 0]) ∧ l.length ≤ nc ∧ NodeAt w' no (T.plan ol l) ∧ Below u.heap.size u w') := by
        intro u hu hs
        have := plan_good u oo lo oc lc ol l HO.out.1 (by rw [HOn.out]; exact ho8) (by rw [HOn.out]; exact hoc) hsl HO.out.2.1 (HO.out.2.2.below hu (Nat.le_refl _) hu.size) hs
        rwa [HOn.out] at this
      have HOl2 : Hid (NodeAt w2 oo ol) := HO.out.2.2.below hb2 (Nat.le_refl _) hb2.size
      have HLa2 : Hid (ShAt w2 lo l) := hla2
      have HB2 : Hid (Below wr.heap.size wr w2) := hb2
      obtain ⟨ln, hln⟩ : ∃ ln, ln = l.length := ⟨_, rfl⟩
      have HLn : Hid (l.length = ln) := hln.symm
      rw [← hln] at hl8 hlc HP1 ⊢
      clear ho2 hb2 hla2 hsl hln HS c0
      go_wp2_with fail
      refine (HP1.out w2 HB2.out HLa2.out).mono ?_
      rintro e w3 ⟨no, nc, rfl, hnc, hna3, hb3⟩
      obtain ⟨nx, hnx⟩ : ∃ nx, nx = T.plan ol l := ⟨_, rfl⟩
      have HNX : Hid (nx = T.plan ol l) := hnx
      have hnl : nx.length = ln := by rw [hnx, T.plan_length, HLn.out]
      have htr : T.isTree nx = true := by rw [hnx]; exact T.plan_tree HO.out.1 (by rw [HOn.out]; exact ho8) HSL.out.okSh
      have hnk : ndOk nx := by rw [hnx]; exact plan_ok HO.out.2.1 HSL.out.ok
      rw [← hnx] at hna3
      have HN : Hid (T.isTree nx = true ∧ ndOk nx ∧ nx.length = ln) := ⟨htr, hnk, hnl⟩
      have HP2 : Hid (∀ u : World, NodeAt u no nx → ShAt u lo l → Calls Try.prog 11 #[.slice no ln nc, .slice lo ln lc] u fun e w' => ∃ mo mc, e = .returned (.tuple #[.slice mo ln mc, .int .i64 0]) ∧ NodeAt w' mo nx ∧ Below u.heap.size u w') := by
        intro u h1 h2
        have := plan_good u no lo nc lc nx l htr (by omega) (by omega) HSL.out hnk h1 h2
        rw [hnl, HLn.out] at this
        refine this.mono ?_
        rintro e w' ⟨mo, mc, rfl, _, h5, h6⟩
        have e3 : T.plan nx l = nx := by rw [hnx]; exact T.plan_again HO.out.1 (by rw [HOn.out]; exact ho8) HSL.out.okSh
        rw [e3] at h5
        exact ⟨mo, mc, rfl, h5, h6⟩
      have HNa3 : Hid (NodeAt w3 no nx) := hna3
      have HLa3 : Hid (ShAt w3 lo l) := HLa2.out.below hb3 (Nat.le_refl _) hb3.size
      have HOl3 : Hid (NodeAt w3 oo ol) := HOl2.out.below hb3 (Nat.le_refl _) hb3.size
      have HB3 : Hid (Below w.heap.size w w3) := (HB.out.trans (HB2.out.mono hsz)).trans (hb3.mono (Nat.le_trans hsz HB2.out.size))
      clear hna3 hb3 hnx hnl htr hnk HLa2 HOl2 HB2 HP1
      go_wp2_with fail
      refine (HP2.out w3 HNa3.out HLa3.out).mono ?_
      rintro e w4 ⟨mo, mc, rfl, hma4, hb4⟩
      have HSM : Hid (∀ u : World, NodeAt u no nx → NodeAt u mo nx → Calls Try.prog 28 #[.slice no ln nc, .slice mo ln mc] u fun e w' => e = .returned (.bool true) ∧ Below u.heap.size u w') := by
        intro u h1 h2
        have := same_any no mo nc mc nx nx u (by rw [HN.out.2.2]; unfold maxLen; omega) (by rw [HN.out.2.2]; unfold maxLen; omega) h1 h2
        rw [HN.out.2.2] at this
        simpa using this
      have HMa4 : Hid (NodeAt w4 mo nx) := hma4
      have HNa4 : Hid (NodeAt w4 no nx) := HNa3.out.below hb4 (Nat.le_refl _) hb4.size
      have HLa4 : Hid (ShAt w4 lo l) := HLa3.out.below hb4 (Nat.le_refl _) hb4.size
      have HOl4 : Hid (NodeAt w4 oo ol) := HOl3.out.below hb4 (Nat.le_refl _) hb4.size
      have HB4 : Hid (Below w.heap.size w w4) := HB3.out.trans (hb4.mono HB3.out.size)
      clear hma4 hb4 HNa3 HLa3 HOl3 HB3 HP2
      go_wp2_with fail
      refine (HSM.out w4 HNa4.out HMa4.out).mono ?_
      rintro e w5 ⟨rfl, hb5⟩
      have HNa5 : Hid (NodeAt w5 no nx) := HNa4.out.below hb5 (Nat.le_refl _) hb5.size
      have HLa5 : Hid (ShAt w5 lo l) := HLa4.out.below hb5 (Nat.le_refl _) hb5.size
      have HOl5 : Hid (NodeAt w5 oo ol) := HOl4.out.below hb5 (Nat.le_refl _) hb5.size
      have HB5 : Hid (Below w.heap.size w w5) := HB4.out.trans (hb5.mono HB4.out.size)
      clear hb5 HMa4 HNa4 HLa4 HOl4 HB4 HSM HB
      go_wp2_with fail
      go_loopw [13] (fun i wq => ∃ (j q : Nat), j ≤ ln ∧ i = .int .i64 j ∧ wq = w5.drewN q)
        (fun i _ => ln - (intOf i).toNat)
      case atStart => exact ⟨0, 0, Nat.zero_le _, rfl, rfl⟩
      case round =>
        obtain ⟨j, q, hj, rfl, rfl⟩ := hrel
        by_cases hjl : j < ln
        · obtain ⟨z, hz⟩ : ∃ x, nx[j]? = some x := ⟨nx[j]'(by have := HN.out.2.2; omega), List.getElem?_eq_getElem (by have := HN.out.2.2; omega)⟩
          have hzl : l[j]? = some (z.2.1, z.2.2) := by
            have h1 := T.plan_map ol l
            rw [← HNX.out] at h1
            rw [← h1, List.getElem?_map, hz]
            rfl
          obtain ⟨b1, f1, rfl, hbl1, hr1⟩ : ∃ b off, no = some ⟨b, off, none⟩ ∧ b < w5.heap.size ∧ NodeRow w5 b off nx := HNa5.out.resolve_left (by rintro rfl; simp at hz)
          obtain ⟨b2, f2, rfl, hbl2, hr2⟩ : ∃ b off, lo = some ⟨b, off, none⟩ ∧ b < w5.heap.size ∧ ShRow w5 b off l := HLa5.out.resolve_left (by rintro rfl; simp at hzl)
          have HWA : Hid (∀ o ∈ ol, o.1 = z.1 ↔ o.2.1 = z.2.1) := by
            have hw := T.plan_way HO.out.1 (by rw [HOn.out]; exact ho8) HSL.out.okSh
            rw [← HNX.out] at hw
            exact fun o ho => hw.same z (List.mem_of_getElem? hz) o ho
          obtain ⟨z1, z2, z3⟩ := z
          obtain ⟨c0, c1, c2⟩ := hr1 j _ hz
          obtain ⟨d0, d1⟩ := hr2 j _ hzl
          simp only at c0 c1 c2 d0 d1 HWA
          have hji : (j : Int) < (ln : Int) := by omega
          have hj0 : (0 : Int) ≤ (j : Int) := by omega
          have e1 : ((z2 : Int) != z2) = false := by simp
          have e2 : ((z2 : Int) == z2) = true := by simp
          have e3 : (z3.toList == z3.toList) = true := by simp
          have e4 : (z3.toList != z3.toList) = false := by simp
          clear hz hzl hr1 hr2
          go_wp2_with fail
          go_quiet (fail)
          go_wp2_with fail
          go_loopw [14] (fun i wm => ∃ (m q : Nat), m ≤ on ∧ i = .int .i64 m ∧ wm = w5.drewN q)
            (fun i _ => on - (intOf i).toNat)
          case atStart => exact ⟨0, q + nq, Nat.zero_le _, rfl, by first | rfl | simp⟩
          case round =>
            obtain ⟨m, q2, hm, rfl, rfl⟩ := hrel
            by_cases hml : m < on
            · obtain ⟨o, ho⟩ : ∃ x, ol[m]? = some x := ⟨ol[m]'(by have := HOn.out; omega), List.getElem?_eq_getElem (by have := HOn.out; omega)⟩
              obtain ⟨b3, f3, rfl, hbl3, hr3⟩ : ∃ b off, oo = some ⟨b, off, none⟩ ∧ b < w5.heap.size ∧ NodeRow w5 b off ol := HOl5.out.resolve_left (by rintro rfl; simp at ho)
              have hiff := HWA.out o (List.mem_of_getElem? ho)
              obtain ⟨o1, o2, o3⟩ := o
              obtain ⟨g0, g1, g2⟩ := hr3 m _ ho
              simp only at g0 g1 g2 hiff
              have hmi : (m : Int) < (on : Int) := by omega
              have hm0 : (0 : Int) ≤ (m : Int) := by omega
              clear ho hr3
              by_cases h1 : o1 = z1
              · have h2 := hiff.1 h1
                have t1 : (o1 == z1) = true := by simp [h1]
                have t2 : (o2 == z2) = true := by simp [h2]
                clear hiff h1 h2
                go_wp2_with fail
                go_quiet (fail)
                go_wp2
                go_roundw
                case rel => exact ⟨m + 1, _, by omega, by go_num, by first | rfl | simp⟩
                case measure => simp [intOf]; omega
              · have h2 : ¬ o2 = z2 := fun h => h1 (hiff.2 h)
                have t1 : (o1 == z1) = false := by simp [h1]
                have t2 : (o2 == z2) = false := by simp [h2]
                clear hiff h1 h2
                go_wp2_with fail
                go_quiet (fail)
                go_wp2
                go_roundw
                case rel => exact ⟨m + 1, _, by omega, by go_num, by first | rfl | simp⟩
                case measure => simp [intOf]; omega
            · go_wp2
              go_roundw
              case rel => exact ⟨j + 1, _, by omega, by go_num, by first | rfl | simp⟩
              case measure => simp [intOf]; omega
        · go_wp2
          go_roundw
          case rel =>
            have hb6 : Below w.heap.size w (w5.drewN q) := below_drewN HB5.out q
            refine ⟨k + 1, nc, no, nx, by rw [HN.out.2.2], by omega, by go_num, hb6, by rw [HN.out.2.2]; exact hnc, by rw [HN.out.2.2]; omega, HN.out.1, HN.out.2.1, ?_⟩
            exact HNa5.out.below (below_drewN (Below.refl _ _) q) (Nat.le_refl _) (below_drewN (Below.refl w5.heap.size w5) q).size
          case measure => simp [intOf]; omega
    · go_wp2
      go_ret
      exact ⟨rfl, HB.out⟩

end Go.Proofs.Ytcaeeaiodbjacaa
