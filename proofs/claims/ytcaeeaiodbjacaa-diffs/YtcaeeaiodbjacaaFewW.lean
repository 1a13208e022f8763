/-
  The document's own answer: the walk of Fewest.
-/
import Derived.Test.YtcaeeaiodbjacaaSharW
namespace Go.Proofs.Ytcaeeaiodbjacaa
open Go.RowKit
set_option linter.unusedVariables false

namespace T
theorem texts_take {a b : List Nd} {k : Nat} {x : Nd} (h : a[k]? = some x) : textsN (a.take (k + 1)) b = textsN (a.take k) b + b.countP (otherText x) := by
  unfold textsN
  rw [List.take_add_one, h]
  simp

theorem other_take {b : List Nd} {x y : Nd} {q : Nat} (h : b[q]? = some y) : (b.take (q + 1)).countP (otherText x) = (b.take q).countP (otherText x) + (if x.1 = y.1 ∧ x.2.1 = y.2.1 ∧ x.2.2 ≠ y.2.2 then 1 else 0) := by
  rw [List.take_add_one, h, List.countP_append]
  simp [otherText]

theorem shared_range (a b : List Int) : shared a b ≤ a.length := by
  obtain ⟨c, h1, _, h3⟩ := shared_ge a b
  have := h1.length_le
  omega
end T

set_option maxRecDepth 100000 in
set_option maxHeartbeats 8000000 in
theorem few_any (oo xo : Option Addr) (oc xc : Nat) (old next : List T.Nd) (w : World) (hlo : old.length ≤ 16) (hlx : next.length ≤ 16) (hao : NodeAt w oo old) (hax : NodeAt w xo next) (hA : (T.stayL old next).length ≤ 16) (hB : (T.stayL next old).length ≤ 16) :
    Calls Try.prog 22 #[.slice oo old.length oc, .slice xo next.length xc] w fun e w' => e = .returned (.int .i64 (T.fewN old next)) ∧ Below w.heap.size w w' := by
  have HS1 : Hid (∀ u : World, Below w.heap.size w u → Calls Try.prog 44 #[.slice oo old.length oc, .slice xo next.length xc] u fun e w' => ∃ v, e = .returned v ∧ w'.ownsRow u.heap.size 5 1 v (T.stayL old next).length (u8l (T.stayL old next)) ∧ Below u.heap.size u w') := fun u hu => stay_any oo xo oc xc old next u hlo hlx (hao.below hu (Nat.le_refl _) hu.size) (hax.below hu (Nat.le_refl _) hu.size)
  have HS2 : Hid (∀ u : World, Below w.heap.size w u → Calls Try.prog 44 #[.slice xo next.length xc, .slice oo old.length oc] u fun e w' => ∃ v, e = .returned v ∧ w'.ownsRow u.heap.size 5 1 v (T.stayL next old).length (u8l (T.stayL next old)) ∧ Below u.heap.size u w') := fun u hu => stay_any xo oo xc oc next old u hlx hlo (hax.below hu (Nat.le_refl _) hu.size) (hao.below hu (Nat.le_refl _) hu.size)
  have HAo : Hid (NodeAt w oo old) := hao
  have HAx : Hid (NodeAt w xo next) := hax
  have hsr := T.shared_range (T.stayL old next) (T.stayL next old)
  have HF : Hid (T.fewN old next = ((old.length : Int) - (T.stayL old next).length) + ((next.length : Int) - (T.stayL next old).length) + T.textsN old next + ((T.stayL old next).length - T.shared (T.stayL old next) (T.stayL next old))) := rfl
  obtain ⟨LA, hLA⟩ : ∃ l, l = T.stayL old next := ⟨_, rfl⟩
  obtain ⟨LB, hLB⟩ : ∃ l, l = T.stayL next old := ⟨_, rfl⟩
  rw [← hLA] at HS1 hA hsr HF
  rw [← hLB] at HS2 hB hsr HF
  obtain ⟨on, hon⟩ : ∃ n, n = old.length := ⟨_, rfl⟩
  have Hon : Hid (old.length = on) := hon.symm
  obtain ⟨xn, hxn⟩ : ∃ n, n = next.length := ⟨_, rfl⟩
  have Hxn : Hid (next.length = xn) := hxn.symm
  obtain ⟨na, hna⟩ : ∃ n, n = LA.length := ⟨_, rfl⟩
  have Hna : Hid (LA.length = na) := hna.symm
  obtain ⟨nb, hnb⟩ : ∃ n, n = LB.length := ⟨_, rfl⟩
  have Hnb : Hid (LB.length = nb) := hnb.symm
  obtain ⟨sh, hsh⟩ : ∃ s, s = T.shared LA LB := ⟨_, rfl⟩
  have Hsh : Hid (T.shared LA LB = sh) := hsh.symm
  rw [← hon] at HS1 HS2 hlo HF ⊢
  rw [← hxn] at HS1 HS2 hlx HF ⊢
  rw [← hna] at HS1 hA hsr HF
  rw [← hnb] at HS2 hB HF
  rw [← hsh] at hsr HF
  clear hao hax hLA hLB hon hxn hna hnb hsh
  go_enter Try.func22, Try.ntmps22
  go_wp2_with fail
  refine (HS1.out w (Below.refl _ _)).mono ?_
  rintro e w1 ⟨va, rfl, ha1, hb1⟩
  obtain ⟨aO, aC, rfl⟩ := own_is ha1
  have HA1 : Hid (w1.ownsRow w.heap.size 5 1 (.slice aO na aC) na (u8l LA)) := ha1
  have HB1 : Hid (Below w.heap.size w w1) := hb1
  clear ha1 hb1 HS1
  go_wp2_with fail
  refine (HS2.out w1 HB1.out).mono ?_
  rintro e w2 ⟨vb, rfl, hb2, hbl2⟩
  obtain ⟨bO, bC, rfl⟩ := own_is hb2
  have HR : Hid (U8At w2 aO LA ∧ U8At w2 bO LB) := ⟨own_u8At (own_below' HA1.out hbl2 (Nat.le_refl _)) Hna.out, own_u8At hb2 Hnb.out⟩
  have HB2 : Hid (Below w.heap.size w w2) := HB1.out.trans (hbl2.mono HB1.out.size)
  have HAo2 : Hid (NodeAt w2 oo old) := HAo.out.below HB2.out (Nat.le_refl _) HB2.out.size
  have HAx2 : Hid (NodeAt w2 xo next) := HAx.out.below HB2.out (Nat.le_refl _) HB2.out.size
  clear hb2 hbl2 HS2 HA1 HB1 HAo HAx
  go_wp2_with fail
  go_loopw [7, 8] (fun vt vi wr => ∃ (k t q' : Nat), vt = .int .i64 t ∧ vi = .int .i64 k ∧ k ≤ on ∧ t ≤ 16 * k ∧ wr = w2.drewN q' ∧ Hid (t = T.textsN (old.take k) next))
    (fun _ vi _ => on - (intOf vi).toNat)
  case atStart => exact ⟨0, 0, 0, rfl, rfl, Nat.zero_le _, by omega, rfl, rfl⟩
  case round =>
    obtain ⟨k, t, q0, rfl, rfl, hk, ht, rfl, HT⟩ := hrel
    by_cases hlt : k < on
    · obtain ⟨x, hx⟩ : ∃ x, old[k]? = some x := ⟨old[k]'(by have := Hon.out; omega), List.getElem?_eq_getElem (by have := Hon.out; omega)⟩
      obtain ⟨ba, fa, rfl, hba, hra⟩ : ∃ b off, oo = some ⟨b, off, none⟩ ∧ b < w2.heap.size ∧ NodeRow w2 b off old := HAo2.out.resolve_left (by rintro rfl; simp at hx)
      obtain ⟨c0, c1, c2⟩ := hra k _ hx
      have HTk : Hid (T.textsN (old.take (k + 1)) next = t + next.countP (T.otherText x)) := by unfold Hid; rw [T.texts_take hx, ← HT.out]
      obtain ⟨x1, x2, x3⟩ := x
      simp only at c0 c1 c2
      have hki : (k : Int) < (on : Int) := by omega
      have hk0 : (0 : Int) ≤ (k : Int) := by omega
      clear hx hra HT
      go_wp2_with fail
      go_loopw [7, 9] (fun vt vi wr => ∃ (q s q' : Nat), vt = .int .i64 s ∧ vi = .int .i64 q ∧ q ≤ xn ∧ s ≤ t + q ∧ wr = w2.drewN q' ∧ Hid (s = t + (next.take q).countP (T.otherText (x1, x2, x3))))
        (fun _ vi _ => xn - (intOf vi).toNat)
      case atStart => exact ⟨0, t, q0, rfl, rfl, Nat.zero_le _, by omega, rfl, by unfold Hid; simp⟩
      case round =>
        obtain ⟨q, s, q1, rfl, rfl, hq, hs, rfl, HSq⟩ := hrel
        by_cases hqx : q < xn
        · obtain ⟨y, hy⟩ : ∃ x, next[q]? = some x := ⟨next[q]'(by have := Hxn.out; omega), List.getElem?_eq_getElem (by have := Hxn.out; omega)⟩
          obtain ⟨bb, fb, rfl, hbb, hrb⟩ : ∃ b' off, xo = some ⟨b', off, none⟩ ∧ b' < w2.heap.size ∧ NodeRow w2 b' off next := HAx2.out.resolve_left (by rintro rfl; simp at hy)
          obtain ⟨d0, d1, d2⟩ := hrb q _ hy
          obtain ⟨y1, y2, y3⟩ := y
          simp only at d0 d1 d2
          have HO : Hid (t + (next.take (q + 1)).countP (T.otherText (x1, x2, x3)) = s + (if x1 = y1 ∧ x2 = y2 ∧ x3 ≠ y3 then 1 else 0)) := by
            unfold Hid
            have h := T.other_take (x := (x1, x2, x3)) hy
            simp only at h
            rw [h, HSq.out, Nat.add_assoc]
          have hqi : (q : Int) < (xn : Int) := by omega
          have hq0 : (0 : Int) ≤ (q : Int) := by omega
          clear hy hrb HSq
          by_cases h1 : x1 = y1
          · subst h1
            by_cases h2 : x2 = y2
            · subst h2
              by_cases h3 : x3 = y3
              · have HO2 : Hid (s = t + (next.take (q + 1)).countP (T.otherText (x1, x2, x3))) := by unfold Hid; rw [HO.out, if_neg (by intro h; exact h.2.2 h3)]; rfl
                subst h3
                have t3 : (x3.toList == x3.toList) = true := by simp
                have t4 : (x3.toList != x3.toList) = false := by simp
                clear HO
                go_wp2_with fail
                go_quiet (fail)
                go_wp2
                go_roundw
                case rel => exact ⟨q + 1, s, _, rfl, by go_num, by omega, by omega, by first | rfl | simp, HO2⟩
                case measure => simp [intOf]; omega
              · have HO2 : Hid (s + 1 = t + (next.take (q + 1)).countP (T.otherText (x1, x2, x3))) := by unfold Hid; rw [HO.out, if_pos ⟨rfl, rfl, h3⟩]
                have t3 : (x3.toList == y3.toList) = false := text_ne h3
                have t4 : (x3.toList != y3.toList) = true := by simp [bne, t3]
                clear HO h3
                go_wp2_with fail
                go_quiet (fail)
                go_wp2
                go_roundw
                case rel => exact ⟨q + 1, s + 1, _, by go_num, by go_num, by omega, by omega, by first | rfl | simp, HO2⟩
                case measure => simp [intOf]; omega
            · have HO2 : Hid (s = t + (next.take (q + 1)).countP (T.otherText (x1, x2, x3))) := by unfold Hid; rw [HO.out, if_neg (by intro h; exact h2 h.2.1)]; rfl
              have hb2 : (x2 == y2) = false := by rw [beq_eq_false_iff_ne]; exact h2
              clear HO h2
              go_wp2_with fail
              go_quiet (fail)
              go_wp2
              go_roundw
              case rel => exact ⟨q + 1, s, _, rfl, by go_num, by omega, by omega, by first | rfl | simp, HO2⟩
              case measure => simp [intOf]; omega
          · have HO2 : Hid (s = t + (next.take (q + 1)).countP (T.otherText (x1, x2, x3))) := by unfold Hid; rw [HO.out, if_neg (by intro h; exact h1 h.1)]; rfl
            have hb1 : (x1 == y1) = false := by rw [beq_eq_false_iff_ne]; exact h1
            clear HO h1
            go_wp2_with fail
            go_quiet (fail)
            go_wp2
            go_roundw
            case rel => exact ⟨q + 1, s, _, rfl, by go_num, by omega, by omega, by first | rfl | simp, HO2⟩
            case measure => simp [intOf]; omega
        · have HS2 : Hid (s = T.textsN (old.take (k + 1)) next) := by
            unfold Hid
            rw [HTk.out, HSq.out, List.take_of_length_le (by have := Hxn.out; omega)]
          have hqi : ¬ (q : Int) < (xn : Int) := by omega
          clear HSq
          go_wp2
          go_roundw
          case rel => exact ⟨k + 1, s, q1, rfl, by go_num, by omega, by omega, rfl, HS2⟩
          case measure => simp [intOf]; omega
    · have HTe : Hid (T.textsN old next = t) := by unfold Hid; rw [HT.out, List.take_of_length_le (by have := Hon.out; omega)]
      have hki : ¬ (k : Int) < (on : Int) := by omega
      have HCs : Hid (Calls Try.prog 45 #[.slice aO na aC, .slice bO nb bC] (w2.drewN q0) fun e w' => e = .returned (.int .i64 sh) ∧ Below (w2.drewN q0).heap.size (w2.drewN q0) w') := by
        have hb : Below w2.heap.size w2 (w2.drewN q0) := below_drewN (Below.refl _ _) q0
        have hu : ∀ (o : Option Addr) (l : List Int), U8At w2 o l → U8At (w2.drewN q0) o l := by
          intro o l h
          rcases h with h | ⟨b, off, e, hl, h⟩
          · exact Or.inl h
          · exact Or.inr ⟨b, off, e, hl, h.below hb hl⟩
        have := shared_any aO bO aC bC LA LB (w2.drewN q0) (by rw [Hna.out]; exact hA) (by rw [Hnb.out]; exact hB) (hu _ _ HR.out.1) (hu _ _ HR.out.2)
        rw [Hna.out, Hnb.out, Hsh.out] at this
        exact this
      have HB3 : Hid (Below w.heap.size w (w2.drewN q0)) := below_drewN HB2.out q0
      clear HT HR HAo2 HAx2 HB2
      go_wp2_with fail
      refine HCs.out.mono ?_
      rintro e w4 ⟨rfl, hb4⟩
      have HB4 : Hid (Below w.heap.size w w4) := HB3.out.trans (hb4.mono HB3.out.size)
      clear hb4 HCs HB3
      go_wp2
      go_ret
      refine ⟨?_, HB4.out⟩
      rw [HF.out, HTe.out]
      first | rfl | (refine ret_int ?_; first | omega | (simp only [IntKind.wrap_i64]; omega))

end Go.Proofs.Ytcaeeaiodbjacaa
