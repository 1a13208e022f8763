/-
  The walk of sameNodes.
-/
import Derived.Test.YtcaeeaiodbjacaaTextF
namespace Go.Proofs.Ytcaeeaiodbjacaa
open Go.RowKit
set_option linter.unusedVariables false

set_option maxHeartbeats 2000000 in
theorem sameN_any (ao bo : Option Addr) (ca cb : Nat) (l m : List T.Nd) (w : World) (hl : l.length ≤ maxLen) (hm : m.length ≤ maxLen) (ha : NodeAt w ao l) (hb : NodeAt w bo m) :
    Calls Try.prog 13 #[.slice ao l.length ca, .slice bo m.length cb] w fun e w' => e = .returned (.bool (decide (l = m))) ∧ Below w.heap.size w w' := by
  unfold maxLen at hl hm
  by_cases hlm : l.length = m.length
  · obtain ⟨n, hn⟩ : ∃ n, n = l.length := ⟨_, rfl⟩
    have Hn : Hid (l.length = n) := hn.symm
    have Hm : Hid (m.length = n) := by unfold Hid; omega
    rw [← hlm, ← hn]
    rw [← hn] at hl
    have HA : Hid (NodeAt w ao l) := ha
    have HB : Hid (NodeAt w bo m) := hb
    clear hn ha hb hm hlm
    go_enter Try.func13, Try.ntmps13
    go_wp2
    go_loopw [5] (fun i wr => ∃ (k q : Nat), k ≤ n ∧ i = .int .i64 k ∧ wr = w.drewN q ∧ Hid (decide (l = m) = decide (l.drop k = m.drop k)))
      (fun i _ => n - (intOf i).toNat)
    case atStart => exact ⟨0, 0, Nat.zero_le _, rfl, rfl, by unfold Hid; simp⟩
    case round =>
      obtain ⟨k, q, hk, rfl, rfl, HD⟩ := hrel
      by_cases hlt : k < n
      · obtain ⟨x, hx⟩ : ∃ x, l[k]? = some x := ⟨l[k]'(by have := Hn.out; omega), List.getElem?_eq_getElem (by have := Hn.out; omega)⟩
        obtain ⟨y, hy⟩ : ∃ x, m[k]? = some x := ⟨m[k]'(by have := Hm.out; omega), List.getElem?_eq_getElem (by have := Hm.out; omega)⟩
        obtain ⟨b1, f1, rfl, _, hr1⟩ : ∃ b off, ao = some ⟨b, off, none⟩ ∧ b < w.heap.size ∧ NodeRow w b off l := HA.out.resolve_left (by rintro rfl; simp at hx)
        obtain ⟨b2, f2, rfl, _, hr2⟩ : ∃ b off, bo = some ⟨b, off, none⟩ ∧ b < w.heap.size ∧ NodeRow w b off m := HB.out.resolve_left (by rintro rfl; simp at hy)
        obtain ⟨x1, x2, x3⟩ := x
        obtain ⟨y1, y2, y3⟩ := y
        obtain ⟨c0, c1, c2⟩ := hr1 k _ hx
        obtain ⟨d0, d1, d2⟩ := hr2 k _ hy
        simp only at c0 c1 c2 d0 d1 d2
        have HS : Hid (decide (l = m) = decide ((x1 = y1 ∧ x2 = y2 ∧ x3 = y3) ∧ l.drop (k + 1) = m.drop (k + 1))) := by
          unfold Hid
          rw [HD.out, drop_cons l k _ hx, drop_cons m k _ hy]
          simp
        have hi : (k : Int) < (n : Int) := by omega
        have h0 : (0 : Int) ≤ (k : Int) := by omega
        clear hx hy hr1 hr2
        by_cases h1 : x1 = y1
        · subst h1
          by_cases h2 : x2 = y2
          · subst h2
            by_cases h3 : x3 = y3
            · subst h3
              have HT : Hid (decide (l = m) = decide (l.drop (k + 1) = m.drop (k + 1))) := by unfold Hid; rw [HS.out]; simp
              go_wp2_with fail
              go_quiet (fail)
              go_wp2
              go_roundw
              case rel => exact ⟨k + 1, _, by omega, by go_num, by first | rfl | simp, HT⟩
              case measure => simp [intOf]; omega
            · have HT : Hid (decide (l = m) = false) := by unfold Hid; rw [HS.out]; simp [h3]
              have hb : (x3.toList == y3.toList) = false := text_ne h3
              clear h3
              go_wp2_with fail
              go_quiet (fail)
              go_wp2
              go_ret
              rw [HT.out]
              exact ⟨rfl, by (repeat (first | exact Below.refl _ _ | assumption | refine Below.setCell ?_ (by first | exact Nat.le_refl _ | omega | (simp; done) | (simp; omega)) _ | refine below_drewN ?_ _ | refine Below.drew ?_ | refine Below.alloc ?_ (by first | exact Nat.le_refl _ | omega | (simp; done) | (simp; omega)) _))⟩
          · have HT : Hid (decide (l = m) = false) := by unfold Hid; rw [HS.out]; simp [h2]
            have hb : (x2 == y2) = false := by rw [beq_eq_false_iff_ne]; exact h2
            clear h2
            go_wp2_with fail
            go_quiet (fail)
            go_wp2
            go_ret
            rw [HT.out]
            exact ⟨rfl, by (repeat (first | exact Below.refl _ _ | assumption | refine Below.setCell ?_ (by first | exact Nat.le_refl _ | omega | (simp; done) | (simp; omega)) _ | refine below_drewN ?_ _ | refine Below.drew ?_ | refine Below.alloc ?_ (by first | exact Nat.le_refl _ | omega | (simp; done) | (simp; omega)) _))⟩
        · have HT : Hid (decide (l = m) = false) := by unfold Hid; rw [HS.out]; simp [h1]
          have hb : (x1 == y1) = false := by rw [beq_eq_false_iff_ne]; exact h1
          clear h1
          go_wp2_with fail
          go_quiet (fail)
          go_wp2
          go_ret
          rw [HT.out]
          exact ⟨rfl, by (repeat (first | exact Below.refl _ _ | assumption | refine Below.setCell ?_ (by first | exact Nat.le_refl _ | omega | (simp; done) | (simp; omega)) _ | refine below_drewN ?_ _ | refine Below.drew ?_ | refine Below.alloc ?_ (by first | exact Nat.le_refl _ | omega | (simp; done) | (simp; omega)) _))⟩
      · have HT : Hid (decide (l = m) = true) := by
          unfold Hid
          rw [HD.out, List.drop_of_length_le (by have := Hn.out; omega), List.drop_of_length_le (by have := Hm.out; omega)]
          simp
        go_wp2
        go_ret
        rw [HT.out]
        exact ⟨rfl, by (repeat (first | exact Below.refl _ _ | assumption | refine Below.setCell ?_ (by first | exact Nat.le_refl _ | omega | (simp; done) | (simp; omega)) _ | refine below_drewN ?_ _ | refine Below.drew ?_ | refine Below.alloc ?_ (by first | exact Nat.le_refl _ | omega | (simp; done) | (simp; omega)) _))⟩
  · have hv : decide (l = m) = false := by simp; intro h; exact hlm (by rw [h])
    rw [hv]
    have h1 : ((l.length : Int) == (m.length : Int)) = false := by rw [beq_eq_false_iff_ne]; omega
    clear hv
    go_enter Try.func13, Try.ntmps13
    go_wp2
    go_ret
    exact ⟨rfl, Below.refl _ _⟩

end Go.Proofs.Ytcaeeaiodbjacaa
