/-
  The walk of sameIns.
-/
import Derived.Test.YtfggaacijcggeaaRefD
namespace Go.Proofs.Ytfggaacijcggeaa
open Go.RowKit
set_option linter.unusedVariables false

/-- A slice of instructions, also an empty one. -/
def InsAt (w : World) (ao : Option Addr) (l : List (Int × Int)) : Prop :=
  l = [] ∨ ∃ b off, ao = some ⟨b, off, none⟩ ∧ InsRow w b off l

set_option maxHeartbeats 2000000 in
theorem same_any (ao bo : Option Addr) (ca cb : Nat) (l m : List (Int × Int)) (w : World) (hl : l.length ≤ maxLen) (hm : m.length ≤ maxLen) (ha : InsAt w ao l) (hb : InsAt w bo m) :
    Calls Try.prog 10 #[.slice ao l.length ca, .slice bo m.length cb] w fun e w' => e = .returned (.bool (decide (l = m))) ∧ Below w.heap.size w w' := by
  unfold maxLen at hl hm
  by_cases hlm : l.length = m.length
  · obtain ⟨n, hn⟩ : ∃ n, n = l.length := ⟨_, rfl⟩
    have Hn : Hid (l.length = n) := hn.symm
    have Hm : Hid (m.length = n) := by unfold Hid; omega
    rw [← hlm, ← hn]
    rw [← hn] at hl
    have HA : Hid (InsAt w ao l) := ha
    have HB : Hid (InsAt w bo m) := hb
    clear hn ha hb hm hlm
    go_enter Try.func10, Try.ntmps10
    go_wp2
    go_loopw [5] (fun i wr => ∃ (k q : Nat), k ≤ n ∧ i = .int .i64 k ∧ wr = w.drewN q ∧ decide (l = m) = decide (l.drop k = m.drop k))
      (fun i _ => n - (intOf i).toNat)
    case atStart => exact ⟨0, 0, Nat.zero_le _, rfl, rfl, by simp⟩
    case round =>
      obtain ⟨k, q, hk, rfl, rfl, hd⟩ := hrel
      have HD : Hid (decide (l = m) = decide (l.drop k = m.drop k)) := hd
      clear hd
      by_cases hlt : k < n
      · obtain ⟨x, hx⟩ : ∃ x, l[k]? = some x := ⟨l[k]'(by have := Hn.out; omega), List.getElem?_eq_getElem (by have := Hn.out; omega)⟩
        obtain ⟨y, hy⟩ : ∃ x, m[k]? = some x := ⟨m[k]'(by have := Hm.out; omega), List.getElem?_eq_getElem (by have := Hm.out; omega)⟩
        obtain ⟨b1, f1, rfl, hr1⟩ : ∃ b off, ao = some ⟨b, off, none⟩ ∧ InsRow w b off l := HA.out.resolve_left (by rintro rfl; simp at hx)
        obtain ⟨b2, f2, rfl, hr2⟩ : ∃ b off, bo = some ⟨b, off, none⟩ ∧ InsRow w b off m := HB.out.resolve_left (by rintro rfl; simp at hy)
        obtain ⟨o, a⟩ := x
        obtain ⟨p, c⟩ := y
        obtain ⟨c0, c1⟩ := hr1 k _ hx
        obtain ⟨d0, d1⟩ := hr2 k _ hy
        simp only at c0 c1 d0 d1
        have HS : Hid (decide (l = m) = decide ((o = p ∧ a = c) ∧ l.drop (k + 1) = m.drop (k + 1))) := by
          unfold Hid
          rw [HD.out, H.drop_cons l k _ hx, H.drop_cons m k _ hy]
          simp
        have hi : (k : Int) < (n : Int) := by omega
        have h0 : (0 : Int) ≤ (k : Int) := by omega
        clear hx hy hr1 hr2
        by_cases hop : o = p
        · subst hop
          by_cases hac : a = c
          · subst hac
            have HT : Hid (decide (l = m) = decide (l.drop (k + 1) = m.drop (k + 1))) := by unfold Hid; rw [HS.out]; simp
            go_wp2_with fail
            go_quiet (fail)
            go_wp2
            go_roundw
            case rel => exact ⟨k + 1, _, by omega, by go_num, by first | rfl | simp, HT.out⟩
            case measure => simp [intOf]; omega
          · have HT : Hid (decide (l = m) = false) := by unfold Hid; rw [HS.out]; simp [hac]
            have hb : (a == c) = false := by rw [beq_eq_false_iff_ne]; exact hac
            clear hac
            go_wp2_with fail
            go_quiet (fail)
            go_wp2
            go_ret
            rw [HT.out]
            exact ⟨rfl, below_drewN (below_drewN (Below.refl _ _) _) _⟩
        · have HT : Hid (decide (l = m) = false) := by unfold Hid; rw [HS.out]; simp [hop]
          have hb : (o == p) = false := by rw [beq_eq_false_iff_ne]; exact hop
          clear hop
          go_wp2_with fail
          go_quiet (fail)
          go_wp2
          go_ret
          rw [HT.out]
          exact ⟨rfl, below_drewN (below_drewN (Below.refl _ _) _) _⟩
      · have HT : Hid (decide (l = m) = true) := by
          unfold Hid
          rw [HD.out, List.drop_of_length_le (by have := Hn.out; omega), List.drop_of_length_le (by have := Hm.out; omega)]
          simp
        go_wp2
        go_ret
        rw [HT.out]
        exact ⟨rfl, below_drewN (Below.refl _ _) _⟩
  · have hv : decide (l = m) = false := by simp; intro h; exact hlm (by rw [h])
    rw [hv]
    have h1 : ((l.length : Int) == (m.length : Int)) = false := by rw [beq_eq_false_iff_ne]; omega
    clear hv
    go_enter Try.func10, Try.ntmps10
    go_wp2
    go_ret
    exact ⟨rfl, Below.refl _ _⟩

end Go.Proofs.Ytfggaacijcggeaa
