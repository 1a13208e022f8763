/-
  The document's own answer: the walk of strays.
-/
import Derived.Test.YtfggaacijcggeaaRefM
namespace Go.Proofs.Ytfggaacijcggeaa
open Go.RowKit
set_option linter.unusedVariables false

namespace H
/-- Which is the first that goes where it may not; -1. -/
def strayI (n : Nat) : Nat → List (Int × Int) → Int
  | _, [] => -1
  | i, x :: r => if lands n i x.1 x.2 = true then strayI n (i + 1) r else i
/-- The places of the instructions. -/
def begins : Nat → List (Int × Int) → List Nat
  | _, [] => []
  | p, x :: r => p :: begins (p + 1 + wid x.1) r

theorem strayI_step (n : Nat) (l : List (Int × Int)) (k : Nat) (x : Int × Int) (h : l[k]? = some x) :
    strayI n k (l.drop k) = if lands n k x.1 x.2 = true then strayI n (k + 1) (l.drop (k + 1)) else (k : Int) := by
  rw [drop_cons l k x h]
  rfl

theorem stray_strayI (n : Nat) : ∀ (l : List (Int × Int)) (i p : Nat),
    (strayI n i l = -1 ∧ stray n i p l = none) ∨ ∃ j : Nat, strayI n i l = ((i + j : Nat) : Int) ∧ j < l.length ∧ stray n i p l = (begins p l)[j]? ∧ (begins p l)[j]?.isSome = true
  | [], i, p => .inl ⟨rfl, rfl⟩
  | x :: r, i, p => by
    simp only [strayI, stray, begins]
    by_cases h : lands n i x.1 x.2 = true
    · rw [if_pos h, if_pos h]
      rcases stray_strayI n r (i + 1) (p + 1 + wid x.1) with ⟨h1, h2⟩ | ⟨j, h1, h2, h3, h4⟩
      · exact .inl ⟨h1, h2⟩
      · refine .inr ⟨j + 1, by rw [h1]; congr 1; omega, by simp; omega, by simpa using h3, by simpa using h4⟩
    · rw [if_neg h, if_neg h]
      exact .inr ⟨0, rfl, by simp, rfl, rfl⟩

theorem begins_length : ∀ (l : List (Int × Int)) (p : Nat), (begins p l).length = l.length
  | [], _ => rfl
  | x :: r, p => by simp [begins, begins_length r]

theorem begins_snoc : ∀ (l : List (Int × Int)) (p : Nat) (x : Int × Int), begins p (l ++ [x]) = begins p l ++ [p + (encAll l).length]
  | [], p, x => by simp [begins, encAll]
  | y :: r, p, x => by
    simp only [List.cons_append, begins, begins_snoc r]
    simp [encAll, enc_length]
    omega
end H

theorem shp_ne (o : Int) (hj : ¬ (o = 16 ∨ o = 17)) : (H.shp o == 106) = false := by
  unfold H.shp
  by_cases h1 : o = 1
  · rw [if_pos h1]; rfl
  rw [if_neg h1]
  by_cases h2 : o = 2 ∨ o = 3
  · rw [if_pos h2]; rfl
  rw [if_neg h2, if_neg hj]
  by_cases h4 : o = 25
  · rw [if_pos h4]; rfl
  · rw [if_neg h4]; rfl

set_option maxHeartbeats 2000000 in
theorem strays_any (g n cv : Nat) (l : List (Int × Int)) (w : World) (h64 : n ≤ 64) (hn : l.length = n) (hrow : InsRow w g 0 l) (hal : ∀ x ∈ l, H.alone x.1 x.2 = true ∧ 0 ≤ x.1) :
    Calls Try.prog 28 #[.slice (some ⟨g, 0, none⟩) n cv] w fun e w' => e = .returned (.int .i64 (H.strayI n 0 l)) ∧ w = w' := by
  have HR : Hid (InsRow w g 0 l) := hrow
  have Hn : Hid (l.length = n) := hn
  have HA : Hid (∀ x ∈ l, H.alone x.1 x.2 = true ∧ 0 ≤ x.1) := hal
  clear hrow hn hal
  go_enter Try.func28, Try.ntmps28
  go_wp2
  go_loop [3] (fun i => ∃ k : Nat, k ≤ n ∧ i = .int .i64 k ∧ H.strayI n 0 l = H.strayI n k (l.drop k)) (fun i => n - (intOf i).toNat)
  case atStart => exact ⟨0, Nat.zero_le _, rfl, by simp⟩
  case round =>
    obtain ⟨k, hk, rfl, hst⟩ := hrel
    have HS : Hid (H.strayI n 0 l = H.strayI n k (l.drop k)) := hst
    clear hst
    by_cases hlt : k < n
    · obtain ⟨x, hx⟩ : ∃ x, l[k]? = some x := ⟨l[k]'(by have := Hn.out; omega), List.getElem?_eq_getElem (by have := Hn.out; omega)⟩
      obtain ⟨o, a⟩ := x
      obtain ⟨c0, c1⟩ := HR.out k _ hx
      rw [Nat.zero_add] at c0 c1
      obtain ⟨ha, ho⟩ := HA.out _ (List.mem_of_getElem? hx)
      simp only at ha ho c0 c1
      have h27 := H.alone_op o a ha
      have HT : Hid (H.strayI n 0 l = if H.lands n k o a = true then H.strayI n (k + 1) (l.drop (k + 1)) else (k : Int)) := HS.out.trans (H.strayI_step n l k (o, a) hx)
      have hwo : wrap64 o = o := by unfold wrap64; omega
      have hsx : ∀ W, (Instr.index 9 (.string ⟨#[45, 119, 99, 99, 45, 45, 45, 45, 45, 45, 45, 45, 45, 45, 45, 45, 106, 106, 45, 45, 45, 45, 45, 45, 45, 116, 45, 45]⟩) (.int .i64 o)).run Try.prog W = .ok (.int .u8 (H.shp o)) W := fun W => shp_at o ho (by omega) W
      by_cases hj : o = 16 ∨ o = 17
      · have hb : -128 ≤ a ∧ a ≤ 127 := by
          rcases hj with rfl | rfl <;> simpa [H.alone] using ha
        obtain ⟨hb0, hb1⟩ := hb
        have es : H.shp o = 106 := by unfold H.shp; rw [if_neg (by omega), if_neg (by omega), if_pos hj]
        rw [es] at hsx
        have el : H.lands n k o a = decide (0 ≤ (k : Int) + 1 + a ∧ (k : Int) + 1 + a ≤ n) := by unfold H.lands; rw [if_pos hj]
        rw [el] at HT
        clear hx ha es el HS hj
        by_cases h0 : (k : Int) + 1 + a < 0
        · have hv : Hid (H.strayI n 0 l = (k : Int)) := by unfold Hid; rw [HT.out, if_neg (by simp; omega)]
          go_wp2
          go_ret
          exact ⟨ret_int hv.out.symm, rfl⟩
        · by_cases h1 : (n : Int) < (k : Int) + 1 + a
          · have hv : Hid (H.strayI n 0 l = (k : Int)) := by unfold Hid; rw [HT.out, if_neg (by simp; omega)]
            have g0 : decide ((k : Int) + 1 + a < 0) = false := by simp; omega
            clear h0
            go_wp2
            go_ret
            exact ⟨ret_int hv.out.symm, rfl⟩
          · have hv : Hid (H.strayI n 0 l = H.strayI n (k + 1) (l.drop (k + 1))) := by unfold Hid; rw [HT.out, if_pos (by simp; omega)]
            have g0 : decide ((k : Int) + 1 + a < 0) = false := by simp; omega
            have g1 : decide ((n : Int) < (k : Int) + 1 + a) = false := by simp; omega
            clear h0 h1
            go_wp2
            go_round
            case rel => exact ⟨k + 1, by omega, by go_num, hv.out⟩
            case measure => simp [intOf]; omega
      · have es : (H.shp o == 106) = false := shp_ne o hj
        have el : H.lands n k o a = true := lands_other (fun h => hj (.inl h)) (fun h => hj (.inr h))
        have hv : Hid (H.strayI n 0 l = H.strayI n (k + 1) (l.drop (k + 1))) := by unfold Hid; rw [HT.out, el]; rfl
        obtain ⟨a', ha'⟩ : ∃ a', a' = wrap64 ((k : Int) + 1 + a) := ⟨_, rfl⟩
        clear hx ha el HS hj HT ha'
        go_wp2
        go_round
        case rel => exact ⟨k + 1, by omega, by go_num, hv.out⟩
        case measure => simp [intOf]; omega
    · have hv : Hid (H.strayI n 0 l = -1) := by unfold Hid; rw [HS.out, List.drop_of_length_le (by have := Hn.out; omega)]; rfl
      go_wp2
      go_ret
      exact ⟨ret_int hv.out.symm, rfl⟩

end Go.Proofs.Ytfggaacijcggeaa
