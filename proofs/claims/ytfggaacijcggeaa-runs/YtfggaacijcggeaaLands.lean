/-
  The walk of landsInside.
-/
import Derived.Test.YtfggaacijcggeaaSmall
namespace Go.Proofs.Ytfggaacijcggeaa
open Go.RowKit
set_option linter.unusedVariables false

set_option maxHeartbeats 400000 in
theorem lands_no (b off n cap i : Nat) (o a : Int) (w : World) (hi : i < n) (h16 : o ≠ 16) (h17 : o ≠ 17)
    (c0 : w.cell? ⟨b, off + i * 2, none⟩ = some (.int .u8 o)) (c1 : w.cell? ⟨b, off + i * 2 + 1, none⟩ = some (.int .i64 a)) :
    Calls Try.prog 25 #[.slice (some ⟨b, off, none⟩) n cap, .int .i64 i] w fun e w' => e = .returned (.bool true) ∧ Below w.heap.size w w' := by
  have b16 : (o != 16) = true := by simpa using h16
  have b17 : (o != 17) = true := by simpa using h17
  clear h16 h17
  go_enter Try.func25, Try.ntmps25
  go_wp2
  go_ret
  exact ⟨rfl, by (repeat (first | exact Below.refl _ _ | assumption | refine Below.setCell ?_ (by first | exact Nat.le_refl _ | (simp; done) | (simp; omega)) _ | refine below_drewN ?_ _ | refine Below.drew ?_ | refine Below.alloc ?_ (by first | exact Nat.le_refl _ | (simp; done) | (simp; omega)) _))⟩

set_option maxHeartbeats 400000 in
theorem lands_yes (b off n cap i : Nat) (o a : Int) (w : World) (hi : i < n) (hn : n ≤ 64) (ho : o = 16 ∨ o = 17) (ha : -128 ≤ a) (hb : a ≤ 127)
    (c0 : w.cell? ⟨b, off + i * 2, none⟩ = some (.int .u8 o)) (c1 : w.cell? ⟨b, off + i * 2 + 1, none⟩ = some (.int .i64 a)) :
    Calls Try.prog 25 #[.slice (some ⟨b, off, none⟩) n cap, .int .i64 i] w fun e w' => e = .returned (.bool (decide (0 ≤ (i : Int) + 1 + a ∧ (i : Int) + 1 + a ≤ n))) ∧ Below w.heap.size w w' := by
  by_cases h0 : 0 ≤ (i : Int) + 1 + a
  · by_cases h2 : (i : Int) + 1 + a ≤ n
    · rw [show decide (0 ≤ (i : Int) + 1 + a ∧ (i : Int) + 1 + a ≤ n) = true by simp [h0, h2]]
      rcases ho with rfl | rfl
      all_goals
        go_enter Try.func25, Try.ntmps25
        go_wp2
        go_ret
        exact ⟨rfl, by (repeat (first | exact Below.refl _ _ | assumption | refine Below.setCell ?_ (by first | exact Nat.le_refl _ | (simp; done) | (simp; omega)) _ | refine below_drewN ?_ _ | refine Below.drew ?_ | refine Below.alloc ?_ (by first | exact Nat.le_refl _ | (simp; done) | (simp; omega)) _))⟩
    · rw [show decide (0 ≤ (i : Int) + 1 + a ∧ (i : Int) + 1 + a ≤ n) = false by simp; omega]
      rcases ho with rfl | rfl
      all_goals
        go_enter Try.func25, Try.ntmps25
        go_wp2
        go_ret
        exact ⟨rfl, by (repeat (first | exact Below.refl _ _ | assumption | refine Below.setCell ?_ (by first | exact Nat.le_refl _ | (simp; done) | (simp; omega)) _ | refine below_drewN ?_ _ | refine Below.drew ?_ | refine Below.alloc ?_ (by first | exact Nat.le_refl _ | (simp; done) | (simp; omega)) _))⟩
  · rw [show decide (0 ≤ (i : Int) + 1 + a ∧ (i : Int) + 1 + a ≤ n) = false by simp; omega]
    rcases ho with rfl | rfl
    all_goals
      go_enter Try.func25, Try.ntmps25
      go_wp2
      go_ret
      exact ⟨rfl, by (repeat (first | exact Below.refl _ _ | assumption | refine Below.setCell ?_ (by first | exact Nat.le_refl _ | (simp; done) | (simp; omega)) _ | refine below_drewN ?_ _ | refine Below.drew ?_ | refine Below.alloc ?_ (by first | exact Nat.le_refl _ | (simp; done) | (simp; omega)) _))⟩

theorem lands_any (b off n cap i : Nat) (o a : Int) (w : World) (hi : i < n) (hn : n ≤ 64) (ha : H.alone o a = true)
    (c0 : w.cell? ⟨b, off + i * 2, none⟩ = some (.int .u8 o)) (c1 : w.cell? ⟨b, off + i * 2 + 1, none⟩ = some (.int .i64 a)) :
    Calls Try.prog 25 #[.slice (some ⟨b, off, none⟩) n cap, .int .i64 i] w fun e w' => e = .returned (.bool (H.lands n i o a)) ∧ Below w.heap.size w w' := by
  by_cases ho : o = 16 ∨ o = 17
  · have hb : -128 ≤ a ∧ a ≤ 127 := by
      rcases ho with rfl | rfl <;> simpa [H.alone] using ha
    have e : H.lands n i o a = decide (0 ≤ (i : Int) + 1 + a ∧ (i : Int) + 1 + a ≤ n) := by unfold H.lands; rw [if_pos ho]
    rw [e]
    exact lands_yes b off n cap i o a w hi hn ho hb.1 hb.2 c0 c1
  · have e : H.lands n i o a = true := by unfold H.lands; rw [if_neg ho]
    rw [e]
    exact lands_no b off n cap i o a w hi (fun h => ho (.inl h)) (fun h => ho (.inr h)) c0 c1

end Go.Proofs.Ytfggaacijcggeaa
