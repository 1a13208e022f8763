/-
  The document's own answer: the walk of may.
-/
import Derived.Test.YtfggaacijcggeaaRefS
namespace Go.Proofs.Ytfggaacijcggeaa
open Go.RowKit
set_option linter.unusedVariables false

set_option maxHeartbeats 400000 in
theorem may_out (op a : Int) (w : World) (h : 28 ≤ op) : Calls Try.prog 27 #[.int .i64 op, .int .i64 a] w fun e w' => e = .returned (.bool (H.alone op a)) ∧ w = w' := by
  have e : H.alone op a = false := by
    unfold H.alone
    rw [if_neg (by omega), if_neg (by omega), if_neg (by omega), if_neg (by omega)]
    simp; omega
  rw [e]
  have h1 : decide (op < 0) = false := by simp; omega
  clear e
  go_enter Try.func27, Try.ntmps27
  go_wp2
  go_ret
  exact ⟨rfl, rfl⟩

set_option maxHeartbeats 400000 in
theorem may_1 (a : Int) (w : World) : Calls Try.prog 27 #[.int .i64 1, .int .i64 a] w fun e w' => e = .returned (.bool (H.alone 1 a)) ∧ w = w' := by
  have e : H.alone 1 a = decide (0 ≤ a ∧ a ≤ 65535) := by simp [H.alone]
  rw [e]; clear e
  have hsx : ∀ W, (Instr.index 9 (.string ⟨#[45, 119, 99, 99, 45, 45, 45, 45, 45, 45, 45, 45, 45, 45, 45, 45, 106, 106, 45, 45, 45, 45, 45, 45, 45, 116, 45, 45]⟩) (.int .i64 1)).run Try.prog W = .ok (.int .u8 119) W := fun W => shp_at 1 (by decide) (by decide) W
  by_cases h0 : 0 ≤ a
  · by_cases h2 : a ≤ 65535
    · rw [show decide (0 ≤ a ∧ a ≤ 65535) = true by simp [h0, h2]]
      have h3 : a < 65536 := by omega
      go_enter Try.func27, Try.ntmps27
      go_wp2
      go_ret
      exact ⟨rfl, rfl⟩
    · rw [show decide (0 ≤ a ∧ a ≤ 65535) = false by simp; omega]
      have h3 : ¬ a < 65536 := by omega
      go_enter Try.func27, Try.ntmps27
      go_wp2
      go_ret
      exact ⟨rfl, rfl⟩
  · rw [show decide (0 ≤ a ∧ a ≤ 65535) = false by simp; omega]
    go_enter Try.func27, Try.ntmps27
    go_wp2
    go_ret
    exact ⟨rfl, rfl⟩

set_option maxHeartbeats 400000 in
theorem may_2 (a : Int) (w : World) : Calls Try.prog 27 #[.int .i64 2, .int .i64 a] w fun e w' => e = .returned (.bool (H.alone 2 a)) ∧ w = w' := by
  have e : H.alone 2 a = decide (0 ≤ a ∧ a < 8) := by simp [H.alone]
  rw [e]; clear e
  have hsx : ∀ W, (Instr.index 9 (.string ⟨#[45, 119, 99, 99, 45, 45, 45, 45, 45, 45, 45, 45, 45, 45, 45, 45, 106, 106, 45, 45, 45, 45, 45, 45, 45, 116, 45, 45]⟩) (.int .i64 2)).run Try.prog W = .ok (.int .u8 99) W := fun W => shp_at 2 (by decide) (by decide) W
  by_cases h0 : 0 ≤ a
  · by_cases h2 : a < 8
    · rw [show decide (0 ≤ a ∧ a < 8) = true by simp [h0, h2]]
      have h3 : a < 8 := by omega
      go_enter Try.func27, Try.ntmps27
      go_wp2
      go_ret
      exact ⟨rfl, rfl⟩
    · rw [show decide (0 ≤ a ∧ a < 8) = false by simp; omega]
      have h3 : ¬ a < 8 := by omega
      go_enter Try.func27, Try.ntmps27
      go_wp2
      go_ret
      exact ⟨rfl, rfl⟩
  · rw [show decide (0 ≤ a ∧ a < 8) = false by simp; omega]
    go_enter Try.func27, Try.ntmps27
    go_wp2
    go_ret
    exact ⟨rfl, rfl⟩

set_option maxHeartbeats 400000 in
theorem may_3 (a : Int) (w : World) : Calls Try.prog 27 #[.int .i64 3, .int .i64 a] w fun e w' => e = .returned (.bool (H.alone 3 a)) ∧ w = w' := by
  have e : H.alone 3 a = decide (0 ≤ a ∧ a < 8) := by simp [H.alone]
  rw [e]; clear e
  have hsx : ∀ W, (Instr.index 9 (.string ⟨#[45, 119, 99, 99, 45, 45, 45, 45, 45, 45, 45, 45, 45, 45, 45, 45, 106, 106, 45, 45, 45, 45, 45, 45, 45, 116, 45, 45]⟩) (.int .i64 3)).run Try.prog W = .ok (.int .u8 99) W := fun W => shp_at 3 (by decide) (by decide) W
  by_cases h0 : 0 ≤ a
  · by_cases h2 : a < 8
    · rw [show decide (0 ≤ a ∧ a < 8) = true by simp [h0, h2]]
      have h3 : a < 8 := by omega
      go_enter Try.func27, Try.ntmps27
      go_wp2
      go_ret
      exact ⟨rfl, rfl⟩
    · rw [show decide (0 ≤ a ∧ a < 8) = false by simp; omega]
      have h3 : ¬ a < 8 := by omega
      go_enter Try.func27, Try.ntmps27
      go_wp2
      go_ret
      exact ⟨rfl, rfl⟩
  · rw [show decide (0 ≤ a ∧ a < 8) = false by simp; omega]
    go_enter Try.func27, Try.ntmps27
    go_wp2
    go_ret
    exact ⟨rfl, rfl⟩

set_option maxHeartbeats 400000 in
theorem may_16 (a : Int) (w : World) : Calls Try.prog 27 #[.int .i64 16, .int .i64 a] w fun e w' => e = .returned (.bool (H.alone 16 a)) ∧ w = w' := by
  have e : H.alone 16 a = decide (-128 ≤ a ∧ a ≤ 127) := by simp [H.alone]
  rw [e]; clear e
  have hsx : ∀ W, (Instr.index 9 (.string ⟨#[45, 119, 99, 99, 45, 45, 45, 45, 45, 45, 45, 45, 45, 45, 45, 45, 106, 106, 45, 45, 45, 45, 45, 45, 45, 116, 45, 45]⟩) (.int .i64 16)).run Try.prog W = .ok (.int .u8 106) W := fun W => shp_at 16 (by decide) (by decide) W
  by_cases h0 : -128 ≤ a
  · by_cases h2 : a ≤ 127
    · rw [show decide (-128 ≤ a ∧ a ≤ 127) = true by simp [h0, h2]]
      have h3 : a < 128 := by omega
      go_enter Try.func27, Try.ntmps27
      go_wp2
      go_ret
      exact ⟨rfl, rfl⟩
    · rw [show decide (-128 ≤ a ∧ a ≤ 127) = false by simp; omega]
      have h3 : ¬ a < 128 := by omega
      go_enter Try.func27, Try.ntmps27
      go_wp2
      go_ret
      exact ⟨rfl, rfl⟩
  · rw [show decide (-128 ≤ a ∧ a ≤ 127) = false by simp; omega]
    go_enter Try.func27, Try.ntmps27
    go_wp2
    go_ret
    exact ⟨rfl, rfl⟩

set_option maxHeartbeats 400000 in
theorem may_17 (a : Int) (w : World) : Calls Try.prog 27 #[.int .i64 17, .int .i64 a] w fun e w' => e = .returned (.bool (H.alone 17 a)) ∧ w = w' := by
  have e : H.alone 17 a = decide (-128 ≤ a ∧ a ≤ 127) := by simp [H.alone]
  rw [e]; clear e
  have hsx : ∀ W, (Instr.index 9 (.string ⟨#[45, 119, 99, 99, 45, 45, 45, 45, 45, 45, 45, 45, 45, 45, 45, 45, 106, 106, 45, 45, 45, 45, 45, 45, 45, 116, 45, 45]⟩) (.int .i64 17)).run Try.prog W = .ok (.int .u8 106) W := fun W => shp_at 17 (by decide) (by decide) W
  by_cases h0 : -128 ≤ a
  · by_cases h2 : a ≤ 127
    · rw [show decide (-128 ≤ a ∧ a ≤ 127) = true by simp [h0, h2]]
      have h3 : a < 128 := by omega
      go_enter Try.func27, Try.ntmps27
      go_wp2
      go_ret
      exact ⟨rfl, rfl⟩
    · rw [show decide (-128 ≤ a ∧ a ≤ 127) = false by simp; omega]
      have h3 : ¬ a < 128 := by omega
      go_enter Try.func27, Try.ntmps27
      go_wp2
      go_ret
      exact ⟨rfl, rfl⟩
  · rw [show decide (-128 ≤ a ∧ a ≤ 127) = false by simp; omega]
    go_enter Try.func27, Try.ntmps27
    go_wp2
    go_ret
    exact ⟨rfl, rfl⟩

set_option maxHeartbeats 400000 in
theorem may_25 (a : Int) (w : World) : Calls Try.prog 27 #[.int .i64 25, .int .i64 a] w fun e w' => e = .returned (.bool (H.alone 25 a)) ∧ w = w' := by
  have e : H.alone 25 a = decide (0 ≤ a ∧ a < 4) := by simp [H.alone]
  rw [e]; clear e
  have hsx : ∀ W, (Instr.index 9 (.string ⟨#[45, 119, 99, 99, 45, 45, 45, 45, 45, 45, 45, 45, 45, 45, 45, 45, 106, 106, 45, 45, 45, 45, 45, 45, 45, 116, 45, 45]⟩) (.int .i64 25)).run Try.prog W = .ok (.int .u8 116) W := fun W => shp_at 25 (by decide) (by decide) W
  by_cases h0 : 0 ≤ a
  · by_cases h2 : a < 4
    · rw [show decide (0 ≤ a ∧ a < 4) = true by simp [h0, h2]]
      have h3 : a < 4 := by omega
      go_enter Try.func27, Try.ntmps27
      go_wp2
      go_ret
      exact ⟨rfl, rfl⟩
    · rw [show decide (0 ≤ a ∧ a < 4) = false by simp; omega]
      have h3 : ¬ a < 4 := by omega
      go_enter Try.func27, Try.ntmps27
      go_wp2
      go_ret
      exact ⟨rfl, rfl⟩
  · rw [show decide (0 ≤ a ∧ a < 4) = false by simp; omega]
    go_enter Try.func27, Try.ntmps27
    go_wp2
    go_ret
    exact ⟨rfl, rfl⟩

set_option maxHeartbeats 400000 in
theorem may_any (op a : Int) (w : World) (hop : 0 ≤ op) : Calls Try.prog 27 #[.int .i64 op, .int .i64 a] w fun e w' => e = .returned (.bool (H.alone op a)) ∧ w = w' := by
  by_cases h28 : 28 ≤ op
  · exact may_out op a w h28
  by_cases h1 : op = 1
  · subst h1; exact may_1 a w
  by_cases h2 : op = 2
  · subst h2; exact may_2 a w
  by_cases h3 : op = 3
  · subst h3; exact may_3 a w
  by_cases h16 : op = 16
  · subst h16; exact may_16 a w
  by_cases h17 : op = 17
  · subst h17; exact may_17 a w
  by_cases h25 : op = 25
  · subst h25; exact may_25 a w
  have e : H.alone op a = decide (a = 0) := by simp [H.alone, h1, h2, h3, h16, h17, h25]; omega
  rw [e]; clear e
  have es : H.shp op = 45 := by unfold H.shp; rw [if_neg h1, if_neg (by omega), if_neg (by omega), if_neg h25]
  have hsx : ∀ W, (Instr.index 9 (.string ⟨#[45, 119, 99, 99, 45, 45, 45, 45, 45, 45, 45, 45, 45, 45, 45, 45, 106, 106, 45, 45, 45, 45, 45, 45, 45, 116, 45, 45]⟩) (.int .i64 op)).run Try.prog W = .ok (.int .u8 45) W := fun W => by rw [shp_at op hop (by omega) W, es]
  have g1 : decide (op < 0) = false := by simp; omega
  have g2 : ¬ 28 ≤ op := h28
  clear es h1 h2 h3 h16 h17 h25 h28
  by_cases h0 : a = 0
  · subst h0
    rw [show decide ((0 : Int) = 0) = true by simp]
    go_enter Try.func27, Try.ntmps27
    go_wp2
    go_ret
    exact ⟨rfl, rfl⟩
  · rw [show decide (a = 0) = false by simp [h0]]
    have b0 : (a == 0) = false := by simpa using h0
    clear h0
    go_enter Try.func27, Try.ntmps27
    go_wp2
    go_ret
    exact ⟨rfl, rfl⟩

end Go.Proofs.Ytfggaacijcggeaa
