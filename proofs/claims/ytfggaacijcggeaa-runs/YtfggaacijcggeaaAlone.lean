/-
  The walk of standsAlone.
-/
import Derived.Test.YtfggaacijcggeaaSmall
namespace Go.Proofs.Ytfggaacijcggeaa
open Go.RowKit

set_option maxHeartbeats 400000 in
theorem alone_1 (a : Int) (w : World) :
    Calls Try.prog 23 #[.agg #[.int .u8 1, .int .i64 a]] w fun e w' => e = .returned (.bool (H.alone 1 a)) ∧ Below w.heap.size w w' := by
  have e : H.alone 1 a = decide (0 ≤ a ∧ a ≤ 65535) := by simp [H.alone]
  rw [e]; clear e
  by_cases h0 : 0 ≤ a
  · by_cases h2 : a ≤ 65535
    · rw [show decide (0 ≤ a ∧ a ≤ 65535) = true by simp [h0, h2]]
      go_enter Try.func23, Try.ntmps23
      go_wp2
      go_ret
      exact ⟨rfl, (Below.refl _ _).alloc (Nat.le_refl _) _⟩
    · rw [show decide (0 ≤ a ∧ a ≤ 65535) = false by simp; omega]
      go_enter Try.func23, Try.ntmps23
      go_wp2
      go_ret
      exact ⟨rfl, (Below.refl _ _).alloc (Nat.le_refl _) _⟩
  · rw [show decide (0 ≤ a ∧ a ≤ 65535) = false by simp; omega]
    go_enter Try.func23, Try.ntmps23
    go_wp2
    go_ret
    exact ⟨rfl, (Below.refl _ _).alloc (Nat.le_refl _) _⟩

set_option maxHeartbeats 400000 in
theorem alone_2 (a : Int) (w : World) :
    Calls Try.prog 23 #[.agg #[.int .u8 2, .int .i64 a]] w fun e w' => e = .returned (.bool (H.alone 2 a)) ∧ Below w.heap.size w w' := by
  have e : H.alone 2 a = decide (0 ≤ a ∧ a < 8) := by simp [H.alone]
  rw [e]; clear e
  by_cases h0 : 0 ≤ a
  · by_cases h2 : a < 8
    · rw [show decide (0 ≤ a ∧ a < 8) = true by simp [h0, h2]]
      go_enter Try.func23, Try.ntmps23
      go_wp2
      go_ret
      exact ⟨rfl, (Below.refl _ _).alloc (Nat.le_refl _) _⟩
    · rw [show decide (0 ≤ a ∧ a < 8) = false by simp; omega]
      go_enter Try.func23, Try.ntmps23
      go_wp2
      go_ret
      exact ⟨rfl, (Below.refl _ _).alloc (Nat.le_refl _) _⟩
  · rw [show decide (0 ≤ a ∧ a < 8) = false by simp; omega]
    go_enter Try.func23, Try.ntmps23
    go_wp2
    go_ret
    exact ⟨rfl, (Below.refl _ _).alloc (Nat.le_refl _) _⟩

set_option maxHeartbeats 400000 in
theorem alone_3 (a : Int) (w : World) :
    Calls Try.prog 23 #[.agg #[.int .u8 3, .int .i64 a]] w fun e w' => e = .returned (.bool (H.alone 3 a)) ∧ Below w.heap.size w w' := by
  have e : H.alone 3 a = decide (0 ≤ a ∧ a < 8) := by simp [H.alone]
  rw [e]; clear e
  by_cases h0 : 0 ≤ a
  · by_cases h2 : a < 8
    · rw [show decide (0 ≤ a ∧ a < 8) = true by simp [h0, h2]]
      go_enter Try.func23, Try.ntmps23
      go_wp2
      go_ret
      exact ⟨rfl, (Below.refl _ _).alloc (Nat.le_refl _) _⟩
    · rw [show decide (0 ≤ a ∧ a < 8) = false by simp; omega]
      go_enter Try.func23, Try.ntmps23
      go_wp2
      go_ret
      exact ⟨rfl, (Below.refl _ _).alloc (Nat.le_refl _) _⟩
  · rw [show decide (0 ≤ a ∧ a < 8) = false by simp; omega]
    go_enter Try.func23, Try.ntmps23
    go_wp2
    go_ret
    exact ⟨rfl, (Below.refl _ _).alloc (Nat.le_refl _) _⟩

set_option maxHeartbeats 400000 in
theorem alone_16 (a : Int) (w : World) :
    Calls Try.prog 23 #[.agg #[.int .u8 16, .int .i64 a]] w fun e w' => e = .returned (.bool (H.alone 16 a)) ∧ Below w.heap.size w w' := by
  have e : H.alone 16 a = decide (-128 ≤ a ∧ a ≤ 127) := by simp [H.alone]
  rw [e]; clear e
  by_cases h0 : -128 ≤ a
  · by_cases h2 : a ≤ 127
    · rw [show decide (-128 ≤ a ∧ a ≤ 127) = true by simp [h0, h2]]
      go_enter Try.func23, Try.ntmps23
      go_wp2
      go_ret
      exact ⟨rfl, (Below.refl _ _).alloc (Nat.le_refl _) _⟩
    · rw [show decide (-128 ≤ a ∧ a ≤ 127) = false by simp; omega]
      go_enter Try.func23, Try.ntmps23
      go_wp2
      go_ret
      exact ⟨rfl, (Below.refl _ _).alloc (Nat.le_refl _) _⟩
  · rw [show decide (-128 ≤ a ∧ a ≤ 127) = false by simp; omega]
    go_enter Try.func23, Try.ntmps23
    go_wp2
    go_ret
    exact ⟨rfl, (Below.refl _ _).alloc (Nat.le_refl _) _⟩

set_option maxHeartbeats 400000 in
theorem alone_17 (a : Int) (w : World) :
    Calls Try.prog 23 #[.agg #[.int .u8 17, .int .i64 a]] w fun e w' => e = .returned (.bool (H.alone 17 a)) ∧ Below w.heap.size w w' := by
  have e : H.alone 17 a = decide (-128 ≤ a ∧ a ≤ 127) := by simp [H.alone]
  rw [e]; clear e
  by_cases h0 : -128 ≤ a
  · by_cases h2 : a ≤ 127
    · rw [show decide (-128 ≤ a ∧ a ≤ 127) = true by simp [h0, h2]]
      go_enter Try.func23, Try.ntmps23
      go_wp2
      go_ret
      exact ⟨rfl, (Below.refl _ _).alloc (Nat.le_refl _) _⟩
    · rw [show decide (-128 ≤ a ∧ a ≤ 127) = false by simp; omega]
      go_enter Try.func23, Try.ntmps23
      go_wp2
      go_ret
      exact ⟨rfl, (Below.refl _ _).alloc (Nat.le_refl _) _⟩
  · rw [show decide (-128 ≤ a ∧ a ≤ 127) = false by simp; omega]
    go_enter Try.func23, Try.ntmps23
    go_wp2
    go_ret
    exact ⟨rfl, (Below.refl _ _).alloc (Nat.le_refl _) _⟩

set_option maxHeartbeats 400000 in
theorem alone_25 (a : Int) (w : World) :
    Calls Try.prog 23 #[.agg #[.int .u8 25, .int .i64 a]] w fun e w' => e = .returned (.bool (H.alone 25 a)) ∧ Below w.heap.size w w' := by
  have e : H.alone 25 a = decide (0 ≤ a ∧ a < 4) := by simp [H.alone]
  rw [e]; clear e
  by_cases h0 : 0 ≤ a
  · by_cases h2 : a < 4
    · rw [show decide (0 ≤ a ∧ a < 4) = true by simp [h0, h2]]
      go_enter Try.func23, Try.ntmps23
      go_wp2
      go_ret
      exact ⟨rfl, (Below.refl _ _).alloc (Nat.le_refl _) _⟩
    · rw [show decide (0 ≤ a ∧ a < 4) = false by simp; omega]
      go_enter Try.func23, Try.ntmps23
      go_wp2
      go_ret
      exact ⟨rfl, (Below.refl _ _).alloc (Nat.le_refl _) _⟩
  · rw [show decide (0 ≤ a ∧ a < 4) = false by simp; omega]
    go_enter Try.func23, Try.ntmps23
    go_wp2
    go_ret
    exact ⟨rfl, (Below.refl _ _).alloc (Nat.le_refl _) _⟩

set_option maxHeartbeats 400000 in
theorem alone_any (op a : Int) (w : World) :
    Calls Try.prog 23 #[.agg #[.int .u8 op, .int .i64 a]] w fun e w' => e = .returned (.bool (H.alone op a)) ∧ Below w.heap.size w w' := by
  by_cases h1 : op = 1
  · subst h1; exact alone_1 a w
  by_cases h2 : op = 2
  · subst h2; exact alone_2 a w
  by_cases h3 : op = 3
  · subst h3; exact alone_3 a w
  by_cases h16 : op = 16
  · subst h16; exact alone_16 a w
  by_cases h17 : op = 17
  · subst h17; exact alone_17 a w
  by_cases h25 : op = 25
  · subst h25; exact alone_25 a w
  have e : H.alone op a = decide (op ≤ 27 ∧ a = 0) := by simp [H.alone, h1, h2, h3, h16, h17, h25]
  rw [e]; clear e
  have b1 : (op == 1) = false := by simpa using h1
  have b2 : (op == 2) = false := by simpa using h2
  have b3 : (op == 3) = false := by simpa using h3
  have b16 : (op == 16) = false := by simpa using h16
  have b17 : (op == 17) = false := by simpa using h17
  have b25 : (op == 25) = false := by simpa using h25
  clear h1 h2 h3 h16 h17 h25
  by_cases h27 : op ≤ 27
  · by_cases h0 : a = 0
    · subst h0
      rw [show decide (op ≤ 27 ∧ (0 : Int) = 0) = true by simp [h27]]
      go_enter Try.func23, Try.ntmps23
      go_wp2
      go_ret
      exact ⟨rfl, (Below.refl _ _).alloc (Nat.le_refl _) _⟩
    · rw [show decide (op ≤ 27 ∧ a = 0) = false by simp [h0]]
      have b0 : (a == 0) = false := by simpa using h0
      clear h0
      go_enter Try.func23, Try.ntmps23
      go_wp2
      go_ret
      exact ⟨rfl, (Below.refl _ _).alloc (Nat.le_refl _) _⟩
  · rw [show decide (op ≤ 27 ∧ a = 0) = false by simp [h27]]
    go_enter Try.func23, Try.ntmps23
    go_wp2
    go_ret
    exact ⟨rfl, (Below.refl _ _).alloc (Nat.le_refl _) _⟩

end Go.Proofs.Ytfggaacijcggeaa
