/-
  The walks of truth, character and combine.
-/
import Derived.Test.YtfggaacijcggeaaMBlk
import Derived.Laws.ShiftsVar
namespace Go.Proofs.Ytfggaacijcggeaa
open Go.RowKit
set_option linter.unusedVariables false

theorem ret_u16 {a b : Int} (h : a = b) : Ending.returned (.int .u16 a) = .returned (.int .u16 b) := by rw [h]

set_option maxHeartbeats 400000 in
theorem truth_any (x : Bool) (w : World) : Calls Try.prog 56 #[.bool x] w fun e w' => e = .returned (.int .u16 (H.yes x)) ∧ w = w' := by
  cases x
  · go_enter Try.func56, Try.ntmps56
    go_wp2
    go_ret
    exact ⟨rfl, rfl⟩
  · go_enter Try.func56, Try.ntmps56
    go_wp2
    go_ret
    exact ⟨rfl, rfl⟩

set_option maxHeartbeats 400000 in
theorem char_sur (v : Int) (w : World) (h1 : 55296 ≤ v) (h2 : v ≤ 57343) : Calls Try.prog 53 #[.int .u16 v] w fun e w' => e = .returned (.string (Utf8.encode v)) ∧ w = w' := by
  have e : Hid (Utf8.encode v = ⟨#[239, 191, 189]⟩) := by
    unfold Hid Utf8.encode
    have hv : Utf8.valid v = false := by simp [Utf8.valid]; omega
    simp only [hv, Bool.false_eq_true, if_false]
    decide
  go_enter Try.func53, Try.ntmps53
  go_wp2
  go_ret
  exact ⟨by rw [e.out]; rfl, rfl⟩

set_option maxHeartbeats 400000 in
theorem char_oth (v : Int) (w : World) (h0 : 0 ≤ v) (h3 : v ≤ 65535) (h : v < 55296 ∨ 57343 < v) : Calls Try.prog 53 #[.int .u16 v] w fun e w' => e = .returned (.string (Utf8.encode v)) ∧ w = w' := by
  have hw : IntKind.i32.wrap v = v := by rw [IntKind.wrap_i32]; omega
  rcases h with h | h
  · have h1 : decide (55296 ≤ v) = false := by simp; omega
    go_enter Try.func53, Try.ntmps53
    go_wp2
    go_ret
    exact ⟨rfl, rfl⟩
  · have h1 : ¬ v ≤ 57343 := by omega
    have h2 : 55296 ≤ v := by omega
    go_enter Try.func53, Try.ntmps53
    go_wp2
    go_ret
    exact ⟨rfl, rfl⟩

theorem char_any (v : Int) (w : World) (h0 : 0 ≤ v) (h3 : v ≤ 65535) : Calls Try.prog 53 #[.int .u16 v] w fun e w' => e = .returned (.string (Utf8.encode v)) ∧ w = w' := by
  by_cases h : 55296 ≤ v ∧ v ≤ 57343
  · exact char_sur v w h.1 h.2
  · exact char_oth v w h0 h3 (by omega)

theorem wrap_i16 (x : Int) : IntKind.i16.wrap x = if 32768 ≤ x % 65536 then x % 65536 - 65536 else x % 65536 := by
  simp [IntKind.wrap, IntKind.bits, IntKind.signed]

theorem wrap_s16 (x : Int) (h0 : 0 ≤ x) (h1 : x ≤ 65535) : IntKind.i16.wrap x = H.s16 x := by
  rw [wrap_i16]; unfold H.s16; split <;> split <;> omega

set_option maxHeartbeats 400000 in
theorem comb_4 (a b : Int) (w : World) (ha : 0 ≤ a) (ha2 : a ≤ 65535) (hb : 0 ≤ b) (hb2 : b ≤ 65535) : Calls Try.prog 54 #[.int .u8 4, .int .u16 a, .int .u16 b] w fun e w' => e = .returned (.int .u16 (H.combine 4 a b)) ∧ w = w' := by
  have HE : Hid (IntKind.u16.wrap (a + b) = H.combine 4 a b) := by
    unfold Hid; rw [IntKind.wrap_u16]; rfl
  go_enter Try.func54, Try.ntmps54
  go_wp2_with (go_at_call 56; refine (truth_any _ _).mono ?_; rintro e w' ⟨rfl, rfl⟩)
  go_ret
  exact ⟨ret_u16 HE.out, rfl⟩

set_option maxHeartbeats 400000 in
theorem comb_5 (a b : Int) (w : World) (ha : 0 ≤ a) (ha2 : a ≤ 65535) (hb : 0 ≤ b) (hb2 : b ≤ 65535) : Calls Try.prog 54 #[.int .u8 5, .int .u16 a, .int .u16 b] w fun e w' => e = .returned (.int .u16 (H.combine 5 a b)) ∧ w = w' := by
  have HE : Hid (IntKind.u16.wrap (a - b) = H.combine 5 a b) := by
    unfold Hid; rw [IntKind.wrap_u16]; rfl
  go_enter Try.func54, Try.ntmps54
  go_wp2_with (go_at_call 56; refine (truth_any _ _).mono ?_; rintro e w' ⟨rfl, rfl⟩)
  go_ret
  exact ⟨ret_u16 HE.out, rfl⟩

set_option maxHeartbeats 400000 in
theorem comb_6 (a b : Int) (w : World) (ha : 0 ≤ a) (ha2 : a ≤ 65535) (hb : 0 ≤ b) (hb2 : b ≤ 65535) : Calls Try.prog 54 #[.int .u8 6, .int .u16 a, .int .u16 b] w fun e w' => e = .returned (.int .u16 (H.combine 6 a b)) ∧ w = w' := by
  have HE : Hid (IntKind.u16.wrap (a * b) = H.combine 6 a b) := by
    unfold Hid; rw [IntKind.wrap_u16]; rfl
  go_enter Try.func54, Try.ntmps54
  go_wp2_with (go_at_call 56; refine (truth_any _ _).mono ?_; rintro e w' ⟨rfl, rfl⟩)
  go_ret
  exact ⟨ret_u16 HE.out, rfl⟩

set_option maxHeartbeats 400000 in
theorem comb_8 (a b : Int) (w : World) (ha : 0 ≤ a) (ha2 : a ≤ 65535) (hb : 0 ≤ b) (hb2 : b ≤ 65535) : Calls Try.prog 54 #[.int .u8 8, .int .u16 a, .int .u16 b] w fun e w' => e = .returned (.int .u16 (H.combine 8 a b)) ∧ w = w' := by
  have HE : Hid (bits BinOp.and IntKind.u16 a b = H.combine 8 a b) := by
    unfold Hid; rw [u16_and a b ha (by omega) hb (by omega)]; rfl
  go_enter Try.func54, Try.ntmps54
  go_wp2_with (go_at_call 56; refine (truth_any _ _).mono ?_; rintro e w' ⟨rfl, rfl⟩)
  go_ret
  exact ⟨ret_u16 HE.out, rfl⟩

set_option maxHeartbeats 400000 in
theorem comb_9 (a b : Int) (w : World) (ha : 0 ≤ a) (ha2 : a ≤ 65535) (hb : 0 ≤ b) (hb2 : b ≤ 65535) : Calls Try.prog 54 #[.int .u8 9, .int .u16 a, .int .u16 b] w fun e w' => e = .returned (.int .u16 (H.combine 9 a b)) ∧ w = w' := by
  have HE : Hid (bits BinOp.xor IntKind.u16 a b = H.combine 9 a b) := by
    unfold Hid; rw [u16_xor a b ha (by omega) hb (by omega)]; rfl
  go_enter Try.func54, Try.ntmps54
  go_wp2_with (go_at_call 56; refine (truth_any _ _).mono ?_; rintro e w' ⟨rfl, rfl⟩)
  go_ret
  exact ⟨ret_u16 HE.out, rfl⟩

set_option maxHeartbeats 400000 in
theorem comb_10 (a b : Int) (w : World) (ha : 0 ≤ a) (ha2 : a ≤ 65535) (hb : 0 ≤ b) (hb2 : b ≤ 65535) : Calls Try.prog 54 #[.int .u8 10, .int .u16 a, .int .u16 b] w fun e w' => e = .returned (.int .u16 (H.combine 10 a b)) ∧ w = w' := by
  have HE : Hid (IntKind.u16.wrap (a * 2 ^ (b % 16).toNat) = H.combine 10 a b) := by
    unfold Hid; rw [IntKind.wrap_u16]; rfl
  go_enter Try.func54, Try.ntmps54
  go_wp2_with (go_at_call 56; refine (truth_any _ _).mono ?_; rintro e w' ⟨rfl, rfl⟩)
  go_ret
  exact ⟨ret_u16 HE.out, rfl⟩

set_option maxHeartbeats 400000 in
theorem comb_11 (a b : Int) (w : World) (ha : 0 ≤ a) (ha2 : a ≤ 65535) (hb : 0 ≤ b) (hb2 : b ≤ 65535) : Calls Try.prog 54 #[.int .u8 11, .int .u16 a, .int .u16 b] w fun e w' => e = .returned (.int .u16 (H.combine 11 a b)) ∧ w = w' := by
  have HE : Hid (a / 2 ^ (b % 16).toNat = H.combine 11 a b) := by
    unfold Hid; rfl
  go_enter Try.func54, Try.ntmps54
  go_wp2_with (go_at_call 56; refine (truth_any _ _).mono ?_; rintro e w' ⟨rfl, rfl⟩)
  go_ret
  exact ⟨ret_u16 HE.out, rfl⟩

set_option maxHeartbeats 400000 in
theorem comb_12 (a b : Int) (w : World) (ha : 0 ≤ a) (ha2 : a ≤ 65535) (hb : 0 ≤ b) (hb2 : b ≤ 65535) : Calls Try.prog 54 #[.int .u8 12, .int .u16 a, .int .u16 b] w fun e w' => e = .returned (.int .u16 (H.combine 12 a b)) ∧ w = w' := by
  have HE : Hid (IntKind.u16.wrap (IntKind.i16.wrap a / 2 ^ (b % 16).toNat) = H.combine 12 a b) := by
    unfold Hid; rw [IntKind.wrap_u16, wrap_s16 a ha ha2]; rfl
  go_enter Try.func54, Try.ntmps54
  go_wp2_with (go_at_call 56; refine (truth_any _ _).mono ?_; rintro e w' ⟨rfl, rfl⟩)
  go_ret
  exact ⟨ret_u16 HE.out, rfl⟩

set_option maxHeartbeats 400000 in
theorem comb_13 (a b : Int) (w : World) (ha : 0 ≤ a) (ha2 : a ≤ 65535) (hb : 0 ≤ b) (hb2 : b ≤ 65535) : Calls Try.prog 54 #[.int .u8 13, .int .u16 a, .int .u16 b] w fun e w' => e = .returned (.int .u16 (H.combine 13 a b)) ∧ w = w' := by
  have HE : Hid (H.yes (decide (a < b)) = H.combine 13 a b) := by
    unfold Hid; rfl
  go_enter Try.func54, Try.ntmps54
  go_wp2_with (go_at_call 56; refine (truth_any _ _).mono ?_; rintro e w' ⟨rfl, rfl⟩)
  go_ret
  exact ⟨ret_u16 HE.out, rfl⟩

set_option maxHeartbeats 400000 in
theorem comb_14 (a b : Int) (w : World) (ha : 0 ≤ a) (ha2 : a ≤ 65535) (hb : 0 ≤ b) (hb2 : b ≤ 65535) : Calls Try.prog 54 #[.int .u8 14, .int .u16 a, .int .u16 b] w fun e w' => e = .returned (.int .u16 (H.combine 14 a b)) ∧ w = w' := by
  have HE : Hid (H.yes (decide (IntKind.i16.wrap a < IntKind.i16.wrap b)) = H.combine 14 a b) := by
    unfold Hid; rw [wrap_s16 a ha ha2, wrap_s16 b hb hb2]; rfl
  go_enter Try.func54, Try.ntmps54
  go_wp2_with (go_at_call 56; refine (truth_any _ _).mono ?_; rintro e w' ⟨rfl, rfl⟩)
  go_ret
  exact ⟨ret_u16 HE.out, rfl⟩

set_option maxHeartbeats 400000 in
theorem comb_15 (a b : Int) (w : World) (ha : 0 ≤ a) (ha2 : a ≤ 65535) (hb : 0 ≤ b) (hb2 : b ≤ 65535) : Calls Try.prog 54 #[.int .u8 15, .int .u16 a, .int .u16 b] w fun e w' => e = .returned (.int .u16 (H.combine 15 a b)) ∧ w = w' := by
  have HE : Hid (H.yes (a == b) = H.combine 15 a b) := by
    unfold Hid; show H.yes _ = H.yes _; congr 1
  go_enter Try.func54, Try.ntmps54
  go_wp2_with (go_at_call 56; refine (truth_any _ _).mono ?_; rintro e w' ⟨rfl, rfl⟩)
  go_ret
  exact ⟨ret_u16 HE.out, rfl⟩

theorem comb_any (op a b : Int) (w : World) (h4 : 4 ≤ op) (h15 : op ≤ 15) (h7 : op ≠ 7) (ha : 0 ≤ a) (ha2 : a ≤ 65535) (hb : 0 ≤ b) (hb2 : b ≤ 65535) : Calls Try.prog 54 #[.int .u8 op, .int .u16 a, .int .u16 b] w fun e w' => e = .returned (.int .u16 (H.combine op a b)) ∧ w = w' := by
  rcases (show op = 4 ∨ op = 5 ∨ op = 6 ∨ op = 8 ∨ op = 9 ∨ op = 10 ∨ op = 11 ∨ op = 12 ∨ op = 13 ∨ op = 14 ∨ op = 15 by omega) with rfl | rfl | rfl | rfl | rfl | rfl | rfl | rfl | rfl | rfl | rfl
  · exact comb_4 a b w ha ha2 hb hb2
  · exact comb_5 a b w ha ha2 hb hb2
  · exact comb_6 a b w ha ha2 hb hb2
  · exact comb_8 a b w ha ha2 hb hb2
  · exact comb_9 a b w ha ha2 hb hb2
  · exact comb_10 a b w ha ha2 hb hb2
  · exact comb_11 a b w ha ha2 hb hb2
  · exact comb_12 a b w ha ha2 hb hb2
  · exact comb_13 a b w ha ha2 hb hb2
  · exact comb_14 a b w ha ha2 hb hb2
  · exact comb_15 a b w ha ha2 hb hb2

theorem yes_range (x : Bool) : 0 ≤ H.yes x ∧ H.yes x ≤ 65535 := by cases x <;> decide

theorem comb_range (op a b : Int) (ha : 0 ≤ a) (ha2 : a ≤ 65535) (hb : 0 ≤ b) (hb2 : b ≤ 65535) : 0 ≤ H.combine op a b ∧ H.combine op a b ≤ 65535 := by
  unfold H.combine
  by_cases h4 : op = 4
  · rw [if_pos h4]; omega
  rw [if_neg h4]
  by_cases h5 : op = 5
  · rw [if_pos h5]; omega
  rw [if_neg h5]
  by_cases h6 : op = 6
  · rw [if_pos h6]; have := Int.emod_nonneg (a * b) (show (65536 : Int) ≠ 0 by decide); have := Int.emod_lt_of_pos (a * b) (show (0 : Int) < 65536 by decide); omega
  rw [if_neg h6]
  by_cases h8 : op = 8
  · rw [if_pos h8]
    have : a.toNat &&& b.toNat < 2 ^ 16 := Nat.and_lt_two_pow _ (by omega)
    omega
  rw [if_neg h8]
  by_cases h9 : op = 9
  · rw [if_pos h9]
    have : a.toNat ^^^ b.toNat < 2 ^ 16 := Nat.xor_lt_two_pow (by omega) (by omega)
    omega
  rw [if_neg h9]
  by_cases h10 : op = 10
  · rw [if_pos h10]; have := Int.emod_nonneg (a * 2 ^ (b % 16).toNat) (show (65536 : Int) ≠ 0 by decide); have := Int.emod_lt_of_pos (a * 2 ^ (b % 16).toNat) (show (0 : Int) < 65536 by decide); omega
  rw [if_neg h10]
  by_cases h11 : op = 11
  · rw [if_pos h11]
    have hp : (0 : Int) < 2 ^ (b % 16).toNat := Int.pow_pos (by decide)
    have h1 := Int.ediv_nonneg ha (Int.le_of_lt hp)
    have h2 := Int.ediv_le_self (2 ^ (b % 16).toNat) ha
    omega
  rw [if_neg h11]
  by_cases h12 : op = 12
  · rw [if_pos h12]; have := Int.emod_nonneg (H.s16 a / 2 ^ (b % 16).toNat) (show (65536 : Int) ≠ 0 by decide); have := Int.emod_lt_of_pos (H.s16 a / 2 ^ (b % 16).toNat) (show (0 : Int) < 65536 by decide); omega
  rw [if_neg h12]
  by_cases h13 : op = 13
  · rw [if_pos h13]; exact yes_range _
  rw [if_neg h13]
  by_cases h14 : op = 14
  · rw [if_pos h14]; exact yes_range _
  rw [if_neg h14]
  by_cases h15 : op = 15
  · rw [if_pos h15]; exact yes_range _
  rw [if_neg h15]
  omega

end Go.Proofs.Ytfggaacijcggeaa
