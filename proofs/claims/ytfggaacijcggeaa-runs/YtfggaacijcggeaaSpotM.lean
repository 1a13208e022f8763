/-
  The document's own sums: bits and shifts by halves and remainders.
-/
import Derived.Test.YtfggaacijcggeaaMach
namespace Go.Proofs.Ytfggaacijcggeaa
set_option linter.unusedVariables false
namespace H

/-- Bit i of a number. -/
def bitN (v i : Nat) : Nat := v / 2 ^ i % 2

theorem bitN_lt (v i : Nat) : bitN v i < 2 := Nat.mod_lt _ (by omega)

theorem mod_step (n i : Nat) : n % 2 ^ (i + 1) = n % 2 ^ i + 2 ^ i * bitN n i := by
  unfold bitN
  rw [Nat.pow_succ]
  exact Nat.mod_mul

theorem bitN_test (v i : Nat) : bitN v i = if v.testBit i then 1 else 0 := by
  unfold bitN
  rw [Nat.testBit_eq_decide_div_mod_eq]
  have := Nat.mod_lt (v / 2 ^ i) (show 0 < 2 by omega)
  by_cases h : v / 2 ^ i % 2 = 1
  · simp [h]
  · have h0 : v / 2 ^ i % 2 = 0 := by omega
    simp [h0]

theorem bitN_and (a b i : Nat) : bitN (a &&& b) i = if bitN a i + bitN b i = 2 then 1 else 0 := by
  rw [bitN_test, bitN_test a, bitN_test b, Nat.testBit_and]
  cases a.testBit i <;> cases b.testBit i <;> rfl

theorem bitN_xor (a b i : Nat) : bitN (a ^^^ b) i = if bitN a i + bitN b i = 1 then 1 else 0 := by
  rw [bitN_test, bitN_test a, bitN_test b, Nat.testBit_xor]
  cases a.testBit i <;> cases b.testBit i <;> rfl

theorem and_step (a b i : Nat) : (a &&& b) % 2 ^ (i + 1) = (a &&& b) % 2 ^ i + if bitN a i + bitN b i = 2 then 2 ^ i else 0 := by
  rw [mod_step, bitN_and]
  split <;> simp

theorem xor_step (a b i : Nat) : (a ^^^ b) % 2 ^ (i + 1) = (a ^^^ b) % 2 ^ i + if bitN a i + bitN b i = 1 then 2 ^ i else 0 := by
  rw [mod_step, bitN_xor]
  split <;> simp

theorem and_all {a b : Nat} (ha : a < 65536) : (a &&& b) % 2 ^ 16 = a &&& b :=
  Nat.mod_eq_of_lt (Nat.lt_of_le_of_lt Nat.and_le_left ha)

theorem xor_all {a b : Nat} (ha : a < 65536) (hb : b < 65536) : (a ^^^ b) % 2 ^ 16 = a ^^^ b :=
  Nat.mod_eq_of_lt (Nat.xor_lt_two_pow (n := 16) ha hb)

/-- One halving more. -/
theorem half_more (x : Int) (i : Nat) : x / 2 ^ (i + 1) = x / 2 ^ i / 2 := by
  have hp : (0 : Int) < 2 ^ i := Int.pow_pos (by omega)
  rw [Int.pow_succ, Int.ediv_ediv, if_neg (by intro h; omega)]
  omega

theorem shl_more (a : Int) (i : Nat) : (a * 2 ^ i) % 65536 * 2 % 65536 = (a * 2 ^ (i + 1)) % 65536 := by
  rw [Int.pow_succ, ← Int.mul_assoc]
  omega

theorem s16_range {a : Int} (h0 : 0 ≤ a) (h1 : a ≤ 65535) (i : Nat) : -32768 ≤ s16 a / 2 ^ i ∧ s16 a / 2 ^ i ≤ 32767 := by
  induction i with
  | zero =>
    unfold s16
    simp
    split <;> omega
  | succ i ih =>
    rw [half_more]
    omega

theorem sar_more {a : Int} (h0 : 0 ≤ a) (h1 : a ≤ 65535) (i : Nat) : (if 32768 ≤ s16 a / 2 ^ i % 65536 then s16 a / 2 ^ i % 65536 / 2 + 32768 else s16 a / 2 ^ i % 65536 / 2) = s16 a / 2 ^ (i + 1) % 65536 := by
  have h := s16_range h0 h1 i
  rw [half_more]
  generalize s16 a / 2 ^ i = x at h
  split <;> omega

theorem sar_none {a : Int} (h0 : 0 ≤ a) (h1 : a ≤ 65535) : s16 a / 2 ^ 0 % 65536 = a := by
  unfold s16
  simp
  split <;> omega

end H
end Go.Proofs.Ytfggaacijcggeaa
