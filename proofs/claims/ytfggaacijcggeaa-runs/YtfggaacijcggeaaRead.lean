/-
  The walk of readIns.
-/
import Derived.Test.YtfggaacijcggeaaAlone
import Derived.Deep.QuietTactic
import Derived.BigQuiet
namespace Go.Proofs.Ytfggaacijcggeaa
open Go.RowKit
set_option linter.unusedVariables false

theorem or256 (x y : Nat) (hx : x < 256) (hy : y < 256) : bits .or .i64 (wrap64 (wrap64 (x : Int) * 256)) (wrap64 (y : Int)) = 256 * x + y := by
  have e1 : wrap64 (wrap64 (x : Int) * 256) = ((x * 256 : Nat) : Int) := by unfold wrap64; omega
  have e2 : wrap64 (y : Int) = (y : Int) := by unfold wrap64; omega
  rw [e1, e2]
  have h1 : (BitVec.ofInt 64 ((x * 256 : Nat) : Int)).toNat = x * 256 := ofInt_u64 _ (by omega)
  have h2 : (BitVec.ofInt 64 (y : Int)).toNat = y := ofInt_u64 _ (by omega)
  have h3 : (BitVec.ofInt 64 ((x * 256 : Nat) : Int) ||| BitVec.ofInt 64 (y : Int)).toNat = x * 256 + y := by
    rw [BitVec.toNat_or, h1, h2, nat_join 8 (x * 256) y (by omega) (by omega)]
  show IntKind.i64.wrap ((BitVec.ofInt 64 ((x * 256 : Nat) : Int) ||| BitVec.ofInt 64 (y : Int)).toNat : Int) = _
  rw [h3, IntKind.wrap_i64]
  omega

theorem wrap_i8 (x : Int) : IntKind.i8.wrap x = if 128 ≤ x % 256 then x % 256 - 256 else x % 256 := by
  simp [IntKind.wrap, IntKind.bits, IntKind.signed]

theorem sg_conv (x : Nat) (hx : x < 256) : wrap64 (IntKind.i8.wrap (x : Int)) = H.sg x := by
  rw [wrap_i8]
  unfold H.sg wrap64
  split <;> split <;> omega

set_option maxHeartbeats 400000 in
theorem read_cut (s : ByteArray) (p : Nat) (w : World) (hs : s.size ≤ maxLen) (hp : p < s.size) (hw : s.size ≤ p + H.wid (H.at0 (H.bts s) p)) :
    Calls Try.prog 22 #[.string s, .int .i64 p] w fun e w' => e = .returned (.tuple #[.agg #[.int .u8 0, .int .i64 0], .bool false]) ∧ Below w.heap.size w w' := by
  unfold maxLen at hs
  rw [H.at0_bts s p hp] at hw
  have hle := H.wid_le (((s[p]).toNat : Nat) : Int)
  have hw2 : (s.size : Int) - p ≤ (H.wid (((s[p]).toNat : Nat) : Int) : Int) := by omega
  clear hw
  go_enter Try.func22, Try.ntmps22
  go_wp2_with (go_at_call 24; refine (width_any _ _).mono ?_; rintro e w' ⟨rfl, rfl⟩)
  exact bodyPost_ret (v := .tuple #[.agg #[.int .u8 0, .int .i64 0], .bool false]) (by simp [results, Try.results22, go_sem]) rfl ⟨rfl, by (repeat (first | exact Below.refl _ _ | assumption | refine Below.setCell ?_ (by first | exact Nat.le_refl _ | (simp; done) | (simp; omega)) _ | refine below_drewN ?_ _ | refine Below.drew ?_ | refine Below.alloc ?_ (by first | exact Nat.le_refl _ | (simp; done) | (simp; omega)) _))⟩

set_option maxHeartbeats 400000 in
theorem read_push (s : ByteArray) (p : Nat) (w : World) (hs : s.size ≤ maxLen) (hp : p + 2 < s.size) (hop : (s[p]'(by omega)).toNat = 1) :
    Calls Try.prog 22 #[.string s, .int .i64 p] w fun e w' => e = .returned (.tuple #[.agg #[.int .u8 1, .int .i64 (256 * (s[p+1]'(by omega)).toNat + (s[p+2]'(by omega)).toNat)], .bool true]) ∧ Below w.heap.size w w' := by
  unfold maxLen at hs
  have hp0 : p < s.size := by omega
  have hop2 : (((s[p]'(by omega)).toNat : Nat) : Int) = 1 := by omega
  have hw : H.wid 1 = 2 := rfl
  have hi1 : (p : Int) + 1 < (s.size : Int) := by omega
  have hi2 : (p : Int) + 2 < (s.size : Int) := by omega
  have hw1 : IntKind.i64.wrap ((p : Int) + 1) = (p : Int) + 1 := by rw [IntKind.wrap_i64]; omega
  have hw2 : IntKind.i64.wrap ((p : Int) + 2) = (p : Int) + 2 := by rw [IntKind.wrap_i64]; omega
  have h01 : (0 : Int) ≤ (p : Int) + 1 := by omega
  have h02 : (0 : Int) ≤ (p : Int) + 2 := by omega
  have hor := or256 (s[p+1]'(by omega)).toNat (s[p+2]'(by omega)).toNat (s[p+1]'(by omega)).toNat_lt (s[p+2]'(by omega)).toNat_lt
  go_enter Try.func22, Try.ntmps22
  go_wp2_with (go_at_call 24; refine (width_any _ _).mono ?_; rintro e w' ⟨rfl, rfl⟩)
  go_quiet (fail)
  go_wp2
  exact bodyPost_ret (v := .tuple #[.agg #[.int .u8 1, .int .i64 (256 * (s[p+1]'(by omega)).toNat + (s[p+2]'(by omega)).toNat)], .bool true]) (by simp [results, Try.results22, go_sem]) rfl ⟨rfl, by (repeat (first | exact Below.refl _ _ | assumption | refine Below.setCell ?_ (by first | exact Nat.le_refl _ | (simp; done) | (simp; omega)) _ | refine below_drewN ?_ _ | refine Below.drew ?_ | refine Below.alloc ?_ (by first | exact Nat.le_refl _ | (simp; done) | (simp; omega)) _))⟩

set_option maxHeartbeats 400000 in
theorem read_jump (s : ByteArray) (p : Nat) (w : World) (o : Int) (ho : o = 16 ∨ o = 17) (hs : s.size ≤ maxLen) (hp : p + 1 < s.size) (hop : ((s[p]'(by omega)).toNat : Int) = o) :
    Calls Try.prog 22 #[.string s, .int .i64 p] w fun e w' => e = .returned (.tuple #[.agg #[.int .u8 o, .int .i64 (H.sg (s[p+1]'(by omega)).toNat)], .bool true]) ∧ Below w.heap.size w w' := by
  unfold maxLen at hs
  have hp0 : p < s.size := by omega
  have hi1 : (p : Int) + 1 < (s.size : Int) := by omega
  have hsg := sg_conv (s[p+1]'(by omega)).toNat (s[p+1]'(by omega)).toNat_lt
  have hw : H.wid 16 = 1 := rfl
  have hw17 : H.wid 17 = 1 := rfl
  rcases ho with rfl | rfl
  · go_enter Try.func22, Try.ntmps22
    go_wp2_with (go_at_call 24; refine (width_any _ _).mono ?_; rintro e w' ⟨rfl, rfl⟩)
    exact bodyPost_ret (v := .tuple #[.agg #[.int .u8 16, .int .i64 (H.sg (s[p+1]'(by omega)).toNat)], .bool true]) (by simp [results, Try.results22, go_sem]) rfl ⟨rfl, by (repeat (first | exact Below.refl _ _ | assumption | refine Below.setCell ?_ (by first | exact Nat.le_refl _ | (simp; done) | (simp; omega)) _ | refine below_drewN ?_ _ | refine Below.drew ?_ | refine Below.alloc ?_ (by first | exact Nat.le_refl _ | (simp; done) | (simp; omega)) _))⟩
  · go_enter Try.func22, Try.ntmps22
    go_wp2_with (go_at_call 24; refine (width_any _ _).mono ?_; rintro e w' ⟨rfl, rfl⟩)
    exact bodyPost_ret (v := .tuple #[.agg #[.int .u8 17, .int .i64 (H.sg (s[p+1]'(by omega)).toNat)], .bool true]) (by simp [results, Try.results22, go_sem]) rfl ⟨rfl, by (repeat (first | exact Below.refl _ _ | assumption | refine Below.setCell ?_ (by first | exact Nat.le_refl _ | (simp; done) | (simp; omega)) _ | refine below_drewN ?_ _ | refine Below.drew ?_ | refine Below.alloc ?_ (by first | exact Nat.le_refl _ | (simp; done) | (simp; omega)) _))⟩

set_option maxHeartbeats 400000 in
theorem read_one (s : ByteArray) (p : Nat) (w : World) (o : Int) (ho : o = 2 ∨ o = 3 ∨ o = 25) (hs : s.size ≤ maxLen) (hp : p + 1 < s.size) (hop : ((s[p]'(by omega)).toNat : Int) = o) :
    Calls Try.prog 22 #[.string s, .int .i64 p] w fun e w' => e = .returned (.tuple #[.agg #[.int .u8 o, .int .i64 ((s[p+1]'(by omega)).toNat)], .bool true]) ∧ Below w.heap.size w w' := by
  unfold maxLen at hs
  have hp0 : p < s.size := by omega
  have hi1 : (p : Int) + 1 < (s.size : Int) := by omega
  have hsg : wrap64 ((s[p+1]'(by omega)).toNat : Int) = ((s[p+1]'(by omega)).toNat : Int) := by
    have := (s[p+1]'(by omega)).toNat_lt
    unfold wrap64; omega
  have hw2 : H.wid 2 = 1 := rfl
  have hw3 : H.wid 3 = 1 := rfl
  have hw25 : H.wid 25 = 1 := rfl
  rcases ho with rfl | rfl | rfl
  · go_enter Try.func22, Try.ntmps22
    go_wp2_with (go_at_call 24; refine (width_any _ _).mono ?_; rintro e w' ⟨rfl, rfl⟩)
    exact bodyPost_ret (v := .tuple #[.agg #[.int .u8 2, .int .i64 ((s[p+1]'(by omega)).toNat)], .bool true]) (by simp [results, Try.results22, go_sem]) rfl ⟨rfl, by (repeat (first | exact Below.refl _ _ | assumption | refine Below.setCell ?_ (by first | exact Nat.le_refl _ | (simp; done) | (simp; omega)) _ | refine below_drewN ?_ _ | refine Below.drew ?_ | refine Below.alloc ?_ (by first | exact Nat.le_refl _ | (simp; done) | (simp; omega)) _))⟩
  · go_enter Try.func22, Try.ntmps22
    go_wp2_with (go_at_call 24; refine (width_any _ _).mono ?_; rintro e w' ⟨rfl, rfl⟩)
    exact bodyPost_ret (v := .tuple #[.agg #[.int .u8 3, .int .i64 ((s[p+1]'(by omega)).toNat)], .bool true]) (by simp [results, Try.results22, go_sem]) rfl ⟨rfl, by (repeat (first | exact Below.refl _ _ | assumption | refine Below.setCell ?_ (by first | exact Nat.le_refl _ | (simp; done) | (simp; omega)) _ | refine below_drewN ?_ _ | refine Below.drew ?_ | refine Below.alloc ?_ (by first | exact Nat.le_refl _ | (simp; done) | (simp; omega)) _))⟩
  · go_enter Try.func22, Try.ntmps22
    go_wp2_with (go_at_call 24; refine (width_any _ _).mono ?_; rintro e w' ⟨rfl, rfl⟩)
    exact bodyPost_ret (v := .tuple #[.agg #[.int .u8 25, .int .i64 ((s[p+1]'(by omega)).toNat)], .bool true]) (by simp [results, Try.results22, go_sem]) rfl ⟨rfl, by (repeat (first | exact Below.refl _ _ | assumption | refine Below.setCell ?_ (by first | exact Nat.le_refl _ | (simp; done) | (simp; omega)) _ | refine below_drewN ?_ _ | refine Below.drew ?_ | refine Below.alloc ?_ (by first | exact Nat.le_refl _ | (simp; done) | (simp; omega)) _))⟩

set_option maxHeartbeats 400000 in
theorem read_none (s : ByteArray) (p : Nat) (w : World) (o : Int) (h1 : o ≠ 1) (h16 : o ≠ 16) (h17 : o ≠ 17) (h2 : o ≠ 2) (h3 : o ≠ 3) (h25 : o ≠ 25) (hs : s.size ≤ maxLen) (hp : p < s.size) (hop : ((s[p]'(by omega)).toNat : Int) = o) :
    Calls Try.prog 22 #[.string s, .int .i64 p] w fun e w' => e = .returned (.tuple #[.agg #[.int .u8 o, .int .i64 0], .bool true]) ∧ Below w.heap.size w w' := by
  unfold maxLen at hs
  have hw : H.wid o = 0 := by simp [H.wid, h1, h2, h3, h16, h17, h25]
  have b1 : (o == 1) = false := by simpa using h1
  have b2 : (o == 2) = false := by simpa using h2
  have b3 : (o == 3) = false := by simpa using h3
  have b16 : (o == 16) = false := by simpa using h16
  have b17 : (o == 17) = false := by simpa using h17
  have b25 : (o == 25) = false := by simpa using h25
  clear h1 h2 h3 h16 h17 h25
  go_enter Try.func22, Try.ntmps22
  go_wp2_with (go_at_call 24; refine (width_any _ _).mono ?_; rintro e w' ⟨rfl, rfl⟩)
  exact bodyPost_ret (v := .tuple #[.agg #[.int .u8 o, .int .i64 0], .bool true]) (by simp [results, Try.results22, go_sem]) rfl ⟨rfl, by (repeat (first | exact Below.refl _ _ | assumption | refine Below.setCell ?_ (by first | exact Nat.le_refl _ | (simp; done) | (simp; omega)) _ | refine below_drewN ?_ _ | refine Below.drew ?_ | refine Below.alloc ?_ (by first | exact Nat.le_refl _ | (simp; done) | (simp; omega)) _))⟩

theorem read_any (s : ByteArray) (p : Nat) (w : World) (hs : s.size ≤ maxLen) (hp : p < s.size) (hw : p + H.wid (H.at0 (H.bts s) p) < s.size) :
    Calls Try.prog 22 #[.string s, .int .i64 p] w fun e w' => e = .returned (.tuple #[.agg #[.int .u8 (H.at0 (H.bts s) p), .int .i64 (H.opnd (H.bts s) p)], .bool true]) ∧ Below w.heap.size w w' := by
  have e0 := H.at0_bts s p hp
  by_cases h1 : H.at0 (H.bts s) p = 1
  · rw [h1] at hw
    have hw2 : H.wid 1 = 2 := rfl
    have e : H.opnd (H.bts s) p = 256 * ((s[p+1]'(by omega)).toNat : Int) + (s[p+2]'(by omega)).toNat := by
      unfold H.opnd
      rw [if_pos h1, H.at0_bts s (p + 1) (by omega), H.at0_bts s (p + 2) (by omega)]
    rw [e, h1]
    exact read_push s p w hs (by omega) (by omega)
  by_cases hj : H.at0 (H.bts s) p = 16 ∨ H.at0 (H.bts s) p = 17
  · have hw2 : H.wid (H.at0 (H.bts s) p) = 1 := by rcases hj with h | h <;> rw [h] <;> rfl
    have e : H.opnd (H.bts s) p = H.sg ((s[p+1]'(by omega)).toNat : Int) := by
      unfold H.opnd
      rw [if_neg h1, if_pos hj, H.at0_bts s (p + 1) (by omega)]
    rw [e]
    exact read_jump s p w _ hj hs (by omega) e0.symm
  by_cases ho : H.at0 (H.bts s) p = 2 ∨ H.at0 (H.bts s) p = 3 ∨ H.at0 (H.bts s) p = 25
  · have hw2 : H.wid (H.at0 (H.bts s) p) = 1 := by rcases ho with h | h | h <;> rw [h] <;> rfl
    have e : H.opnd (H.bts s) p = ((s[p+1]'(by omega)).toNat : Int) := by
      unfold H.opnd
      rw [if_neg h1, if_neg hj, if_pos ho, H.at0_bts s (p + 1) (by omega)]
    rw [e]
    exact read_one s p w _ ho hs (by omega) e0.symm
  have e : H.opnd (H.bts s) p = 0 := by
    unfold H.opnd
    rw [if_neg h1, if_neg hj, if_neg ho]
  rw [e]
  exact read_none s p w _ h1 (fun h => hj (.inl h)) (fun h => hj (.inr h)) (fun h => ho (.inl h)) (fun h => ho (.inr (.inl h))) (fun h => ho (.inr (.inr h))) hs hp e0.symm

end Go.Proofs.Ytfggaacijcggeaa
