/-
  The document's own answer: the walk of its Mark.
-/
import Derived.Test.YtcaeeaiodbjacaaTextE
namespace Go.Proofs.Ytcaeeaiodbjacaa
open Go.RowKit
set_option linter.unusedVariables false

/-- Where the bit by bit sum stands behind j bits. -/
structure Bits (h c j lo d x u : Nat) : Prop where
  unit : u = 2 ^ j
  low : lo < 2 ^ (8 - j)
  low2 : d < 2 ^ (8 - j)
  small : x < 2 ^ j
  sum : x + u * (lo ^^^ d) = h ^^^ c

theorem Bits.start (h c : Nat) (hh : h < 256) (hc : c < 256) : Bits h c 0 h c 0 1 := ⟨rfl, hh, hc, by decide, by omega⟩

theorem Bits.step {h c j lo d x u : Nat} (hb : Bits h c j lo d x u) (hj : j < 8) : Bits h c (j + 1) (lo / 2) (d / 2) (x + (lo + d) % 2 * u) (2 * u) := by
  obtain ⟨h1, h2, h3, h4, h5⟩ := hb
  have e : 2 ^ (8 - j) = 2 * 2 ^ (8 - (j + 1)) := by rw [show 8 - j = (8 - (j + 1)) + 1 by omega, Nat.pow_succ, Nat.mul_comm]
  have e2 : 2 ^ (j + 1) = 2 * 2 ^ j := by rw [Nat.pow_succ, Nat.mul_comm]
  refine ⟨by rw [e2, h1], by omega, by omega, ?_, ?_⟩
  · rw [e2]
    rcases Nat.mod_two_eq_zero_or_one (lo + d) with h | h <;> rw [h] <;> omega
  · rw [← h5, ← T.xor_halves lo d, Nat.mul_add, Nat.mul_comm u ((lo + d) % 2), Nat.mul_assoc, Nat.mul_left_comm u 2, Nat.mul_comm 2 (u * _)]
    have : 2 * (u * (lo / 2 ^^^ d / 2)) = u * (lo / 2 ^^^ d / 2) * 2 := Nat.mul_comm _ _
    omega

theorem Bits.small_nums {h c j lo d x u : Nat} (hb : Bits h c j lo d x u) (hj : j ≤ 8) : lo < 256 ∧ d < 256 ∧ x < 256 ∧ u ≤ 256 := by
  obtain ⟨h1, h2, h3, h4, h5⟩ := hb
  have e1 : 2 ^ (8 - j) ≤ 2 ^ 8 := Nat.pow_le_pow_right (by decide) (by omega)
  have e2 : 2 ^ j ≤ 2 ^ 8 := Nat.pow_le_pow_right (by decide) hj
  have e3 : (2 : Nat) ^ 8 = 256 := rfl
  omega

theorem Bits.done {h c lo d x u : Nat} (hb : Bits h c 8 lo d x u) : x = h ^^^ c := by
  obtain ⟨h1, h2, h3, h4, h5⟩ := hb
  have e : 2 ^ (8 - 8) = 1 := rfl
  have l0 : lo = 0 := by omega
  have d0 : d = 0 := by omega
  subst l0
  subst d0
  simpa using h5

set_option maxRecDepth 100000 in
set_option maxHeartbeats 2000000 in
theorem refMark_any (s : ByteArray) (w : World) (hs : s.size ≤ maxLen) :
    Calls Try.prog 26 #[.string s] w fun e w' => e = .returned (.int .u32 (T.markOf s)) ∧ Below w.heap.size w w' := by
  unfold maxLen at hs
  go_enter Try.func26, Try.ntmps26
  go_wp2
  go_loopw [3, 4] (fun m i wr => ∃ (k h : Nat), k ≤ s.size ∧ h < 4294967296 ∧ m = .int .i64 h ∧ i = .int .i64 k ∧ w = wr ∧ Hid (h = T.markFrom 2166136261 ((T.nats s).take k)))
    (fun _ i _ => s.size - (intOf i).toNat)
  case atStart => exact ⟨0, 2166136261, by omega, by omega, rfl, rfl, rfl, rfl⟩
  case round =>
    obtain ⟨k, h, hk, hh, rfl, rfl, rfl, HM⟩ := hrel
    by_cases hlt : k < s.size
    · obtain ⟨c, hc⟩ : ∃ c : Nat, c = (s[k]).toNat := ⟨_, rfl⟩
      have hc8 : c < 256 := by rw [hc]; exact (s[k]).toNat_lt
      have HM' : Hid (T.markStep h c = T.markFrom 2166136261 ((T.nats s).take (k + 1))) := by
        unfold Hid
        rw [T.mark_take s k hlt, ← HM.out, hc]
      have hwc : wrap64 ((s[k]).toNat : Int) = ((s[k]).toNat : Int) := by
        have := (s[k]).toNat_lt
        unfold wrap64; omega
      have hi1 : (k : Int) < (s.size : Int) := by omega
      obtain ⟨lo0, hlo0⟩ : ∃ l : Nat, l = h % 256 := ⟨_, rfl⟩
      have HLo : Hid (lo0 = h % 256) := hlo0
      have HC : Hid (c = (s[k]).toNat) := hc
      have hlo8 : lo0 < 256 := by omega
      clear hlo0 hc
      clear HM
      go_wp2_with fail
      go_loopw [5, 6, 7, 8, 9] (fun a b x u i wr => ∃ (j lo d xx uu : Nat), j ≤ 8 ∧ a = .int .i64 lo ∧ b = .int .i64 d ∧ x = .int .i64 xx ∧ u = .int .i64 uu ∧ i = .int .i64 j ∧ w = wr ∧ Hid (Bits lo0 c j lo d xx uu))
        (fun _ _ _ _ i _ => 8 - (intOf i).toNat)
      case atStart => exact ⟨0, lo0, c, 0, 1, by omega, congrArg (Value.int .i64) (by have := HLo.out; omega), by rw [HC.out, hwc], rfl, rfl, rfl, rfl, Bits.start lo0 c hlo8 hc8⟩
      case round =>
        obtain ⟨j, lo, d, xx, uu, hj, rfl, rfl, rfl, rfl, rfl, rfl, HB⟩ := hrel
        obtain ⟨n1, n2, n3, n4⟩ := HB.out.small_nums hj
        by_cases hj8 : j < 8
        · have HB' : Hid (Bits lo0 c (j + 1) (lo / 2) (d / 2) (xx + (lo + d) % 2 * uu) (2 * uu)) := HB.out.step hj8
          clear HB
          by_cases hb : (lo + d) % 2 = 0
          · have hbi : ((lo : Int) + (d : Int)) % 2 = 0 := by omega
            rw [hb] at HB'
            clear hb
            go_wp2
            go_roundw
            case rel => exact ⟨j + 1, lo / 2, d / 2, _, 2 * uu, by omega, by go_num, by go_num, by first | rfl | go_num, by go_num, by go_num, trivial, by have := HB'; simpa using this⟩
            case measure => simp [intOf]; omega
          · have hb1 : (lo + d) % 2 = 1 := by omega
            have hbi : ((lo : Int) + (d : Int)) % 2 = 1 := by omega
            rw [hb1] at HB'
            clear hb hb1
            go_wp2
            go_roundw
            case rel => exact ⟨j + 1, lo / 2, d / 2, xx + 1 * uu, 2 * uu, by omega, by go_num, by go_num, by go_num, by go_num, by go_num, trivial, HB'⟩
            case measure => simp [intOf]; omega
        · obtain rfl : j = 8 := by omega
          have hx : xx = lo0 ^^^ c := HB.out.done
          have hy : h / 256 * 256 + xx = h ^^^ c := by rw [hx, HLo.out]; exact T.xor_byte h c hc8
          have hyl := T.xor_lt h c hh hc8
          have HX : Hid (T.markStep h c = (h / 256 * 256 + xx) * 16777619 % 4294967296) := by unfold Hid T.markStep; rw [hy]
          have HXI : Hid (((h : Int) / 256 * 256 + (xx : Int)) * 16777619 % 4294967296 = ((T.markStep h c : Nat) : Int)) := by unfold Hid; rw [HX.out]; omega
          clear HB hx hy hyl
          go_wp2
          go_roundw
          case rel => exact ⟨k + 1, T.markStep h c, by omega, T.markStep_lt _ _, by rw [HXI.out], by go_num, trivial, HM'⟩
          case measure => simp [intOf]; omega
    · have HF : Hid (h = T.markOf s) := by unfold Hid; rw [HM.out, T.mark_all s k hlt]
      clear HM
      go_wp2
      go_ret
      rw [← HF.out]
      exact ⟨by first | rfl | (apply ret_u32; omega), by (repeat (first | exact Below.refl _ _ | assumption | refine Below.setCell ?_ (by first | exact Nat.le_refl _ | omega | (simp; done) | (simp; omega)) _ | refine below_drewN ?_ _ | refine Below.drew ?_ | refine Below.alloc ?_ (by first | exact Nat.le_refl _ | omega | (simp; done) | (simp; omega)) _))⟩

end Go.Proofs.Ytcaeeaiodbjacaa
