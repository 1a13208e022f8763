/-
  The walk of Mark.
-/
import Derived.Test.YtcaeeaiodbjacaaTreeX
import Derived.Test.YtcaeeaiodbjacaaTextC
namespace Go.Proofs.Ytcaeeaiodbjacaa
open Go.RowKit
set_option linter.unusedVariables false

theorem ofInt_u32 (n : Nat) (h : n < 4294967296) : (BitVec.ofInt 32 (n : Int)).toNat = n := by
  rw [BitVec.toNat_ofInt]
  show ((n : Int) % ((2 ^ 32 : Nat) : Int)).toNat = n
  rw [show ((2 ^ 32 : Nat) : Int) = 4294967296 from rfl]
  omega

theorem xor_u32 (h c : Nat) (hh : h < 4294967296) (hc : c < 256) : bits .xor .u32 (h : Int) ((c : Int) % 4294967296) = ((h ^^^ c : Nat) : Int) := by
  have hx := T.xor_lt h c hh hc
  rw [show ((c : Int) % 4294967296) = (c : Int) by omega]
  have h1 := ofInt_u32 h hh
  have h2 := ofInt_u32 c (by omega)
  have h3 : (BitVec.ofInt 32 (h : Int) ^^^ BitVec.ofInt 32 (c : Int)).toNat = h ^^^ c := by
    rw [BitVec.toNat_xor, h1, h2]
  show IntKind.u32.wrap ((BitVec.ofInt 32 (h : Int) ^^^ BitVec.ofInt 32 (c : Int)).toNat : Int) = _
  rw [h3]
  simp only [IntKind.wrap, IntKind.bits, IntKind.signed]
  simp
  omega

set_option maxHeartbeats 1000000 in
theorem mark_any (s : ByteArray) (w : World) (hs : s.size ≤ maxLen) :
    Calls Try.prog 25 #[.string s] w fun e w' => e = .returned (.int .u32 (T.markOf s)) ∧ Below w.heap.size w w' := by
  unfold maxLen at hs
  go_enter Try.func25, Try.ntmps25
  go_wp2
  go_loopw [3, 4] (fun m i wr => ∃ (k h q : Nat), k ≤ s.size ∧ h < 4294967296 ∧ m = .int .u32 h ∧ i = .int .i64 k ∧ wr = w.drewN q ∧ Hid (h = T.markFrom 2166136261 ((T.nats s).take k)))
    (fun _ i _ => s.size - (intOf i).toNat)
  case atStart => exact ⟨0, 2166136261, 0, by omega, by omega, rfl, rfl, rfl, rfl⟩
  case round =>
    obtain ⟨k, h, q, hk, hh, rfl, rfl, rfl, HM⟩ := hrel
    by_cases hlt : k < s.size
    · obtain ⟨c, hc⟩ : ∃ c : Nat, c = (s[k]).toNat := ⟨_, rfl⟩
      have hc8 : c < 256 := by rw [hc]; exact (s[k]).toNat_lt
      have HM' : Hid (T.markStep h c = T.markFrom 2166136261 ((T.nats s).take (k + 1))) := by
        unfold Hid
        rw [T.mark_take s k hlt, ← HM.out, hc]
      have hxor := xor_u32 h c hh hc8
      have hx := T.xor_lt h c hh hc8
      obtain ⟨x, hxe⟩ : ∃ x, x = h ^^^ c := ⟨_, rfl⟩
      have HX : Hid (T.markStep h c = x * 16777619 % 4294967296) := by unfold Hid T.markStep; rw [hxe]
      rw [← hxe] at hxor hx
      have HXI : Hid ((x : Int) * 16777619 % 4294967296 = ((T.markStep h c : Nat) : Int)) := by unfold Hid; rw [HX.out]; omega
      rw [hc] at hxor
      clear hxe HM hc
      have hi1 : (k : Int) < (s.size : Int) := by omega
      go_wp2
      go_roundw
      case rel => exact ⟨k + 1, T.markStep h c, _, by omega, T.markStep_lt _ _, by rw [HXI.out], by go_num, by first | rfl | simp, HM'⟩
      case measure => simp [intOf]; omega
    · have HF : Hid (h = T.markOf s) := by unfold Hid; rw [HM.out, T.mark_all s k hlt]
      clear HM
      go_wp2
      go_ret
      rw [HF.out]
      exact ⟨rfl, by (repeat (first | exact Below.refl _ _ | assumption | refine Below.setCell ?_ (by first | exact Nat.le_refl _ | omega | (simp; done) | (simp; omega)) _ | refine below_drewN ?_ _ | refine Below.drew ?_ | refine Below.alloc ?_ (by first | exact Nat.le_refl _ | omega | (simp; done) | (simp; omega)) _))⟩

end Go.Proofs.Ytcaeeaiodbjacaa
