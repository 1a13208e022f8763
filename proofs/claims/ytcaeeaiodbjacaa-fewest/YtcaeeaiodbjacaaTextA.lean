/-
  The walks of sizeBy, goTogether and charSize.
-/
import Derived.Test.YtcaeeaiodbjacaaProg
import Derived.Test.YtcaeeaiodbjacaaTreeM
import Derived.WalkKit
import Derived.WalkSpells
import Derived.WalkLawsBesides
import Derived.Deep.QuietTactic
import Derived.BigQuiet
namespace Go.Proofs.Ytcaeeaiodbjacaa
open Go.RowKit
set_option linter.unusedVariables false

set_option maxHeartbeats 400000 in
theorem lead_any (f : Int) (w : World) :
    Calls Try.prog 59 #[.int .u8 f] w fun e w' => e = .returned (.int .i64 (T.lead f)) ∧ w = w' := by
  by_cases h1 : f < 128
  · have e : T.lead f = 1 := by unfold T.lead; rw [if_pos h1]
    rw [e]
    go_enter Try.func59, Try.ntmps59
    go_wp2
    go_ret
    exact ⟨rfl, rfl⟩
  by_cases h2 : f < 194
  · have e : T.lead f = 0 := by unfold T.lead; rw [if_neg h1, if_pos h2]
    rw [e]
    go_enter Try.func59, Try.ntmps59
    go_wp2
    go_ret
    exact ⟨rfl, rfl⟩
  by_cases h3 : f < 224
  · have e : T.lead f = 2 := by unfold T.lead; rw [if_neg h1, if_neg h2, if_pos h3]
    rw [e]
    go_enter Try.func59, Try.ntmps59
    go_wp2
    go_ret
    exact ⟨rfl, rfl⟩
  by_cases h4 : f < 240
  · have e : T.lead f = 3 := by unfold T.lead; rw [if_neg h1, if_neg h2, if_neg h3, if_pos h4]
    rw [e]
    go_enter Try.func59, Try.ntmps59
    go_wp2
    go_ret
    exact ⟨rfl, rfl⟩
  by_cases h5 : f < 245
  · have e : T.lead f = 4 := by unfold T.lead; rw [if_neg h1, if_neg h2, if_neg h3, if_neg h4, if_pos h5]
    rw [e]
    go_enter Try.func59, Try.ntmps59
    go_wp2
    go_ret
    exact ⟨rfl, rfl⟩
  · have e : T.lead f = 0 := by unfold T.lead; rw [if_neg h1, if_neg h2, if_neg h3, if_neg h4, if_neg h5]
    rw [e]
    go_enter Try.func59, Try.ntmps59
    go_wp2
    go_ret
    exact ⟨rfl, rfl⟩

set_option maxHeartbeats 400000 in
theorem pair_any (f g : Int) (w : World) :
    Calls Try.prog 60 #[.int .u8 f, .int .u8 g] w fun e w' => e = .returned (.bool (T.pair f g)) ∧ w = w' := by
  by_cases h1 : f = 224
  · subst h1
    have e : T.pair 224 g = decide (160 ≤ g) := by unfold T.pair; rw [if_pos rfl]
    rw [e]
    go_enter Try.func60, Try.ntmps60
    go_wp2
    go_ret
    exact ⟨rfl, rfl⟩
  by_cases h2 : f = 237
  · subst h2
    have e : T.pair 237 g = decide (g < 160) := by unfold T.pair; rw [if_neg (by omega), if_pos rfl]
    rw [e]
    go_enter Try.func60, Try.ntmps60
    go_wp2
    go_ret
    exact ⟨rfl, rfl⟩
  by_cases h3 : f = 240
  · subst h3
    have e : T.pair 240 g = decide (144 ≤ g) := by unfold T.pair; rw [if_neg (by omega), if_neg (by omega), if_pos rfl]
    rw [e]
    go_enter Try.func60, Try.ntmps60
    go_wp2
    go_ret
    exact ⟨rfl, rfl⟩
  by_cases h4 : f = 244
  · subst h4
    have e : T.pair 244 g = decide (g < 144) := by unfold T.pair; rw [if_neg (by omega), if_neg (by omega), if_neg (by omega), if_pos rfl]
    rw [e]
    go_enter Try.func60, Try.ntmps60
    go_wp2
    go_ret
    exact ⟨rfl, rfl⟩
  have e : T.pair f g = true := by unfold T.pair; rw [if_neg h1, if_neg h2, if_neg h3, if_neg h4]
  rw [e]
  have b1 : (f == 224) = false := by simpa using h1
  have b2 : (f == 237) = false := by simpa using h2
  have b3 : (f == 240) = false := by simpa using h3
  have b4 : (f == 244) = false := by simpa using h4
  clear e h1 h2 h3 h4
  go_enter Try.func60, Try.ntmps60
  go_wp2
  go_ret
  exact ⟨rfl, rfl⟩

set_option maxHeartbeats 1000000 in
theorem char_any (s : ByteArray) (p : Nat) (w : World) (hs : s.size ≤ maxLen) (hp : p < s.size) :
    Calls Try.prog 57 #[.string s, .int .i64 p] w fun e w' => e = .returned (.int .i64 (T.size (T.bts s) p)) ∧ Below w.heap.size w w' := by
  unfold maxLen at hs
  have HL : Hid ((T.bts s).length = s.size) := T.bts_length s
  have e0 := T.at0_bts s p hp
  obtain ⟨f, hf⟩ : ∃ f : Int, f = ((s[p]).toNat : Int) := ⟨_, rfl⟩
  rw [← hf] at e0
  have He : Hid (T.at0 (T.bts s) p = f) := e0
  have hl4 := T.lead_le f
  obtain ⟨n, hn⟩ : ∃ n : Nat, n = T.lead f := ⟨_, rfl⟩
  have Hn : Hid (T.lead f = n) := hn.symm
  have hcall : ∀ u : World, Calls Try.prog 59 #[.int .u8 ((s[p]).toNat : Int)] u fun e w' => e = .returned (.int .i64 n) ∧ u = w' := by
    intro u; rw [hn, ← hf]; exact lead_any f u
  have HC : Hid (∀ u : World, Calls Try.prog 59 #[.int .u8 ((s[p]).toNat : Int)] u fun e w' => e = .returned (.int .i64 n) ∧ u = w') := hcall
  rw [← hn] at hl4
  have HF : Hid (f = ((s[p]).toNat : Int)) := hf
  clear hn e0 hcall hf
  by_cases hcut : s.size < p + n
  · have HS : Hid (T.size (T.bts s) p = 0) := T.size_cut _ _ (by rw [He.out, Hn.out, HL.out]; exact hcut)
    have hc : (s.size : Int) - p < (n : Int) := by omega
    go_enter Try.func57, Try.ntmps57
    go_wp2_with (go_at_call 59; refine (HC.out _).mono ?_; rintro e w' ⟨rfl, rfl⟩)
    go_ret
    rw [HS.out]
    exact ⟨rfl, by (repeat (first | exact Below.refl _ _ | assumption | refine Below.setCell ?_ (by first | exact Nat.le_refl _ | (simp; done) | (simp; omega)) _ | refine below_drewN ?_ _ | refine Below.drew ?_ | refine Below.alloc ?_ (by first | exact Nat.le_refl _ | (simp; done) | (simp; omega)) _))⟩
  · have hc : ¬ (s.size : Int) - p < (n : Int) := by omega
    go_enter Try.func57, Try.ntmps57
    go_wp2_with (go_at_call 59; refine (HC.out _).mono ?_; rintro e w' ⟨rfl, rfl⟩)
    go_loopw [6] (fun i wr => ∃ (k q : Nat), 1 ≤ k ∧ (k ≤ n ∨ k = 1) ∧ i = .int .i64 k ∧ wr = w.drewN q ∧ Hid (∀ j, 1 ≤ j → j < k → T.cont (T.at0 (T.bts s) (p + j)) = true))
      (fun i _ => 5 - (intOf i).toNat)
    case atStart => exact ⟨1, 0, by omega, by omega, rfl, rfl, fun j h1 h2 => by omega⟩
    case round =>
      obtain ⟨k, q, hk1, hk, rfl, rfl, HK⟩ := hrel
      by_cases hlt : k < n
      · have hpk : p + k < s.size := by omega
        have e1 := T.at0_bts s (p + k) hpk
        have hi1 : (p : Int) + k < (s.size : Int) := by omega
        have hi0 : (0 : Int) ≤ (p : Int) + k := by omega
        obtain ⟨g, hg⟩ : ∃ g : Nat, g = (s[p + k]).toNat := ⟨_, rfl⟩
        rw [← hg] at e1
        by_cases hlo : (g : Int) < 128
        · have HS : Hid (T.size (T.bts s) p = 0) := T.size_bad _ _ k hk1 (by rw [He.out, Hn.out]; exact hlt) (by rw [e1]; simp [T.cont]; omega)
          clear e1
          subst hg
          go_wp2
          go_ret
          rw [HS.out]
          exact ⟨rfl, by (repeat (first | exact Below.refl _ _ | assumption | refine Below.setCell ?_ (by first | exact Nat.le_refl _ | (simp; done) | (simp; omega)) _ | refine below_drewN ?_ _ | refine Below.drew ?_ | refine Below.alloc ?_ (by first | exact Nat.le_refl _ | (simp; done) | (simp; omega)) _))⟩
        · by_cases hhi : 191 < (g : Int)
          · have HS : Hid (T.size (T.bts s) p = 0) := T.size_bad _ _ k hk1 (by rw [He.out, Hn.out]; exact hlt) (by rw [e1]; simp [T.cont]; omega)
            clear e1
            subst hg
            go_wp2
            go_ret
            rw [HS.out]
            exact ⟨rfl, by (repeat (first | exact Below.refl _ _ | assumption | refine Below.setCell ?_ (by first | exact Nat.le_refl _ | (simp; done) | (simp; omega)) _ | refine below_drewN ?_ _ | refine Below.drew ?_ | refine Below.alloc ?_ (by first | exact Nat.le_refl _ | (simp; done) | (simp; omega)) _))⟩
          · have HK' : Hid (∀ j, 1 ≤ j → j < k + 1 → T.cont (T.at0 (T.bts s) (p + j)) = true) := by
              intro j h1 h2
              by_cases hj : j = k
              · subst hj; rw [e1]; simp [T.cont]; omega
              · exact HK.out j h1 (by omega)
            clear e1 HK
            subst hg
            go_wp2
            go_roundw
            case rel => exact ⟨k + 1, _, by omega, by omega, by go_num, by first | rfl | simp, HK'⟩
            case measure => simp [intOf]; omega
      · by_cases h1 : n ≤ 1
        · have HS : Hid (T.size (T.bts s) p = n) := by
            have := T.size_one (T.bts s) p (by rw [He.out, Hn.out, HL.out]; omega) (by rw [He.out, Hn.out]; exact h1)
            rwa [He.out, Hn.out] at this
          have cb : decide ((1 : Int) < (n : Int)) = false := by simp; omega
          go_wp2_with fail
          go_quiet (fail)
          go_wp2
          go_ret
          rw [HS.out]
          exact ⟨rfl, by (repeat (first | exact Below.refl _ _ | assumption | refine Below.setCell ?_ (by first | exact Nat.le_refl _ | (simp; done) | (simp; omega)) _ | refine below_drewN ?_ _ | refine Below.drew ?_ | refine Below.alloc ?_ (by first | exact Nat.le_refl _ | (simp; done) | (simp; omega)) _))⟩
        · have hp1 : p + 1 < s.size := by omega
          have hi1 : (p : Int) + 1 < (s.size : Int) := by omega
          have e1 := T.at0_bts s (p + 1) hp1
          have HS0 : Hid (T.size (T.bts s) p = if T.pair f (T.at0 (T.bts s) (p + 1)) then n else 0) := by
            have := T.size_pair (T.bts s) p (by rw [He.out, Hn.out, HL.out]; omega) (by rw [He.out, Hn.out]; omega) (by rw [He.out, Hn.out]; intro j j1 j2; exact HK.out j j1 (by omega))
            rwa [He.out, Hn.out] at this
          rw [e1] at HS0
          have hc1 : (1 : Int) < (n : Int) := by omega
          have hw1 : IntKind.i64.wrap ((p : Int) + 1) = (p : Int) + 1 := by rw [IntKind.wrap_i64]; omega
          have h01 : (0 : Int) ≤ (p : Int) + 1 := by omega
          rw [HF.out] at HS0
          clear e1
          cases hpr : T.pair ((s[p]).toNat : Int) ((s[p + 1]).toNat : Int) with
          | true =>
            have HS : Hid (T.size (T.bts s) p = n) := by have := HS0.out; rwa [hpr, if_pos rfl] at this
            clear HS0
            go_wp2_with fail
            go_quiet ((go_at_call 60; exact (pair_any _ _ _).mono fun _ _ h => ⟨h.1, _, h.2.symm⟩))
            go_wp2
            go_ret
            rw [HS.out]
            exact ⟨rfl, by (repeat (first | exact Below.refl _ _ | assumption | refine Below.setCell ?_ (by first | exact Nat.le_refl _ | (simp; done) | (simp; omega)) _ | refine below_drewN ?_ _ | refine Below.drew ?_ | refine Below.alloc ?_ (by first | exact Nat.le_refl _ | (simp; done) | (simp; omega)) _))⟩
          | false =>
            have HS : Hid (T.size (T.bts s) p = 0) := by have := HS0.out; rw [hpr] at this; exact this
            clear HS0
            go_wp2_with fail
            go_quiet ((go_at_call 60; exact (pair_any _ _ _).mono fun _ _ h => ⟨h.1, _, h.2.symm⟩))
            go_wp2
            go_ret
            rw [HS.out]
            exact ⟨rfl, by (repeat (first | exact Below.refl _ _ | assumption | refine Below.setCell ?_ (by first | exact Nat.le_refl _ | (simp; done) | (simp; omega)) _ | refine below_drewN ?_ _ | refine Below.drew ?_ | refine Below.alloc ?_ (by first | exact Nat.le_refl _ | (simp; done) | (simp; omega)) _))⟩

end Go.Proofs.Ytcaeeaiodbjacaa
