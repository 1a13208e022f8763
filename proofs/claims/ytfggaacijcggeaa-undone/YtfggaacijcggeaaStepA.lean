/-
  step, at every instruction; what it keeps.
-/
import Derived.Test.YtfggaacijcggeaaStep2
namespace Go.Proofs.Ytfggaacijcggeaa
open Go.RowKit
set_option linter.unusedVariables false

/-- What holds of a machine at work: its numbers are of 16 bits; its text is short; it stands inside a program of n. -/
structure MOk (n : Nat) (M : H.Mach) : Prop where
  st : InR M.st
  cells : InR M.cells
  text : M.text.size ≤ 4 * M.chars
  chars : M.chars ≤ 6
  next0 : 0 ≤ M.next
  next1 : M.next ≤ n

theorem MOk.small {n : Nat} {M : H.Mach} (h : MOk n M) : M.text.size ≤ 1000 := by
  have := h.text; have := h.chars; omega

theorem step_any {w : World} {base b : Nat} {pile : List Int} {sv dv : Value} {M : H.Mach} (h : MB w base b pile sv dv M) (v : InV) (hv : v.ok) (ds : List Int) (hd : Drawn w v ds base) (n : Nat) (hn : n ≤ 64) (hM : MOk n M) (o a : Int) (ho : 0 ≤ o) (ha : H.alone o a = true) :
    Calls Try.prog 34 (stepArgs b o a v) w fun e w' => e = .returned (.tuple #[]) ∧ Aft w base b (H.step o a (v.inp ds) M) w' := by
  have n0 := hM.next0
  have n1 : M.next ≤ 900 := by have := hM.next1; omega
  have h27 := H.alone_op o a ha
  have hz : ∀ x : Int, o = x → x ≠ 1 → x ≠ 2 → x ≠ 3 → x ≠ 16 → x ≠ 17 → x ≠ 25 → a = 0 := by
    intro x hx h1 h2 h3 h16 h17 h25
    subst hx
    simp [H.alone, h1, h2, h3, h16, h17, h25] at ha
    exact ha.2
  rcases (show o = 0 ∨ o = 1 ∨ o = 2 ∨ o = 3 ∨ (4 ≤ o ∧ o ≤ 15) ∨ o = 16 ∨ o = 17 ∨ o = 18 ∨ o = 19 ∨ o = 20 ∨ o = 21 ∨ o = 22 ∨ o = 23 ∨ o = 24 ∨ o = 25 ∨ o = 26 ∨ o = 27 by omega) with rfl | rfl | rfl | rfl | ⟨h4, h15⟩ | rfl | rfl | rfl | rfl | rfl | rfl | rfl | rfl | rfl | rfl | rfl | rfl
  · obtain rfl := hz 0 rfl (by decide) (by decide) (by decide) (by decide) (by decide) (by decide)
    exact step_end h v hv ds n0 n1
  · simp [H.alone] at ha
    exact step_push h v hv ds n0 n1 a ha.1 ha.2
  · simp [H.alone] at ha
    obtain ⟨k, rfl⟩ := Int.eq_ofNat_of_zero_le ha.1
    exact step_load h v hv ds n0 n1 k (by omega)
  · simp [H.alone] at ha
    obtain ⟨k, rfl⟩ := Int.eq_ofNat_of_zero_le ha.1
    exact step_store h v hv ds n0 n1 k (by omega)
  · obtain rfl := hz o rfl (by omega) (by omega) (by omega) (by omega) (by omega) (by omega)
    exact step_sum h v hv ds n0 n1 o h4 h15 hM.st
  · simp [H.alone] at ha
    exact step_jump h v hv ds n0 n1 a ha.1 ha.2
  · simp [H.alone] at ha
    exact step_if h v hv ds n0 n1 a ha.1 ha.2
  · obtain rfl := hz 18 rfl (by decide) (by decide) (by decide) (by decide) (by decide) (by decide)
    exact step_what h v hv ds n0 n1
  · obtain rfl := hz 19 rfl (by decide) (by decide) (by decide) (by decide) (by decide) (by decide)
    exact step_arg h v hv ds n0 n1
  · obtain rfl := hz 20 rfl (by decide) (by decide) (by decide) (by decide) (by decide) (by decide)
    exact step_src h v hv ds n0 n1
  · obtain rfl := hz 21 rfl (by decide) (by decide) (by decide) (by decide) (by decide) (by decide)
    exact step_route h v hv ds n0 n1
  · obtain rfl := hz 22 rfl (by decide) (by decide) (by decide) (by decide) (by decide) (by decide)
    exact step_draw h v hv ds n0 n1 hd
  · obtain rfl := hz 23 rfl (by decide) (by decide) (by decide) (by decide) (by decide) (by decide)
    exact step_char h v hv ds n0 n1 hM.st hM.small
  · obtain rfl := hz 24 rfl (by decide) (by decide) (by decide) (by decide) (by decide) (by decide)
    exact step_show h v hv ds n0 n1
  · simp [H.alone] at ha
    exact step_send h v hv ds n0 n1 a ha.1 ha.2
  · obtain rfl := hz 26 rfl (by decide) (by decide) (by decide) (by decide) (by decide) (by decide)
    exact step_copy h v hv ds n0 n1
  · obtain rfl := hz 27 rfl (by decide) (by decide) (by decide) (by decide) (by decide) (by decide)
    exact step_drop h v hv ds n0 n1

end Go.Proofs.Ytfggaacijcggeaa
