/-
  More fuel, less fuel: what becomes of a run, as plain mathematics.
-/
import Derived.Test.YtfggaacijcggeaaRunA
namespace Go.Proofs.Ytfggaacijcggeaa
set_option linter.unusedVariables false

/-- A run from M on, with the fuel F. -/
def rn (prog : List (Int × Int)) (I : H.Inp) (F : Nat) (M : H.Mach) : H.Mach := H.runM prog I F (F + 1 - M.steps) M

section
variable {prog : List (Int × Int)} {I : H.Inp}

theorem rn_halt {F : Nat} {M : H.Mach} (hs : M.steps ≤ F) (h : H.halt prog.length M = true) : rn prog I F M = M := by
  unfold rn; rw [show F + 1 - M.steps = (F - M.steps) + 1 by omega]; exact runM_halt h
theorem rn_spent {F : Nat} {M : H.Mach} (h : H.halt prog.length M = false) (hs : M.steps = F) : rn prog I F M = { M with fault := 1 } := by
  unfold rn; rw [show F + 1 - M.steps = 0 + 1 by omega]; exact runM_spent h hs
theorem rn_step {F : Nat} {M : H.Mach} (h : H.halt prog.length M = false) (hs : M.steps < F) : rn prog I F M = rn prog I F (H.adv prog I M) := by
  unfold rn; rw [(adv_kp prog I M).1, show F + 1 - M.steps = (F - M.steps) + 1 by omega, runM_step h (by omega), show F + 1 - (M.steps + 1) = F - M.steps by omega]

/-- The count of steps, the draws, and being Spent. -/
theorem rn_basic : ∀ (k F : Nat) (M : H.Mach), F = M.steps + k → M.fault ≠ 1 → M.draws ≤ I.draws.length →
    M.steps ≤ (rn prog I F M).steps ∧ (rn prog I F M).steps ≤ F ∧ (rn prog I F M).draws ≤ I.draws.length ∧ ((rn prog I F M).fault = 1 → (rn prog I F M).steps = F) := by
  intro k
  induction k with
  | zero =>
    intro F M hF hf hd
    cases hh : H.halt prog.length M with
    | true => rw [rn_halt (by omega) hh]; exact ⟨Nat.le_refl _, by omega, hd, fun h => absurd h hf⟩
    | false => rw [rn_spent hh (by omega)]; exact ⟨Nat.le_refl _, by show M.steps ≤ F; omega, hd, fun _ => by show M.steps = F; omega⟩
  | succ k ih =>
    intro F M hF hf hd
    cases hh : H.halt prog.length M with
    | true => rw [rn_halt (by omega) hh]; exact ⟨Nat.le_refl _, by omega, hd, fun h => absurd h hf⟩
    | false =>
      rw [rn_step hh (by omega)]
      obtain ⟨a1, a2, a3⟩ := adv_kp prog I M
      obtain ⟨h1, h2, h3, h4⟩ := ih F (H.adv prog I M) (by omega) (a3 hf) (a2 hd)
      exact ⟨by omega, h2, h3, h4⟩

/-- More fuel changes nothing. -/
theorem rn_more : ∀ (k F F' : Nat) (M : H.Mach), F = M.steps + k → F ≤ F' → M.fault ≠ 1 → (rn prog I F M).fault ≠ 1 → rn prog I F' M = rn prog I F M := by
  intro k
  induction k with
  | zero =>
    intro F F' M hF hF' hf hn
    cases hh : H.halt prog.length M with
    | true => rw [rn_halt (by omega) hh, rn_halt (by omega) hh]
    | false => rw [rn_spent hh (by omega)] at hn; exact absurd rfl hn
  | succ k ih =>
    intro F F' M hF hF' hf hn
    cases hh : H.halt prog.length M with
    | true => rw [rn_halt (by omega) hh, rn_halt (by omega) hh]
    | false =>
      obtain ⟨a1, a2, a3⟩ := adv_kp prog I M
      rw [rn_step hh (by omega)] at hn
      rw [rn_step hh (by omega), rn_step hh (by omega)]
      exact ih F F' (H.adv prog I M) (by omega) hF' (a3 hf) hn

/-- One step too few is Spent. -/
theorem rn_less : ∀ (k F : Nat) (M : H.Mach), F = M.steps + k → M.fault ≠ 1 → M.draws ≤ I.draws.length → (rn prog I F M).fault ≠ 1 → M.steps < (rn prog I F M).steps →
    (rn prog I ((rn prog I F M).steps - 1) M).fault = 1 ∧ (rn prog I ((rn prog I F M).steps - 1) M).steps = (rn prog I F M).steps - 1 := by
  intro k
  induction k with
  | zero =>
    intro F M hF hf hd hn hl
    have := (rn_basic 0 F M hF hf hd (prog := prog)).2.1
    omega
  | succ k ih =>
    intro F M hF hf hd hn hl
    cases hh : H.halt prog.length M with
    | true => rw [rn_halt (by omega) hh] at hl; omega
    | false =>
      obtain ⟨a1, a2, a3⟩ := adv_kp prog I M
      have e := rn_step (I := I) (F := F) hh (by omega)
      rw [e] at hn hl ⊢
      obtain ⟨b1, b2, b3, b4⟩ := rn_basic k F (H.adv prog I M) (by omega) (a3 hf) (a2 hd) (prog := prog)
      by_cases hs : (rn prog I F (H.adv prog I M)).steps = (H.adv prog I M).steps
      · rw [hs, a1, show M.steps + 1 - 1 = M.steps by omega, rn_spent hh rfl]
        exact ⟨rfl, rfl⟩
      · have h := ih F (H.adv prog I M) (by omega) (a3 hf) (a2 hd) hn (by omega)
        rw [rn_step hh (by omega)]
        exact h
end

theorem adv_fuel (prog : List (Int × Int)) (I : H.Inp) (x : Int) (M : H.Mach) : H.adv prog { I with fuel := x } M = H.adv prog I M := rfl
theorem runM_fuel (prog : List (Int × Int)) (I : H.Inp) (x : Int) (F : Nat) : ∀ (r : Nat) (M : H.Mach), H.runM prog { I with fuel := x } F r M = H.runM prog I F r M
  | 0, M => rfl
  | r + 1, M => by
    simp only [H.runM, adv_fuel]
    rw [runM_fuel prog I x F r]

/-- What a run with the fuel F comes to. -/
theorem run_is (L : List Int) (prog : List (Int × Int)) (cells : List Int) (I : H.Inp) (F : Nat) (hF : F ≤ 1000) (hd : H.decode L = (prog, 0, 0)) :
    H.run L cells { I with fuel := F } = H.outOf cells (rn prog I F (H.mach0 cells)) := by
  unfold H.run
  rw [hd, if_pos rfl, if_neg (by show ¬ ((F : Int) < 0 ∨ 1000 < (F : Int)); omega)]
  show H.outOf cells (H.runM prog { I with fuel := F } (F : Int).toNat ((F : Int).toNat + 1) (H.mach0 cells)) = _
  rw [Int.toNat_natCast, runM_fuel]
  rfl

/-- All that Undone asks of three runs. -/
structure Undo (cells : List Int) (dl F : Nat) (O : H.Out) : Prop where
  err : O.err = 0
  steps : O.steps ≤ F
  draws : O.draws ≤ dl
  pos : 0 < F → 0 < O.steps
  none : F = 0 → O.fault = 1
  back : O.fault ≠ 0 → O.cells = cells ∧ O.shows = [] ∧ O.sends = []
  spent : O.fault = 1 → O.steps = F

theorem undo_of (L : List Int) (prog : List (Int × Int)) (cells : List Int) (I : H.Inp) (F : Nat) (hF : F ≤ 1000) (hd : H.decode L = (prog, 0, 0)) (hp : 1 ≤ prog.length) :
    Undo cells I.draws.length F (H.run L cells { I with fuel := F }) ∧
    ((H.run L cells { I with fuel := F }).fault ≠ 1 → (∀ F', F ≤ F' → F' ≤ 1000 → H.run L cells { I with fuel := F' } = H.run L cells { I with fuel := F }) ∧
      ∀ G : Nat, G + 1 = (H.run L cells { I with fuel := F }).steps → (H.run L cells { I with fuel := G }).fault = 1 ∧ (H.run L cells { I with fuel := G }).steps = G ∧ (H.run L cells { I with fuel := G }).err = 0) := by
  rw [run_is L prog cells I F hF hd]
  have f0 : (H.mach0 cells).fault ≠ 1 := by show (0 : Int) ≠ 1; decide
  obtain ⟨b1, b2, b3, b4⟩ := rn_basic F F (H.mach0 cells) (by show F = 0 + F; omega) f0 (Nat.zero_le _) (prog := prog) (I := I)
  have hh : H.halt prog.length (H.mach0 cells) = false := by
    unfold H.halt H.mach0
    simp only [Bool.false_or, BEq.rfl, Bool.not_true, decide_eq_false_iff_not]
    omega
  have e : ∀ M : H.Mach, (H.outOf cells M).fault = M.fault ∧ (H.outOf cells M).steps = M.steps ∧ (H.outOf cells M).draws = M.draws ∧ (H.outOf cells M).err = 0 := by
    intro M
    unfold H.outOf
    split
    · rename_i h; exact ⟨h.symm, rfl, rfl, rfl⟩
    · exact ⟨rfl, rfl, rfl, rfl⟩
  refine ⟨⟨(e _).2.2.2, by rw [(e _).2.1]; exact b2, by rw [(e _).2.2.1]; exact b3, fun h0 => ?_, fun h0 => ?_, fun h => ?_, fun h => ?_⟩, fun hn => ⟨fun F' h1 h2 => ?_, fun G hG => ?_⟩⟩
  · rw [(e _).2.1, rn_step hh (by show 0 < F; exact h0)]
    obtain ⟨a1, a2, a3⟩ := adv_kp prog I (H.mach0 cells)
    obtain ⟨k, rfl⟩ : ∃ k, F = k + 1 := ⟨F - 1, by omega⟩
    have := (rn_basic k (k + 1) (H.adv prog I (H.mach0 cells)) (by rw [a1]; show k + 1 = 0 + 1 + k; omega) (a3 f0) (a2 (Nat.zero_le _)) (prog := prog)).1
    omega
  · subst h0
    rw [(e _).1, rn_spent (F := 0) hh rfl]
  · rw [(e _).1] at h
    unfold H.outOf
    rw [if_neg h]
    exact ⟨rfl, rfl, rfl⟩
  · rw [(e _).1] at h
    rw [(e _).2.1]
    exact b4 h
  · rw [(e _).1] at hn
    rw [run_is L prog cells I F' h2 hd, rn_more F F F' (H.mach0 cells) (by show F = 0 + F; omega) h1 f0 hn]
  · rw [(e _).1] at hn
    rw [(e _).2.1] at hG
    rw [run_is L prog cells I G (by omega) hd]
    have h := rn_less F F (H.mach0 cells) (by show F = 0 + F; omega) f0 (Nat.zero_le _) hn (by show 0 < _; omega)
    rw [show (rn prog I F (H.mach0 cells)).steps - 1 = G by omega] at h
    exact ⟨by rw [(e _).1]; exact h.1, by rw [(e _).2.1]; exact h.2, (e _).2.2.2⟩

end Go.Proofs.Ytfggaacijcggeaa
