/-
  The walks of push and pop.
-/
import Derived.Test.YtfggaacijcggeaaMBlk
import Derived.Deep.QuietTactic
import Derived.BigQuiet
import Derived.BigRegion
import Derived.RegionTactic
namespace Go.Proofs.Ytfggaacijcggeaa
open Go.RowKit
set_option linter.unusedVariables false

/-- What a method leaves. -/
def After (w : World) (base b : Nat) (sv dv : Value) (M' : H.Mach) (w' : World) : Prop := (∃ pile, MB w' base b pile sv dv M') ∧ Fr base w w'

theorem push_eq_full {v : Int} {M : H.Mach} (hl : 8 ≤ M.st.length) : H.push v M = { M with fault := 2 } := by unfold H.push; rw [if_pos hl]
theorem push_eq_room {v : Int} {M : H.Mach} (hl : M.st.length < 8) : H.push v M = { M with st := M.st ++ [v] } := by unfold H.push; rw [if_neg (by omega)]
theorem pop_eq_none {M : H.Mach} (hl : M.st.length = 0) : H.popM M = { M with fault := 2 } := by unfold H.popM; rw [if_pos hl]
theorem pop_eq_some {M : H.Mach} (hl : M.st.length ≠ 0) : H.popM M = { M with st := M.st.dropLast } := by unfold H.popM; rw [if_neg hl]
theorem popV_none {M : H.Mach} (hl : M.st.length = 0) : H.popV M = 0 := by
  unfold H.popV; rw [List.eq_nil_of_length_eq_zero hl]; rfl

set_option maxHeartbeats 400000 in
theorem push_full {w : World} {base b : Nat} {pile : List Int} {sv dv : Value} {M : H.Mach} (h : MB w base b pile sv dv M) (v : Int) (hl : 8 ≤ M.st.length) :
    Calls Try.prog 39 #[.pointer (some ⟨b, 0, none⟩), .int .u16 v] w fun e w' => e = .returned (.tuple #[]) ∧ After w base b sv dv (H.push v M) w' := by
  have c8 := h.c8
  have c25 := h.c25
  have fz := h.free 25
  have hl2 : (8 : Int) ≤ (M.st.length : Int) := by omega
  go_enter Try.func39, Try.ntmps39
  go_wp2
  exact bodyPost_ret (v := .tuple #[]) (by simp [results, Try.results39]) rfl ⟨rfl, by rw [push_eq_full hl]; exact ⟨⟨_, h.set_fault 2⟩, h.fr_set (Fr.refl _ _) _ _⟩⟩

set_option maxHeartbeats 400000 in
theorem push_room {w : World} {base b : Nat} {pile : List Int} {sv dv : Value} {M : H.Mach} (h : MB w base b pile sv dv M) (v : Int) (hl : M.st.length < 8) :
    Calls Try.prog 39 #[.pointer (some ⟨b, 0, none⟩), .int .u16 v] w fun e w' => e = .returned (.tuple #[]) ∧ After w base b sv dv (H.push v M) w' := by
  have HP : Hid (∀ w', Fr base w w' → MB w' base b (pile.set M.st.length v) sv dv { M with st := M.st ++ [v] } → After w base b sv dv (H.push v M) w') := fun w' hf hm => by
    rw [push_eq_room hl]; exact ⟨⟨_, hm⟩, hf⟩
  have c8 := h.c8
  have cp := h.cpile M.st.length hl
  have HM : Hid (MB ((w.setCell ⟨b, M.st.length, none⟩ (.int .u16 v)).setCell ⟨b, 8, none⟩ (.int .i64 ((M.st.length : Int) + 1))) base b (pile.set M.st.length v) sv dv { M with st := M.st ++ [v] }) := h.set_push hl v
  have HF : Hid (Fr base w ((w.setCell ⟨b, M.st.length, none⟩ (.int .u16 v)).setCell ⟨b, 8, none⟩ (.int .i64 ((M.st.length : Int) + 1)))) :=
    (h.fr_set (Fr.refl _ _) M.st.length (.int .u16 v)).setCell (p := ⟨b, 8, none⟩) (h.blk.set M.st.length _) h.hb (.inl rfl) _
  have f8 := h.free 8
  have fn := h.free M.st.length
  generalize M.st.length = n at *
  have hl2 : ¬ (8 : Int) ≤ (n : Int) := by omega
  have hi : (n : Int) < 8 := by omega
  have h0 : (0 : Int) ≤ (n : Int) := by omega
  have hne : ¬ n = 8 := by omega
  have hne2 : ¬ 8 = n := by omega
  go_enter Try.func39, Try.ntmps39
  go_wp2
  go_region
  all_goals go_wp2
  all_goals go_end0
  exact ⟨rfl, HP.out _ HF.out.drew HM.out.drew⟩

theorem push_any {w : World} {base b : Nat} {pile : List Int} {sv dv : Value} {M : H.Mach} (h : MB w base b pile sv dv M) (v : Int) :
    Calls Try.prog 39 #[.pointer (some ⟨b, 0, none⟩), .int .u16 v] w fun e w' => e = .returned (.tuple #[]) ∧ After w base b sv dv (H.push v M) w' := by
  by_cases hl : 8 ≤ M.st.length
  · exact push_full h v hl
  · exact push_room h v (by omega)

set_option maxHeartbeats 400000 in
theorem pop_none {w : World} {base b : Nat} {pile : List Int} {sv dv : Value} {M : H.Mach} (h : MB w base b pile sv dv M) (hl : M.st.length = 0) :
    Calls Try.prog 40 #[.pointer (some ⟨b, 0, none⟩)] w fun e w' => e = .returned (.int .u16 (H.popV M)) ∧ After w base b sv dv (H.popM M) w' := by
  have c8 := h.c8
  rw [hl] at c8
  have c25 := h.c25
  have fz := h.free 25
  have HP : Hid (H.popV M = 0) := popV_none hl
  have HL : Hid (M.st.length = 0) := hl
  clear hl
  go_enter Try.func40, Try.ntmps40
  go_wp2
  go_ret
  exact ⟨by rw [HP.out]; rfl, by rw [pop_eq_none HL.out]; exact ⟨⟨_, h.set_fault 2⟩, h.fr_set (Fr.refl _ _) _ _⟩⟩

set_option maxHeartbeats 400000 in
theorem pop_some {w : World} {base b : Nat} {pile : List Int} {sv dv : Value} {M : H.Mach} (h : MB w base b pile sv dv M) (hl : M.st.length ≠ 0) :
    Calls Try.prog 40 #[.pointer (some ⟨b, 0, none⟩)] w fun e w' => e = .returned (.int .u16 (H.popV M)) ∧ After w base b sv dv (H.popM M) w' := by
  have hst := h.hst
  have c8 := h.c8
  have cp := h.cpile (M.st.length - 1) (by omega)
  rw [h.top hl] at cp
  have f8 := h.free 8
  have HM : Hid (MB (w.setCell ⟨b, 8, none⟩ (.int .i64 ((M.st.length : Int) - 1))) base b pile sv dv { M with st := M.st.dropLast }) := h.set_pop hl
  have HF : Hid (Fr base w (w.setCell ⟨b, 8, none⟩ (.int .i64 ((M.st.length : Int) - 1)))) := h.fr_set (Fr.refl _ _) _ _
  have HP : Hid (∀ w', Fr base w w' → MB w' base b pile sv dv { M with st := M.st.dropLast } → After w base b sv dv (H.popM M) w') := fun w' hf hm => by
    rw [pop_eq_some hl]; exact ⟨⟨_, hm⟩, hf⟩
  obtain ⟨n, hn⟩ : ∃ n : Nat, n + 1 = M.st.length := ⟨M.st.length - 1, by omega⟩
  rw [← hn] at c8 cp HM HF hst
  rw [show n + 1 - 1 = n by omega] at cp
  rw [show ((n + 1 : Nat) : Int) = (n : Int) + 1 by omega] at c8
  rw [show ((n + 1 : Nat) : Int) - 1 = (n : Int) by omega] at HM HF
  clear hn hl
  have hi : (n : Int) < 8 := by omega
  have hi2 : n < 8 := by omega
  have h0 : (0 : Int) ≤ (n : Int) := by omega
  have hne : ¬ n = 8 := by omega
  have hne2 : ¬ 8 = n := by omega
  go_enter Try.func40, Try.ntmps40
  go_wp2
  go_quiet (fail)
  go_wp2
  go_ret
  exact ⟨rfl, HP.out _ (HF.out.drewN _) (HM.out.drewN _)⟩

theorem pop_any {w : World} {base b : Nat} {pile : List Int} {sv dv : Value} {M : H.Mach} (h : MB w base b pile sv dv M) :
    Calls Try.prog 40 #[.pointer (some ⟨b, 0, none⟩)] w fun e w' => e = .returned (.int .u16 (H.popV M)) ∧ After w base b sv dv (H.popM M) w' := by
  by_cases hl : M.st.length = 0
  · exact pop_none h hl
  · exact pop_some h hl

end Go.Proofs.Ytfggaacijcggeaa
