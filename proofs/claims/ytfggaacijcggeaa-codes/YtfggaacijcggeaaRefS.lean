/-
  The document's own answer: the walks of size, may and sameIns.
-/
import Derived.Test.YtfggaacijcggeaaRoundW
namespace Go.Proofs.Ytfggaacijcggeaa
open Go.RowKit
set_option linter.unusedVariables false

namespace H
/-- The shape of an Op's operand, as the document's answer has it in one text. -/
def shp (op : Int) : Int := if op = 1 then 119 else if op = 2 ∨ op = 3 then 99 else if op = 16 ∨ op = 17 then 106 else if op = 25 then 116 else 45
end H

/-- The text of the shapes. -/
def shT : ByteArray := ⟨#[45, 119, 99, 99, 45, 45, 45, 45, 45, 45, 45, 45, 45, 45, 45, 45, 106, 106, 45, 45, 45, 45, 45, 45, 45, 116, 45, 45]⟩

theorem shp_at (op : Int) (h0 : 0 ≤ op) (h1 : op < 28) (w : World) : (Instr.index 9 (.string ⟨#[45, 119, 99, 99, 45, 45, 45, 45, 45, 45, 45, 45, 45, 45, 45, 45, 106, 106, 45, 45, 45, 45, 45, 45, 45, 116, 45, 45]⟩) (.int .i64 op)).run Try.prog w = .ok (.int .u8 (H.shp op)) w := by
  obtain ⟨k, rfl⟩ := Int.eq_ofNat_of_zero_le h0
  have hk : k < 28 := by omega
  have e : ∀ i : Nat, i < 28 → (shT.data.getD i 0).toNat = (H.shp (i : Int)).toNat ∧ 0 ≤ H.shp (i : Int) := by decide
  have hs : shT.size = 28 := rfl
  have hlt : k < shT.size := by omega
  have := run_index_string (P := Try.prog) w 9 shT .i64 (k : Int) Try.underlying9
  rw [dif_pos ⟨by omega, by rw [hs]; omega⟩] at this
  show (Instr.index 9 (.string shT) (.int .i64 (k : Int))).run Try.prog w = _
  rw [this]
  have h2 := e k hk
  have h3 : (shT[(k : Int).toNat]'(by omega)).toNat = (shT.data.getD k 0).toNat := by
    simp only [Int.toNat_natCast]
    rw [Array.getD_eq_getD_getElem?, Array.getElem?_eq_getElem (by exact hlt)]
    rfl
  rw [h3, h2.1, Int.toNat_of_nonneg h2.2]

set_option maxHeartbeats 400000 in
theorem size_any (op : Int) (w : World) : Calls Try.prog 26 #[.int .u8 (H.shp op)] w fun e w' => e = .returned (.int .i64 (H.wid op)) ∧ w = w' := by
  by_cases h1 : op = 1
  · subst h1
    show Calls Try.prog 26 #[.int .u8 119] w _
    go_enter Try.func26, Try.ntmps26
    go_wp2
    go_ret
    exact ⟨rfl, rfl⟩
  by_cases h2 : op = 2 ∨ op = 3
  · have e : H.shp op = 99 := by unfold H.shp; rw [if_neg h1, if_pos h2]
    have ew : H.wid op = 1 := by unfold H.wid; rw [if_neg h1, if_pos (by omega)]
    rw [e, ew]
    go_enter Try.func26, Try.ntmps26
    go_wp2
    go_ret
    exact ⟨rfl, rfl⟩
  by_cases h3 : op = 16 ∨ op = 17
  · have e : H.shp op = 106 := by unfold H.shp; rw [if_neg h1, if_neg h2, if_pos h3]
    have ew : H.wid op = 1 := by unfold H.wid; rw [if_neg h1, if_pos (by omega)]
    rw [e, ew]
    go_enter Try.func26, Try.ntmps26
    go_wp2
    go_ret
    exact ⟨rfl, rfl⟩
  by_cases h4 : op = 25
  · have e : H.shp op = 116 := by unfold H.shp; rw [if_neg h1, if_neg h2, if_neg h3, if_pos h4]
    have ew : H.wid op = 1 := by unfold H.wid; rw [if_neg h1, if_pos (by omega)]
    rw [e, ew]
    go_enter Try.func26, Try.ntmps26
    go_wp2
    go_ret
    exact ⟨rfl, rfl⟩
  · have e : H.shp op = 45 := by unfold H.shp; rw [if_neg h1, if_neg h2, if_neg h3, if_neg h4]
    have ew : H.wid op = 0 := by unfold H.wid; rw [if_neg h1, if_neg (by omega)]
    rw [e, ew]
    go_enter Try.func26, Try.ntmps26
    go_wp2
    go_ret
    exact ⟨rfl, rfl⟩

end Go.Proofs.Ytfggaacijcggeaa
