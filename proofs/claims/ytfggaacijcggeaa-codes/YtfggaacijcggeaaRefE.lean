/-
  The document's own answer: the walk of Encode.
-/
import Derived.Test.YtfggaacijcggeaaRefQ
namespace Go.Proofs.Ytfggaacijcggeaa
open Go.RowKit
set_option linter.unusedVariables false

namespace H
theorem decode_encAll (l : List (Int × Int)) (h64 : l.length ≤ 64) (hal : ∀ x ∈ l, alone x.1 x.2 = true) :
    (decode (encAll l)).2.1 = if 1 ≤ l.length ∧ okFrom l.length 0 l = true then 0 else 1 := by
  by_cases h1 : 1 ≤ l.length
  · by_cases ho : okFrom l.length 0 l = true
    · rw [if_pos ⟨h1, ho⟩, decode_enc l h1 h64 ho]
    · rw [if_neg (fun h => ho h.2)]
      have hs := scan_enc [] l [] [] (by simpa using h64) hal
      simp at hs
      have hsc := hs.trans (scanAt_end _ _ _ (Nat.le_refl _))
      cases hst : stray l.length 0 0 l with
      | none => exact absurd (ok_of_stray _ _ _ _ hal hst) ho
      | some q => rw [decode_stray _ l q hsc (by omega) hst]
  · rw [if_neg (fun h => h1 h.1)]
    have e : l = [] := List.eq_nil_of_length_eq_zero (by omega)
    subst e
    rw [decode_none _ (scanAt_end _ _ _ (by simp [encAll]))]

/-- What Encode answers of any list. -/
def encOut (l : List (Int × Int)) : ByteArray × Int :=
  if l.length ≤ 64 ∧ 1 ≤ l.length ∧ okFrom l.length 0 l = true then (strOfNums (encAll l), 0) else (⟨#[]⟩, 1)

theorem encOut_bad {l : List (Int × Int)} (h : ¬ (l.length ≤ 64 ∧ 1 ≤ l.length ∧ okFrom l.length 0 l = true)) : encOut l = (⟨#[]⟩, 1) := by
  unfold encOut; rw [if_neg h]

theorem encOut_good {l : List (Int × Int)} (h : l.length ≤ 64 ∧ 1 ≤ l.length ∧ okFrom l.length 0 l = true) : encOut l = (strOfNums (encAll l), 0) := by
  unfold encOut; rw [if_pos h]
end H

end Go.Proofs.Ytfggaacijcggeaa
