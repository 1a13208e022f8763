/-
  The plain mathematics of Decode.
-/
import Derived.Test.YtfggaacijcggeaaCodeB
namespace Go.Proofs.Ytfggaacijcggeaa
namespace H

/-- Reads instructions from the place p on: what was read, or the place of the first that is wrong by itself. -/
def scan : Nat → List Int → Nat → List (Int × Int) → List (Int × Int) × Option Nat
  | 0, _, _, acc => (acc, none)
  | f + 1, L, p, acc =>
    if p < L.length then
      if p + wid (at0 L p) < L.length ∧ acc.length ≠ 64 ∧ alone (at0 L p) (opnd L p) = true then
        scan f L (p + 1 + wid (at0 L p)) (acc ++ [(at0 L p, opnd L p)])
      else ([], some p)
    else (acc, none)

theorem scan_fuel (L : List Int) : ∀ (f g p : Nat) (acc : List (Int × Int)), L.length < p + f → L.length < p + g → scan f L p acc = scan g L p acc := by
  intro f
  induction f with
  | zero =>
    intro g p acc hf hg
    cases g with
    | zero => rfl
    | succ g => simp only [scan]; rw [if_neg (by omega)]
  | succ f ih =>
    intro g p acc hf hg
    cases g with
    | zero => simp only [scan]; rw [if_neg (by omega)]
    | succ g =>
      simp only [scan]
      by_cases h : p < L.length
      · rw [if_pos h, if_pos h]
        by_cases h2 : p + wid (at0 L p) < L.length ∧ acc.length ≠ 64 ∧ alone (at0 L p) (opnd L p) = true
        · rw [if_pos h2, if_pos h2]
          exact ih g _ _ (by omega) (by omega)
        · rw [if_neg h2, if_neg h2]
      · rw [if_neg h, if_neg h]

/-- Reading from p on, however far it is. -/
def scanAt (L : List Int) (p : Nat) (acc : List (Int × Int)) : List (Int × Int) × Option Nat := scan (L.length + 1) L p acc

theorem scanAt_end (L : List Int) (p : Nat) (acc : List (Int × Int)) (h : L.length ≤ p) : scanAt L p acc = (acc, none) := by
  unfold scanAt scan; rw [if_neg (by omega)]

theorem scanAt_bad (L : List Int) (p : Nat) (acc : List (Int × Int)) (h : p < L.length) (h2 : ¬ (p + wid (at0 L p) < L.length ∧ acc.length ≠ 64 ∧ alone (at0 L p) (opnd L p) = true)) :
    scanAt L p acc = ([], some p) := by
  unfold scanAt scan; rw [if_pos h, if_neg h2]

theorem scanAt_ok (L : List Int) (p : Nat) (acc : List (Int × Int)) (h : p < L.length) (h1 : p + wid (at0 L p) < L.length) (h2 : acc.length ≠ 64) (h3 : alone (at0 L p) (opnd L p) = true) :
    scanAt L p acc = scanAt L (p + 1 + wid (at0 L p)) (acc ++ [(at0 L p, opnd L p)]) := by
  unfold scanAt
  rw [scan, if_pos h, if_pos ⟨h1, h2, h3⟩]
  exact scan_fuel L _ _ _ _ (by omega) (by omega)

/-- The place of the first that goes where it may not; instructions from i on, at the place p. -/
def stray (n : Nat) : Nat → Nat → List (Int × Int) → Option Nat
  | _, _, [] => none
  | i, p, x :: r => if lands n i x.1 x.2 = true then stray n (i + 1) (p + 1 + wid x.1) r else some p

def decode (L : List Int) : List (Int × Int) × Int × Int :=
  match scanAt L 0 [] with
  | (_, some p) => ([], 1, p)
  | (l, none) =>
    if l.length = 0 then ([], 1, 0) else
    match stray l.length 0 0 l with
    | some p => ([], 1, p)
    | none => (l, 0, 0)

theorem decode_bad (L : List Int) (l : List (Int × Int)) (p : Nat) (h : scanAt L 0 [] = (l, some p)) : decode L = ([], 1, (p : Int)) := by
  unfold decode; rw [h]
theorem decode_none (L : List Int) (h : scanAt L 0 [] = ([], none)) : decode L = ([], 1, 0) := by
  unfold decode; rw [h]; simp
theorem decode_stray (L : List Int) (l : List (Int × Int)) (p : Nat) (h : scanAt L 0 [] = (l, none)) (hl : l.length ≠ 0) (hs : stray l.length 0 0 l = some p) : decode L = ([], 1, (p : Int)) := by
  unfold decode; rw [h]; simp only [if_neg hl, hs]
theorem decode_ok (L : List Int) (l : List (Int × Int)) (h : scanAt L 0 [] = (l, none)) (hl : l.length ≠ 0) (hs : stray l.length 0 0 l = none) : decode L = (l, 0, 0) := by
  unfold decode; rw [h]; simp only [if_neg hl, hs]

theorem stray_step (n : Nat) (l : List (Int × Int)) (k p : Nat) (x : Int × Int) (h : l[k]? = some x) :
    stray n k p (l.drop k) = if lands n k x.1 x.2 = true then stray n (k + 1) (p + 1 + wid x.1) (l.drop (k + 1)) else some p := by
  rw [drop_cons l k x h]
  rfl

end H
end Go.Proofs.Ytfggaacijcggeaa
