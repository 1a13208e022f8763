/-
  The document's own answer: an operand, byte by byte.
-/
import Derived.Test.YtfggaacijcggeaaRefT
import Derived.Deep.QuietTactic
import Derived.BigQuiet
namespace Go.Proofs.Ytfggaacijcggeaa
open Go.RowKit

theorem info3 : (Try.prog.info? 3).map (fun i => (i.zero, i.size, i.bytes)) = some (some (.int .i64 0), 1, 8) := by kernel_rfl

def i64s (l : List Nat) : List Value := l.map fun (n : Nat) => Value.int .i64 (n : Int)

theorem i64s_len (l : List Nat) : (i64s l).length = l.length := by simp [i64s]

theorem i64s_snoc (l : List Nat) (n : Nat) : i64s (l ++ [n]) = i64s l ++ [Value.int .i64 (n : Int)] := by simp [i64s]

namespace H
/-- The operand as far as it is read: k bytes of it. -/
def part (L : List Int) (p : Nat) : Nat → Int
  | 0 => 0
  | k + 1 => 256 * part L p k + at0 L (p + (k + 1))

theorem part_range (L : List Int) (p : Nat) (hb : ∀ i, 0 ≤ at0 L i ∧ at0 L i ≤ 255) : ∀ k, k ≤ 2 → 0 ≤ part L p k ∧ part L p k ≤ 65535 := by
  intro k hk
  have b1 := hb (p + 1)
  have b2 := hb (p + 2)
  rcases (show k = 0 ∨ k = 1 ∨ k = 2 by omega) with rfl | rfl | rfl
  · show (0 : Int) ≤ 0 ∧ (0 : Int) ≤ 65535
    omega
  · show 0 ≤ 256 * 0 + at0 L (p + 1) ∧ 256 * 0 + at0 L (p + 1) ≤ 65535
    omega
  · show 0 ≤ 256 * (256 * 0 + at0 L (p + 1)) + at0 L (p + 2) ∧ 256 * (256 * 0 + at0 L (p + 1)) + at0 L (p + 2) ≤ 65535
    omega

/-- The operand, by its bytes and its sign. -/
theorem opnd_part (L : List Int) (p : Nat) (hb : ∀ i, 0 ≤ at0 L i ∧ at0 L i ≤ 255) (o : Int) (ho : at0 L p = o) :
    opnd L p = if (o = 16 ∨ o = 17) ∧ 127 < part L p (wid o) then part L p (wid o) - 256 else part L p (wid o) := by
  have b1 := hb (p + 1)
  unfold opnd
  rw [ho]
  by_cases h1 : o = 1
  · subst h1
    rw [if_pos rfl, if_neg (by omega)]
    show _ = 256 * (256 * 0 + at0 L (p + 1)) + at0 L (p + 2)
    omega
  rw [if_neg h1]
  by_cases hj : o = 16 ∨ o = 17
  · have hw : wid o = 1 := by unfold wid; rw [if_neg h1, if_pos (by omega)]
    have hp : part L p 1 = at0 L (p + 1) := by show 256 * 0 + at0 L (p + 1) = _; omega
    rw [if_pos hj, hw, hp]
    unfold sg
    by_cases h : at0 L (p + 1) < 128
    · rw [if_pos h, if_neg (by omega)]
    · rw [if_neg h, if_pos ⟨hj, by omega⟩]
  rw [if_neg hj]
  by_cases h2 : o = 2 ∨ o = 3 ∨ o = 25
  · have hw : wid o = 1 := by unfold wid; rw [if_neg h1, if_pos (by omega)]
    rw [if_pos h2, if_neg (fun h => hj h.1), hw]
    show _ = 256 * 0 + at0 L (p + 1)
    omega
  · have hw : wid o = 0 := by unfold wid; rw [if_neg h1, if_neg (by omega)]
    rw [if_neg h2, if_neg (fun h => hj h.1), hw]
    rfl
end H

/-- A row stays as it is where append grows a row of another kind. -/
theorem own_other {w w' : World} {base : Nat} {e : TypeId} {size : Nat} {v : Value} {n : Nat} {xs : List Value} (ho : w.ownsRow base e size v n xs)
    {base' : Nat} {e' : TypeId} {size' : Nat} {v' : Value} {n' : Nat} {xs' : List Value} (ho' : w.ownsRow base' e' size' v' n' xs') (hne : e ≠ e') (hg : w.grownBy w' v'.ownBlock) : w'.ownsRow base e size v n xs := by
  obtain ⟨h1, h2⟩ := ho
  refine ⟨h1, ?_⟩
  rcases h2 with h2 | ⟨g, cap, cur, hv, hb, hh, r⟩
  · exact Or.inl h2
  · have hB : Blk w g cur e := hh
    exact Or.inr ⟨g, cap, cur, hv, hb, hB.grown hg (hB.ne_own ho' hne), r⟩

end Go.Proofs.Ytfggaacijcggeaa
