/-
  The plain mathematics of programs: instructions, their bytes, Decode and Encode as functions on lists.
-/
namespace Go.Proofs.Ytfggaacijcggeaa
namespace H

/-- How many bytes an Op's operand takes. -/
def wid (op : Int) : Nat :=
  if op = 1 then 2 else if op = 2 ∨ op = 3 ∨ op = 16 ∨ op = 17 ∨ op = 25 then 1 else 0

/-- An instruction that is right by itself. -/
def alone (op a : Int) : Bool :=
  if op = 1 then decide (0 ≤ a ∧ a ≤ 65535)
  else if op = 2 ∨ op = 3 then decide (0 ≤ a ∧ a < 8)
  else if op = 16 ∨ op = 17 then decide (-128 ≤ a ∧ a ≤ 127)
  else if op = 25 then decide (0 ≤ a ∧ a < 4)
  else decide (op ≤ 27 ∧ a = 0)

theorem wid_le (op : Int) : wid op ≤ 2 := by
  unfold wid; split
  · omega
  · split <;> omega

/-- The bytes of a text, as numbers. -/
def bts (s : ByteArray) : List Int := s.data.toList.map fun b => (b.toNat : Int)

theorem bts_length (s : ByteArray) : (bts s).length = s.size := by simp [bts]

/-- The number at a place. -/
def at0 (L : List Int) (i : Nat) : Int := L.getD i 0

theorem at0_bts (s : ByteArray) (i : Nat) (h : i < s.size) : at0 (bts s) i = ((s[i]).toNat : Int) := by
  have h2 : i < s.data.toList.length := by simpa using h
  simp only [at0, bts, List.getD, List.getElem?_map, List.getElem?_eq_getElem h2, Option.map_some, Option.getD_some]
  rfl

theorem at0_bts_range (s : ByteArray) (i : Nat) : 0 ≤ at0 (bts s) i ∧ at0 (bts s) i ≤ 255 := by
  by_cases h : i < s.size
  · rw [at0_bts s i h]
    have := (s[i]).toNat_lt
    omega
  · have : (bts s).length ≤ i := by rw [bts_length]; omega
    simp [at0, List.getD, List.getElem?_eq_none this]

/-- A byte as a signed number. -/
def sg (b : Int) : Int := if b < 128 then b else b - 256

/-- The operand of the instruction whose Op lies at p. -/
def opnd (L : List Int) (p : Nat) : Int :=
  if at0 L p = 1 then 256 * at0 L (p + 1) + at0 L (p + 2)
  else if at0 L p = 16 ∨ at0 L p = 17 then sg (at0 L (p + 1))
  else if at0 L p = 2 ∨ at0 L p = 3 ∨ at0 L p = 25 then at0 L (p + 1)
  else 0

/-- Does the instruction i of n, which stands alone, go nowhere but where a run may go? -/
def lands (n i : Nat) (o a : Int) : Bool :=
  if o = 16 ∨ o = 17 then decide (0 ≤ (i : Int) + 1 + a ∧ (i : Int) + 1 + a ≤ n) else true

/-- The bytes of an instruction. -/
def enc (o a : Int) : List Int :=
  if wid o = 2 then [o, a / 256 % 256, a % 256] else if wid o = 1 then [o, a % 256] else [o]

theorem enc_length (o a : Int) : (enc o a).length = 1 + wid o := by
  have h := wid_le o
  unfold enc
  by_cases h2 : wid o = 2
  · simp [h2]
  · by_cases h1 : wid o = 1
    · simp [h1]
    · have h0 : wid o = 0 := by omega
      simp [h0]

end H
end Go.Proofs.Ytfggaacijcggeaa
