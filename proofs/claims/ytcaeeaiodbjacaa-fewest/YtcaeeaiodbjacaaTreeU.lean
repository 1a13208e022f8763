/-
  UTF-8 by the code points' own numbers: the same characters.
-/
import Derived.Test.YtcaeeaiodbjacaaTreeM
namespace Go.Proofs.Ytcaeeaiodbjacaa
namespace T

/-- How many bytes follow, by the first one's kind. -/
def more (c : Int) : Nat := if c < 128 then 0 else if c < 224 then 1 else if c < 240 then 2 else 3

/-- What the first byte tells of the code point. -/
def val0 (c : Int) : Int := if c < 128 then c else if c < 224 then c - 192 else if c < 240 then c - 224 else c - 240

/-- The code point, as far as k bytes behind the first tell it. -/
def val (L : List Int) (p : Nat) : Nat → Int
  | 0 => val0 (at0 L p)
  | k + 1 => 64 * val L p k + at0 L (p + (k + 1)) % 64

/-- The least code point that is written with so many bytes more. -/
def least (m : Nat) : Int := if m = 0 then 0 else if m = 1 then 128 else if m = 2 then 2048 else 65536

def isLead (c : Int) : Bool := decide (c < 128 ∨ 192 ≤ c ∧ c < 248)

/-- A code point that is no character, or is written too long. -/
def badVal (m : Nat) (v : Int) : Bool := decide (v < least m ∨ 1114111 < v ∨ 55296 ≤ v ∧ v ≤ 57343)

theorem size_nolead (L : List Int) (p : Nat) (h : isLead (at0 L p) = false) : size L p = 0 := by
  simp only [isLead, decide_eq_false_iff_not] at h
  have hl : lead (at0 L p) = 0 := by unfold lead; repeat' split
                                     all_goals omega
  unfold size
  rw [hl]
  split
  · rfl
  · simp

theorem lead_more (c : Int) : lead c = 0 ∨ lead c = more c + 1 := by
  unfold lead more
  repeat' split
  all_goals omega

theorem more_le (c : Int) : more c ≤ 3 := by
  unfold more
  repeat' split
  all_goals omega

theorem size_of_lead0 (L : List Int) (p : Nat) (h : lead (at0 L p) = 0) : size L p = 0 := by
  unfold size; rw [h]
  repeat' split
  all_goals rfl

theorem size_short (L : List Int) (p k : Nat) (h1 : 1 ≤ k) (h2 : k ≤ more (at0 L p)) (h : ¬ (p + k < L.length ∧ at0 L (p + k) / 64 = 2)) : size L p = 0 := by
  rcases lead_more (at0 L p) with h0 | h0
  · exact size_of_lead0 L p h0
  · by_cases hk : p + k < L.length
    · refine size_bad L p k h1 (by omega) ?_
      simp only [cont, decide_eq_false_iff_not]
      omega
    · exact size_cut L p (by omega)

theorem size_val (L : List Int) (p : Nat) (hp : p < L.length) (hr : ∀ i, 0 ≤ at0 L i ∧ at0 L i ≤ 255)
    (h : ∀ k, 1 ≤ k → k ≤ more (at0 L p) → p + k < L.length ∧ at0 L (p + k) / 64 = 2) :
    size L p = if badVal (more (at0 L p)) (val L p (more (at0 L p))) then 0 else 1 + more (at0 L p) := by
  have r0 := hr p
  have l0 : least 0 = 0 := rfl
  have l1 : least 1 = 128 := rfl
  have l2 : least 2 = 2048 := rfl
  have l3 : least 3 = 65536 := rfl
  by_cases c1 : at0 L p < 128
  · have hm : more (at0 L p) = 0 := by unfold more; rw [if_pos c1]
    have hd : lead (at0 L p) = 1 := by unfold lead; rw [if_pos c1]
    rw [size_one L p (by omega) (by omega), hd, hm]
    show 1 = if badVal 0 (val0 (at0 L p)) = true then 0 else 1 + 0
    unfold val0
    rw [if_pos c1, if_neg (by simp only [badVal, decide_eq_true_eq]; omega)]
  by_cases c2 : at0 L p < 224
  · have hm : more (at0 L p) = 1 := by unfold more; rw [if_neg c1, if_pos c2]
    rw [hm] at h ⊢
    obtain ⟨a1, b1⟩ := h 1 (by omega) (by omega)
    have hv : val L p 1 = 64 * (at0 L p - 192) + at0 L (p + 1) % 64 := by
      show 64 * val0 (at0 L p) + at0 L (p + 1) % 64 = _
      unfold val0; rw [if_neg c1, if_pos c2]
    rw [hv]
    by_cases c3 : at0 L p < 194
    · rw [size_of_lead0 L p (by unfold lead; rw [if_neg c1, if_pos c3]), if_pos (by simp only [badVal, decide_eq_true_eq]; omega)]
    · have hd : lead (at0 L p) = 2 := by unfold lead; rw [if_neg c1, if_neg c3, if_pos c2]
      rw [size_pair L p (by omega) (by omega) (by intro j j1 j2; rw [hd] at j2; obtain rfl : j = 1 := by omega
                                                  simp only [cont, decide_eq_true_eq]; omega), hd]
      rw [if_pos (by unfold pair; rw [if_neg (by omega), if_neg (by omega), if_neg (by omega), if_neg (by omega)])]
      rw [if_neg (by simp only [badVal, decide_eq_true_eq]; omega)]
  by_cases c3 : at0 L p < 240
  · have hm : more (at0 L p) = 2 := by unfold more; rw [if_neg c1, if_neg c2, if_pos c3]
    rw [hm] at h ⊢
    obtain ⟨a1, b1⟩ := h 1 (by omega) (by omega)
    obtain ⟨a2, b2⟩ := h 2 (by omega) (by omega)
    have hv : val L p 2 = 64 * (64 * (at0 L p - 224) + at0 L (p + 1) % 64) + at0 L (p + 2) % 64 := by
      show 64 * (64 * val0 (at0 L p) + at0 L (p + 1) % 64) + at0 L (p + 2) % 64 = _
      unfold val0; rw [if_neg c1, if_neg c2, if_pos c3]
    rw [hv]
    have hd : lead (at0 L p) = 3 := by unfold lead; rw [if_neg c1, if_neg (by omega), if_neg c2, if_pos c3]
    rw [size_pair L p (by omega) (by omega) (by intro j j1 j2; rw [hd] at j2; rcases (show j = 1 ∨ j = 2 by omega) with rfl | rfl <;> (simp only [cont, decide_eq_true_eq]; omega)), hd]
    by_cases d1 : at0 L p = 224
    · by_cases d2 : 160 ≤ at0 L (p + 1)
      · rw [if_pos (by unfold pair; rw [if_pos d1]; simpa using d2), if_neg (by simp only [badVal, decide_eq_true_eq]; omega)]
      · rw [if_neg (by unfold pair; rw [if_pos d1]; simpa using d2), if_pos (by simp only [badVal, decide_eq_true_eq]; omega)]
    · by_cases d3 : at0 L p = 237
      · by_cases d2 : at0 L (p + 1) < 160
        · rw [if_pos (by unfold pair; rw [if_neg d1, if_pos d3]; simpa using d2), if_neg (by simp only [badVal, decide_eq_true_eq]; omega)]
        · rw [if_neg (by unfold pair; rw [if_neg d1, if_pos d3]; simpa using d2), if_pos (by simp only [badVal, decide_eq_true_eq]; omega)]
      · rw [if_pos (by unfold pair; rw [if_neg d1, if_neg d3, if_neg (by omega), if_neg (by omega)]), if_neg (by simp only [badVal, decide_eq_true_eq]; omega)]
  · have hm : more (at0 L p) = 3 := by unfold more; rw [if_neg c1, if_neg c2, if_neg c3]
    rw [hm] at h ⊢
    obtain ⟨a1, b1⟩ := h 1 (by omega) (by omega)
    obtain ⟨a2, b2⟩ := h 2 (by omega) (by omega)
    obtain ⟨a3, b3⟩ := h 3 (by omega) (by omega)
    have hv : val L p 3 = 64 * (64 * (64 * (at0 L p - 240) + at0 L (p + 1) % 64) + at0 L (p + 2) % 64) + at0 L (p + 3) % 64 := by
      show 64 * (64 * (64 * val0 (at0 L p) + at0 L (p + 1) % 64) + at0 L (p + 2) % 64) + at0 L (p + 3) % 64 = _
      unfold val0; rw [if_neg c1, if_neg c2, if_neg c3]
    rw [hv]
    by_cases c4 : at0 L p < 245
    · have hd : lead (at0 L p) = 4 := by unfold lead; rw [if_neg c1, if_neg (by omega), if_neg c2, if_neg c3, if_pos c4]
      rw [size_pair L p (by omega) (by omega) (by intro j j1 j2; rw [hd] at j2; rcases (show j = 1 ∨ j = 2 ∨ j = 3 by omega) with rfl | rfl | rfl <;> (simp only [cont, decide_eq_true_eq]; omega)), hd]
      by_cases d1 : at0 L p = 240
      · by_cases d2 : 144 ≤ at0 L (p + 1)
        · rw [if_pos (by unfold pair; rw [if_neg (by omega), if_neg (by omega), if_pos d1]; simpa using d2), if_neg (by simp only [badVal, decide_eq_true_eq]; omega)]
        · rw [if_neg (by unfold pair; rw [if_neg (by omega), if_neg (by omega), if_pos d1]; simpa using d2), if_pos (by simp only [badVal, decide_eq_true_eq]; omega)]
      · by_cases d3 : at0 L p = 244
        · by_cases d2 : at0 L (p + 1) < 144
          · rw [if_pos (by unfold pair; rw [if_neg (by omega), if_neg (by omega), if_neg d1, if_pos d3]; simpa using d2), if_neg (by simp only [badVal, decide_eq_true_eq]; omega)]
          · rw [if_neg (by unfold pair; rw [if_neg (by omega), if_neg (by omega), if_neg d1, if_pos d3]; simpa using d2), if_pos (by simp only [badVal, decide_eq_true_eq]; omega)]
        · rw [if_pos (by unfold pair; rw [if_neg (by omega), if_neg (by omega), if_neg d1, if_neg d3]), if_neg (by simp only [badVal, decide_eq_true_eq]; omega)]
    · rw [size_of_lead0 L p (by unfold lead; rw [if_neg c1, if_neg (by omega), if_neg c2, if_neg c3, if_neg c4]), if_pos (by simp only [badVal, decide_eq_true_eq]; omega)]

/-- How many characters from p on, n counted so far; -1: it is no UTF-8. -/
def lettersFrom (L : List Int) : Nat → Nat → Int → Int
  | 0, _, n => n
  | f + 1, p, n => if p < L.length then (if size L p = 0 then -1 else lettersFrom L f (p + size L p) (n + 1)) else n

def lettersOf (L : List Int) : Int := lettersFrom L L.length 0 0

theorem lettersFrom_ge (L : List Int) : ∀ (f p : Nat) (n : Int), 0 ≤ n → lettersFrom L f p n = -1 ∨ n ≤ lettersFrom L f p n
  | 0, p, n, _ => Or.inr (Int.le_refl _)
  | f + 1, p, n, hn => by
      unfold lettersFrom
      by_cases h : p < L.length
      · rw [if_pos h]
        by_cases hs : size L p = 0
        · rw [if_pos hs]; exact Or.inl rfl
        · rw [if_neg hs]
          rcases lettersFrom_ge L f (p + size L p) (n + 1) (by omega) with h | h
          · exact Or.inl h
          · exact Or.inr (by omega)
      · rw [if_neg h]; exact Or.inr (Int.le_refl _)

/-- At most k characters, by both ways. -/
theorem letters_text (L : List Int) : ∀ (f k p : Nat) (n : Int), 0 ≤ n → p ≤ L.length → L.length ≤ p + f →
    textFrom L k p = decide (lettersFrom L f p n ≠ -1 ∧ lettersFrom L f p n ≤ n + k)
  | 0, k, p, n, hn, hp, hf => by
      have hpe : p = L.length := by omega
      rw [textFrom_end L k p (by omega)]
      show decide (p = L.length) = decide (n ≠ -1 ∧ n ≤ n + k)
      rw [decide_eq_decide]
      constructor
      · intro _; omega
      · intro _; exact hpe
  | f + 1, k, p, n, hn, hp, hf => by
      by_cases h : p < L.length
      · by_cases hs : size L p = 0
        · have e : lettersFrom L (f + 1) p n = -1 := by unfold lettersFrom; rw [if_pos h, if_pos hs]
          rw [e]
          cases k with
          | zero => simp [textFrom]; omega
          | succ k => rw [textFrom_bad L _ p (by omega) h hs]; simp
        · have e : lettersFrom L (f + 1) p n = lettersFrom L f (p + size L p) (n + 1) := by
            conv => lhs; unfold lettersFrom
            rw [if_pos h, if_neg hs]
          rw [e]
          have hl := (size_le L p).resolve_right hs
          cases k with
          | zero =>
            have := lettersFrom_ge L f (p + size L p) (n + 1) (by omega)
            rw [show textFrom L 0 p = false by simp [textFrom]; omega]
            symm
            rw [decide_eq_false_iff_not]
            omega
          | succ k =>
            rw [textFrom_next L k p h hs, letters_text L f k (p + size L p) (n + 1) (by omega) hl (by omega), decide_eq_decide]
            constructor
            · intro h; omega
            · intro h; omega
      · have e : lettersFrom L (f + 1) p n = n := by unfold lettersFrom; rw [if_neg h]
        rw [e, textFrom_end L k p h, decide_eq_decide]
        constructor
        · intro _; omega
        · intro _; omega

theorem fine_text (L : List Int) : isText L = decide (0 ≤ lettersOf L ∧ lettersOf L ≤ 6) := by
  unfold isText lettersOf
  rw [letters_text L L.length 6 0 0 (by omega) (by omega) (by omega), decide_eq_decide]
  have := lettersFrom_ge L L.length 0 0 (by omega)
  constructor
  · intro h; omega
  · intro h; omega

end T
end Go.Proofs.Ytcaeeaiodbjacaa
