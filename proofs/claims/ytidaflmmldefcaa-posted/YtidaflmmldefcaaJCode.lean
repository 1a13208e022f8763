/-
  Code, CodeB, CodeC, CodeD, CodeE: joined.
-/


/-
  The plain mathematics of programs: instructions, their bytes, Decode and Encode as functions on lists.
-/
namespace Go.Proofs.Ytidaflmmldefcaa
namespace H

/-- How many bytes an Op's operand takes. -/
def wid (op : Int) : Nat :=
  if op = 1 then 2 else if op = 2 ∨ op = 3 ∨ op = 16 ∨ op = 17 ∨ op = 25 then 1 else 0

/-- An instruction that is right by itself. -/
def alone (op a : Int) : Bool :=
  if op = 1 then decide (0 ≤ a ∧ a ≤ 65535)
  else if op = 2 ∨ op = 3 then decide (0 ≤ a ∧ a < 8)
  else if op = 16 ∨ op = 17 then decide (-128 ≤ a ∧ a ≤ 127)
  else if op = 25 then decide (0 ≤ a ∧ a < 4)
  else decide (op ≤ 27 ∧ a = 0)

theorem wid_le (op : Int) : wid op ≤ 2 := by
  unfold wid; split
  · omega
  · split <;> omega

/-- The bytes of a text, as numbers. -/
def bts (s : ByteArray) : List Int := s.data.toList.map fun b => (b.toNat : Int)

theorem bts_length (s : ByteArray) : (bts s).length = s.size := by simp [bts]

/-- The number at a place. -/
def at0 (L : List Int) (i : Nat) : Int := L.getD i 0

theorem at0_bts (s : ByteArray) (i : Nat) (h : i < s.size) : at0 (bts s) i = ((s[i]).toNat : Int) := by
  have h2 : i < s.data.toList.length := by simpa using h
  simp only [at0, bts, List.getD, List.getElem?_map, List.getElem?_eq_getElem h2, Option.map_some, Option.getD_some]
  rfl

theorem at0_bts_range (s : ByteArray) (i : Nat) : 0 ≤ at0 (bts s) i ∧ at0 (bts s) i ≤ 255 := by
  by_cases h : i < s.size
  · rw [at0_bts s i h]
    have := (s[i]).toNat_lt
    omega
  · have : (bts s).length ≤ i := by rw [bts_length]; omega
    simp [at0, List.getD, List.getElem?_eq_none this]

/-- A byte as a signed number. -/
def sg (b : Int) : Int := if b < 128 then b else b - 256

/-- The operand of the instruction whose Op lies at p. -/
def opnd (L : List Int) (p : Nat) : Int :=
  if at0 L p = 1 then 256 * at0 L (p + 1) + at0 L (p + 2)
  else if at0 L p = 16 ∨ at0 L p = 17 then sg (at0 L (p + 1))
  else if at0 L p = 2 ∨ at0 L p = 3 ∨ at0 L p = 25 then at0 L (p + 1)
  else 0

/-- Does the instruction i of n, which stands alone, go nowhere but where a run may go? -/
def lands (n i : Nat) (o a : Int) : Bool :=
  if o = 16 ∨ o = 17 then decide (0 ≤ (i : Int) + 1 + a ∧ (i : Int) + 1 + a ≤ n) else true

/-- The bytes of an instruction. -/
def enc (o a : Int) : List Int :=
  if wid o = 2 then [o, a / 256 % 256, a % 256] else if wid o = 1 then [o, a % 256] else [o]

theorem enc_length (o a : Int) : (enc o a).length = 1 + wid o := by
  have h := wid_le o
  unfold enc
  by_cases h2 : wid o = 2
  · simp [h2]
  · by_cases h1 : wid o = 1
    · simp [h1]
    · have h0 : wid o = 0 := by omega
      simp [h0]

end H
end Go.Proofs.Ytidaflmmldefcaa

/-
  The plain mathematics of Encode.
-/
namespace Go.Proofs.Ytidaflmmldefcaa
namespace H

def encAll (l : List (Int × Int)) : List Int := l.flatMap fun x => enc x.1 x.2

/-- The instructions from i on are right, in a program of n. -/
def okFrom (n : Nat) : Nat → List (Int × Int) → Bool
  | _, [] => true
  | i, x :: r => alone x.1 x.2 && lands n i x.1 x.2 && okFrom n (i + 1) r

def okProg (l : List (Int × Int)) : Bool := decide (1 ≤ l.length ∧ l.length ≤ 64) && okFrom l.length 0 l

theorem encAll_length (l : List (Int × Int)) : l.length ≤ (encAll l).length ∧ (encAll l).length ≤ 3 * l.length := by
  unfold encAll
  induction l with
  | nil => simp
  | cons x r ih =>
    have h1 := enc_length x.1 x.2
    have h2 := wid_le x.1
    simp only [List.flatMap_cons, List.length_append, List.length_cons]
    omega

theorem encAll_snoc (l : List (Int × Int)) (x : Int × Int) : encAll (l ++ [x]) = encAll l ++ enc x.1 x.2 := by
  simp [encAll]

theorem take_snoc (l : List (Int × Int)) (k : Nat) (x : Int × Int) (h : l[k]? = some x) : l.take (k + 1) = l.take k ++ [x] := by
  obtain ⟨hk, hx⟩ := List.getElem?_eq_some_iff.1 h
  rw [List.take_succ_eq_append_getElem hk, hx]

theorem drop_cons (l : List (Int × Int)) (k : Nat) (x : Int × Int) (h : l[k]? = some x) : l.drop k = x :: l.drop (k + 1) := by
  obtain ⟨hk, hx⟩ := List.getElem?_eq_some_iff.1 h
  rw [List.drop_eq_getElem_cons hk, hx]

theorem okFrom_step (n : Nat) (l : List (Int × Int)) (k : Nat) (x : Int × Int) (h : l[k]? = some x) :
    okFrom n k (l.drop k) = (alone x.1 x.2 && lands n k x.1 x.2 && okFrom n (k + 1) (l.drop (k + 1))) := by
  rw [drop_cons l k x h]
  rfl

end H
end Go.Proofs.Ytidaflmmldefcaa

/-
  The plain mathematics of Decode.
-/
namespace Go.Proofs.Ytidaflmmldefcaa
namespace H

/-- Reads instructions from the place p on: what was read, or the place of the first that is wrong by itself. -/
def scan : Nat → List Int → Nat → List (Int × Int) → List (Int × Int) × Option Nat
  | 0, _, _, acc => (acc, none)
  | f + 1, L, p, acc =>
    if p < L.length then
      if p + wid (at0 L p) < L.length ∧ acc.length ≠ 64 ∧ alone (at0 L p) (opnd L p) = true then
        scan f L (p + 1 + wid (at0 L p)) (acc ++ [(at0 L p, opnd L p)])
      else ([], some p)
    else (acc, none)

theorem scan_fuel (L : List Int) : ∀ (f g p : Nat) (acc : List (Int × Int)), L.length < p + f → L.length < p + g → scan f L p acc = scan g L p acc := by
  intro f
  induction f with
  | zero =>
    intro g p acc hf hg
    cases g with
    | zero => rfl
    | succ g => simp only [scan]; rw [if_neg (by omega)]
  | succ f ih =>
    intro g p acc hf hg
    cases g with
    | zero => simp only [scan]; rw [if_neg (by omega)]
    | succ g =>
      simp only [scan]
      by_cases h : p < L.length
      · rw [if_pos h, if_pos h]
        by_cases h2 : p + wid (at0 L p) < L.length ∧ acc.length ≠ 64 ∧ alone (at0 L p) (opnd L p) = true
        · rw [if_pos h2, if_pos h2]
          exact ih g _ _ (by omega) (by omega)
        · rw [if_neg h2, if_neg h2]
      · rw [if_neg h, if_neg h]

/-- Reading from p on, however far it is. -/
def scanAt (L : List Int) (p : Nat) (acc : List (Int × Int)) : List (Int × Int) × Option Nat := scan (L.length + 1) L p acc

theorem scanAt_end (L : List Int) (p : Nat) (acc : List (Int × Int)) (h : L.length ≤ p) : scanAt L p acc = (acc, none) := by
  unfold scanAt scan; rw [if_neg (by omega)]

theorem scanAt_bad (L : List Int) (p : Nat) (acc : List (Int × Int)) (h : p < L.length) (h2 : ¬ (p + wid (at0 L p) < L.length ∧ acc.length ≠ 64 ∧ alone (at0 L p) (opnd L p) = true)) :
    scanAt L p acc = ([], some p) := by
  unfold scanAt scan; rw [if_pos h, if_neg h2]

theorem scanAt_ok (L : List Int) (p : Nat) (acc : List (Int × Int)) (h : p < L.length) (h1 : p + wid (at0 L p) < L.length) (h2 : acc.length ≠ 64) (h3 : alone (at0 L p) (opnd L p) = true) :
    scanAt L p acc = scanAt L (p + 1 + wid (at0 L p)) (acc ++ [(at0 L p, opnd L p)]) := by
  unfold scanAt
  rw [scan, if_pos h, if_pos ⟨h1, h2, h3⟩]
  exact scan_fuel L _ _ _ _ (by omega) (by omega)

/-- The place of the first that goes where it may not; instructions from i on, at the place p. -/
def stray (n : Nat) : Nat → Nat → List (Int × Int) → Option Nat
  | _, _, [] => none
  | i, p, x :: r => if lands n i x.1 x.2 = true then stray n (i + 1) (p + 1 + wid x.1) r else some p

def decode (L : List Int) : List (Int × Int) × Int × Int :=
  match scanAt L 0 [] with
  | (_, some p) => ([], 1, p)
  | (l, none) =>
    if l.length = 0 then ([], 1, 0) else
    match stray l.length 0 0 l with
    | some p => ([], 1, p)
    | none => (l, 0, 0)

theorem decode_bad (L : List Int) (l : List (Int × Int)) (p : Nat) (h : scanAt L 0 [] = (l, some p)) : decode L = ([], 1, (p : Int)) := by
  unfold decode; rw [h]
theorem decode_none (L : List Int) (h : scanAt L 0 [] = ([], none)) : decode L = ([], 1, 0) := by
  unfold decode; rw [h]; simp
theorem decode_stray (L : List Int) (l : List (Int × Int)) (p : Nat) (h : scanAt L 0 [] = (l, none)) (hl : l.length ≠ 0) (hs : stray l.length 0 0 l = some p) : decode L = ([], 1, (p : Int)) := by
  unfold decode; rw [h]; simp only [if_neg hl, hs]
theorem decode_ok (L : List Int) (l : List (Int × Int)) (h : scanAt L 0 [] = (l, none)) (hl : l.length ≠ 0) (hs : stray l.length 0 0 l = none) : decode L = (l, 0, 0) := by
  unfold decode; rw [h]; simp only [if_neg hl, hs]

theorem stray_step (n : Nat) (l : List (Int × Int)) (k p : Nat) (x : Int × Int) (h : l[k]? = some x) :
    stray n k p (l.drop k) = if lands n k x.1 x.2 = true then stray n (k + 1) (p + 1 + wid x.1) (l.drop (k + 1)) else some p := by
  rw [drop_cons l k x h]
  rfl

end H
end Go.Proofs.Ytidaflmmldefcaa

/-
  The plain mathematics of the statements' own small functions: pick, code.
-/
namespace Go.Proofs.Ytidaflmmldefcaa
namespace H

/-- Which of n things the raw number c speaks of. -/
def pk (c n : Int) : Int := (if c < 0 then -(c + 1) else c) % n

theorem pk_range (c n : Int) (h : 0 < n) : 0 ≤ pk c n ∧ pk c n < n := by
  unfold pk
  exact ⟨Int.emod_nonneg _ (by omega), Int.emod_lt_of_pos _ h⟩

theorem okFrom_of (n : Nat) : ∀ (l : List (Int × Int)) (k : Nat), (∀ i x, l[i]? = some x → alone x.1 x.2 = true ∧ lands n (k + i) x.1 x.2 = true) → okFrom n k l = true
  | [], _, _ => rfl
  | y :: r, k, h => by
    have h0 := h 0 y rfl
    have hr := okFrom_of n r (k + 1) (fun i x hx => by
      have := h (i + 1) x (by simpa using hx)
      rwa [show k + 1 + i = k + (i + 1) by omega])
    simp only [okFrom]
    simp at h0
    rw [h0.1, h0.2, hr]
    rfl

/-- A list whose instructions are right, up to the place that it has come to, in a program of n. -/
def good (n : Nat) (l : List (Int × Int)) : Prop := ∀ i x, l[i]? = some x → alone x.1 x.2 = true ∧ lands n i x.1 x.2 = true ∧ 0 ≤ x.1

theorem good_snoc {n : Nat} {l : List (Int × Int)} {o a : Int} (h : good n l) (h1 : alone o a = true) (h2 : lands n l.length o a = true) (h3 : 0 ≤ o) : good n (l ++ [(o, a)]) := by
  intro i x hx
  by_cases hi : i < l.length
  · rw [List.getElem?_append_left hi] at hx
    exact h i x hx
  · rw [List.getElem?_append_right (by omega)] at hx
    have hi0 : i - l.length = 0 := by
      have := (List.getElem?_eq_some_iff.1 hx).1
      simp at this; omega
    rw [hi0] at hx
    simp at hx
    subst hx
    have : i = l.length := by omega
    subst this
    exact ⟨h1, h2, h3⟩

theorem good_okFrom {n : Nat} {l : List (Int × Int)} (h : good n l) : okFrom n 0 l = true :=
  okFrom_of n l 0 (fun i x hx => by rw [Nat.zero_add]; exact ⟨(h i x hx).1, (h i x hx).2.1⟩)

theorem good_nil (n : Nat) : good n [] := by intro i x hx; simp at hx

end H
end Go.Proofs.Ytidaflmmldefcaa

/-
  Decode and Encode held against one another, as functions on lists.
-/
namespace Go.Proofs.Ytidaflmmldefcaa
namespace H

theorem at0_pre (pre r : List Int) (i : Nat) : at0 (pre ++ r) (pre.length + i) = at0 r i := by
  simp [at0, List.getD, List.getElem?_append_right (Nat.le_add_right pre.length i)]

theorem at0_pre0 (pre r : List Int) : at0 (pre ++ r) pre.length = at0 r 0 := at0_pre pre r 0

theorem alone_op (o a : Int) (h : alone o a = true) : o ≤ 27 := by
  unfold alone at h
  by_cases h1 : o = 1
  · omega
  by_cases h2 : o = 2 ∨ o = 3
  · omega
  by_cases h3 : o = 16 ∨ o = 17
  · omega
  by_cases h4 : o = 25
  · omega
  rw [if_neg h1, if_neg h2, if_neg h3, if_neg h4] at h
  simp at h
  omega

/-- An instruction's bytes are read as what it is. -/
theorem opnd_enc (pre rest : List Int) (o a : Int) (h : alone o a = true) :
    at0 (pre ++ (enc o a ++ rest)) pre.length = o ∧ opnd (pre ++ (enc o a ++ rest)) pre.length = a := by
  have e0 : at0 (pre ++ (enc o a ++ rest)) pre.length = o := by
    rw [at0_pre0]
    unfold enc
    split
    · rfl
    · split <;> rfl
  refine ⟨e0, ?_⟩
  unfold opnd
  rw [e0]
  by_cases h1 : o = 1
  · subst h1
    rw [if_pos rfl, at0_pre, at0_pre]
    simp [alone] at h
    have e : enc 1 a = [1, a / 256 % 256, a % 256] := by simp [enc, wid]
    rw [e]
    simp [at0]
    omega
  rw [if_neg h1]
  by_cases h3 : o = 16 ∨ o = 17
  · rw [if_pos h3, at0_pre]
    have ha : -128 ≤ a ∧ a ≤ 127 := by rcases h3 with rfl | rfl <;> simpa [alone] using h
    have e : enc o a = [o, a % 256] := by rcases h3 with rfl | rfl <;> simp [enc, wid]
    rw [e]
    simp [at0, sg]
    split <;> omega
  rw [if_neg h3]
  by_cases h2 : o = 2 ∨ o = 3 ∨ o = 25
  · rw [if_pos h2, at0_pre]
    have ha : 0 ≤ a ∧ a < 8 := by
      rcases h2 with rfl | rfl | rfl
      · simpa [alone] using h
      · simpa [alone] using h
      · have := h; simp [alone] at this; omega
    have e : enc o a = [o, a % 256] := by rcases h2 with rfl | rfl | rfl <;> simp [enc, wid]
    rw [e]
    simp [at0]
    omega
  rw [if_neg h2]
  have : a = 0 := by
    unfold alone at h
    rw [if_neg h1, if_neg (by omega), if_neg h3, if_neg (by omega)] at h
    simp at h
    exact h.2
  exact this.symm

theorem scan_enc (tail : List Int) : ∀ (l : List (Int × Int)) (pre : List Int) (acc : List (Int × Int)), acc.length + l.length ≤ 64 → (∀ x ∈ l, alone x.1 x.2 = true) →
    scanAt (pre ++ (encAll l ++ tail)) pre.length acc = scanAt (pre ++ (encAll l ++ tail)) (pre.length + (encAll l).length) (acc ++ l)
  | [], pre, acc, _, _ => by simp [encAll]
  | (o, a) :: r, pre, acc, hl, ha => by
    have h0 := ha (o, a) (by simp)
    simp only at h0
    have eL : pre ++ (encAll ((o, a) :: r) ++ tail) = pre ++ (enc o a ++ (encAll r ++ tail)) := by simp [encAll]
    obtain ⟨e1, e2⟩ := opnd_enc pre (encAll r ++ tail) o a h0
    have hlen : (pre ++ (enc o a ++ (encAll r ++ tail))).length = pre.length + (1 + wid o) + (encAll r ++ tail).length := by
      simp only [List.length_append, enc_length]; omega
    rw [eL, scanAt_ok _ _ _ (by rw [hlen]; omega) (by rw [e1, hlen]; omega) (by simp at hl; omega) (by rw [e1, e2]; exact h0), e1, e2]
    have ih := scan_enc tail r (pre ++ enc o a) (acc ++ [(o, a)]) (by simp at hl ⊢; omega) (fun x hx => ha x (by simp [hx]))
    rw [List.append_assoc] at ih
    rw [show (pre ++ enc o a).length = pre.length + 1 + wid o by simp [enc_length]; omega] at ih
    rw [ih]
    simp [encAll, enc_length]
    congr 1
    omega

theorem stray_of_ok (n : Nat) : ∀ (l : List (Int × Int)) (i p : Nat), okFrom n i l = true → stray n i p l = none
  | [], _, _, _ => rfl
  | x :: r, i, p, h => by
    simp only [okFrom, Bool.and_eq_true] at h
    simp only [stray]
    rw [if_pos h.1.2]
    exact stray_of_ok n r _ _ h.2

theorem ok_of_stray (n : Nat) : ∀ (l : List (Int × Int)) (i p : Nat), (∀ x ∈ l, alone x.1 x.2 = true) → stray n i p l = none → okFrom n i l = true
  | [], _, _, _, _ => rfl
  | x :: r, i, p, ha, h => by
    simp only [stray] at h
    by_cases hl : lands n i x.1 x.2 = true
    · rw [if_pos hl] at h
      simp only [okFrom, Bool.and_eq_true]
      exact ⟨⟨ha x (by simp), hl⟩, ok_of_stray n r _ _ (fun y hy => ha y (by simp [hy])) h⟩
    · rw [if_neg hl] at h; cases h

theorem stray_le (n : Nat) : ∀ (l : List (Int × Int)) (i p q : Nat), stray n i p l = some q → q ≤ p + (encAll l).length
  | [], _, _, _, h => by simp [stray] at h
  | x :: r, i, p, q, h => by
    simp only [stray] at h
    have e : (encAll (x :: r)).length = (1 + wid x.1) + (encAll r).length := by simp [encAll, enc_length]
    by_cases hl : lands n i x.1 x.2 = true
    · rw [if_pos hl] at h
      have := stray_le n r _ _ _ h
      omega
    · rw [if_neg hl] at h
      simp at h
      omega

theorem okFrom_alone (n : Nat) : ∀ (l : List (Int × Int)) (i : Nat), okFrom n i l = true → ∀ x ∈ l, alone x.1 x.2 = true
  | [], _, _, x, hx => by simp at hx
  | y :: r, i, h, x, hx => by
    simp only [okFrom, Bool.and_eq_true] at h
    rcases List.mem_cons.1 hx with rfl | hx
    · exact h.1.1
    · exact okFrom_alone n r _ h.2 x hx

theorem decode_enc (l : List (Int × Int)) (h1 : 1 ≤ l.length) (h64 : l.length ≤ 64) (h : okFrom l.length 0 l = true) : decode (encAll l) = (l, 0, 0) := by
  have hs := scan_enc [] l [] [] (by simpa using h64) (okFrom_alone _ _ _ h)
  simp at hs
  refine decode_ok _ l (hs.trans (scanAt_end _ _ _ (Nat.le_refl _))) (by omega) (stray_of_ok _ _ _ _ h)

theorem alone_255 (a : Int) : alone 255 a = false := by simp [alone]

theorem decode_255 (L : List Int) : decode (255 :: L) = ([], 1, 0) := by
  have e : at0 (255 :: L) 0 = 255 := rfl
  exact decode_bad _ [] 0 (scanAt_bad _ _ _ (by simp) (by rw [e, alone_255]; simp))

theorem decode_enc_255 (l : List (Int × Int)) (h64 : l.length ≤ 64) (h : okFrom l.length 0 l = true) : decode (encAll l ++ [255]) = ([], 1, ((encAll l).length : Int)) := by
  have hs := scan_enc [255] l [] [] (by simpa using h64) (okFrom_alone _ _ _ h)
  simp only [List.nil_append, List.length_nil, Nat.zero_add] at hs
  have e : at0 (encAll l ++ [255]) (encAll l).length = 255 := by rw [at0_pre0]; rfl
  exact decode_bad _ [] _ (hs.trans (scanAt_bad _ _ _ (by simp) (by rw [e, alone_255]; simp)))

theorem scan_place : ∀ (f : Nat) (L : List Int) (p : Nat) (acc l : List (Int × Int)) (q : Nat), scan f L p acc = (l, some q) → q < L.length
  | 0, L, p, acc, l, q, h => by simp [scan] at h
  | f + 1, L, p, acc, l, q, h => by
    simp only [scan] at h
    by_cases h1 : p < L.length
    · rw [if_pos h1] at h
      by_cases h2 : p + wid (at0 L p) < L.length ∧ acc.length ≠ 64 ∧ alone (at0 L p) (opnd L p) = true
      · rw [if_pos h2] at h
        exact scan_place f L _ _ _ _ h
      · rw [if_neg h2] at h
        simp at h
        omega
    · rw [if_neg h1] at h; simp at h

theorem drop_at0 (L : List Int) (p : Nat) (h : p < L.length) : L.drop p = at0 L p :: L.drop (p + 1) := by
  rw [List.drop_eq_getElem_cons h]
  simp [at0, List.getD, List.getElem?_eq_getElem h]

/-- What is read is written as it stood. -/
theorem enc_read (L : List Int) (p : Nat) (hb : ∀ i, 0 ≤ at0 L i ∧ at0 L i ≤ 255) (h : p + wid (at0 L p) < L.length) : L.drop p = enc (at0 L p) (opnd L p) ++ L.drop (p + 1 + wid (at0 L p)) := by
  have b1 := hb (p + 1)
  have b2 := hb (p + 2)
  by_cases h2 : at0 L p = 1
  · have hw : wid (at0 L p) = 2 := by rw [h2]; rfl
    rw [hw] at h ⊢
    unfold enc opnd
    rw [if_pos hw, if_pos h2]
    rw [drop_at0 L p (by omega), drop_at0 L (p + 1) (by omega), drop_at0 L (p + 1 + 1) (by omega)]
    simp only [List.cons_append, List.nil_append, List.cons.injEq, true_and]
    refine ⟨by omega, ?_, by simp⟩
    rw [show p + 1 + 1 = p + 2 by omega]; omega
  · have hle := wid_le (at0 L p)
    by_cases h3 : wid (at0 L p) = 1
    · unfold enc
      rw [if_neg (by omega), if_pos h3, h3]
      rw [h3] at h
      rw [drop_at0 L p (by omega), drop_at0 L (p + 1) (by omega)]
      simp only [List.cons_append, List.nil_append, List.cons.injEq, true_and]
      refine ⟨?_, by simp⟩
      unfold opnd
      rw [if_neg h2]
      by_cases h4 : at0 L p = 16 ∨ at0 L p = 17
      · rw [if_pos h4]; unfold sg; split <;> omega
      · rw [if_neg h4]
        have h5 : at0 L p = 2 ∨ at0 L p = 3 ∨ at0 L p = 25 := by
          unfold wid at h3
          rw [if_neg h2] at h3
          by_cases h6 : at0 L p = 2 ∨ at0 L p = 3 ∨ at0 L p = 16 ∨ at0 L p = 17 ∨ at0 L p = 25
          · omega
          · rw [if_neg h6] at h3; omega
        rw [if_pos h5]; omega
    · have hw : wid (at0 L p) = 0 := by
        unfold wid at h3 ⊢
        rw [if_neg h2] at h3 ⊢
        split at h3
        · omega
        · rename_i h6; rw [if_neg h6]
      rw [hw] at h ⊢
      unfold enc
      rw [if_neg (by omega), if_neg h3]
      rw [drop_at0 L p (by omega)]
      simp

theorem scan_back : ∀ (f : Nat) (L : List Int) (p : Nat) (acc l : List (Int × Int)), (∀ i, 0 ≤ at0 L i ∧ at0 L i ≤ 255) → L.length < p + f → acc.length ≤ 64 → scan f L p acc = (l, none) →
    ∃ r, l = acc ++ r ∧ L.drop p = encAll r ∧ l.length ≤ 64 ∧ (∀ x ∈ r, alone x.1 x.2 = true)
  | 0, L, p, acc, l, hb, hf, h64, h => by
    simp [scan] at h
    subst h
    exact ⟨[], by simp, by rw [List.drop_of_length_le (by omega)]; rfl, h64, by simp⟩
  | f + 1, L, p, acc, l, hb, hf, h64, h => by
    simp only [scan] at h
    by_cases h1 : p < L.length
    · rw [if_pos h1] at h
      by_cases h2 : p + wid (at0 L p) < L.length ∧ acc.length ≠ 64 ∧ alone (at0 L p) (opnd L p) = true
      · rw [if_pos h2] at h
        obtain ⟨r, e1, e2, e3, e4⟩ := scan_back f L _ _ _ hb (by omega) (by have := h2.2.1; simp; omega) h
        refine ⟨(at0 L p, opnd L p) :: r, by rw [e1]; simp, ?_, e3, ?_⟩
        · rw [enc_read L p hb h2.1, e2]; simp [encAll]
        · intro x hx
          rcases List.mem_cons.1 hx with rfl | hx
          · exact h2.2.2
          · exact e4 x hx
      · rw [if_neg h2] at h; simp at h
    · rw [if_neg h1] at h
      simp at h
      subst h
      exact ⟨[], by simp, by rw [List.drop_of_length_le (by omega)]; rfl, h64, by simp⟩

/-- What Decode answers, of any bytes. -/
theorem decode_cases (L : List Int) (hb : ∀ i, 0 ≤ at0 L i ∧ at0 L i ≤ 255) :
    (∃ p : Nat, p ≤ L.length ∧ decode L = ([], 1, (p : Int))) ∨
    (∃ l, decode L = (l, 0, 0) ∧ 1 ≤ l.length ∧ l.length ≤ 64 ∧ okFrom l.length 0 l = true ∧ encAll l = L) := by
  rcases hs : scanAt L 0 [] with ⟨l, q⟩
  cases q with
  | some q =>
    exact .inl ⟨q, Nat.le_of_lt (scan_place _ _ _ _ _ _ hs), decode_bad L l q hs⟩
  | none =>
    obtain ⟨r, e1, e2, e3, e4⟩ := scan_back _ L 0 [] l hb (by omega) (by simp) hs
    simp at e1 e2
    subst e1
    by_cases h0 : l.length = 0
    · have : l = [] := List.eq_nil_of_length_eq_zero h0
      subst this
      exact .inl ⟨0, Nat.zero_le _, decode_none L hs⟩
    · cases ht : stray l.length 0 0 l with
      | some q =>
        refine .inl ⟨q, ?_, decode_stray L l q hs h0 ht⟩
        have := stray_le _ _ _ _ _ ht
        rw [e2]; omega
      | none =>
        exact .inr ⟨l, decode_ok L l hs h0 ht, by omega, e3, ok_of_stray _ _ _ _ e4 ht, e2.symm⟩

end H
end Go.Proofs.Ytidaflmmldefcaa
