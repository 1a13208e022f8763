/-
  Decode and Encode held against one another, as functions on lists.
-/
import Derived.Test.YtfggaacijcggeaaCodeD
namespace Go.Proofs.Ytfggaacijcggeaa
namespace H

theorem at0_pre (pre r : List Int) (i : Nat) : at0 (pre ++ r) (pre.length + i) = at0 r i := by
  simp [at0, List.getD, List.getElem?_append_right (Nat.le_add_right pre.length i)]

theorem at0_pre0 (pre r : List Int) : at0 (pre ++ r) pre.length = at0 r 0 := at0_pre pre r 0

theorem alone_op (o a : Int) (h : alone o a = true) : o ≤ 27 := by
  unfold alone at h
  by_cases h1 : o = 1
  · omega
  by_cases h2 : o = 2 ∨ o = 3
  · omega
  by_cases h3 : o = 16 ∨ o = 17
  · omega
  by_cases h4 : o = 25
  · omega
  rw [if_neg h1, if_neg h2, if_neg h3, if_neg h4] at h
  simp at h
  omega

/-- An instruction's bytes are read as what it is. -/
theorem opnd_enc (pre rest : List Int) (o a : Int) (h : alone o a = true) :
    at0 (pre ++ (enc o a ++ rest)) pre.length = o ∧ opnd (pre ++ (enc o a ++ rest)) pre.length = a := by
  have e0 : at0 (pre ++ (enc o a ++ rest)) pre.length = o := by
    rw [at0_pre0]
    unfold enc
    split
    · rfl
    · split <;> rfl
  refine ⟨e0, ?_⟩
  unfold opnd
  rw [e0]
  by_cases h1 : o = 1
  · subst h1
    rw [if_pos rfl, at0_pre, at0_pre]
    simp [alone] at h
    have e : enc 1 a = [1, a / 256 % 256, a % 256] := by simp [enc, wid]
    rw [e]
    simp [at0]
    omega
  rw [if_neg h1]
  by_cases h3 : o = 16 ∨ o = 17
  · rw [if_pos h3, at0_pre]
    have ha : -128 ≤ a ∧ a ≤ 127 := by rcases h3 with rfl | rfl <;> simpa [alone] using h
    have e : enc o a = [o, a % 256] := by rcases h3 with rfl | rfl <;> simp [enc, wid]
    rw [e]
    simp [at0, sg]
    split <;> omega
  rw [if_neg h3]
  by_cases h2 : o = 2 ∨ o = 3 ∨ o = 25
  · rw [if_pos h2, at0_pre]
    have ha : 0 ≤ a ∧ a < 8 := by
      rcases h2 with rfl | rfl | rfl
      · simpa [alone] using h
      · simpa [alone] using h
      · have := h; simp [alone] at this; omega
    have e : enc o a = [o, a % 256] := by rcases h2 with rfl | rfl | rfl <;> simp [enc, wid]
    rw [e]
    simp [at0]
    omega
  rw [if_neg h2]
  have : a = 0 := by
    unfold alone at h
    rw [if_neg h1, if_neg (by omega), if_neg h3, if_neg (by omega)] at h
    simp at h
    exact h.2
  exact this.symm

theorem scan_enc (tail : List Int) : ∀ (l : List (Int × Int)) (pre : List Int) (acc : List (Int × Int)), acc.length + l.length ≤ 64 → (∀ x ∈ l, alone x.1 x.2 = true) →
    scanAt (pre ++ (encAll l ++ tail)) pre.length acc = scanAt (pre ++ (encAll l ++ tail)) (pre.length + (encAll l).length) (acc ++ l)
  | [], pre, acc, _, _ => by simp [encAll]
  | (o, a) :: r, pre, acc, hl, ha => by
    have h0 := ha (o, a) (by simp)
    simp only at h0
    have eL : pre ++ (encAll ((o, a) :: r) ++ tail) = pre ++ (enc o a ++ (encAll r ++ tail)) := by simp [encAll]
    obtain ⟨e1, e2⟩ := opnd_enc pre (encAll r ++ tail) o a h0
    have hlen : (pre ++ (enc o a ++ (encAll r ++ tail))).length = pre.length + (1 + wid o) + (encAll r ++ tail).length := by
      simp only [List.length_append, enc_length]; omega
    rw [eL, scanAt_ok _ _ _ (by rw [hlen]; omega) (by rw [e1, hlen]; omega) (by simp at hl; omega) (by rw [e1, e2]; exact h0), e1, e2]
    have ih := scan_enc tail r (pre ++ enc o a) (acc ++ [(o, a)]) (by simp at hl ⊢; omega) (fun x hx => ha x (by simp [hx]))
    rw [List.append_assoc] at ih
    rw [show (pre ++ enc o a).length = pre.length + 1 + wid o by simp [enc_length]; omega] at ih
    rw [ih]
    simp [encAll, enc_length]
    congr 1
    omega

theorem stray_of_ok (n : Nat) : ∀ (l : List (Int × Int)) (i p : Nat), okFrom n i l = true → stray n i p l = none
  | [], _, _, _ => rfl
  | x :: r, i, p, h => by
    simp only [okFrom, Bool.and_eq_true] at h
    simp only [stray]
    rw [if_pos h.1.2]
    exact stray_of_ok n r _ _ h.2

theorem ok_of_stray (n : Nat) : ∀ (l : List (Int × Int)) (i p : Nat), (∀ x ∈ l, alone x.1 x.2 = true) → stray n i p l = none → okFrom n i l = true
  | [], _, _, _, _ => rfl
  | x :: r, i, p, ha, h => by
    simp only [stray] at h
    by_cases hl : lands n i x.1 x.2 = true
    · rw [if_pos hl] at h
      simp only [okFrom, Bool.and_eq_true]
      exact ⟨⟨ha x (by simp), hl⟩, ok_of_stray n r _ _ (fun y hy => ha y (by simp [hy])) h⟩
    · rw [if_neg hl] at h; cases h

theorem stray_le (n : Nat) : ∀ (l : List (Int × Int)) (i p q : Nat), stray n i p l = some q → q ≤ p + (encAll l).length
  | [], _, _, _, h => by simp [stray] at h
  | x :: r, i, p, q, h => by
    simp only [stray] at h
    have e : (encAll (x :: r)).length = (1 + wid x.1) + (encAll r).length := by simp [encAll, enc_length]
    by_cases hl : lands n i x.1 x.2 = true
    · rw [if_pos hl] at h
      have := stray_le n r _ _ _ h
      omega
    · rw [if_neg hl] at h
      simp at h
      omega

theorem okFrom_alone (n : Nat) : ∀ (l : List (Int × Int)) (i : Nat), okFrom n i l = true → ∀ x ∈ l, alone x.1 x.2 = true
  | [], _, _, x, hx => by simp at hx
  | y :: r, i, h, x, hx => by
    simp only [okFrom, Bool.and_eq_true] at h
    rcases List.mem_cons.1 hx with rfl | hx
    · exact h.1.1
    · exact okFrom_alone n r _ h.2 x hx

theorem decode_enc (l : List (Int × Int)) (h1 : 1 ≤ l.length) (h64 : l.length ≤ 64) (h : okFrom l.length 0 l = true) : decode (encAll l) = (l, 0, 0) := by
  have hs := scan_enc [] l [] [] (by simpa using h64) (okFrom_alone _ _ _ h)
  simp at hs
  refine decode_ok _ l (hs.trans (scanAt_end _ _ _ (Nat.le_refl _))) (by omega) (stray_of_ok _ _ _ _ h)

theorem alone_255 (a : Int) : alone 255 a = false := by simp [alone]

theorem decode_255 (L : List Int) : decode (255 :: L) = ([], 1, 0) := by
  have e : at0 (255 :: L) 0 = 255 := rfl
  exact decode_bad _ [] 0 (scanAt_bad _ _ _ (by simp) (by rw [e, alone_255]; simp))

theorem decode_enc_255 (l : List (Int × Int)) (h64 : l.length ≤ 64) (h : okFrom l.length 0 l = true) : decode (encAll l ++ [255]) = ([], 1, ((encAll l).length : Int)) := by
  have hs := scan_enc [255] l [] [] (by simpa using h64) (okFrom_alone _ _ _ h)
  simp only [List.nil_append, List.length_nil, Nat.zero_add] at hs
  have e : at0 (encAll l ++ [255]) (encAll l).length = 255 := by rw [at0_pre0]; rfl
  exact decode_bad _ [] _ (hs.trans (scanAt_bad _ _ _ (by simp) (by rw [e, alone_255]; simp)))

theorem scan_place : ∀ (f : Nat) (L : List Int) (p : Nat) (acc l : List (Int × Int)) (q : Nat), scan f L p acc = (l, some q) → q < L.length
  | 0, L, p, acc, l, q, h => by simp [scan] at h
  | f + 1, L, p, acc, l, q, h => by
    simp only [scan] at h
    by_cases h1 : p < L.length
    · rw [if_pos h1] at h
      by_cases h2 : p + wid (at0 L p) < L.length ∧ acc.length ≠ 64 ∧ alone (at0 L p) (opnd L p) = true
      · rw [if_pos h2] at h
        exact scan_place f L _ _ _ _ h
      · rw [if_neg h2] at h
        simp at h
        omega
    · rw [if_neg h1] at h; simp at h

theorem drop_at0 (L : List Int) (p : Nat) (h : p < L.length) : L.drop p = at0 L p :: L.drop (p + 1) := by
  rw [List.drop_eq_getElem_cons h]
  simp [at0, List.getD, List.getElem?_eq_getElem h]

/-- What is read is written as it stood. -/
theorem enc_read (L : List Int) (p : Nat) (hb : ∀ i, 0 ≤ at0 L i ∧ at0 L i ≤ 255) (h : p + wid (at0 L p) < L.length) : L.drop p = enc (at0 L p) (opnd L p) ++ L.drop (p + 1 + wid (at0 L p)) := by
  have b1 := hb (p + 1)
  have b2 := hb (p + 2)
  by_cases h2 : at0 L p = 1
  · have hw : wid (at0 L p) = 2 := by rw [h2]; rfl
    rw [hw] at h ⊢
    unfold enc opnd
    rw [if_pos hw, if_pos h2]
    rw [drop_at0 L p (by omega), drop_at0 L (p + 1) (by omega), drop_at0 L (p + 1 + 1) (by omega)]
    simp only [List.cons_append, List.nil_append, List.cons.injEq, true_and]
    refine ⟨by omega, ?_, by simp⟩
    rw [show p + 1 + 1 = p + 2 by omega]; omega
  · have hle := wid_le (at0 L p)
    by_cases h3 : wid (at0 L p) = 1
    · unfold enc
      rw [if_neg (by omega), if_pos h3, h3]
      rw [h3] at h
      rw [drop_at0 L p (by omega), drop_at0 L (p + 1) (by omega)]
      simp only [List.cons_append, List.nil_append, List.cons.injEq, true_and]
      refine ⟨?_, by simp⟩
      unfold opnd
      rw [if_neg h2]
      by_cases h4 : at0 L p = 16 ∨ at0 L p = 17
      · rw [if_pos h4]; unfold sg; split <;> omega
      · rw [if_neg h4]
        have h5 : at0 L p = 2 ∨ at0 L p = 3 ∨ at0 L p = 25 := by
          unfold wid at h3
          rw [if_neg h2] at h3
          by_cases h6 : at0 L p = 2 ∨ at0 L p = 3 ∨ at0 L p = 16 ∨ at0 L p = 17 ∨ at0 L p = 25
          · omega
          · rw [if_neg h6] at h3; omega
        rw [if_pos h5]; omega
    · have hw : wid (at0 L p) = 0 := by
        unfold wid at h3 ⊢
        rw [if_neg h2] at h3 ⊢
        split at h3
        · omega
        · rename_i h6; rw [if_neg h6]
      rw [hw] at h ⊢
      unfold enc
      rw [if_neg (by omega), if_neg h3]
      rw [drop_at0 L p (by omega)]
      simp

theorem scan_back : ∀ (f : Nat) (L : List Int) (p : Nat) (acc l : List (Int × Int)), (∀ i, 0 ≤ at0 L i ∧ at0 L i ≤ 255) → L.length < p + f → acc.length ≤ 64 → scan f L p acc = (l, none) →
    ∃ r, l = acc ++ r ∧ L.drop p = encAll r ∧ l.length ≤ 64 ∧ (∀ x ∈ r, alone x.1 x.2 = true)
  | 0, L, p, acc, l, hb, hf, h64, h => by
    simp [scan] at h
    subst h
    exact ⟨[], by simp, by rw [List.drop_of_length_le (by omega)]; rfl, h64, by simp⟩
  | f + 1, L, p, acc, l, hb, hf, h64, h => by
    simp only [scan] at h
    by_cases h1 : p < L.length
    · rw [if_pos h1] at h
      by_cases h2 : p + wid (at0 L p) < L.length ∧ acc.length ≠ 64 ∧ alone (at0 L p) (opnd L p) = true
      · rw [if_pos h2] at h
        obtain ⟨r, e1, e2, e3, e4⟩ := scan_back f L _ _ _ hb (by omega) (by have := h2.2.1; simp; omega) h
        refine ⟨(at0 L p, opnd L p) :: r, by rw [e1]; simp, ?_, e3, ?_⟩
        · rw [enc_read L p hb h2.1, e2]; simp [encAll]
        · intro x hx
          rcases List.mem_cons.1 hx with rfl | hx
          · exact h2.2.2
          · exact e4 x hx
      · rw [if_neg h2] at h; simp at h
    · rw [if_neg h1] at h
      simp at h
      subst h
      exact ⟨[], by simp, by rw [List.drop_of_length_le (by omega)]; rfl, h64, by simp⟩

/-- What Decode answers, of any bytes. -/
theorem decode_cases (L : List Int) (hb : ∀ i, 0 ≤ at0 L i ∧ at0 L i ≤ 255) :
    (∃ p : Nat, p ≤ L.length ∧ decode L = ([], 1, (p : Int))) ∨
    (∃ l, decode L = (l, 0, 0) ∧ 1 ≤ l.length ∧ l.length ≤ 64 ∧ okFrom l.length 0 l = true ∧ encAll l = L) := by
  rcases hs : scanAt L 0 [] with ⟨l, q⟩
  cases q with
  | some q =>
    exact .inl ⟨q, Nat.le_of_lt (scan_place _ _ _ _ _ _ hs), decode_bad L l q hs⟩
  | none =>
    obtain ⟨r, e1, e2, e3, e4⟩ := scan_back _ L 0 [] l hb (by omega) (by simp) hs
    simp at e1 e2
    subst e1
    by_cases h0 : l.length = 0
    · have : l = [] := List.eq_nil_of_length_eq_zero h0
      subst this
      exact .inl ⟨0, Nat.zero_le _, decode_none L hs⟩
    · cases ht : stray l.length 0 0 l with
      | some q =>
        refine .inl ⟨q, ?_, decode_stray L l q hs h0 ht⟩
        have := stray_le _ _ _ _ _ ht
        rw [e2]; omega
      | none =>
        exact .inr ⟨l, decode_ok L l hs h0 ht, by omega, e3, ok_of_stray _ _ _ _ e4 ht, e2.symm⟩

end H
end Go.Proofs.Ytfggaacijcggeaa
