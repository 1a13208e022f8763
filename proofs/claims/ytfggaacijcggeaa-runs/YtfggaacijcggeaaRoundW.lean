/-
  The walk of Round.
-/
import Derived.Test.YtfggaacijcggeaaJCodeW
import Derived.Test.YtfggaacijcggeaaJCode
import Derived.Deep.QuietTactic
import Derived.BigQuiet
namespace Go.Proofs.Ytfggaacijcggeaa
open Go.RowKit
set_option linter.unusedVariables false

theorem bts_strOfNums (xs : List Int) (h : ∀ x ∈ xs, 0 ≤ x ∧ x ≤ 255) : H.bts (strOfNums xs) = xs := by
  unfold H.bts
  rw [strOfNums_data]
  simp only [List.map_map]
  conv => rhs; rw [← List.map_id xs]
  apply List.map_congr_left
  intro x hx
  have := h x hx
  simp [UInt8.toNat_ofNat']
  omega

theorem enc_bytes (o a : Int) (h0 : 0 ≤ o) (h1 : o ≤ 255) : ∀ x ∈ H.enc o a, 0 ≤ x ∧ x ≤ 255 := by
  intro x hx
  unfold H.enc at hx
  split at hx
  · simp at hx; omega
  · split at hx
    · simp at hx; omega
    · simp at hx; omega

theorem encAll_bytes (l : List (Int × Int)) (h : ∀ x ∈ l, 0 ≤ x.1 ∧ x.1 ≤ 255) : ∀ x ∈ H.encAll l, 0 ≤ x ∧ x ≤ 255 := by
  intro x hx
  unfold H.encAll at hx
  obtain ⟨y, hy, hxy⟩ := List.mem_flatMap.1 hx
  exact enc_bytes _ _ (h y hy).1 (h y hy).2 x hxy

theorem good_ops {n : Nat} {l : List (Int × Int)} (h : H.good n l) : ∀ x ∈ l, 0 ≤ x.1 ∧ x.1 ≤ 255 := by
  intro x hx
  obtain ⟨i, hi⟩ := List.mem_iff_getElem?.1 hx
  have h1 := h i x hi
  have := H.alone_op _ _ h1.1
  omega

theorem bts_append (s t : ByteArray) : H.bts (s ++ t) = H.bts s ++ H.bts t := by
  unfold H.bts
  simp

theorem own_slice {w : World} {base n : Nat} {v : Value} {xs : List Value} {e size : Nat} (h : w.ownsRow base e size v n xs) (hn : n ≠ 0) : ∃ g cap, v = .slice (some ⟨g, 0, none⟩) n cap ∧ g < w.heap.size := by
  rcases h.2 with ⟨_, h⟩ | ⟨g, cap, _, h, _, hh, _⟩
  · omega
  · exact ⟨g, cap, h, lt_of_block hh⟩

theorem strOfNums_bts (s : ByteArray) : strOfNums (H.bts s) = s := by
  have h : (strOfNums (H.bts s)).data.toList = s.data.toList := by
    rw [strOfNums_data]
    unfold H.bts
    simp only [List.map_map]
    conv => rhs; rw [← List.map_id s.data.toList]
    apply List.map_congr_left
    intro x _
    simp
  have h2 : (strOfNums (H.bts s)).data = s.data := Array.toList_inj.1 h
  cases s
  cases hs : strOfNums (H.bts _)
  rw [hs] at h2
  simp at h2
  rw [h2]

theorem ff_one : (⟨#[255]⟩ : ByteArray).size = 1 := rfl
theorem ff_size (t : ByteArray) (h : t.size ≤ 200) : ((⟨#[255]⟩ : ByteArray) ++ t).size ≤ maxLen ∧ (t ++ (⟨#[255]⟩ : ByteArray)).size ≤ maxLen := by
  rw [ByteArray.size_append, ByteArray.size_append, ff_one]
  unfold maxLen
  omega

set_option maxHeartbeats 4000000 in
theorem round_any (ao : Option Addr) (b off n cap : Nat) (raw : List (Int × Int)) (s : ByteArray) (w : World) (hao : 0 < n → ao = some ⟨b, off, none⟩) (hn : raw.length = n) (hmax : n ≤ maxLen) (hraw : rawOk raw) (hrow : InsRow w b off raw) (hs : s.size ≤ maxLen) :
    Calls Try.prog 5 #[.slice ao n cap, .string s] w fun e w' => e = .returned (.bool true) ∧ Below w.heap.size w w' := by
  have HC := code_any ao b off n cap raw w hao hn hmax hraw hrow
  have HS : Hid (s.size ≤ maxLen) := hs
  have HCod : Hid (Calls Try.prog 18 #[.slice ao n cap] w fun e w' => codeEnd w e w') := HC
  clear HC hao hn hmax hraw hrow
  unfold maxLen at hs
  go_enter Try.func5, Try.ntmps5
  go_wp2_with fail
  refine HCod.out.mono ?_
  rintro e w1 ⟨v, l, rfl, h1, h64, hg, hown, hb1⟩
  obtain ⟨g, cv, rfl, hgl⟩ := own_slice hown (by omega)
  obtain ⟨m, hm⟩ : ∃ m, m = l.length := ⟨_, rfl⟩
  have Hm : Hid (m = l.length) := hm
  rw [← hm] at h1 h64 hg hown ⊢
  have HG : Hid (H.good m l) := hg
  have HO1 : Hid (w1.ownsRow w.heap.size 28 2 (.slice (some ⟨g, 0, none⟩) m cv) m (insCells l)) := hown
  have HB1 : Hid (Below w.heap.size w w1) := hb1
  have hs1 := hb1.size
  have hok : Hid (H.okFrom m 0 l = true) := H.good_okFrom hg
  clear hg hown hb1 hm HCod
  go_wp2_with fail
  refine (enc_mid g 0 m cv l _ h1 h64 Hm.out.symm (own_insRow HO1.out Hm.out.symm)).mono ?_
  rintro e w2 ⟨rfl, hb2⟩
  obtain ⟨t, ht⟩ : ∃ t, t = strOfNums (H.encAll l) := ⟨_, rfl⟩
  have e1 : encS m l = t := by rw [ht]; unfold encS; rw [hok.out]; rfl
  have e2 : encE m l = 0 := by unfold encE; rw [hok.out]; rfl
  rw [e1, e2]
  have Ht : Hid (H.bts t = H.encAll l) := by unfold Hid; rw [ht]; exact bts_strOfNums _ (encAll_bytes _ (good_ops HG.out))
  have htl := (H.encAll_length l).2
  have htz : t.size ≤ 200 := by
    rw [← H.bts_length t, Ht.out]
    have := Hm.out
    omega
  have HB2 : Hid (Below w.heap.size w w2) := HB1.out.trans (hb2.mono hs1)
  have HO2 : Hid (w2.ownsRow w.heap.size 28 2 (.slice (some ⟨g, 0, none⟩) m cv) m (insCells l)) := own_below' HO1.out hb2 (Nat.le_refl _)
  have hs2 := HB2.out.size
  clear hb2 e1 e2 ht htl HO1 HB1
  go_wp2_with fail
  refine (dec_any t _ (by unfold maxLen; omega)).mono ?_
  rintro e w3 ⟨v3, rfl, hown3, hb3⟩
  have hd : H.decode (H.bts t) = (l, 0, 0) := by
    rw [Ht.out]
    exact H.decode_enc l (by have := Hm.out; omega) (by have := Hm.out; omega) (by rw [← Hm.out]; exact hok.out)
  rw [hd] at hown3 ⊢
  simp only at hown3 ⊢
  obtain ⟨g3, cv3, rfl, hg3l⟩ := own_slice hown3 (by have := Hm.out; omega)
  rw [← Hm.out] at hown3 ⊢
  have HR3 : Hid (InsRow w3 g3 0 l) := own_insRow hown3 Hm.out.symm
  have HO3 : Hid (w3.ownsRow w.heap.size 28 2 (.slice (some ⟨g, 0, none⟩) m cv) m (insCells l)) := own_below' HO2.out hb3 (Nat.le_refl _)
  have HRl : Hid (InsRow w3 g 0 l) := own_insRow HO3.out Hm.out.symm
  have HB3 : Hid (Below w.heap.size w w3) := HB2.out.trans (hb3.mono hs2)
  have hs3 := HB3.out.size
  clear hd hown3 hb3 HO2 HB2
  go_wp2_with fail
  go_loopw [11] (fun i wr => ∃ (k q : Nat), k ≤ m ∧ i = .int .i64 k ∧ wr = w3.drewN q)
    (fun i _ => m - (intOf i).toNat)
  case atStart => exact ⟨0, 0, Nat.zero_le _, rfl, rfl⟩
  case round =>
    obtain ⟨k, q, hk, rfl, rfl⟩ := hrel
    by_cases hlt : k < m
    · obtain ⟨x, hx⟩ : ∃ x, l[k]? = some x := ⟨l[k]'(by have := Hm.out; omega), List.getElem?_eq_getElem (by have := Hm.out; omega)⟩
      obtain ⟨o, a⟩ := x
      obtain ⟨c0, c1⟩ := HRl.out k _ hx
      obtain ⟨d0, d1⟩ := HR3.out k _ hx
      rw [Nat.zero_add] at c0 c1 d0 d1
      have hi : (k : Int) < (m : Int) := by omega
      have h0 : (0 : Int) ≤ (k : Int) := by omega
      clear hx
      go_wp2_with fail
      go_quiet (fail)
      go_wp2
      go_roundw
      case rel => exact ⟨k + 1, _, by omega, by go_num, by first | rfl | simp⟩
      case measure => simp [intOf]; omega
    · obtain ⟨w4, hw4⟩ : ∃ w4, w4 = w3.drewN q := ⟨_, rfl⟩
      rw [← hw4]
      have HB4 : Hid (Below w.heap.size w w4) := by unfold Hid; rw [hw4]; exact below_drewN HB3.out _
      have hs4 := HB4.out.size
      clear hw4 HB3 HRl HR3 HO3 hs3 hg3l hgl
      go_wp2_with fail
      refine (dec_any ((⟨#[255]⟩ : ByteArray) ++ t) _ (ff_size t htz).1).mono ?_
      rintro e w5 ⟨v5, rfl, hown5, hb5⟩
      have hd5 : H.decode (H.bts ((⟨#[255]⟩ : ByteArray) ++ t)) = ([], 1, 0) := by
        rw [bts_append]; exact H.decode_255 _
      rw [hd5] at hown5 ⊢
      simp only at hown5 ⊢
      have HB5 : Hid (Below w.heap.size w w5) := HB4.out.trans (hb5.mono hs4)
      have hs5 := HB5.out.size
      clear hd5 hown5 hb5 HB4
      go_wp2_with fail
      refine (dec_any (t ++ (⟨#[255]⟩ : ByteArray)) _ (ff_size t htz).2).mono ?_
      rintro e w6 ⟨v6, rfl, hown6, hb6⟩
      have hd6 : H.decode (H.bts (t ++ (⟨#[255]⟩ : ByteArray))) = ([], 1, (t.size : Int)) := by
        rw [bts_append, Ht.out, ← H.bts_length t, Ht.out]
        exact H.decode_enc_255 l (by have := Hm.out; omega) (by rw [← Hm.out]; exact hok.out)
      rw [hd6] at hown6 ⊢
      simp only at hown6 ⊢
      have HB6 : Hid (Below w.heap.size w w6) := HB5.out.trans (hb6.mono hs5)
      have hs6 := HB6.out.size
      clear hd6 hown6 hb6 HB5
      go_wp2_with fail
      refine (dec_any s _ HS.out).mono ?_
      rintro e w7 ⟨v7, rfl, hown7, hb7⟩
      have HB7 : Hid (Below w.heap.size w w7) := HB6.out.trans (hb7.mono hs6)
      have hs7 := HB7.out.size
      rcases H.decode_cases (H.bts s) (H.at0_bts_range s) with ⟨p, hp, hd7⟩ | ⟨d, hd7, hd1, hd64, hdok, hde⟩
      · rw [hd7] at hown7 ⊢
        simp only at hown7 ⊢
        rw [H.bts_length] at hp
        have hp2 : (p : Int) ≤ (s.size : Int) := by omega
        have hp0 : (0 : Int) ≤ (p : Int) := by omega
        have hv7 : v7 = .slice none 0 0 ∨ ∃ g7 c7, v7 = .slice (some ⟨g7, 0, none⟩) 0 c7 := by
          rcases hown7.2 with ⟨h, _⟩ | ⟨g7, c7, _, h, _⟩
          · exact .inl h
          · exact .inr ⟨g7, c7, h⟩
        clear hd7 hb7 HB6 hown7 Ht hok HG Hm
        rcases hv7 with rfl | ⟨g7, c7, rfl⟩
        · go_wp2
          go_ret
          exact ⟨rfl, HB7.out⟩
        · go_wp2
          go_ret
          exact ⟨rfl, HB7.out⟩
      · rw [hd7] at hown7 ⊢
        simp only at hown7 ⊢
        obtain ⟨g7, c7, rfl, hg7l⟩ := own_slice hown7 (by omega)
        obtain ⟨m7, hm7⟩ : ∃ m7, m7 = d.length := ⟨_, rfl⟩
        rw [← hm7] at hd1 hd64 hdok hown7 ⊢
        have HRd : Hid (InsRow w7 g7 0 d) := own_insRow hown7 hm7.symm
        have Hm7 : Hid (m7 = d.length) := hm7
        have Hdok : Hid (H.okFrom m7 0 d = true) := hdok
        have Hde : Hid (H.encAll d = H.bts s) := hde
        clear hd7 hb7 HB6 hown7 Ht hok HG Hm hm7 hdok hde
        go_wp2_with fail
        refine (enc_mid g7 0 m7 c7 d _ hd1 hd64 Hm7.out.symm HRd.out).mono ?_
        rintro e w8 ⟨rfl, hb8⟩
        have e1 : encS m7 d = s := by
          unfold encS; rw [Hdok.out, if_pos rfl, Hde.out]
          exact strOfNums_bts s
        have e2 : encE m7 d = 0 := by unfold encE; rw [Hdok.out]; rfl
        rw [e1, e2]
        have HB8 : Hid (Below w.heap.size w w8) := HB7.out.trans (hb8.mono hs7)
        clear hb8 HB7 HRd Hde Hdok e1 e2
        go_wp2
        go_ret
        exact ⟨rfl, HB8.out⟩

end Go.Proofs.Ytfggaacijcggeaa
