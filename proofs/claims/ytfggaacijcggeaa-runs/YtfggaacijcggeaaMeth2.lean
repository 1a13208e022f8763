/-
  The walks of reckon and char.
-/
import Derived.Test.YtfggaacijcggeaaMeth
import Derived.Test.YtfggaacijcggeaaComb
import Derived.Deep.RegionWith
namespace Go.Proofs.Ytfggaacijcggeaa
open Go.RowKit
set_option linter.unusedVariables false

/-- Every number on the pile is one of 16 bits. -/
def InR (l : List Int) : Prop := ∀ v ∈ l, 0 ≤ v ∧ v ≤ 65535

theorem popM_st (M : H.Mach) : (H.popM M).st = M.st.dropLast := by
  unfold H.popM
  split
  · rename_i h; rw [List.eq_nil_of_length_eq_zero h]; rfl
  · rfl
theorem InR.pop {M : H.Mach} (h : InR M.st) : InR (H.popM M).st := by
  rw [popM_st]
  intro v hv
  exact h v ((List.dropLast_sublist _).subset hv)
theorem InR.popV {M : H.Mach} (h : InR M.st) : 0 ≤ H.popV M ∧ H.popV M ≤ 65535 := by
  unfold H.popV
  by_cases hl : M.st.length = 0
  · rw [List.eq_nil_of_length_eq_zero hl]; decide
  · have : M.st.getD (M.st.length - 1) 0 = M.st[M.st.length - 1]'(by omega) := by simp [List.getD, List.getElem?_eq_getElem (show M.st.length - 1 < M.st.length by omega)]
    rw [this]
    exact h _ (List.getElem_mem _)

theorem reckon_eq0 {op : Int} {M : H.Mach} (h : (H.popM (H.popM M)).fault ≠ 0) : H.reckon op M = H.popM (H.popM M) := by unfold H.reckon; rw [if_neg h]
theorem reckon_eq1 {op : Int} {M : H.Mach} (h : (H.popM (H.popM M)).fault = 0) (h7 : op ≠ 7) : H.reckon op M = H.push (H.combine op (H.popV (H.popM M)) (H.popV M)) (H.popM (H.popM M)) := by unfold H.reckon; rw [if_pos h, if_neg h7]
theorem reckon_eq2 {M : H.Mach} (h : (H.popM (H.popM M)).fault = 0) (hz : H.popV M = 0) : H.reckon 7 M = { H.popM (H.popM M) with fault := 3 } := by unfold H.reckon; rw [if_pos h, if_pos rfl, if_pos hz]
theorem reckon_eq3 {M : H.Mach} (h : (H.popM (H.popM M)).fault = 0) (hz : H.popV M ≠ 0) : H.reckon 7 M = H.push (H.popV (H.popM M) / H.popV M) (H.popM (H.popM M)) := by unfold H.reckon; rw [if_pos h, if_pos rfl, if_neg hz]

set_option maxHeartbeats 1000000 in
theorem reckon_any {w : World} {base b : Nat} {pile : List Int} {sv dv : Value} {M : H.Mach} (h : MB w base b pile sv dv M) (hr : InR M.st) (op : Int) (h4 : 4 ≤ op) (h15 : op ≤ 15) :
    Calls Try.prog 47 #[.pointer (some ⟨b, 0, none⟩), .int .u8 op] w fun e w' => e = .returned (.tuple #[]) ∧ After w base b sv dv (H.reckon op M) w' := by
  have HP : Hid (MB w base b pile sv dv M) := h
  obtain ⟨r1, r2⟩ := hr.popV
  obtain ⟨r3, r4⟩ := hr.pop.popV
  clear h hr
  go_enter Try.func47, Try.ntmps47
  go_wp2_with fail
  refine (pop_any HP.out).mono ?_
  rintro e w1 ⟨rfl, ⟨pile1, hm1⟩, hf1⟩
  have HM1 : Hid (MB w1 base b pile1 sv dv (H.popM M)) := hm1
  have HF1 : Hid (Fr base w w1) := hf1
  clear hm1 hf1
  go_wp2_with fail
  refine (pop_any HM1.out).mono ?_
  rintro e w2 ⟨rfl, ⟨pile2, hm2⟩, hf2⟩
  have HM2 : Hid (MB w2 base b pile2 sv dv (H.popM (H.popM M))) := hm2
  have HF2 : Hid (Fr base w w2) := HF1.out.trans hf2
  have c25 := hm2.c25
  have f25 := hm2.free 25
  clear hm2 hf2 HM1 HF1
  obtain ⟨y, hy⟩ : ∃ y, y = H.popV M := ⟨_, rfl⟩
  obtain ⟨x, hx⟩ : ∃ x, x = H.popV (H.popM M) := ⟨_, rfl⟩
  rw [← hy] at r1 r2 ⊢
  rw [← hx] at r3 r4 ⊢
  have Hy : Hid (y = H.popV M) := hy
  have Hx : Hid (x = H.popV (H.popM M)) := hx
  obtain ⟨ft, hft⟩ : ∃ ft, ft = (H.popM (H.popM M)).fault := ⟨_, rfl⟩
  rw [← hft] at c25
  have Hft : Hid (ft = (H.popM (H.popM M)).fault) := hft
  clear hy hx hft
  by_cases hz : ft = 0
  · have HZ : Hid ((H.popM (H.popM M)).fault = 0) := by unfold Hid; rw [← Hft.out]; exact hz
    subst hz
    by_cases h7 : op = 7
    · subst h7
      by_cases hy0 : y = 0
      · have HE : Hid (H.reckon 7 M = { H.popM (H.popM M) with fault := 3 }) := reckon_eq2 HZ.out (by rw [← Hy.out]; exact hy0)
        subst hy0
        go_wp2
        exact bodyPost_ret (v := .tuple #[]) (by simp [results, Try.results47]) rfl ⟨rfl, by rw [HE.out]; exact ⟨⟨_, HM2.out.set_fault 3⟩, HM2.out.fr_set HF2.out _ _⟩⟩
      · have HE : Hid (H.reckon 7 M = H.push (x / y) (H.popM (H.popM M))) := by unfold Hid; rw [Hx.out, Hy.out]; exact reckon_eq3 HZ.out (by rw [← Hy.out]; exact hy0)
        have hb : (y == 0) = false := by simpa using hy0
        have hy1 : 0 < y := by omega
        have hq0 := Int.ediv_nonneg r3 r1
        have hq1 := Int.ediv_le_self y r3
        have hqe : IntKind.u16.wrap (x.tdiv y) = x / y := by rw [IntKind.wrap_u16, Int.tdiv_eq_ediv_of_nonneg r3]; omega
        clear hy0 hq0 hq1
        go_wp2_with fail
        refine (push_any HM2.out (x / y)).mono ?_
        rintro e w3 ⟨rfl, hm3, hf3⟩
        have HM3 : Hid (∃ pile, MB w3 base b pile sv dv (H.push (x / y) (H.popM (H.popM M)))) := hm3
        have HF3 : Hid (Fr base w w3) := HF2.out.trans hf3
        clear hm3 hf3 HM2 HF2
        go_wp2
        go_end0
        exact ⟨rfl, by rw [HE.out]; exact ⟨HM3.out, HF3.out⟩⟩
    · have HE : Hid (H.reckon op M = H.push (H.combine op x y) (H.popM (H.popM M))) := by unfold Hid; rw [Hx.out, Hy.out]; exact reckon_eq1 HZ.out h7
      have hb : (op != 7) = true := by simpa using h7
      have H7 : Hid (op ≠ 7) := h7
      clear h7
      go_wp2_with fail
      refine (comb_any op x y _ h4 h15 H7.out r3 r4 r1 r2).mono ?_
      rintro e w3 ⟨rfl, rfl⟩
      go_wp2_with fail
      refine (push_any HM2.out (H.combine op x y)).mono ?_
      rintro e w3 ⟨rfl, hm3, hf3⟩
      have HM3 : Hid (∃ pile, MB w3 base b pile sv dv (H.push (H.combine op x y) (H.popM (H.popM M)))) := hm3
      have HF3 : Hid (Fr base w w3) := HF2.out.trans hf3
      clear hm3 hf3 HM2 HF2
      go_wp2
      exact bodyPost_ret (v := .tuple #[]) (by simp [results, Try.results47]) rfl ⟨rfl, by rw [HE.out]; exact ⟨HM3.out, HF3.out⟩⟩
  · have HE : Hid (H.reckon op M = H.popM (H.popM M)) := reckon_eq0 (by rw [← Hft.out]; exact hz)
    have hb : (ft != 0) = true := by simpa using hz
    clear hz
    go_wp2
    exact bodyPost_ret (v := .tuple #[]) (by simp [results, Try.results47]) rfl ⟨rfl, by rw [HE.out]; exact ⟨⟨_, HM2.out⟩, HF2.out⟩⟩

theorem char_eq0 {M : H.Mach} (h : (H.popM M).fault ≠ 0) : H.char M = H.popM M := by unfold H.char; rw [if_neg h]
theorem char_eq1 {M : H.Mach} (h : (H.popM M).fault = 0) (h6 : 6 ≤ M.chars) : H.char M = { H.popM M with fault := 4 } := by unfold H.char; rw [if_pos h, if_pos h6]
theorem char_eq2 {M : H.Mach} (h : (H.popM M).fault = 0) (h6 : ¬ 6 ≤ M.chars) : H.char M = { H.popM M with text := M.text ++ Utf8.encode (H.popV M), chars := M.chars + 1 } := by unfold H.char; rw [if_pos h, if_neg h6]

set_option maxHeartbeats 1000000 in
theorem charM_any {w : World} {base b : Nat} {pile : List Int} {sv dv : Value} {M : H.Mach} (h : MB w base b pile sv dv M) (hr : InR M.st) (ht : M.text.size ≤ 1000) :
    Calls Try.prog 43 #[.pointer (some ⟨b, 0, none⟩)] w fun e w' => e = .returned (.tuple #[]) ∧ After w base b sv dv (H.char M) w' := by
  have HP : Hid (MB w base b pile sv dv M) := h
  obtain ⟨r1, r2⟩ := hr.popV
  clear h hr
  go_enter Try.func43, Try.ntmps43
  go_wp2_with fail
  refine (pop_any HP.out).mono ?_
  rintro e w1 ⟨rfl, ⟨pile1, hm1⟩, hf1⟩
  have HM1 : Hid (MB w1 base b pile1 sv dv (H.popM M)) := hm1
  have HF1 : Hid (Fr base w w1) := hf1
  have c25 := hm1.c25
  have f25 := hm1.free 25
  have c18 := hm1.c18
  have f18 := hm1.free 18
  have c17 := hm1.c17
  have f17 := hm1.free 17
  rw [popM_chars] at c18
  rw [popM_text] at c17
  clear hm1 hf1
  obtain ⟨y, hy⟩ : ∃ y, y = H.popV M := ⟨_, rfl⟩
  rw [← hy] at r1 r2 ⊢
  have Hy : Hid (y = H.popV M) := hy
  obtain ⟨ft, hft⟩ : ∃ ft, ft = (H.popM M).fault := ⟨_, rfl⟩
  rw [← hft] at c25
  have Hft : Hid (ft = (H.popM M).fault) := hft
  obtain ⟨n, hn⟩ : ∃ n, n = M.chars := ⟨_, rfl⟩
  rw [← hn] at c18
  have Hn : Hid (n = M.chars) := hn
  obtain ⟨tx, htx⟩ : ∃ tx, tx = M.text := ⟨_, rfl⟩
  rw [← htx] at c17 ht
  have Htx : Hid (tx = M.text) := htx
  clear hy hft hn htx
  by_cases hz : ft = 0
  · have HZ : Hid ((H.popM M).fault = 0) := by unfold Hid; rw [← Hft.out]; exact hz
    subst hz
    by_cases h6 : 6 ≤ n
    · have HE : Hid (H.char M = { H.popM M with fault := 4 }) := char_eq1 HZ.out (by rw [← Hn.out]; exact h6)
      have h6' : (6 : Int) ≤ (n : Int) := by omega
      go_wp2
      exact bodyPost_ret (v := .tuple #[]) (by simp [results, Try.results43]) rfl ⟨rfl, by rw [HE.out]; exact ⟨⟨_, HM1.out.set_fault 4⟩, HM1.out.fr_set HF1.out _ _⟩⟩
    · have HE : Hid (H.char M = { H.popM M with text := tx ++ Utf8.encode y, chars := n + 1 }) := by unfold Hid; rw [Hn.out, Htx.out, Hy.out]; exact char_eq2 HZ.out (by rw [← Hn.out]; exact h6)
      have h6' : ¬ (6 : Int) ≤ (n : Int) := by omega
      have HM2 : Hid (MB (w1.setCell ⟨b, 17, none⟩ (.string (tx ++ Utf8.encode y))) base b pile1 sv dv { H.popM M with text := tx ++ Utf8.encode y }) := HM1.out.set_text _
      have HF2 : Hid (Fr base w (w1.setCell ⟨b, 17, none⟩ (.string (tx ++ Utf8.encode y)))) := HM1.out.fr_set HF1.out _ _
      have hsz : (Utf8.encode y).size ≤ 4 := by
        unfold Utf8.encode
        simp only
        repeat' split
        all_goals simp [ByteArray.size]
      go_wp2_with fail
      go_region_with (go_at_call 53; refine (char_any _ _ r1 r2).mono ?_; rintro e w' ⟨rfl, rfl⟩)
      all_goals go_wp2
      all_goals go_end0
      all_goals exact ⟨rfl, by rw [HE.out]; exact ⟨⟨_, (HM2.out.set_chars (n + 1)).drew⟩, (HM2.out.fr_set HF2.out _ _).drew⟩⟩
  · have HE : Hid (H.char M = H.popM M) := char_eq0 (by rw [← Hft.out]; exact hz)
    have hb : (ft != 0) = true := by simpa using hz
    clear hz
    go_wp2
    exact bodyPost_ret (v := .tuple #[]) (by simp [results, Try.results43]) rfl ⟨rfl, by rw [HE.out]; exact ⟨⟨_, HM1.out⟩, HF1.out⟩⟩

end Go.Proofs.Ytfggaacijcggeaa
