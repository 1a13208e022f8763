/-
  The machine's lists grow.
-/
import Derived.Test.YtfggaacijcggeaaMeth2
import Derived.Deep.RegionLaw
namespace Go.Proofs.Ytfggaacijcggeaa
open Go.RowKit
set_option linter.unusedVariables false

/-- What a method leaves, its lists perhaps others. -/
def Aft (w : World) (base b : Nat) (M' : H.Mach) (w' : World) : Prop := (∃ pile sv dv, MB w' base b pile sv dv M') ∧ Fr base w w'

theorem After.aft {w : World} {base b : Nat} {sv dv : Value} {M' : H.Mach} {w' : World} (h : After w base b sv dv M' w') : Aft w base b M' w' := by
  obtain ⟨⟨p, hm⟩, hf⟩ := h
  exact ⟨⟨p, sv, dv, hm⟩, hf⟩

/-- Two rows of different element types are not one. -/
theorem own_two {w : World} {base e1 e2 s1 s2 n1 n2 : Nat} {v1 v2 : Value} {x1 x2 : List Value} (h1 : w.ownsRow base e1 s1 v1 n1 x1) (h2 : w.ownsRow base e2 s2 v2 n2 x2) (he : e1 ≠ e2) : v1.ownBlock = none ∨ v1.ownBlock ≠ v2.ownBlock := by
  rcases h1.2 with ⟨hv, _⟩ | ⟨g, cap, cur, hv, _, hh, _⟩
  · subst hv; exact .inl rfl
  · right
    have hb : Blk w g cur e1 := hh
    have := hb.ne_own h2 he
    subst hv
    exact this

theorem Fr.app {w w1 : World} {base e n : Nat} {v : Value} {xs : List Value} (ho : w.ownsRow base e 2 v n xs) (he : e = 62 ∨ e = 85) (hg : w.grownBy w1 v.ownBlock) (hb : base ≤ w.heap.size) : Fr base w w1 :=
  ⟨hg.os, hg.tape, hg.output, hg.size, fun k hk => hg.block k (by omega) (fun e' => by have := (ho.lt k e'.symm).1; omega), fun k cs t hk h1 h2 h3 => hk.grown hg (hk.ne_own ho (by rcases he with rfl | rfl <;> assumption))⟩

theorem MB.lt {w : World} {base b : Nat} {pile : List Int} {sv dv : Value} {M : H.Mach} (h : MB w base b pile sv dv M) : base ≤ w.heap.size := by
  have := h.blk.lt
  have := h.hb
  omega

/-- The sends grow by one: the row first, then the machine's field. -/
theorem MB.app_sends {w w1 : World} {base b : Nat} {pile : List Int} {sv dv dv1 : Value} {M : H.Mach} (h : MB w base b pile sv dv M) (t v : Int) (hown : w1.ownsRow base 85 2 dv1 (M.sends.length + 1) (sendCells M.sends ++ [.int .u8 t, .int .u16 v])) (hg : w.grownBy w1 dv.ownBlock) :
    Blk w1 b (mcells pile M.st.length sv dv M).toArray 75 ∧ MB (w1.setCell ⟨b, 20, none⟩ dv1) base b pile sv dv1 { M with sends := M.sends ++ [(t, v)] } ∧ Fr base w (w1.setCell ⟨b, 20, none⟩ dv1) := by
  have b1 := h.blk.grown hg (h.blk.ne_own h.sends (by decide))
  have o1 : w1.ownsRow base 62 2 sv M.shows.length (showCells M.shows) := h.shows.kept hg (own_two h.shows h.sends (by decide))
  refine ⟨b1, ⟨h.hb, h.hp, h.hst, h.htk, h.hc, ?_, ownsRow_setCell_other o1 (fun e => b1.ne_own o1 (by decide) e.symm) _, ?_⟩, ?_⟩
  · refine blk_list 20 _ b1 ?_
    rw [show (20 : Nat) = 17 + 3 from rfl, mcells_set_tail h.hp h.hc]
    rfl
  · have e : sendCells (M.sends ++ [(t, v)]) = sendCells M.sends ++ [.int .u8 t, .int .u16 v] := by simp [sendCells]
    simp only [e, List.length_append, List.length_cons, List.length_nil]
    exact ownsRow_setCell_other hown (fun e => b1.ne_own hown (by decide) e.symm) _
  · exact (Fr.app h.sends (.inr rfl) hg h.lt).setCell (p := ⟨b, 20, none⟩) b1 h.hb (.inl rfl) _

/-- The shows grow by one. -/
theorem MB.app_shows {w w1 : World} {base b : Nat} {pile : List Int} {sv dv sv1 : Value} {M : H.Mach} (h : MB w base b pile sv dv M) (k : Int) (s : ByteArray) (hown : w1.ownsRow base 62 2 sv1 (M.shows.length + 1) (showCells M.shows ++ [.int .u16 k, .string s])) (hg : w.grownBy w1 sv.ownBlock) :
    Blk w1 b (mcells pile M.st.length sv dv M).toArray 75 ∧ MB (w1.setCell ⟨b, 19, none⟩ sv1) base b pile sv1 dv { M with shows := M.shows ++ [(k, s)] } ∧ Fr base w (w1.setCell ⟨b, 19, none⟩ sv1) := by
  have b1 := h.blk.grown hg (h.blk.ne_own h.shows (by decide))
  have o1 : w1.ownsRow base 85 2 dv M.sends.length (sendCells M.sends) := h.sends.kept hg (own_two h.sends h.shows (by decide))
  refine ⟨b1, ⟨h.hb, h.hp, h.hst, h.htk, h.hc, ?_, ?_, ownsRow_setCell_other o1 (fun e => b1.ne_own o1 (by decide) e.symm) _⟩, ?_⟩
  · refine blk_list 19 _ b1 ?_
    rw [show (19 : Nat) = 17 + 2 from rfl, mcells_set_tail h.hp h.hc]
    rfl
  · have e : showCells (M.shows ++ [(k, s)]) = showCells M.shows ++ [.int .u16 k, .string s] := by simp [showCells]
    simp only [e, List.length_append, List.length_cons, List.length_nil]
    exact ownsRow_setCell_other hown (fun e => b1.ne_own hown (by decide) e.symm) _
  · exact (Fr.app h.shows (.inl rfl) hg h.lt).setCell (p := ⟨b, 19, none⟩) b1 h.hb (.inl rfl) _

theorem info85 : (Try.prog.info? 85).map (fun i => (i.zero, i.size, i.bytes)) = some (some (.agg #[.int .u8 0, .int .u16 0]), 2, 4) := by kernel_rfl
theorem info62 : (Try.prog.info? 62).map (fun i => (i.zero, i.size, i.bytes)) = some (some (.agg #[.int .u16 0, .string ⟨#[]⟩]), 2, 24) := by kernel_rfl

theorem own_shape {w : World} {base e size n : Nat} {v : Value} {xs : List Value} (h : w.ownsRow base e size v n xs) : ∃ ao cap, v = .slice ao n cap := by
  rcases h.2 with ⟨hv, hn⟩ | ⟨g, cap, cur, hv, _⟩
  · subst hn; exact ⟨none, 0, hv⟩
  · exact ⟨_, cap, hv⟩

theorem send_eq0 {t : Int} {M : H.Mach} (h : (H.popM M).fault ≠ 0) : H.send t M = H.popM M := by unfold H.send; rw [if_neg h]
theorem send_eq1 {t : Int} {M : H.Mach} (h : (H.popM M).fault = 0) (h4 : 4 ≤ M.sends.length) : H.send t M = { H.popM M with fault := 5 } := by unfold H.send; rw [if_pos h, if_pos h4]
theorem send_eq2 {t : Int} {M : H.Mach} (h : (H.popM M).fault = 0) (h4 : ¬ 4 ≤ M.sends.length) : H.send t M = { H.popM M with sends := (H.popM M).sends ++ [(t, H.popV M)] } := by unfold H.send; rw [if_pos h, if_neg h4, popM_sends]

set_option maxRecDepth 100000 in
set_option maxHeartbeats 1000000 in
theorem send_any {w : World} {base b : Nat} {pile : List Int} {sv dv : Value} {M : H.Mach} (h : MB w base b pile sv dv M) (t : Int) :
    Calls Try.prog 45 #[.pointer (some ⟨b, 0, none⟩), .int .u8 t] w fun e w' => e = .returned (.tuple #[]) ∧ Aft w base b (H.send t M) w' := by
  obtain ⟨i0, hi, hz0, hz1, hz2⟩ := info_parts info85
  have HP : Hid (MB w base b pile sv dv M) := h
  clear h
  go_enter Try.func45, Try.ntmps45
  go_wp2_with fail
  refine (pop_any HP.out).mono ?_
  rintro e w1 ⟨rfl, ⟨pile1, hm1⟩, hf1⟩
  have HM1 : Hid (MB w1 base b pile1 sv dv (H.popM M)) := hm1
  have HF1 : Hid (Fr base w w1) := hf1
  obtain ⟨ao, cv, hdv⟩ := own_shape hm1.sends
  have HDV : Hid (dv = .slice ao (H.popM M).sends.length cv) := hdv
  have c25 := hm1.c25
  have f25 := hm1.free 25
  have c20 := hm1.c20
  have f20 := hm1.free 20
  rw [hdv] at c20
  have hlt := hm1.lt
  clear hm1 hf1 hdv
  obtain ⟨y, hy⟩ : ∃ y, y = H.popV M := ⟨_, rfl⟩
  rw [← hy]
  have Hy : Hid (y = H.popV M) := hy
  obtain ⟨ft, hft⟩ : ∃ ft, ft = (H.popM M).fault := ⟨_, rfl⟩
  rw [← hft] at c25
  have Hft : Hid (ft = (H.popM M).fault) := hft
  obtain ⟨n, hn⟩ : ∃ n, n = (H.popM M).sends.length := ⟨_, rfl⟩
  rw [← hn] at c20
  have Hn : Hid (n = (H.popM M).sends.length) := hn
  clear hy hft hn
  by_cases hz : ft = 0
  · have HZ : Hid ((H.popM M).fault = 0) := by unfold Hid; rw [← Hft.out]; exact hz
    subst hz
    by_cases h4 : 4 ≤ n
    · have HE : Hid (H.send t M = { H.popM M with fault := 5 }) := send_eq1 HZ.out (by rw [← popM_sends, ← Hn.out]; exact h4)
      have h4' : (4 : Int) ≤ (n : Int) := by omega
      go_wp2
      exact bodyPost_ret (v := .tuple #[]) (by simp [results, Try.results45]) rfl ⟨rfl, by rw [HE.out]; exact ⟨⟨_, _, _, HM1.out.set_fault 5⟩, HM1.out.fr_set HF1.out _ _⟩⟩
    · have HE : Hid (H.send t M = { H.popM M with sends := (H.popM M).sends ++ [(t, y)] }) := by unfold Hid; rw [Hy.out]; exact send_eq2 HZ.out (by rw [← popM_sends, ← Hn.out]; exact h4)
      have h4' : ¬ (4 : Int) ≤ (n : Int) := by omega
      have HO : Hid (w1.ownsRow base 85 2 (.slice ao n cv) n (sendCells (H.popM M).sends)) := by
        have h := HM1.out.sends
        rw [HDV.out, ← Hn.out] at h
        exact h
      go_wp2_with (at_builtin; refine wpList_append_own _ rfl (.tmp 25) (.tmp 29) 41 rfl base 85 i0 (.agg #[.int .u8 0, .int .u16 0]) 2 4 Try.underlying41 hi hz0 hz1 hz2 rfl (by decide) _ _ _ rfl (HO.out.alloc _) ⟨w1.heap.size, 0, none⟩ 1 1 [.int .u8 t, .int .u16 y] rfl rfl (new_two _ _ _ _) (by intro u hu; simp at hu; rcases hu with rfl | rfl <;> rfl) (by unfold maxLen; omega) (by omega) (by simp; omega) ?_)
      intro v3 w3 hown3 hg3 _
      obtain ⟨ao3, c3, hv3⟩ := own_shape hown3
      have hma := (HM1.out.alloc (.cells #[.int .u8 t, .int .u16 y] 85)).app_sends t y (dv1 := v3) (w1 := w3) (by rw [← Hn.out]; exact hown3) (by rw [HDV.out, ← Hn.out]; exact hg3)
      have HB3 := hma.1
      have hm3 := hma.2.1
      have hf3 := hma.2.2
      rw [hv3] at hm3 hf3 ⊢
      have d20 : w3.cell? ⟨b, 20, none⟩ = some dv := by rw [HB3.cell 20, List.getElem?_toArray]; exact mcells_tail HM1.out.hp HM1.out.hc _ 3
      have e20 := HB3.free 20
      rw [HDV.out] at d20
      have HM3 : Hid (MB (w3.setCell ⟨b, 20, none⟩ (.slice ao3 (n + 1) c3)) base b pile1 sv (.slice ao3 (n + 1) c3) { H.popM M with sends := (H.popM M).sends ++ [(t, y)] }) := hm3
      have HF3 : Hid (Fr base w (w3.setCell ⟨b, 20, none⟩ (.slice ao3 (n + 1) c3))) := (HF1.out.alloc hlt _).trans hf3
      clear hma HB3 hm3 hf3 hv3 hown3 hg3 HO c20 f20 c25 f25
      go_wp2
      go_end0
      exact ⟨rfl, by rw [HE.out]; exact ⟨⟨_, _, _, HM3.out⟩, HF3.out⟩⟩
  · have HE : Hid (H.send t M = H.popM M) := send_eq0 (by rw [← Hft.out]; exact hz)
    have hb : (ft != 0) = true := by simpa using hz
    clear hz
    go_wp2
    exact bodyPost_ret (v := .tuple #[]) (by simp [results, Try.results45]) rfl ⟨rfl, by rw [HE.out]; exact ⟨⟨_, _, _, HM1.out⟩, HF1.out⟩⟩

end Go.Proofs.Ytfggaacijcggeaa
