/-
  The document's own run: the walk of one, an instruction a theorem.
  The document's own run: its lists grow; the walk of one at Send.
-/
import Derived.Test.YtfggaacijcggeaaJSpotB
import Derived.Test.YtfggaacijcggeaaLettR
import Derived.Deep.RegionWith
namespace Go.Proofs.Ytfggaacijcggeaa
open Go.RowKit
set_option linter.unusedVariables false
set_option maxRecDepth 100000
set_option maxHeartbeats 2000000

theorem one_3 {w : World} {base b : Nat} {pv sv dv : Value} {M : H.Mach} (h : SB w base b pv sv dv M) (k : Nat) (hk : k < 8) (v : Int) :
    Calls Try.prog 37 #[.pointer (some ⟨b, 0, none⟩), .int .i64 3, .int .i64 k, .int .i64 v] w fun e w' => e = .returned (.tuple #[]) ∧ SAft w base b { M with cells := M.cells.set k v } w' := by
  have cc := h.ccell k hk
  have fc := h.free (1 + k)
  have HM : Hid (SB (w.setCell ⟨b, 1 + k, none⟩ (.int .i64 v)) base b pv sv dv { M with cells := M.cells.set k v }) := h.set_cell k hk v
  have HF : Hid (SFr base w (w.setCell ⟨b, 1 + k, none⟩ (.int .i64 v))) := h.fr_set (SFr.refl _ _) _ _
  have hk0 : (0 : Int) ≤ (k : Int) := by omega
  have hk1 : (k : Int) < 8 := by omega
  clear h
  go_enter Try.func37, Try.ntmps37
  go_wp2
  first | go_region | skip
  all_goals first | go_wp2 | skip
  all_goals go_end0
  all_goals first | exact ⟨rfl, ⟨⟨_, _, _, HM.out⟩, HF.out⟩⟩ | exact ⟨rfl, ⟨⟨_, _, _, HM.out.drew⟩, HF.out.drew⟩⟩

theorem one_17 {w : World} {base b : Nat} {pv sv dv : Value} {M : H.Mach} (h : SB w base b pv sv dv M) (a v : Int) (ha0 : -128 ≤ a) (ha1 : a ≤ 127) (hn0 : 0 ≤ M.next) (hn1 : M.next ≤ 900) :
    Calls Try.prog 37 #[.pointer (some ⟨b, 0, none⟩), .int .i64 17, .int .i64 a, .int .i64 v] w fun e w' => e = .returned (.tuple #[]) ∧ SAft w base b (if 0 < v then { M with next := M.next + a } else M) w' := by
  have c15 := h.c15
  have f15 := h.free 15
  by_cases hv : 0 < v
  · rw [if_pos hv]
    have HM : Hid (SB (w.setCell ⟨b, 15, none⟩ (.int .i64 (M.next + a))) base b pv sv dv { M with next := M.next + a }) := h.set_next _
    have HF : Hid (SFr base w (w.setCell ⟨b, 15, none⟩ (.int .i64 (M.next + a)))) := h.fr_set (SFr.refl _ _) _ _
    obtain ⟨nx, hnx⟩ : ∃ nx, nx = M.next := ⟨_, rfl⟩
    rw [← hnx] at c15 HM HF hn0 hn1 ⊢
    have hw : IntKind.i64.wrap (nx + a) = nx + a := by rw [IntKind.wrap_i64]; omega
    clear h hnx
    go_enter Try.func37, Try.ntmps37
    go_wp2
    first | go_region | skip
    all_goals first | go_wp2 | skip
    all_goals go_end0
    all_goals first | exact ⟨rfl, ⟨⟨_, _, _, HM.out⟩, HF.out⟩⟩ | exact ⟨rfl, ⟨⟨_, _, _, HM.out.drew⟩, HF.out.drew⟩⟩
  · rw [if_neg hv]
    have HM : Hid (SB w base b pv sv dv M) := h
    clear h
    go_enter Try.func37, Try.ntmps37
    go_wp2
    go_end0
    exact ⟨rfl, ⟨⟨_, _, _, HM.out⟩, SFr.refl _ _⟩⟩

theorem one_27 {w : World} {base b : Nat} {pv sv dv : Value} {M : H.Mach} (h : SB w base b pv sv dv M) (a v : Int) :
    Calls Try.prog 37 #[.pointer (some ⟨b, 0, none⟩), .int .i64 27, .int .i64 a, .int .i64 v] w fun e w' => e = .returned (.tuple #[]) ∧ SAft w base b M w' := by
  have HM : Hid (SB w base b pv sv dv M) := h
  clear h
  go_enter Try.func37, Try.ntmps37
  go_wp2
  go_end0
  exact ⟨rfl, ⟨⟨_, _, _, HM.out⟩, SFr.refl _ _⟩⟩

theorem one_26 {w : World} {base b : Nat} {pv sv dv : Value} {M : H.Mach} (h : SB w base b pv sv dv M) (a v : Int) :
    Calls Try.prog 37 #[.pointer (some ⟨b, 0, none⟩), .int .i64 26, .int .i64 a, .int .i64 v] w fun e w' => e = .returned (.tuple #[]) ∧ SAft w base b (H.push v (H.push v M)) w' := by
  have HM : Hid (SB w base b pv sv dv M) := h
  clear h
  go_enter Try.func37, Try.ntmps37
  go_wp2_with fail
  refine (lay_any HM.out v).mono ?_
  rintro e w1 ⟨rfl, ⟨pv1, sv1, dv1, hm1⟩, hf1⟩
  have HM1 : Hid (SB w1 base b pv1 sv1 dv1 (H.push v M)) := hm1
  have HF1 : Hid (SFr base w w1) := hf1
  clear hm1 hf1 HM
  go_wp2_with fail
  refine (lay_any HM1.out v).mono ?_
  rintro e w2 ⟨rfl, hm2, hf2⟩
  have HM2 : Hid (SAft w base b (H.push v (H.push v M)) w2) := ⟨hm2, HF1.out.trans hf2⟩
  clear hm2 hf2 HM1 HF1
  go_wp2
  go_end0
  exact ⟨rfl, HM2.out⟩

theorem one_23 {w : World} {base b : Nat} {pv sv dv : Value} {M : H.Mach} (h : SB w base b pv sv dv M) (a v : Int) (h0 : 0 ≤ v) (h1 : v ≤ 65535) (ht : M.text.size ≤ 1000) (hc : M.chars ≤ 6) :
    Calls Try.prog 37 #[.pointer (some ⟨b, 0, none⟩), .int .i64 23, .int .i64 a, .int .i64 v] w fun e w' => e = .returned (.tuple #[]) ∧ SAft w base b (if M.chars = 6 then { M with fault := 4 } else { M with text := M.text ++ Utf8.encode v, chars := M.chars + 1 }) w' := by
  have c9 := h.c9
  have f9 := h.free 9
  have c10 := h.c10
  have f10 := h.free 10
  have c13 := h.c13
  have f13 := h.free 13
  have hbl := h.blk.lt
  have hlt := h.lt
  by_cases h6 : M.chars = 6
  · rw [if_pos h6]
    rw [h6] at c10
    have HM : Hid (SB (w.setCell ⟨b, 13, none⟩ (.int .i64 4)) base b pv sv dv { M with fault := 4 }) := h.set_fault 4
    have HF : Hid (SFr base w (w.setCell ⟨b, 13, none⟩ (.int .i64 4))) := h.fr_set (SFr.refl _ _) _ _
    clear h
    go_enter Try.func37, Try.ntmps37
    go_wp2
    exact bodyPost_ret (v := .tuple #[]) (by simp [results, Try.results37]) rfl ⟨rfl, ⟨⟨_, _, _, HM.out⟩, HF.out⟩⟩
  · rw [if_neg h6]
    have HP : Hid (SB w base b pv sv dv M) := h
    obtain ⟨n, hn⟩ : ∃ n, n = M.chars := ⟨_, rfl⟩
    rw [← hn] at c10 h6 hc ⊢
    obtain ⟨tx, htx⟩ : ∃ tx, tx = M.text := ⟨_, rfl⟩
    rw [← htx] at c9 ht ⊢
    have h6' : ((n : Int) == 6) = false := by rw [beq_eq_false_iff_ne]; omega
    have hsz : (Utf8.encode v).size ≤ 4 := by
      unfold Utf8.encode
      simp only
      repeat' split
      all_goals simp [ByteArray.size]
    have hw : IntKind.i64.wrap ((n : Int) + 1) = (n : Int) + 1 := by rw [IntKind.wrap_i64]; omega
    have Hn : Hid (n = M.chars) := hn
    have Htx : Hid (tx = M.text) := htx
    clear h hn htx h6
    have HK : Hid (∀ w1 : World, Below w.heap.size w w1 → w1.cell? ⟨b, 9, none⟩ = some (.string tx) ∧ w1.frozen? ⟨b, 9, none⟩ = false ∧ w1.cell? ⟨b, 10, none⟩ = some (.int .i64 (n : Int)) ∧ w1.frozen? ⟨b, 10, none⟩ = false) := by
      intro w1 hb
      have h := HP.out.of_below hb
      have k9 := h.c9
      have k10 := h.c10
      rw [← Htx.out] at k9
      rw [← Hn.out] at k10
      exact ⟨k9, h.free 9, k10, h.free 10⟩
    have HR : Hid (∀ w1 : World, Below w.heap.size w w1 → SAft w base b { M with text := tx ++ Utf8.encode v, chars := n + 1 } ((w1.setCell ⟨b, 9, none⟩ (.string (tx ++ Utf8.encode v))).setCell ⟨b, 10, none⟩ (.int .i64 ((n : Int) + 1)))) := by
      intro w1 hb
      have h := HP.out.of_below hb
      have h2 := h.set_text (tx ++ Utf8.encode v)
      exact ⟨⟨_, _, _, h2.set_chars (n + 1)⟩, h2.fr_set (h.fr_set ((SFr.refl base w).of_below hb hlt) _ _) _ _⟩
    go_enter Try.func37, Try.ntmps37
    go_wp2_with fail
    go_region_with (go_at_call 48; refine (lett_any _ _ h0 h1).mono ?_; rintro e w1 ⟨rfl, hb1⟩; have hb2 : Hid (Below w.heap.size w w1) := ⟨hb1.os, hb1.tape, hb1.output, hb1.size, hb1.block⟩; obtain ⟨q9, p9, q10, p10⟩ := HK.out w1 hb2.out; clear hb1)
    all_goals go_wp2
    all_goals go_end0
    all_goals first | exact ⟨rfl, HR.out _ hb2.out⟩ | (have hq := HR.out _ hb2.out; exact ⟨rfl, ⟨⟨_, _, _, hq.1.choose_spec.choose_spec.choose_spec.drew⟩, hq.2.drew⟩⟩)

end Go.Proofs.Ytfggaacijcggeaa

namespace Go.Proofs.Ytfggaacijcggeaa
open Go.RowKit
set_option linter.unusedVariables false
set_option maxRecDepth 100000
set_option maxHeartbeats 2000000

theorem SB.app_sends {w w1 : World} {base b : Nat} {pv sv dv dv1 : Value} {M : H.Mach} (h : SB w base b pv sv dv M) (t v : Int) (hown : w1.ownsRow base 85 2 dv1 (M.sends.length + 1) (sendCells M.sends ++ [.int .u8 t, .int .u16 v])) (hg : w.grownBy w1 dv.ownBlock) :
    Blk w1 b (scells pv sv dv M).toArray 81 ∧ SB (w1.setCell ⟨b, 12, none⟩ dv1) base b pv sv dv1 { M with sends := M.sends ++ [(t, v)] } ∧ SFr base w (w1.setCell ⟨b, 12, none⟩ dv1) := by
  have b1 := h.blk.grown hg (h.blk.ne_own h.sends (by decide))
  have o1 : w1.ownsRow base 62 2 sv M.shows.length (showCells M.shows) := h.shows.kept hg (own_two h.shows h.sends (by decide))
  have p1 : PileAt w1 base pv M.st := h.pile.grown h.sends (by decide) hg
  refine ⟨b1, ⟨h.hb, h.hc, h.hst, ?_, p1.other (p := ⟨b, 12, none⟩) b1 (by decide) _, ownsRow_setCell_other o1 (fun e => b1.ne_own o1 (by decide) e.symm) _, ?_⟩, ?_⟩
  · refine blk_list 12 _ b1 ?_
    rw [show (12 : Nat) = 9 + 3 from rfl, scells_set_tail h.hc]
    rfl
  · have e : sendCells (M.sends ++ [(t, v)]) = sendCells M.sends ++ [.int .u8 t, .int .u16 v] := by simp [sendCells]
    simp only [e, List.length_append, List.length_cons, List.length_nil]
    exact ownsRow_setCell_other hown (fun e => b1.ne_own hown (by decide) e.symm) _
  · exact (SFr.app h.sends (.inr (.inl rfl)) hg h.lt).setCell (p := ⟨b, 12, none⟩) b1 h.hb (.inl rfl) _

theorem SB.app_shows {w w1 : World} {base b : Nat} {pv sv dv sv1 : Value} {M : H.Mach} (h : SB w base b pv sv dv M) (k : Int) (s : ByteArray) (hown : w1.ownsRow base 62 2 sv1 (M.shows.length + 1) (showCells M.shows ++ [.int .u16 k, .string s])) (hg : w.grownBy w1 sv.ownBlock) :
    Blk w1 b (scells pv sv dv M).toArray 81 ∧ SB (w1.setCell ⟨b, 11, none⟩ sv1) base b pv sv1 dv { M with shows := M.shows ++ [(k, s)] } ∧ SFr base w (w1.setCell ⟨b, 11, none⟩ sv1) := by
  have b1 := h.blk.grown hg (h.blk.ne_own h.shows (by decide))
  have o1 : w1.ownsRow base 85 2 dv M.sends.length (sendCells M.sends) := h.sends.kept hg (own_two h.sends h.shows (by decide))
  have p1 : PileAt w1 base pv M.st := h.pile.grown h.shows (by decide) hg
  refine ⟨b1, ⟨h.hb, h.hc, h.hst, ?_, p1.other (p := ⟨b, 11, none⟩) b1 (by decide) _, ?_, ownsRow_setCell_other o1 (fun e => b1.ne_own o1 (by decide) e.symm) _⟩, ?_⟩
  · refine blk_list 11 _ b1 ?_
    rw [show (11 : Nat) = 9 + 2 from rfl, scells_set_tail h.hc]
    rfl
  · have e : showCells (M.shows ++ [(k, s)]) = showCells M.shows ++ [.int .u16 k, .string s] := by simp [showCells]
    simp only [e, List.length_append, List.length_cons, List.length_nil]
    exact ownsRow_setCell_other hown (fun e => b1.ne_own hown (by decide) e.symm) _
  · exact (SFr.app h.shows (.inl rfl) hg h.lt).setCell (p := ⟨b, 11, none⟩) b1 h.hb (.inl rfl) _

/-- A send is laid behind: what the walk needs of it. -/
theorem send_step {w : World} {base b : Nat} {pv sv dv : Value} {M : H.Mach} (h : SB w base b pv sv dv M) (a v : Int) (ao : Option Addr) (n cv : Nat) (hdv : dv = .slice ao n cv) (hn : n = M.sends.length) :
    ∀ v3 w3, w3.ownsRow base 85 2 v3 (n + 1) (sendCells M.sends ++ [.int .u8 a, .int .u16 v]) → (w.alloc (.cells #[.int .u8 a, .int .u16 v] 85)).grownBy w3 (Value.slice ao n cv).ownBlock →
      ∃ ao3 c3, v3 = .slice ao3 (n + 1) c3 ∧ w3.cell? ⟨b, 12, none⟩ = some (.slice ao n cv) ∧ w3.frozen? ⟨b, 12, none⟩ = false ∧ Hid (SAft w base b { M with sends := M.sends ++ [(a, v)] } (w3.setCell ⟨b, 12, none⟩ (.slice ao3 (n + 1) c3))) := by
  intro v3 w3 hown3 hg3
  obtain ⟨ao3, c3, hv3⟩ := own_shape hown3
  have hma := (h.alloc (.cells #[.int .u8 a, .int .u16 v] 85)).app_sends a v (dv1 := v3) (w1 := w3) (by rw [← hn]; exact hown3) (by rw [hdv]; exact hg3)
  have HB3 := hma.1
  refine ⟨ao3, c3, hv3, ?_, HB3.free 12, ?_⟩
  · rw [HB3.cell 12, List.getElem?_toArray, ← hdv]; exact scells_tail h.hc 3
  · rw [← hv3]
    exact ⟨⟨_, _, _, hma.2.1⟩, ((SFr.refl base w).alloc h.lt _).trans hma.2.2⟩

theorem one_25 {w : World} {base b : Nat} {pv sv dv : Value} {M : H.Mach} (h : SB w base b pv sv dv M) (a v : Int) (ha0 : 0 ≤ a) (ha1 : a < 4) (h0 : 0 ≤ v) (h1 : v ≤ 65535) (hs : M.sends.length ≤ 4) :
    Calls Try.prog 37 #[.pointer (some ⟨b, 0, none⟩), .int .i64 25, .int .i64 a, .int .i64 v] w fun e w' => e = .returned (.tuple #[]) ∧ SAft w base b { M with fault := (if M.sends.length = 4 then 5 else M.fault), sends := M.sends ++ [(a, v)] } w' := by
  obtain ⟨i0, hi, hz0, hz1, hz2⟩ := info_parts info85
  have c12 := h.c12
  have f12 := h.free 12
  have c13 := h.c13
  have f13 := h.free 13
  have hbl := h.blk.lt
  have hlt := h.lt
  obtain ⟨ao, cv, hdv⟩ := own_shape h.sends
  have hw1 : IntKind.u8.wrap a = a := by rw [IntKind.wrap_u8]; omega
  have hw2 : IntKind.u16.wrap v = v := by rw [IntKind.wrap_u16]; omega
  by_cases h4 : M.sends.length = 4
  · rw [if_pos h4]
    have h5 := h.set_fault 5
    have hs5 := send_step h5 a v ao M.sends.length cv hdv rfl
    have HO : Hid ((w.setCell ⟨b, 13, none⟩ (.int .i64 5)).ownsRow base 85 2 (.slice ao M.sends.length cv) M.sends.length (sendCells M.sends)) := by
      have := h5.sends
      rw [hdv] at this
      exact this
    have HSt : Hid (∀ v3 w3, w3.ownsRow base 85 2 v3 (M.sends.length + 1) (sendCells M.sends ++ [.int .u8 a, .int .u16 v]) → ((w.setCell ⟨b, 13, none⟩ (.int .i64 5)).alloc (.cells #[.int .u8 a, .int .u16 v] 85)).grownBy w3 (Value.slice ao M.sends.length cv).ownBlock →
      ∃ ao3 c3, v3 = .slice ao3 (M.sends.length + 1) c3 ∧ w3.cell? ⟨b, 12, none⟩ = some (.slice ao M.sends.length cv) ∧ w3.frozen? ⟨b, 12, none⟩ = false ∧ Hid (SAft w base b { M with fault := 5, sends := M.sends ++ [(a, v)] } (w3.setCell ⟨b, 12, none⟩ (.slice ao3 (M.sends.length + 1) c3)))) := by
      intro v3 w3 q1 q2
      obtain ⟨ao3, c3, e1, e2, e3, e4⟩ := hs5 v3 w3 q1 q2
      exact ⟨ao3, c3, e1, e2, e3, ⟨e4.out.1, (h.fr_set (SFr.refl _ _) _ _).trans e4.out.2⟩⟩
    rw [hdv] at c12
    rw [h4] at c12 HO HSt
    have hsz : (w.setCell ⟨b, 13, none⟩ (.int .i64 5)).heap.size = w.heap.size := by simp [World.setCell]
    clear h h5 hs5 hdv h4 hs
    go_enter Try.func37, Try.ntmps37
    go_wp2_with (at_builtin; refine wpList_append_own _ rfl (.tmp 137) (.tmp 143) 41 rfl base 85 i0 (.agg #[.int .u8 0, .int .u16 0]) 2 4 Try.underlying41 hi hz0 hz1 hz2 rfl (by decide) _ _ _ rfl (HO.out.alloc _) ⟨w.heap.size, 0, none⟩ 1 1 [.int .u8 a, .int .u16 v] rfl rfl (by have := new_two (w.setCell ⟨b, 13, none⟩ (.int .i64 5)) (.int .u8 a) (.int .u16 v) 85; rw [hsz] at this; exact this) (by intro u hu; simp at hu; rcases hu with rfl | rfl <;> rfl) (by unfold maxLen; omega) (by omega) (by simp; omega) ?_)
    intro v3 w3 hown3 hg3 _
    obtain ⟨ao3, c3, hv3, q12, p12, HM3⟩ := HSt.out v3 w3 hown3 hg3
    rw [hv3]
    clear hown3 hg3 hv3 HSt HO
    go_wp2
    go_end0
    exact ⟨rfl, HM3.out⟩
  · rw [if_neg h4]
    have HO : Hid (w.ownsRow base 85 2 (.slice ao M.sends.length cv) M.sends.length (sendCells M.sends)) := by
      have := h.sends
      rw [hdv] at this
      exact this
    have HSt : Hid (∀ v3 w3, w3.ownsRow base 85 2 v3 (M.sends.length + 1) (sendCells M.sends ++ [.int .u8 a, .int .u16 v]) → (w.alloc (.cells #[.int .u8 a, .int .u16 v] 85)).grownBy w3 (Value.slice ao M.sends.length cv).ownBlock →
      ∃ ao3 c3, v3 = .slice ao3 (M.sends.length + 1) c3 ∧ w3.cell? ⟨b, 12, none⟩ = some (.slice ao M.sends.length cv) ∧ w3.frozen? ⟨b, 12, none⟩ = false ∧ Hid (SAft w base b { M with sends := M.sends ++ [(a, v)] } (w3.setCell ⟨b, 12, none⟩ (.slice ao3 (M.sends.length + 1) c3)))) := send_step h a v ao M.sends.length cv hdv rfl
    rw [hdv] at c12
    have HL := show Hid (SAft w base b { M with sends := M.sends ++ [(a, v)] } = SAft w base b { M with fault := M.fault, sends := M.sends ++ [(a, v)] }) from rfl
    obtain ⟨n, hn⟩ : ∃ n, n = M.sends.length := ⟨_, rfl⟩
    rw [← hn] at c12 HO HSt h4 hs
    have hb : ((n : Int) == 4) = false := by rw [beq_eq_false_iff_ne]; omega
    clear h hdv h4 hn
    go_enter Try.func37, Try.ntmps37
    go_wp2_with (at_builtin; refine wpList_append_own _ rfl (.tmp 137) (.tmp 143) 41 rfl base 85 i0 (.agg #[.int .u8 0, .int .u16 0]) 2 4 Try.underlying41 hi hz0 hz1 hz2 rfl (by decide) _ _ _ rfl (HO.out.alloc _) ⟨w.heap.size, 0, none⟩ 1 1 [.int .u8 a, .int .u16 v] rfl rfl (new_two _ _ _ _) (by intro u hu; simp at hu; rcases hu with rfl | rfl <;> rfl) (by unfold maxLen; omega) (by omega) (by simp; omega) ?_)
    intro v3 w3 hown3 hg3 _
    obtain ⟨ao3, c3, hv3, q12, p12, HM3⟩ := HSt.out v3 w3 hown3 hg3
    rw [hv3]
    clear hown3 hg3 hv3 HSt HO
    go_wp2
    go_end0
    exact ⟨rfl, HM3.out⟩

end Go.Proofs.Ytfggaacijcggeaa
