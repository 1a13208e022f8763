/-
  The document's own run: the walk of one at Show.
-/
import Derived.Test.YtfggaacijcggeaaJSpotO
import Derived.Test.YtfggaacijcggeaaJShow
namespace Go.Proofs.Ytfggaacijcggeaa
open Go.RowKit
set_option linter.unusedVariables false
set_option maxRecDepth 100000

/-- A show is laid behind, the text is cut: what the walk needs of it. -/
theorem show_step {w : World} {base b : Nat} {pv sv dv : Value} {M : H.Mach} (h : SB w base b pv sv dv M) (y : Int) (tx : ByteArray) (htx : tx = M.text) (ch : Nat) (hch : ch = M.chars) (ao : Option Addr) (n cv : Nat) (hsv : sv = .slice ao n cv) (hn : n = M.shows.length) :
    ∀ v3 w3, w3.ownsRow base 62 2 v3 (n + 1) (showCells M.shows ++ [.int .u16 y, .string tx]) → ((w.alloc (.cells #[.int .u16 y, .string tx] 62)).drew).grownBy w3 (Value.slice ao n cv).ownBlock →
      ∃ ao3 c3, v3 = .slice ao3 (n + 1) c3 ∧ w3.cell? ⟨b, 11, none⟩ = some (.slice ao n cv) ∧ w3.frozen? ⟨b, 11, none⟩ = false ∧ w3.cell? ⟨b, 9, none⟩ = some (.string tx) ∧ w3.frozen? ⟨b, 9, none⟩ = false ∧ w3.cell? ⟨b, 10, none⟩ = some (.int .i64 (ch : Int)) ∧ w3.frozen? ⟨b, 10, none⟩ = false ∧
        Hid (SAft w base b { M with shows := M.shows ++ [(y, tx)], text := ⟨#[]⟩, chars := 0 } (((w3.setCell ⟨b, 11, none⟩ (.slice ao3 (n + 1) c3)).setCell ⟨b, 9, none⟩ (.string ⟨#[]⟩)).setCell ⟨b, 10, none⟩ (.int .i64 0))) := by
  intro v3 w3 hown3 hg3
  obtain ⟨ao3, c3, hv3⟩ := own_shape hown3
  have hma := ((h.alloc (.cells #[.int .u16 y, .string tx] 62)).drew).app_shows y tx (sv1 := v3) (w1 := w3) (by rw [← hn]; exact hown3) (by rw [hsv]; exact hg3)
  have HB3 := hma.1
  refine ⟨ao3, c3, hv3, ?_, HB3.free 11, ?_, HB3.free 9, ?_, HB3.free 10, ?_⟩
  · rw [HB3.cell 11, List.getElem?_toArray, ← hsv]; exact scells_tail h.hc 2
  · rw [HB3.cell 9, List.getElem?_toArray, htx]; exact scells_tail h.hc 0
  · rw [HB3.cell 10, List.getElem?_toArray, hch]; exact scells_tail h.hc 1
  · have hm := hma.2.1
    have hf := hma.2.2
    rw [hv3] at hm hf
    have hm2 := hm.set_text ⟨#[]⟩
    exact ⟨⟨_, _, _, hm2.set_chars 0⟩, hm2.fr_set (hm.fr_set (((SFr.refl base w).alloc h.lt _).drew.trans hf) _ _) _ _⟩

theorem hasKey_take {l : List (Int × ByteArray)} {k : Nat} {x : Int × ByteArray} (v : Int) (h : l[k]? = some x) : H.hasKey v (l.take (k + 1)) = (H.hasKey v (l.take k) || x.1 == v) := by
  have hk := (List.getElem?_eq_some_iff.1 h)
  rw [List.take_succ_eq_append_getElem hk.1, hk.2]
  simp [H.hasKey]

/-- What Show makes of the spot. -/
def H.shown (v : Int) (M : H.Mach) : H.Mach := { M with fault := (if M.shows.length = 8 then 5 else if H.hasKey v M.shows then 6 else M.fault), shows := M.shows ++ [(v, M.text)], text := ⟨#[]⟩, chars := 0 }

/-- The fault, as the loop finds it. -/
def faultK (v : Int) (k : Nat) (M : H.Mach) : Int := if H.hasKey v (M.shows.take k) then 6 else M.fault

set_option maxHeartbeats 8000000 in
theorem one_24 {w : World} {base b : Nat} {pv sv dv : Value} {M : H.Mach} (h : SB w base b pv sv dv M) (a v : Int) (h0 : 0 ≤ v) (h1 : v ≤ 65535) (hs : M.shows.length ≤ 8) (hsr : ∀ x ∈ M.shows, 0 ≤ x.1 ∧ x.1 ≤ 65535) :
    Calls Try.prog 37 #[.pointer (some ⟨b, 0, none⟩), .int .i64 24, .int .i64 a, .int .i64 v] w fun e w' => e = .returned (.tuple #[]) ∧ SAft w base b (H.shown v M) w' := by
  obtain ⟨i0, hi, hz0, hz1, hz2⟩ := info_parts info62
  have HP : Hid (SB w base b pv sv dv M) := h
  have hlt := h.lt
  obtain ⟨ao, cv, hsv⟩ := own_shape h.shows
  have HSV : Hid (sv = .slice ao M.shows.length cv) := hsv
  have HSR : Hid (∀ x ∈ M.shows, 0 ≤ x.1 ∧ x.1 ≤ 65535) := hsr
  obtain ⟨n, hn⟩ : ∃ n, n = M.shows.length := ⟨_, rfl⟩
  have Hn : Hid (n = M.shows.length) := hn
  obtain ⟨tx, htx⟩ : ∃ tx, tx = M.text := ⟨_, rfl⟩
  have Htx : Hid (tx = M.text) := htx
  obtain ⟨ch, hch⟩ : ∃ ch, ch = M.chars := ⟨_, rfl⟩
  have Hch : Hid (ch = M.chars) := hch
  rw [← hn] at hs
  have hw2 : IntKind.u16.wrap v = v := by rw [IntKind.wrap_u16]; omega
  have hone : Hid (∀ u ∈ [Value.int .u16 v, .string tx], u.oneCell' = true) := by unfold Hid; intro u hu; simp at hu; rcases hu with rfl | rfl <;> rfl
  have hm63 : Hid (n + 1 ≤ maxLen) := by unfold Hid maxLen; omega
  have hbyt : Hid ((n + 1) * 24 ≤ 140737488355328) := by unfold Hid; omega
  clear h hsv hsr hn htx hch
  go_enter Try.func37, Try.ntmps37
  go_wp2_with fail
  go_loopw [8] (fun i wr => ∃ k : Nat, k ≤ n ∧ i = .int .i64 k ∧ (n = 8 → k = 0) ∧ SB wr base b pv sv dv { M with fault := faultK v k M } ∧ SFr base w wr)
    (fun i _ => n - (intOf i).toNat)
  case atStart => exact ⟨0, Nat.zero_le _, rfl, fun _ => rfl, HP.out, SFr.refl _ _⟩
  case round =>
    obtain ⟨k, hk, rfl, hk8, hm, hf⟩ := hrel
    have HM : Hid (SB wr base b pv sv dv { M with fault := faultK v k M }) := hm
    have HF : Hid (SFr base w wr) := hf
    have c11 := hm.c11
    rw [HSV.out, ← Hn.out] at c11
    have f13 := hm.free 13
    have c13 := hm.c13
    have hbl := hm.blk.lt
    have hltr := hm.lt
    clear hm hf
    by_cases h8 : n = 8
    · obtain rfl := hk8 h8
      subst h8
      have HM5 : Hid (SB (wr.setCell ⟨b, 13, none⟩ (.int .i64 5)) base b pv sv dv { M with fault := 5 }) := HM.out.set_fault 5
      have hsz : (wr.setCell ⟨b, 13, none⟩ (.int .i64 5)).heap.size = wr.heap.size := by simp [World.setCell]
      have HF5 : Hid (SFr base w (wr.setCell ⟨b, 13, none⟩ (.int .i64 5))) := HM.out.fr_set HF.out _ _
      have HE : Hid (∀ w', SAft (wr.setCell ⟨b, 13, none⟩ (.int .i64 5)) base b { M with fault := 5, shows := M.shows ++ [(v, tx)], text := ⟨#[]⟩, chars := 0 } w' → SAft w base b (H.shown v M) w') := by
        intro w' hq
        unfold H.shown
        rw [if_pos Hn.out.symm, ← Htx.out]
        exact ⟨hq.1, HF5.out.trans hq.2⟩
      have r11 : (wr.setCell ⟨b, 13, none⟩ (.int .i64 5)).cell? ⟨b, 11, none⟩ = some (.slice ao 8 cv) := by have := HM5.out.c11; rw [HSV.out, ← Hn.out] at this; exact this
      have r9 : (wr.setCell ⟨b, 13, none⟩ (.int .i64 5)).cell? ⟨b, 9, none⟩ = some (.string tx) := by have := HM5.out.c9; rw [Htx.out]; exact this
      have HOd : Hid ((((wr.setCell ⟨b, 13, none⟩ (.int .i64 5)).alloc (.cells #[.int .u16 v, .string tx] 62)).drew).ownsRow base 62 2 (.slice ao 8 cv) 8 (showCells M.shows)) := by
        have := (HM5.out.alloc (.cells #[.int .u16 v, .string tx] 62)).shows
        rw [HSV.out] at this
        simp only [← Hn.out] at this
        exact this
      have hnews : Hid (∀ j u, [Value.int .u16 v, .string tx][j]? = some u → (((wr.setCell ⟨b, 13, none⟩ (.int .i64 5)).alloc (.cells #[.int .u16 v, .string tx] 62)).drew).cell? ((⟨wr.heap.size, 0, none⟩ : Addr).add j) = some u) := by
        have := new_two (wr.setCell ⟨b, 13, none⟩ (.int .i64 5)) (.int .u16 v) (.string tx) 62
        rw [hsz] at this
        exact this
      have hbase : Hid (base ≤ (((wr.setCell ⟨b, 13, none⟩ (.int .i64 5)).alloc (.cells #[.int .u16 v, .string tx] 62)).drew).heap.size) := by unfold Hid; simp; omega
      have HKEY : Hid (∀ v3 w3, w3.ownsRow base 62 2 v3 (8 + 1) (showCells M.shows ++ [.int .u16 v, .string tx]) → (((wr.setCell ⟨b, 13, none⟩ (.int .i64 5)).alloc (.cells #[.int .u16 v, .string tx] 62)).drew).grownBy w3 (Value.slice ao 8 cv).ownBlock →
          ∃ ao3 c3, v3 = .slice ao3 (8 + 1) c3 ∧ w3.cell? ⟨b, 11, none⟩ = some (.slice ao 8 cv) ∧ w3.frozen? ⟨b, 11, none⟩ = false ∧ w3.cell? ⟨b, 9, none⟩ = some (.string tx) ∧ w3.frozen? ⟨b, 9, none⟩ = false ∧ w3.cell? ⟨b, 10, none⟩ = some (.int .i64 (ch : Int)) ∧ w3.frozen? ⟨b, 10, none⟩ = false ∧
            Hid (SAft (wr.setCell ⟨b, 13, none⟩ (.int .i64 5)) base b { M with fault := 5, shows := M.shows ++ [(v, tx)], text := ⟨#[]⟩, chars := 0 } (((w3.setCell ⟨b, 11, none⟩ (.slice ao3 (8 + 1) c3)).setCell ⟨b, 9, none⟩ (.string ⟨#[]⟩)).setCell ⟨b, 10, none⟩ (.int .i64 0)))) :=
        show_step HM5.out v tx Htx.out ch Hch.out ao 8 cv (by rw [HSV.out, ← Hn.out]) Hn.out
      clear HM HF HM5 HF5 hk8
      go_wp2_with fail
      go_region_law (refine step_append_mine rfl (.tmp 104) (.tmp 112) 40 rfl base 62 i0 (.agg #[.int .u16 0, .string ⟨#[]⟩]) 2 24 Try.underlying40 hi hz0 hz1 hz2 rfl (by decide) (.slice ao 8 cv) 8 (showCells M.shows) (by simp [Act.eval]) HOd.out ⟨wr.heap.size, 0, none⟩ 1 1 [.int .u16 v, .string tx] (by simp [Act.eval]) rfl hnews.out hone.out hm63.out hbyt.out hbase.out ?_; intro v3 w3 hown3 hg3; obtain ⟨ao3, c3, hv3, q11, p11, q9, p9, q10, p10, HM3⟩ := HKEY.out v3 w3 hown3 hg3; rw [hv3]; clear hown3 hg3 hv3)
      all_goals go_wp2
      all_goals go_end0
      all_goals exact ⟨rfl, HE.out _ HM3.out⟩
    · have hn8 : (n : Int) < 8 := by omega
      by_cases hkn : k < n
      · obtain ⟨x, hx⟩ : ∃ x, M.shows[k]? = some x := ⟨M.shows[k]'(by have := Hn.out; omega), List.getElem?_eq_getElem (by have := Hn.out; omega)⟩
        obtain ⟨sk, st⟩ := x
        obtain ⟨g, rfl⟩ : ∃ g, ao = some ⟨g, 0, none⟩ := by
          have ho := HM.out.shows
          rw [HSV.out] at ho
          rcases ho.2 with ⟨_, hq⟩ | ⟨g, c, _, hq, _⟩
          · simp only at hq; have := Hn.out; omega
          · simp at hq; exact ⟨g, hq.1⟩
        have hor := HM.out.shows
        rw [HSV.out] at hor
        simp only [← Hn.out] at hor
        have d0 := (hor.cellAt (k * 2) (by omega)).trans (showCells_at _ k _ hx).1
        have hr := HSR.out _ (List.mem_of_getElem? hx)
        have hw3 : IntKind.i64.wrap sk = sk := by rw [IntKind.wrap_i64]; simp only at hr; omega
        have HX : Hid (H.hasKey v (M.shows.take (k + 1)) = (H.hasKey v (M.shows.take k) || sk == v)) := hasKey_take v hx
        have hk0 : (k : Int) < (n : Int) := by omega
        have hw4 : IntKind.i64.wrap ((k : Int) + 1) = (k : Int) + 1 := by rw [IntKind.wrap_i64]; omega
        clear hor hx hr
        by_cases hey : sk = v
        · subst hey
          have HM6 : Hid (SB (wr.setCell ⟨b, 13, none⟩ (.int .i64 6)) base b pv sv dv { M with fault := faultK sk (k + 1) M }) := by
            have e : faultK sk (k + 1) M = 6 := by unfold faultK; rw [HX.out]; simp
            rw [e]
            exact HM.out.set_fault 6
          have HF6 : Hid (SFr base w (wr.setCell ⟨b, 13, none⟩ (.int .i64 6))) := HM.out.fr_set HF.out _ _
          clear HX
          go_wp2
          go_roundw
          case rel => exact ⟨k + 1, by omega, by go_num, by omega, HM6.out, HF6.out⟩
          case measure => simp [intOf]; omega
        · have hb : (sk == v) = false := by simpa using hey
          have HM6 : Hid (SB wr base b pv sv dv { M with fault := faultK v (k + 1) M }) := by
            have e : faultK v (k + 1) M = faultK v k M := by unfold faultK; rw [HX.out, hb, Bool.or_false]
            rw [e]
            exact HM.out
          clear HX hey
          go_wp2
          go_roundw
          case rel => exact ⟨k + 1, by omega, by go_num, by omega, HM6.out, HF.out⟩
          case measure => simp [intOf]; omega
      · obtain rfl : k = n := by omega
        have hk1 : ¬ (k : Int) < (k : Int) := by omega
        have hb8 : ((k : Int) == 8) = false := by rw [beq_eq_false_iff_ne]; omega
        have ef : faultK v k M = (if M.shows.length = 8 then 5 else if H.hasKey v M.shows then 6 else M.fault) := by
          unfold faultK
          rw [if_neg (show ¬ M.shows.length = 8 by rw [← Hn.out]; exact h8), Hn.out, List.take_length]
        have HE : Hid (∀ w', SAft wr base b { M with fault := faultK v k M, shows := M.shows ++ [(v, tx)], text := ⟨#[]⟩, chars := 0 } w' → SAft w base b (H.shown v M) w') := by
          intro w' hq
          unfold H.shown
          rw [← ef, ← Htx.out]
          exact ⟨hq.1, HF.out.trans hq.2⟩
        have r9 : wr.cell? ⟨b, 9, none⟩ = some (.string tx) := by have := HM.out.c9; rw [Htx.out]; exact this
        have HOd : Hid (((wr.alloc (.cells #[.int .u16 v, .string tx] 62)).drew).ownsRow base 62 2 (.slice ao k cv) k (showCells M.shows)) := by
          have := (HM.out.alloc (.cells #[.int .u16 v, .string tx] 62)).shows
          rw [HSV.out] at this
          simp only [← Hn.out] at this
          exact this
        have hnews : Hid (∀ j u, [Value.int .u16 v, .string tx][j]? = some u → ((wr.alloc (.cells #[.int .u16 v, .string tx] 62)).drew).cell? ((⟨wr.heap.size, 0, none⟩ : Addr).add j) = some u) := new_two _ _ _ _
        have hbase : Hid (base ≤ ((wr.alloc (.cells #[.int .u16 v, .string tx] 62)).drew).heap.size) := by unfold Hid; simp; omega
        have HKEY : Hid (∀ v3 w3, w3.ownsRow base 62 2 v3 (k + 1) (showCells M.shows ++ [.int .u16 v, .string tx]) → ((wr.alloc (.cells #[.int .u16 v, .string tx] 62)).drew).grownBy w3 (Value.slice ao k cv).ownBlock →
            ∃ ao3 c3, v3 = .slice ao3 (k + 1) c3 ∧ w3.cell? ⟨b, 11, none⟩ = some (.slice ao k cv) ∧ w3.frozen? ⟨b, 11, none⟩ = false ∧ w3.cell? ⟨b, 9, none⟩ = some (.string tx) ∧ w3.frozen? ⟨b, 9, none⟩ = false ∧ w3.cell? ⟨b, 10, none⟩ = some (.int .i64 (ch : Int)) ∧ w3.frozen? ⟨b, 10, none⟩ = false ∧
              Hid (SAft wr base b { M with fault := faultK v k M, shows := M.shows ++ [(v, tx)], text := ⟨#[]⟩, chars := 0 } (((w3.setCell ⟨b, 11, none⟩ (.slice ao3 (k + 1) c3)).setCell ⟨b, 9, none⟩ (.string ⟨#[]⟩)).setCell ⟨b, 10, none⟩ (.int .i64 0)))) :=
          show_step HM.out v tx Htx.out ch Hch.out ao k cv (by rw [HSV.out, ← Hn.out]) Hn.out
        clear HM HF hk8 ef
        go_wp2_with fail
        go_region_law (refine step_append_mine rfl (.tmp 104) (.tmp 112) 40 rfl base 62 i0 (.agg #[.int .u16 0, .string ⟨#[]⟩]) 2 24 Try.underlying40 hi hz0 hz1 hz2 rfl (by decide) (.slice ao k cv) k (showCells M.shows) (by simp [Act.eval]) HOd.out ⟨wr.heap.size, 0, none⟩ 1 1 [.int .u16 v, .string tx] (by simp [Act.eval]) rfl hnews.out hone.out hm63.out hbyt.out hbase.out ?_; intro v3 w3 hown3 hg3; obtain ⟨ao3, c3, hv3, q11, p11, q9, p9, q10, p10, HM3⟩ := HKEY.out v3 w3 hown3 hg3; rw [hv3]; clear hown3 hg3 hv3)
        all_goals go_wp2
        all_goals go_end0
        all_goals exact ⟨rfl, HE.out _ HM3.out⟩

end Go.Proofs.Ytfggaacijcggeaa
