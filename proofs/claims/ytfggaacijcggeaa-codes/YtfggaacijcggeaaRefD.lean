/-
  The document's own answer: the walk of Decode.
-/
import Derived.Test.YtfggaacijcggeaaRefP
namespace Go.Proofs.Ytfggaacijcggeaa
open Go.RowKit
set_option linter.unusedVariables false


set_option maxRecDepth 100000 in
set_option maxHeartbeats 8000000 in
theorem refDec_any (s : ByteArray) (w : World) (hs : s.size ≤ maxLen) :
    Calls Try.prog 9 #[.string s] w fun e w' => decEnd (H.bts s) w.heap.size w e w' := by
  obtain ⟨i0, hi, hz0, hz1, hz2⟩ := info_parts info28
  obtain ⟨j0, hj9, hy0, hy1, hy2⟩ := info_parts info3
  have HS : Hid (s.size ≤ maxLen) := hs
  have HL : Hid ((H.bts s).length = s.size) := H.bts_length s
  have HRg : Hid (∀ i, 0 ≤ H.at0 (H.bts s) i ∧ H.at0 (H.bts s) i ≤ 255) := H.at0_bts_range s
  unfold maxLen at hs
  go_enter Try.func9, Try.ntmps9
  go_wp2
  go_loopw [5, 6, 7] (fun v u i wr => ∃ (p cv cb : Nat) (ao bo : Option Addr) (acc : List (Int × Int)), v = .slice ao acc.length cv ∧ u = .slice bo acc.length cb ∧ p ≤ s.size ∧ i = .int .i64 p ∧ wr.ownsRow w.heap.size 28 2 (.slice ao acc.length cv) acc.length (insCells acc) ∧ wr.ownsRow w.heap.size 3 1 (.slice bo acc.length cb) acc.length (i64s (H.begins 0 acc)) ∧ Below w.heap.size w wr ∧ acc.length ≤ 64 ∧ (∀ x ∈ acc, H.alone x.1 x.2 = true ∧ 0 ≤ x.1) ∧ p = (H.encAll acc).length ∧ H.scanAt (H.bts s) 0 [] = H.scanAt (H.bts s) p acc)
    (fun _ _ i _ => s.size - (intOf i).toNat)
  case atStart => exact ⟨0, 0, 0, none, none, [], rfl, rfl, Nat.zero_le _, rfl, World.ownsRow_nil _ _ _ _, (show World.ownsRow _ _ _ _ _ 0 [] from World.ownsRow_nil _ _ _ _), Below.refl _ _, by simp, by simp, rfl, rfl⟩
  case round =>
    obtain ⟨p, cv, cb, ao, bo, acc, rfl, rfl, hp, rfl, hown, hbeg, hbel, h64, hal, hpe, hsc⟩ := hrel
    have HO : Hid (wr.ownsRow w.heap.size 28 2 (.slice ao acc.length cv) acc.length (insCells acc)) := hown
    have HG : Hid (wr.ownsRow w.heap.size 3 1 (.slice bo acc.length cb) acc.length (i64s (H.begins 0 acc))) := hbeg
    have HB : Hid (Below w.heap.size w wr) := hbel
    have HC : Hid (H.scanAt (H.bts s) 0 [] = H.scanAt (H.bts s) p acc) := hsc
    have HA : Hid (∀ x ∈ acc, H.alone x.1 x.2 = true ∧ 0 ≤ x.1) := hal
    have HPe : Hid (p = (H.encAll acc).length) := hpe
    have hsz := hbel.size
    have hp3 : p ≤ 192 := by have := (H.encAll_length acc).2; omega
    clear hown hbeg hbel hsc hal hpe
    by_cases hlt : p < s.size
    · have hat := H.at0_bts s p hlt
      obtain ⟨o, ho⟩ : ∃ o : Int, o = H.at0 (H.bts s) p := ⟨_, rfl⟩
      have hor := HRg.out p
      rw [← ho] at hor hat
      obtain ⟨ho0, ho1⟩ := hor
      have hat' : ((s[p].toNat : Nat) : Int) = o := hat.symm
      have Ho : Hid (o = H.at0 (H.bts s) p) := ho
      have hwo : wrap64 o = o := by unfold wrap64; omega
      have hwl := H.wid_le o
      clear ho hat
      by_cases hl : acc.length = 64
      · have hd : Hid (H.decode (H.bts s) = ([], 1, (p : Int))) := H.decode_bad _ [] p (HC.out.trans (H.scanAt_bad _ _ _ (by have := HL.out; omega) (by rintro ⟨_, h, _⟩; exact h hl)))
        have hl2 : (64 : Int) ≤ (acc.length : Int) := by omega
        clear HC HO HG
        go_wp2
        go_ret3
        exact decEnd_bad hd.out HB.out
      have hl2 : decide ((64 : Int) ≤ (acc.length : Int)) = false := by simp; omega
      have hl3 : decide (64 ≤ acc.length) = false := by simp; omega
      by_cases h28 : 28 ≤ o
      · have hd : Hid (H.decode (H.bts s) = ([], 1, (p : Int))) := H.decode_bad _ [] p (HC.out.trans (H.scanAt_bad _ _ _ (by have := HL.out; omega) (by rintro ⟨_, _, h⟩; rw [← Ho.out] at h; have := H.alone_op _ _ h; omega)))
        clear HC HO HG
        go_wp2
        go_ret3
        exact decEnd_bad hd.out HB.out
      have hl4 : decide (28 ≤ o) = false := by simp; omega
      have hsx : ∀ W, (Instr.index 9 (.string ⟨#[45, 119, 99, 99, 45, 45, 45, 45, 45, 45, 45, 45, 45, 45, 45, 45, 106, 106, 45, 45, 45, 45, 45, 45, 45, 116, 45, 45]⟩) (.int .i64 o)).run Try.prog W = .ok (.int .u8 (H.shp o)) W := fun W => shp_at o ho0 (by omega) W
      by_cases hw : s.size ≤ p + H.wid o
      · have hd : Hid (H.decode (H.bts s) = ([], 1, (p : Int))) := H.decode_bad _ [] p (HC.out.trans (H.scanAt_bad _ _ _ (by have := HL.out; omega) (by rintro ⟨h, _, _⟩; rw [← Ho.out] at h; have := HL.out; omega)))
        have hw2 : (s.size : Int) ≤ (p : Int) + (H.wid o : Int) := by omega
        clear HC HO HG
        go_wp2_with (go_at_call 26; refine (size_any o _).mono ?_; rintro e w' ⟨rfl, rfl⟩)
        go_ret3
        exact decEnd_bad hd.out HB.out
      have hw2 : decide ((s.size : Int) ≤ (p : Int) + (H.wid o : Int)) = false := by simp; omega
      have hw3 : decide (s.size ≤ p + H.wid o) = false := by simp; omega
      go_wp2_with (go_at_call 26; refine (size_any o _).mono ?_; rintro e w' ⟨rfl, rfl⟩)
      go_loop [10, 11] (fun a k => ∃ j : Nat, j ≤ H.wid o ∧ a = .int .i64 (H.part (H.bts s) p j) ∧ k = .int .i64 ((j + 1 : Nat) : Int)) (fun _ k => H.wid o + 1 - (intOf k).toNat)
      case atStart => exact ⟨0, Nat.zero_le _, rfl, rfl⟩
      case round =>
        obtain ⟨j, hj, rfl, rfl⟩ := hrel
        by_cases hjw : j < H.wid o
        · have hlt2 : p + (j + 1) < s.size := by omega
          have hrb := HRg.out (p + (j + 1))
          have hat2 := H.at0_bts s (p + (j + 1)) hlt2
          have hpr := H.part_range (H.bts s) p HRg.out j (by omega)
          have hix : ∀ W, (Instr.index 9 (.string s) (.int .i64 ((p + (j + 1) : Nat) : Int))).run Try.prog W = .ok (.int .u8 (H.at0 (H.bts s) (p + (j + 1)))) W := by
            intro W
            rw [run_index_string (P := Try.prog) W 9 s .i64 ((p + (j + 1) : Nat) : Int) Try.underlying9, dif_pos ⟨by omega, by omega⟩, hat2]
            rfl
          obtain ⟨b, hb⟩ : ∃ b, b = H.at0 (H.bts s) (p + (j + 1)) := ⟨_, rfl⟩
          obtain ⟨A, hA⟩ : ∃ A, A = H.part (H.bts s) p j := ⟨_, rfl⟩
          have HBb : Hid (H.part (H.bts s) p (j + 1) = 256 * A + b) := by unfold Hid; rw [hA, hb]; rfl
          rw [← hb] at hix hrb
          rw [← hA] at hpr ⊢
          obtain ⟨hr0, hr1⟩ := hrb
          obtain ⟨hp0, hp1⟩ := hpr
          clear hat2 hA hb
          have Hj1 : Hid (j < H.wid o) := hjw
          obtain ⟨k, hk⟩ : ∃ k : Int, k = ((j + 1 : Nat) : Int) := ⟨_, rfl⟩
          have HK : Hid (k = (j : Int) + 1) := by unfold Hid; omega
          have hix : ∀ W, (Instr.index 9 (.string s) (.int .i64 ((p : Int) + k))).run Try.prog W = .ok (.int .u8 b) W := by
            intro W
            rw [show (p : Int) + k = ((p + (j + 1) : Nat) : Int) by omega]
            exact hix W
          rw [← hk]
          have hj1 : k ≤ (H.wid o : Int) := by omega
          have hk0 : 1 ≤ k := by omega
          have hk1 : k ≤ 2 := by omega
          have hiw : wrap64 ((p : Int) + k) = (p : Int) + k := by unfold wrap64; omega
          have hkw : wrap64 (k + 1) = k + 1 := by unfold wrap64; omega
          have haw : wrap64 (256 * A) = 256 * A := by unfold wrap64; omega
          have hbw : wrap64 b = b := by unfold wrap64; omega
          have hcw : wrap64 (256 * A + b) = 256 * A + b := by unfold wrap64; omega
          clear hk hjw hlt2 hj
          go_wp2
          go_round
          case rel => exact ⟨j + 1, by have := Hj1.out; omega, by rw [HBb.out], by rw [HK.out]; rfl⟩
          case measure => have := Hj1.out; have := HK.out; simp [intOf]; omega
        · have hje : j = H.wid o := by omega
          subst hje
          have hpr := H.part_range (H.bts s) p HRg.out (H.wid o) (by omega)
          have hop := H.opnd_part (H.bts s) p HRg.out o Ho.out.symm
          obtain ⟨A, hA⟩ : ∃ A, A = H.part (H.bts s) p (H.wid o) := ⟨_, rfl⟩
          rw [← hA] at hpr hop ⊢
          obtain ⟨hp0, hp1⟩ := hpr
          obtain ⟨k, hk⟩ : ∃ k : Int, k = ((H.wid o + 1 : Nat) : Int) := ⟨_, rfl⟩
          rw [← hk]
          have hj1 : decide (k ≤ (H.wid o : Int)) = false := by simp; omega
          have hj2 : ¬ k ≤ (H.wid o : Int) := by omega
          have h3 : ((H.shp o == 106) = true ∧ H.shp o = 106 ∧ 127 < A ∧ H.opnd (H.bts s) p = A - 256) ∨ (H.shp o = 106 ∧ ¬ 127 < A ∧ H.opnd (H.bts s) p = A) ∨ ((H.shp o == 106) = false ∧ H.opnd (H.bts s) p = A) := by
            by_cases hjj : o = 16 ∨ o = 17
            · have es : H.shp o = 106 := by unfold H.shp; rw [if_neg (by omega), if_neg (by omega), if_pos hjj]
              by_cases h : 127 < A
              · exact .inl ⟨by rw [es]; rfl, es, h, by rw [hop, if_pos ⟨hjj, h⟩]⟩
              · exact .inr (.inl ⟨es, h, by rw [hop, if_neg (fun x => h x.2)]⟩)
            · exact .inr (.inr ⟨shp_ne o hjj, by rw [hop, if_neg (fun x => hjj x.1)]⟩)
          clear hk hjw hA hop
          rcases h3 with ⟨-, es, hA1, hop⟩ | ⟨es, hA1, hop⟩ | ⟨es, hop⟩
          · rw [es] at hsx ⊢
            have haw : wrap64 (A - 256) = A - 256 := by unfold wrap64; omega
            have HOp : Hid (H.opnd (H.bts s) p = A - 256) := hop
            clear hop es
            go_wp2_with fail
            obtain ⟨a, ha⟩ : ∃ a, a = A - 256 := ⟨_, rfl⟩
            have Ha : Hid (a = H.opnd (H.bts s) p) := by unfold Hid; rw [HOp.out, ha]
            rw [← ha]
            clear ha haw HOp
            refine (may_any o a _ ho0).mono ?_
            rintro e w' ⟨rfl, rfl⟩
            cases halo : H.alone o a
            · have hd : Hid (H.decode (H.bts s) = ([], 1, (p : Int))) := H.decode_bad _ [] p (HC.out.trans (H.scanAt_bad _ _ _ (by have := HL.out; omega) (by rintro ⟨_, _, h⟩; rw [← Ho.out, ← Ha.out, halo] at h; cases h)))
              clear halo HC HO HG
              go_wp2
              go_ret3
              exact decEnd_bad hd.out HB.out
            · have Hal : Hid (H.alone o a = true) := halo
              clear halo
              go_wp2_with (at_builtin; refine wpList_append_own _ rfl (.tmp 72) (.tmp 78) 22 rfl w.heap.size 28 i0 (.agg #[.int .u8 0, .int .i64 0]) 2 16 Try.underlying22 hi hz0 hz1 hz2 rfl (by decide) _ _ _ rfl (HO.out.alloc _) ⟨wr.heap.size, 0, none⟩ 1 1 [.int .u8 o, .int .i64 a] rfl rfl (new_two _ _ _ _) (by intro u hu; simp at hu; rcases hu with rfl | rfl <;> rfl) (by unfold maxLen; omega) (by omega) (by simp; omega) ?_)
              intro v3 w3 hown3 hg3 _
              have hb3 : Below w.heap.size w w3 := below_app (HB.out.alloc hsz _) hg3 (HO.out.alloc _) (Nat.le_refl _) (by simp; omega)
              have HG3 : Hid (w3.ownsRow w.heap.size 3 1 (.slice bo acc.length cb) acc.length (i64s (H.begins 0 acc))) := own_other (HG.out.alloc _) (HO.out.alloc _) (by decide) hg3
              obtain ⟨g3, cap3, hv3⟩ : ∃ g3 cap3, v3 = .slice (some ⟨g3, 0, none⟩) (acc.length + 1) cap3 := by
                rcases hown3.2 with ⟨_, h⟩ | ⟨g3, cap3, _, h, _⟩
                · omega
                · exact ⟨g3, cap3, h⟩
              have HV : Hid (v3 = .slice (some ⟨g3, 0, none⟩) (acc.length + 1) cap3) := hv3
              have HB3 : Hid (Below w.heap.size w w3) := hb3
              have hs3 := hb3.size
              have HO3 : Hid (w3.ownsRow w.heap.size 28 2 v3 (acc.length + 1) (insCells acc ++ [.int .u8 o, .int .i64 a])) := hown3
              clear hown3 hg3 hb3 HO HG HB hv3
              go_wp2_with (at_builtin; refine wpList_append_own _ rfl (.tmp 80) (.tmp 82) 69 rfl w.heap.size 3 j0 (.int .i64 0) 1 8 Try.underlying69 hj9 hy0 hy1 hy2 rfl (by decide) _ _ _ rfl (HG3.out.alloc _) ⟨w3.heap.size, 0, none⟩ 1 1 [.int .i64 p] rfl rfl (new_one _ _ _) (by intro u hu; simp at hu; subst hu; rfl) (by unfold maxLen; omega) (by omega) (by simp; omega) ?_)
              intro v4 w4 hown4 hg4 _
              have hb4 : Below w.heap.size w w4 := below_app (HB3.out.alloc hs3 _) hg4 (HG3.out.alloc _) (Nat.le_refl _) (by simp; omega)
              have HO4 : Hid (w4.ownsRow w.heap.size 28 2 v3 (acc.length + 1) (insCells acc ++ [.int .u8 o, .int .i64 a])) := own_other (HO3.out.alloc _) (HG3.out.alloc _) (by decide) hg4
              obtain ⟨g4, cap4, hv4⟩ : ∃ g4 cap4, v4 = .slice (some ⟨g4, 0, none⟩) (acc.length + 1) cap4 := by
                rcases hown4.2 with ⟨_, h⟩ | ⟨g4, cap4, _, h, _⟩
                · omega
                · exact ⟨g4, cap4, h⟩
              have HV4 : Hid (v4 = .slice (some ⟨g4, 0, none⟩) (acc.length + 1) cap4) := hv4
              have HB4 : Hid (Below w.heap.size w w4) := hb4
              have HG4 : Hid (w4.ownsRow w.heap.size 3 1 v4 (acc.length + 1) (i64s (H.begins 0 acc) ++ [.int .i64 p])) := hown4
              clear hown4 hg4 hb4 HO3 HG3 HB3 hv4
              go_wp2
              go_roundw
              case rel =>
                refine ⟨p + 1 + H.wid o, cap3, cap4, some ⟨g3, 0, none⟩, some ⟨g4, 0, none⟩, acc ++ [(o, a)], by rw [HV.out]; simp, by rw [HV4.out]; simp, by omega, by go_num, ?_, ?_, HB4.out, by simp; omega, ?_, ?_, ?_⟩
                · rw [insCells_snoc]
                  have h := HO4.out
                  rw [HV.out] at h
                  simpa using h
                · rw [H.begins_snoc, i64s_snoc, Nat.zero_add, ← HPe.out]
                  have h := HG4.out
                  rw [HV4.out] at h
                  simpa using h
                · intro x hx
                  rcases List.mem_append.1 hx with h | h
                  · exact HA.out x h
                  · simp at h; subst h; exact ⟨Hal.out, ho0⟩
                · rw [H.encAll_snoc, List.length_append, ← HPe.out, H.enc_length]; show p + 1 + H.wid o = p + (1 + H.wid o); omega
                · rw [HC.out, Ho.out, Ha.out]
                  exact H.scanAt_ok _ _ _ (by have := HL.out; omega) (by rw [← Ho.out]; have := HL.out; omega) hl (by rw [← Ho.out, ← Ha.out]; exact Hal.out)
              case measure => simp [intOf]; omega
          · rw [es] at hsx ⊢
            have Ha : Hid (A = H.opnd (H.bts s) p) := hop.symm
            clear hop es
            have hA2 : A ≤ 127 := by omega
            clear hA1
            go_wp2_with fail
            refine (may_any o A _ ho0).mono ?_
            rintro e w' ⟨rfl, rfl⟩
            cases halo : H.alone o A
            · have hd : Hid (H.decode (H.bts s) = ([], 1, (p : Int))) := H.decode_bad _ [] p (HC.out.trans (H.scanAt_bad _ _ _ (by have := HL.out; omega) (by rintro ⟨_, _, h⟩; rw [← Ho.out, ← Ha.out, halo] at h; cases h)))
              clear halo HC HO HG
              go_wp2
              go_ret3
              exact decEnd_bad hd.out HB.out
            · have Hal : Hid (H.alone o A = true) := halo
              clear halo
              go_wp2_with (at_builtin; refine wpList_append_own _ rfl (.tmp 72) (.tmp 78) 22 rfl w.heap.size 28 i0 (.agg #[.int .u8 0, .int .i64 0]) 2 16 Try.underlying22 hi hz0 hz1 hz2 rfl (by decide) _ _ _ rfl (HO.out.alloc _) ⟨wr.heap.size, 0, none⟩ 1 1 [.int .u8 o, .int .i64 A] rfl rfl (new_two _ _ _ _) (by intro u hu; simp at hu; rcases hu with rfl | rfl <;> rfl) (by unfold maxLen; omega) (by omega) (by simp; omega) ?_)
              intro v3 w3 hown3 hg3 _
              have hb3 : Below w.heap.size w w3 := below_app (HB.out.alloc hsz _) hg3 (HO.out.alloc _) (Nat.le_refl _) (by simp; omega)
              have HG3 : Hid (w3.ownsRow w.heap.size 3 1 (.slice bo acc.length cb) acc.length (i64s (H.begins 0 acc))) := own_other (HG.out.alloc _) (HO.out.alloc _) (by decide) hg3
              obtain ⟨g3, cap3, hv3⟩ : ∃ g3 cap3, v3 = .slice (some ⟨g3, 0, none⟩) (acc.length + 1) cap3 := by
                rcases hown3.2 with ⟨_, h⟩ | ⟨g3, cap3, _, h, _⟩
                · omega
                · exact ⟨g3, cap3, h⟩
              have HV : Hid (v3 = .slice (some ⟨g3, 0, none⟩) (acc.length + 1) cap3) := hv3
              have HB3 : Hid (Below w.heap.size w w3) := hb3
              have hs3 := hb3.size
              have HO3 : Hid (w3.ownsRow w.heap.size 28 2 v3 (acc.length + 1) (insCells acc ++ [.int .u8 o, .int .i64 A])) := hown3
              clear hown3 hg3 hb3 HO HG HB hv3
              go_wp2_with (at_builtin; refine wpList_append_own _ rfl (.tmp 80) (.tmp 82) 69 rfl w.heap.size 3 j0 (.int .i64 0) 1 8 Try.underlying69 hj9 hy0 hy1 hy2 rfl (by decide) _ _ _ rfl (HG3.out.alloc _) ⟨w3.heap.size, 0, none⟩ 1 1 [.int .i64 p] rfl rfl (new_one _ _ _) (by intro u hu; simp at hu; subst hu; rfl) (by unfold maxLen; omega) (by omega) (by simp; omega) ?_)
              intro v4 w4 hown4 hg4 _
              have hb4 : Below w.heap.size w w4 := below_app (HB3.out.alloc hs3 _) hg4 (HG3.out.alloc _) (Nat.le_refl _) (by simp; omega)
              have HO4 : Hid (w4.ownsRow w.heap.size 28 2 v3 (acc.length + 1) (insCells acc ++ [.int .u8 o, .int .i64 A])) := own_other (HO3.out.alloc _) (HG3.out.alloc _) (by decide) hg4
              obtain ⟨g4, cap4, hv4⟩ : ∃ g4 cap4, v4 = .slice (some ⟨g4, 0, none⟩) (acc.length + 1) cap4 := by
                rcases hown4.2 with ⟨_, h⟩ | ⟨g4, cap4, _, h, _⟩
                · omega
                · exact ⟨g4, cap4, h⟩
              have HV4 : Hid (v4 = .slice (some ⟨g4, 0, none⟩) (acc.length + 1) cap4) := hv4
              have HB4 : Hid (Below w.heap.size w w4) := hb4
              have HG4 : Hid (w4.ownsRow w.heap.size 3 1 v4 (acc.length + 1) (i64s (H.begins 0 acc) ++ [.int .i64 p])) := hown4
              clear hown4 hg4 hb4 HO3 HG3 HB3 hv4
              go_wp2
              go_roundw
              case rel =>
                refine ⟨p + 1 + H.wid o, cap3, cap4, some ⟨g3, 0, none⟩, some ⟨g4, 0, none⟩, acc ++ [(o, A)], by rw [HV.out]; simp, by rw [HV4.out]; simp, by omega, by go_num, ?_, ?_, HB4.out, by simp; omega, ?_, ?_, ?_⟩
                · rw [insCells_snoc]
                  have h := HO4.out
                  rw [HV.out] at h
                  simpa using h
                · rw [H.begins_snoc, i64s_snoc, Nat.zero_add, ← HPe.out]
                  have h := HG4.out
                  rw [HV4.out] at h
                  simpa using h
                · intro x hx
                  rcases List.mem_append.1 hx with h | h
                  · exact HA.out x h
                  · simp at h; subst h; exact ⟨Hal.out, ho0⟩
                · rw [H.encAll_snoc, List.length_append, ← HPe.out, H.enc_length]; show p + 1 + H.wid o = p + (1 + H.wid o); omega
                · rw [HC.out, Ho.out, Ha.out]
                  exact H.scanAt_ok _ _ _ (by have := HL.out; omega) (by rw [← Ho.out]; have := HL.out; omega) hl (by rw [← Ho.out, ← Ha.out]; exact Hal.out)
              case measure => simp [intOf]; omega
          · have Ha : Hid (A = H.opnd (H.bts s) p) := hop.symm
            clear hop
            go_wp2_with fail
            refine (may_any o A _ ho0).mono ?_
            rintro e w' ⟨rfl, rfl⟩
            cases halo : H.alone o A
            · have hd : Hid (H.decode (H.bts s) = ([], 1, (p : Int))) := H.decode_bad _ [] p (HC.out.trans (H.scanAt_bad _ _ _ (by have := HL.out; omega) (by rintro ⟨_, _, h⟩; rw [← Ho.out, ← Ha.out, halo] at h; cases h)))
              clear halo HC HO HG
              go_wp2
              go_ret3
              exact decEnd_bad hd.out HB.out
            · have Hal : Hid (H.alone o A = true) := halo
              clear halo
              go_wp2_with (at_builtin; refine wpList_append_own _ rfl (.tmp 72) (.tmp 78) 22 rfl w.heap.size 28 i0 (.agg #[.int .u8 0, .int .i64 0]) 2 16 Try.underlying22 hi hz0 hz1 hz2 rfl (by decide) _ _ _ rfl (HO.out.alloc _) ⟨wr.heap.size, 0, none⟩ 1 1 [.int .u8 o, .int .i64 A] rfl rfl (new_two _ _ _ _) (by intro u hu; simp at hu; rcases hu with rfl | rfl <;> rfl) (by unfold maxLen; omega) (by omega) (by simp; omega) ?_)
              intro v3 w3 hown3 hg3 _
              have hb3 : Below w.heap.size w w3 := below_app (HB.out.alloc hsz _) hg3 (HO.out.alloc _) (Nat.le_refl _) (by simp; omega)
              have HG3 : Hid (w3.ownsRow w.heap.size 3 1 (.slice bo acc.length cb) acc.length (i64s (H.begins 0 acc))) := own_other (HG.out.alloc _) (HO.out.alloc _) (by decide) hg3
              obtain ⟨g3, cap3, hv3⟩ : ∃ g3 cap3, v3 = .slice (some ⟨g3, 0, none⟩) (acc.length + 1) cap3 := by
                rcases hown3.2 with ⟨_, h⟩ | ⟨g3, cap3, _, h, _⟩
                · omega
                · exact ⟨g3, cap3, h⟩
              have HV : Hid (v3 = .slice (some ⟨g3, 0, none⟩) (acc.length + 1) cap3) := hv3
              have HB3 : Hid (Below w.heap.size w w3) := hb3
              have hs3 := hb3.size
              have HO3 : Hid (w3.ownsRow w.heap.size 28 2 v3 (acc.length + 1) (insCells acc ++ [.int .u8 o, .int .i64 A])) := hown3
              clear hown3 hg3 hb3 HO HG HB hv3
              go_wp2_with (at_builtin; refine wpList_append_own _ rfl (.tmp 80) (.tmp 82) 69 rfl w.heap.size 3 j0 (.int .i64 0) 1 8 Try.underlying69 hj9 hy0 hy1 hy2 rfl (by decide) _ _ _ rfl (HG3.out.alloc _) ⟨w3.heap.size, 0, none⟩ 1 1 [.int .i64 p] rfl rfl (new_one _ _ _) (by intro u hu; simp at hu; subst hu; rfl) (by unfold maxLen; omega) (by omega) (by simp; omega) ?_)
              intro v4 w4 hown4 hg4 _
              have hb4 : Below w.heap.size w w4 := below_app (HB3.out.alloc hs3 _) hg4 (HG3.out.alloc _) (Nat.le_refl _) (by simp; omega)
              have HO4 : Hid (w4.ownsRow w.heap.size 28 2 v3 (acc.length + 1) (insCells acc ++ [.int .u8 o, .int .i64 A])) := own_other (HO3.out.alloc _) (HG3.out.alloc _) (by decide) hg4
              obtain ⟨g4, cap4, hv4⟩ : ∃ g4 cap4, v4 = .slice (some ⟨g4, 0, none⟩) (acc.length + 1) cap4 := by
                rcases hown4.2 with ⟨_, h⟩ | ⟨g4, cap4, _, h, _⟩
                · omega
                · exact ⟨g4, cap4, h⟩
              have HV4 : Hid (v4 = .slice (some ⟨g4, 0, none⟩) (acc.length + 1) cap4) := hv4
              have HB4 : Hid (Below w.heap.size w w4) := hb4
              have HG4 : Hid (w4.ownsRow w.heap.size 3 1 v4 (acc.length + 1) (i64s (H.begins 0 acc) ++ [.int .i64 p])) := hown4
              clear hown4 hg4 hb4 HO3 HG3 HB3 hv4
              go_wp2
              go_roundw
              case rel =>
                refine ⟨p + 1 + H.wid o, cap3, cap4, some ⟨g3, 0, none⟩, some ⟨g4, 0, none⟩, acc ++ [(o, A)], by rw [HV.out]; simp, by rw [HV4.out]; simp, by omega, by go_num, ?_, ?_, HB4.out, by simp; omega, ?_, ?_, ?_⟩
                · rw [insCells_snoc]
                  have h := HO4.out
                  rw [HV.out] at h
                  simpa using h
                · rw [H.begins_snoc, i64s_snoc, Nat.zero_add, ← HPe.out]
                  have h := HG4.out
                  rw [HV4.out] at h
                  simpa using h
                · intro x hx
                  rcases List.mem_append.1 hx with h | h
                  · exact HA.out x h
                  · simp at h; subst h; exact ⟨Hal.out, ho0⟩
                · rw [H.encAll_snoc, List.length_append, ← HPe.out, H.enc_length]; show p + 1 + H.wid o = p + (1 + H.wid o); omega
                · rw [HC.out, Ho.out, Ha.out]
                  exact H.scanAt_ok _ _ _ (by have := HL.out; omega) (by rw [← Ho.out]; have := HL.out; omega) hl (by rw [← Ho.out, ← Ha.out]; exact Hal.out)
              case measure => simp [intOf]; omega
    · have hsc : Hid (H.scanAt (H.bts s) 0 [] = (acc, none)) := HC.out.trans (H.scanAt_end _ _ _ (by have := HL.out; omega))
      clear HC
      by_cases hl0 : acc.length = 0
      · have hd : Hid (H.decode (H.bts s) = ([], 1, 0)) := H.decode_none _ (by rw [hsc.out, List.eq_nil_of_length_eq_zero hl0])
        have hl1 : (acc.length : Int) = 0 := by omega
        clear HO HG hl0
        go_wp2
        go_ret3
        exact decEnd_bad hd.out HB.out
      · have hl1 : ((acc.length : Int) == 0) = false := by rw [beq_eq_false_iff_ne]; omega
        obtain ⟨n, hn⟩ : ∃ n, n = acc.length := ⟨_, rfl⟩
        have Hn : Hid (n = acc.length) := hn
        have HG' : Hid (wr.ownsRow w.heap.size 3 1 (.slice bo n cb) n (i64s (H.begins 0 acc))) := by have h := HG.out; rw [← hn] at h; exact h
        have HO0 : Hid (wr.ownsRow w.heap.size 28 2 (.slice ao n cv) n (insCells acc)) := by have h := HO.out; rw [← hn] at h; exact h
        rw [← hn] at hl1 h64 ⊢
        obtain ⟨g, rfl⟩ : ∃ g, ao = some ⟨g, 0, none⟩ := by
          rcases HO.out.2 with ⟨_, h⟩ | ⟨g, c, _, h, _⟩
          · omega
          · simp at h; exact ⟨g, h.1⟩
        obtain ⟨gb, rfl⟩ : ∃ g, bo = some ⟨g, 0, none⟩ := by
          rcases HG.out.2 with ⟨_, h⟩ | ⟨g, c, _, h, _⟩
          · omega
          · simp at h; exact ⟨g, h.1⟩
        have HR : Hid (InsRow wr g 0 acc) := own_insRow HO0.out Hn.out.symm
        have hn0 : n ≠ 0 := by omega
        clear HO HG hn hl0
        rcases H.stray_strayI n acc 0 0 with ⟨hI, hS⟩ | ⟨j, hI, hj, hS, hq⟩
        · have hd : Hid (H.decode (H.bts s) = (acc, 0, 0)) := H.decode_ok _ acc hsc.out (by have := Hn.out; omega) (by rw [← Hn.out]; exact hS)
          have HO3 : Hid (wr.ownsRow w.heap.size 28 2 (.slice (some ⟨g, 0, none⟩) n cv) acc.length (insCells acc)) := by have h := HO0.out; have e := Hn.out; unfold Hid; rw [← e]; exact h
          have HI : Hid (H.strayI n 0 acc = -1) := hI
          clear hI hS HO0 HG'
          go_wp2_with (go_at_call 28; refine (strays_any g n cv acc _ h64 Hn.out.symm HR.out HA.out).mono ?_; rintro e w' ⟨rfl, rfl⟩; rw [HI.out])
          go_ret3
          exact decEnd_ok hd.out HO3.out HB.out
        · obtain ⟨q, hq⟩ := Option.isSome_iff_exists.1 hq
          have hd : Hid (H.decode (H.bts s) = ([], 1, (q : Int))) := H.decode_stray _ acc q hsc.out (by have := Hn.out; omega) (by rw [← Hn.out, hS, hq])
          have hcell : wr.cell? ⟨gb, j, none⟩ = some (.int .i64 (q : Int)) := by
            have h := HG'.out.cellAt (j * 1) (by have := Hn.out; omega)
            rw [Nat.mul_one] at h
            rw [h]
            simp [i64s, hq]
          have HI : Hid (H.strayI n 0 acc = (j : Int)) := by unfold Hid; rw [hI, Nat.zero_add]
          have hjn : j < n := by have := Hn.out; omega
          clear hI hS HO0 HG' hq hj
          go_wp2_with (go_at_call 28; refine (strays_any g n cv acc _ h64 Hn.out.symm HR.out HA.out).mono ?_; rintro e w' ⟨rfl, rfl⟩; rw [HI.out])
          go_quiet (fail)
          go_wp2
          go_ret3
          exact decEnd_bad hd.out (below_drewN HB.out _)

end Go.Proofs.Ytfggaacijcggeaa
