/-
  The document's own answer: the walk of Encode.
-/
import Derived.Test.YtfggaacijcggeaaRefE
namespace Go.Proofs.Ytfggaacijcggeaa
open Go.RowKit
set_option linter.unusedVariables false

theorem strOfNums_append (x y : List Int) : strOfNums (x ++ y) = strOfNums x ++ strOfNums y := by
  apply ByteArray.ext
  apply Array.ext'
  rw [strOfNums_data, ByteArray.data_append, Array.toList_append, strOfNums_data, strOfNums_data, List.map_append]

theorem shp_w0 (o : Int) (hw : H.wid o = 0) : H.shp o = 45 := by
  unfold H.wid at hw
  unfold H.shp
  by_cases h1 : o = 1
  · rw [if_pos h1] at hw; omega
  rw [if_neg h1] at hw ⊢
  by_cases h2 : o = 2 ∨ o = 3
  · rw [if_pos (by omega)] at hw; omega
  by_cases h3 : o = 16 ∨ o = 17
  · rw [if_pos (by omega)] at hw; omega
  by_cases h4 : o = 25
  · rw [if_pos (by omega)] at hw; omega
  rw [if_neg h2, if_neg h3, if_neg h4]

theorem shp_w1 (o : Int) (h1 : o ≠ 1) (hw : H.wid o ≠ 0) : H.wid o = 1 ∧ (H.shp o == 119) = false ∧ (H.shp o == 45) = false := by
  unfold H.wid at *
  unfold H.shp
  rw [if_neg h1] at hw ⊢
  rw [if_neg h1]
  by_cases h2 : o = 2 ∨ o = 3
  · rw [if_pos (by omega), if_pos h2]; exact ⟨rfl, rfl, rfl⟩
  rw [if_neg h2]
  by_cases h3 : o = 16 ∨ o = 17
  · rw [if_pos (by omega), if_pos h3]; exact ⟨rfl, rfl, rfl⟩
  rw [if_neg h3]
  by_cases h4 : o = 25
  · rw [if_pos (by omega), if_pos h4]; exact ⟨rfl, rfl, rfl⟩
  rw [if_neg (by omega)] at hw
  exact absurd rfl hw

theorem enc_w0 (o a : Int) (h : H.wid o = 0) : H.enc o a = [o] := by
  unfold H.enc
  rw [h]
  rfl

theorem enc_w2 (a : Int) (h0 : 0 ≤ a) (h1 : a ≤ 65535) : H.enc 1 a = [1, a / 256, a % 256] := by
  have e : H.enc 1 a = [1, a / 256 % 256, a % 256] := rfl
  rw [e, show a / 256 % 256 = a / 256 by omega]

theorem own_one (w : World) (base : Nat) (hb : base ≤ w.heap.size) (x : Value) : (w.alloc (.cells #[x] 5)).ownsRow base 5 1 (.slice (some ⟨w.heap.size, 0, none⟩) 1 1) 1 [x] :=
  ⟨rfl, Or.inr ⟨w.heap.size, 1, #[x], rfl, hb, Blk.new w _ 5, Nat.le_refl _, by unfold maxLen; omega, rfl, rfl⟩⟩

/-- Bytes of one's own, as a text. -/
theorem own_text {w : World} {base n : Nat} {v : Value} {xs : List Int} (h : w.ownsRow base 5 1 v n (u8s xs)) (hn : xs.length = n) (h0 : 0 < n) :
    ∃ g cap, v = .slice (some ⟨g, 0, none⟩) n cap ∧ (convert 72 9 (.slice (some ⟨g, 0, none⟩) n cap)).run Try.prog w = .ok (.string (strOfNums xs)) w := by
  rcases h.2 with ⟨_, h1⟩ | ⟨g, cap, cur, hv, _⟩
  · omega
  · subst hv
    refine ⟨g, cap, rfl, run_convert_bytes_arg (P := Try.prog) w 72 5 Try.underlying72 Try.underlying5 g 0 n cap xs hn (fun i hi => ?_) 9 Try.underlying9⟩
    rw [Nat.zero_add, h.cellAt i (by omega)]
    simp [u8s, List.getD, List.getElem?_eq_getElem (show i < xs.length by omega)]

theorem enc_w1 (o a : Int) (hw : H.wid o = 1) : H.enc o a = [o, a % 256] := by
  unfold H.enc
  rw [hw]
  rfl

theorem alone_w1 (o a : Int) (h1 : o ≠ 1) (hw : H.wid o = 1) (ha : H.alone o a = true) : -128 ≤ a ∧ a ≤ 127 := by
  unfold H.alone at ha
  rw [if_neg h1] at ha
  by_cases h2 : o = 2 ∨ o = 3
  · rw [if_pos h2] at ha; simp at ha; omega
  rw [if_neg h2] at ha
  by_cases h3 : o = 16 ∨ o = 17
  · rw [if_pos h3] at ha; simpa using ha
  rw [if_neg h3] at ha
  by_cases h4 : o = 25
  · rw [if_pos h4] at ha; simp at ha; omega
  unfold H.wid at hw
  rw [if_neg h1, if_neg (by omega)] at hw
  omega

theorem enc_next {l : List (Int × Int)} {k : Nat} {o a : Int} {s t : ByteArray} (hs : s = strOfNums (H.encAll (l.take k))) (ht : t = strOfNums (H.enc o a)) (hx : l[k]? = some (o, a)) :
    Value.string (s ++ t) = Value.string (strOfNums (H.encAll (l.take (k + 1)))) := by
  rw [H.take_snoc l k _ hx, H.encAll_snoc, strOfNums_append, hs, ht]

theorem alone_next {l : List (Int × Int)} {k : Nat} {o a : Int} (h : ∀ x ∈ l.take k, H.alone x.1 x.2 = true) (hx : l[k]? = some (o, a)) (ha : H.alone o a = true) : ∀ x ∈ l.take (k + 1), H.alone x.1 x.2 = true := by
  rw [H.take_snoc l k _ hx]
  intro x hm
  rcases List.mem_append.1 hm with h1 | h1
  · exact h x h1
  · simp at h1; subst h1; exact ha

set_option maxRecDepth 100000 in
set_option maxHeartbeats 8000000 in
theorem refEnc_any (ao : Option Addr) (ca n : Nat) (l : List (Int × Int)) (w : World) (hln : l.length = n) (hl : n ≤ maxLen) (ha : InsAt w ao l) (hop : ∀ x ∈ l, 0 ≤ x.1 ∧ x.1 ≤ 255) :
    Calls Try.prog 12 #[.slice ao n ca] w fun e w' => e = .returned (.tuple #[.string (H.encOut l).1, .int .i64 (H.encOut l).2]) ∧ Below w.heap.size w w' := by
  unfold maxLen at hl
  obtain ⟨i0, hi, hz0, hz1, hz2⟩ := info_parts info5
  have Hn : Hid (l.length = n) := hln
  have HA : Hid (InsAt w ao l) := ha
  have HOp : Hid (∀ x ∈ l, 0 ≤ x.1 ∧ x.1 ≤ 255) := hop
  clear hln ha hop
  go_enter Try.func12, Try.ntmps12
  go_wp2
  go_loopw [4, 5] (fun s i wr => ∃ (k : Nat), k ≤ n ∧ k ≤ 65 ∧ s = .string (strOfNums (H.encAll (l.take k))) ∧ i = .int .i64 k ∧ Below w.heap.size w wr ∧ ∀ x ∈ l.take k, H.alone x.1 x.2 = true)
    (fun _ i _ => n - (intOf i).toNat)
  case atStart => exact ⟨0, Nat.zero_le _, by omega, rfl, rfl, Below.refl _ _, by simp⟩
  case round =>
    obtain ⟨k, hk, hk65, rfl, rfl, hbel, hal⟩ := hrel
    have HB : Hid (Below w.heap.size w wr) := hbel
    have HAl : Hid (∀ x ∈ l.take k, H.alone x.1 x.2 = true) := hal
    have hsz := hbel.size
    clear hbel hal
    by_cases hlt : k < n ∧ k < 65
    · obtain ⟨hlt, hlt65⟩ := hlt
      obtain ⟨x, hx⟩ : ∃ x, l[k]? = some x := ⟨l[k]'(by have := Hn.out; omega), List.getElem?_eq_getElem (by have := Hn.out; omega)⟩
      obtain ⟨b1, f1, rfl, hr1⟩ : ∃ b off, ao = some ⟨b, off, none⟩ ∧ InsRow w b off l := HA.out.resolve_left (by rintro rfl; simp at hx)
      obtain ⟨o, a⟩ := x
      have hbl : b1 < w.heap.size := World.block_lt_of_cell? _ _ (hr1 k _ hx).1
      obtain ⟨c0, c1⟩ := (hr1.below HB.out hbl) k _ hx
      simp only at c0 c1
      obtain ⟨ho0, ho1⟩ := HOp.out _ (List.mem_of_getElem? hx)
      simp only at ho0 ho1
      have hwo : wrap64 o = o := by unfold wrap64; omega
      have HX : Hid (l[k]? = some (o, a)) := hx
      have HR : Hid (InsRow w b1 f1 l) := hr1
      obtain ⟨s, hs⟩ : ∃ s, s = strOfNums (H.encAll (l.take k)) := ⟨_, rfl⟩
      have Hs : Hid (s = strOfNums (H.encAll (l.take k))) := hs
      have hss : s.size ≤ 195 := by
        rw [hs, strOfNums_size]
        have h3 := (H.encAll_length (l.take k)).2
        have h4 := List.length_take_le k l
        omega
      rw [← hs]
      clear hx hr1 hs
      go_wp2_with fail
      refine (may_any o a _ ho0).mono ?_
      rintro e w' ⟨rfl, rfl⟩
      cases halo : H.alone o a
      · have hv : Hid (H.encOut l = (⟨#[]⟩, 1)) := H.encOut_bad (fun h => by have := H.okFrom_alone _ _ _ h.2.2 _ (List.mem_of_getElem? HX.out); rw [halo] at this; cases this)
        clear halo
        go_wp2
        go_ret2
        rw [hv.out]
        exact ⟨rfl, HB.out⟩
      · have h27 := H.alone_op o a halo
        have Hal : Hid (H.alone o a = true) := halo
        have hsx : ∀ W, (Instr.index 9 (.string ⟨#[45, 119, 99, 99, 45, 45, 45, 45, 45, 45, 45, 45, 45, 45, 45, 45, 106, 106, 45, 45, 45, 45, 45, 45, 45, 116, 45, 45]⟩) (.int .i64 o)).run Try.prog W = .ok (.int .u8 (H.shp o)) W := fun W => shp_at o ho0 (by omega) W
        clear halo
        by_cases h1 : o = 1
        · subst h1
          have es : H.shp 1 = 119 := rfl
          rw [es] at hsx
          have hr : 0 ≤ a ∧ a ≤ 65535 := by have h := Hal.out; simpa [H.alone] using h
          obtain ⟨hr0, hr1⟩ := hr
          have ee : Hid (H.enc 1 a = [1, a / 256, a % 256]) := enc_w2 a hr0 hr1
          clear es
          go_wp2_with (at_builtin; refine wpList_append_own _ rfl (.tmp 48) (.tmp 55) 72 rfl w.heap.size 5 i0 (.int .u8 0) 1 1 Try.underlying72 hi hz0 hz1 hz2 rfl (by decide) _ _ _ rfl ((own_one wr w.heap.size hsz _).alloc _) ⟨wr.heap.size + 1, 0, none⟩ 2 2 [.int .u8 (a / 256), .int .u8 (a % 256)] rfl rfl (new_two1 _ _ _ _ _) (by intro u hu; simp at hu; rcases hu with rfl | rfl <;> rfl) (by unfold maxLen; omega) (by omega) (by simp; omega) ?_)
          intro v1 w1 hown1 hg1 _
          have hb1 : Below w.heap.size w w1 := below_app ((HB.out.alloc hsz _).alloc (by simp; omega) _) hg1 ((own_one wr w.heap.size hsz _).alloc _) (Nat.le_refl _) (by simp; omega)
          have HB1 : Hid (Below w.heap.size w w1) := hb1
          obtain ⟨g1, cap1, rfl, hconv⟩ := own_text (xs := [1, a / 256, a % 256]) hown1 rfl (by omega)
          obtain ⟨t, ht⟩ : ∃ t, t = strOfNums [1, a / 256, a % 256] := ⟨_, rfl⟩
          have Ht : Hid (t = strOfNums (H.enc 1 a)) := by unfold Hid; rw [ee.out, ht]
          have hts : t.size = 3 := by rw [ht, strOfNums_size]; rfl
          rw [← ht] at hconv
          clear ht ee hown1 hg1 hb1 HB c0 c1
          go_wp2_with fail
          go_roundw
          case rel => exact ⟨k + 1, by omega, by omega, enc_next Hs.out Ht.out HX.out, by go_num, HB1.out, alone_next HAl.out HX.out Hal.out⟩
          case measure => simp [intOf]; omega
        by_cases hw : H.wid o = 0
        · have es := shp_w0 o hw
          rw [es] at hsx
          have ee : Hid (H.enc o a = [o]) := enc_w0 o a hw
          have hconv := run_convert_bytes_arg (P := Try.prog) (wr.alloc (.cells #[.int .u8 o] 5)) 72 5 Try.underlying72 Try.underlying5 wr.heap.size 0 1 1 [o] rfl (fun i hi => by
            obtain rfl : i = 0 := by omega
            exact (Blk.new wr #[.int .u8 o] 5).cell 0) 9 Try.underlying9
          obtain ⟨t, ht⟩ : ∃ t, t = strOfNums [o] := ⟨_, rfl⟩
          have Ht : Hid (t = strOfNums (H.enc o a)) := by unfold Hid; rw [ee.out, ht]
          have hts : t.size = 1 := by rw [ht, strOfNums_size]; rfl
          rw [← ht] at hconv
          clear ht ee es hw
          go_wp2_with fail
          go_roundw
          case rel => exact ⟨k + 1, by omega, by omega, enc_next Hs.out Ht.out HX.out, by go_num, HB.out.alloc hsz _, alone_next HAl.out HX.out Hal.out⟩
          case measure => simp [intOf]; omega
        · obtain ⟨hw1, es1, es2⟩ := shp_w1 o h1 hw
          obtain ⟨ha0, ha1⟩ := alone_w1 o a h1 hw1 Hal.out
          have ee : Hid (H.enc o a = [o, a % 256]) := enc_w1 o a hw1
          generalize H.shp o = sh at hsx es1 es2
          clear hw
          go_wp2_with (at_builtin; refine wpList_append_own _ rfl (.tmp 60) (.tmp 65) 72 rfl w.heap.size 5 i0 (.int .u8 0) 1 1 Try.underlying72 hi hz0 hz1 hz2 rfl (by decide) _ _ _ rfl ((own_one wr w.heap.size hsz _).alloc _) ⟨wr.heap.size + 1, 0, none⟩ 1 1 [.int .u8 (a % 256)] rfl rfl (new_one1 _ _ _ _) (by intro u hu; simp at hu; subst hu; rfl) (by unfold maxLen; omega) (by omega) (by simp; omega) ?_)
          intro v1 w1 hown1 hg1 _
          have hb1 : Below w.heap.size w w1 := below_app ((HB.out.alloc hsz _).alloc (by simp; omega) _) hg1 ((own_one wr w.heap.size hsz _).alloc _) (Nat.le_refl _) (by simp; omega)
          have HB1 : Hid (Below w.heap.size w w1) := hb1
          obtain ⟨g1, cap1, rfl, hconv⟩ := own_text (xs := [o, a % 256]) hown1 rfl (by omega)
          obtain ⟨t, ht⟩ : ∃ t, t = strOfNums [o, a % 256] := ⟨_, rfl⟩
          have Ht : Hid (t = strOfNums (H.enc o a)) := by unfold Hid; rw [ee.out, ht]
          have hts : t.size = 2 := by rw [ht, strOfNums_size]; rfl
          rw [← ht] at hconv
          clear ht ee hown1 hg1 hb1 HB c0 c1
          go_wp2_with fail
          go_roundw
          case rel => exact ⟨k + 1, by omega, by omega, enc_next Hs.out Ht.out HX.out, by go_num, HB1.out, alone_next HAl.out HX.out Hal.out⟩
          case measure => simp [intOf]; omega
    · obtain ⟨s, hs⟩ : ∃ s, s = strOfNums (H.encAll (l.take k)) := ⟨_, rfl⟩
      have Hs : Hid (s = strOfNums (H.encAll (l.take k))) := hs
      have hss : s.size ≤ 195 := by
        rw [hs, strOfNums_size]
        have h3 := (H.encAll_length (l.take k)).2
        have h4 := List.length_take_le k l
        omega
      rw [← hs]
      have HD : Hid (Calls Try.prog 9 #[.string s] wr fun e w' => decEnd (H.bts s) wr.heap.size wr e w') := refDec_any s wr (by unfold maxLen; omega)
      clear hs
      by_cases h64 : n ≤ 64
      · have hkn : k = n := by omega
        subst hkn
        have ht : l.take k = l := List.take_of_length_le (by have := Hn.out; omega)
        have hl1 : l.length = k := Hn.out
        have HE : Hid ((H.decode (H.bts s)).2.1 = if 1 ≤ l.length ∧ H.okFrom l.length 0 l = true then 0 else 1) := by
          unfold Hid
          rw [Hs.out, ht, bts_strOfNums _ (encAll_bytes l HOp.out)]
          exact H.decode_encAll l (by omega) (by have := HAl.out; rwa [ht] at this)
        have hb : ¬ (k : Int) < (k : Int) := by omega
        have h64i : ¬ (64 : Int) < (k : Int) := by omega
        by_cases hok : 1 ≤ l.length ∧ H.okFrom l.length 0 l = true
        · have HV : Hid (H.encOut l = (s, 0)) := by unfold Hid; rw [H.encOut_good ⟨by omega, hok.1, hok.2⟩, Hs.out, ht]
          have he : (H.decode (H.bts s)).2.1 = 0 := by rw [HE.out, if_pos hok]
          generalize hDD : H.decode (H.bts s) = D at he
          clear HE ht hl1 hok
          go_wp2_with fail
          refine HD.out.mono ?_
          rintro e w1 ⟨v1, rfl, _, hb1⟩
          rw [hDD, he]
          have HB1 : Hid (Below w.heap.size w w1) := HB.out.trans (hb1.mono hsz)
          clear hDD he HD hb1
          go_wp2
          go_ret2
          rw [HV.out]
          exact ⟨rfl, HB1.out⟩
        · have HV : Hid (H.encOut l = (⟨#[]⟩, 1)) := H.encOut_bad (fun h => hok h.2)
          have he : (H.decode (H.bts s)).2.1 = 1 := by rw [HE.out, if_neg hok]
          generalize hDD : H.decode (H.bts s) = D at he
          clear HE ht hl1 hok
          go_wp2_with fail
          refine HD.out.mono ?_
          rintro e w1 ⟨v1, rfl, _, hb1⟩
          rw [hDD, he]
          have HB1 : Hid (Below w.heap.size w w1) := HB.out.trans (hb1.mono hsz)
          clear hDD he HD hb1
          go_wp2
          go_ret2
          rw [HV.out]
          exact ⟨rfl, HB1.out⟩
      · have HV : Hid (H.encOut l = (⟨#[]⟩, 1)) := H.encOut_bad (fun h => by have := Hn.out; omega)
        have h64i : (64 : Int) < (n : Int) := by omega
        obtain ⟨er, her⟩ : ∃ er, er = (H.decode (H.bts s)).2.1 := ⟨_, rfl⟩
        have HR : Hid (er = (H.decode (H.bts s)).2.1) := her
        clear her
        by_cases hkn : k < n
        · have hk65' : k = 65 := by omega
          subst hk65'
          by_cases he0 : er = 0
          · subst he0
            go_wp2_with fail
            refine HD.out.mono ?_
            rintro e w1 ⟨v1, rfl, _, hb1⟩
            rw [← HR.out]
            have HB1 : Hid (Below w.heap.size w w1) := HB.out.trans (hb1.mono hsz)
            clear HR HD hb1
            go_wp2
            go_ret2
            rw [HV.out]
            exact ⟨rfl, HB1.out⟩
          · have heb : (er == 0) = false := by rw [beq_eq_false_iff_ne]; exact he0
            have hen : (er != 0) = true := by simp [he0]
            clear he0
            go_wp2_with fail
            refine HD.out.mono ?_
            rintro e w1 ⟨v1, rfl, _, hb1⟩
            rw [← HR.out]
            have HB1 : Hid (Below w.heap.size w w1) := HB.out.trans (hb1.mono hsz)
            clear HR HD hb1
            go_wp2
            go_ret2
            rw [HV.out]
            exact ⟨rfl, HB1.out⟩
        · have hkn' : ¬ (k : Int) < (n : Int) := by omega
          by_cases he0 : er = 0
          · subst he0
            go_wp2_with fail
            refine HD.out.mono ?_
            rintro e w1 ⟨v1, rfl, _, hb1⟩
            rw [← HR.out]
            have HB1 : Hid (Below w.heap.size w w1) := HB.out.trans (hb1.mono hsz)
            clear HR HD hb1
            go_wp2
            go_ret2
            rw [HV.out]
            exact ⟨rfl, HB1.out⟩
          · have heb : (er == 0) = false := by rw [beq_eq_false_iff_ne]; exact he0
            have hen : (er != 0) = true := by simp [he0]
            clear he0
            go_wp2_with fail
            refine HD.out.mono ?_
            rintro e w1 ⟨v1, rfl, _, hb1⟩
            rw [← HR.out]
            have HB1 : Hid (Below w.heap.size w w1) := HB.out.trans (hb1.mono hsz)
            clear HR HD hb1
            go_wp2
            go_ret2
            rw [HV.out]
            exact ⟨rfl, HB1.out⟩

end Go.Proofs.Ytfggaacijcggeaa
