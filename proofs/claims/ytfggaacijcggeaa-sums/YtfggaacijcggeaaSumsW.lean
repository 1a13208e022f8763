/-
  The walk of Sums.
-/
import Derived.Test.YtfggaacijcggeaaSumW
import Derived.Test.YtfggaacijcggeaaEnc
namespace Go.Proofs.Ytfggaacijcggeaa
open Go.RowKit
set_option linter.unusedVariables false

def v0 : InV := ⟨8, 0, 0, 0, 0, 0, 0, 0, 0, 0, 0, 0, 0, 0, none, 0, 0⟩
theorem v0_ok : v0.ok := ⟨by decide, by decide, by decide, by decide, by intro x hx; simp [v0, InV.cells] at hx; subst hx; decide⟩
theorem v0_drawn (w : World) (base : Nat) : Drawn w v0 [] base := ⟨rfl, by decide, ⟨0, 0, by intro h; exact absurd h (by decide), by intro i x hx; simp at hx⟩, by intro x hx; simp at hx⟩

theorem prog8_ok (o a b : Int) (h4 : 4 ≤ o) (h15 : o ≤ 15) (ha : 0 ≤ a) (ha2 : a ≤ 65535) (hb : 0 ≤ b) (hb2 : b ≤ 65535) : H.okFrom 8 0 (prog8 o a b) = true := by
  have e1 : H.alone 1 a = true := by simp [H.alone]; omega
  have e2 : H.alone 1 b = true := by simp [H.alone]; omega
  have e3 : H.alone o 0 = true := by
    unfold H.alone
    rw [if_neg (by omega), if_neg (by omega), if_neg (by omega), if_neg (by omega)]
    simp; omega
  have e4 : H.alone 3 3 = true := by decide
  have e5 : H.alone 23 0 = true := by decide
  have e6 : H.alone 24 0 = true := by decide
  have l1 : ∀ (i : Nat) (x y : Int), x ≠ 16 → x ≠ 17 → H.lands 8 i x y = true := fun i x y h1 h2 => lands_other h1 h2
  simp only [prog8, H.okFrom, e1, e2, e3, e4, e5, e6, l1 _ 1 _ (by decide) (by decide), l1 _ 3 _ (by decide) (by decide), l1 _ 23 _ (by decide) (by decide), l1 _ 24 _ (by decide) (by decide), l1 _ o _ (by omega) (by omega), Bool.and_self]

theorem prog8_cells (o a b : Int) : insCells (prog8 o a b) = [.int .u8 1, .int .i64 a, .int .u8 1, .int .i64 b, .int .u8 o, .int .i64 0, .int .u8 3, .int .i64 3, .int .u8 1, .int .i64 a, .int .u8 23, .int .i64 0, .int .u8 1, .int .i64 b, .int .u8 24, .int .i64 0] := rfl

theorem prog8_row (w : World) (o a b : Int) : InsRow (w.alloc (.cells #[.int .u8 1, .int .i64 a, .int .u8 1, .int .i64 b, .int .u8 o, .int .i64 0, .int .u8 3, .int .i64 3, .int .u8 1, .int .i64 a, .int .u8 23, .int .i64 0, .int .u8 1, .int .i64 b, .int .u8 24, .int .i64 0] 28)) w.heap.size 0 (prog8 o a b) := by
  intro i x hx
  obtain ⟨h0, h1⟩ := insCells_at _ i x hx
  rw [prog8_cells] at h0 h1
  rw [Nat.zero_add, (Blk.new w _ 28).cell, (Blk.new w _ 28).cell]
  simp only [List.getElem?_toArray]
  exact ⟨h0, h1⟩

/-- What Run makes of the program of Sums. -/
theorem sums_run (o a b : Int) (h4 : 4 ≤ o) (h15 : o ≤ 15) (ha : 0 ≤ a) (ha2 : a ≤ 65535) (hb : 0 ≤ b) (hb2 : b ≤ 65535) :
    H.run (H.encAll (prog8 o a b)) zeros I0 = if o = 7 ∧ b = 0 then { fault := 3, steps := 3, draws := 0, cells := zeros, shows := [], sends := [], err := 0 } else { fault := 0, steps := 8, draws := 0, cells := [0, 0, 0, sumV o a b, 0, 0, 0, 0], shows := [(b, ⟨#[]⟩ ++ Utf8.encode a)], sends := [], err := 0 } := by
  have hd : H.decode (H.encAll (prog8 o a b)) = (prog8 o a b, 0, 0) := H.decode_enc _ (by show 1 ≤ 8; omega) (by show 8 ≤ 64; omega) (prog8_ok o a b h4 h15 ha ha2 hb hb2)
  unfold H.run
  rw [hd, if_pos rfl, if_neg (by decide)]
  show H.outOf zeros (H.runM (prog8 o a b) I0 8 9 (H.mach0 zeros)) = _
  by_cases hz : o = 7 ∧ b = 0
  · rw [sums_zero o a b h4 h15 hz, if_pos hz]; rfl
  · rw [sums_fine o a b h4 h15 hz, if_neg hz]; rfl

set_option maxRecDepth 100000 in
set_option maxHeartbeats 4000000 in
theorem sums_any (x y z : Int) (w : World) (hx0 : -9223372036854775808 ≤ x) (hx1 : x ≤ 9223372036854775807) (hy0 : -9223372036854775808 ≤ y) (hy1 : y ≤ 9223372036854775807) (hz0 : -9223372036854775808 ≤ z) (hz1 : z ≤ 9223372036854775807) :
    Calls Try.prog 7 #[.int .i64 x, .int .i64 y, .int .i64 z] w fun e w' => e = .returned (.bool true) ∧ Below w.heap.size w w' := by
  go_enter Try.func7, Try.ntmps7
  go_wp2_with fail
  refine (pick_any x 12 _ hx0 hx1 (by decide) (by decide)).mono ?_
  rintro e w' ⟨rfl, rfl⟩
  obtain ⟨p0, p1⟩ := H.pk_range x 12 (by decide)
  generalize H.pk x 12 = p at *
  have hp1 : IntKind.u8.wrap p = p := by rw [IntKind.wrap_u8']; omega
  obtain ⟨o, ho⟩ : ∃ o, o = 4 + p := ⟨_, rfl⟩
  have hp2 : IntKind.u8.wrap (4 + p) = o := by rw [IntKind.wrap_u8', ho]; omega
  have h4 : 4 ≤ o := by omega
  have h15 : o ≤ 15 := by omega
  clear ho
  go_wp2_with fail
  refine (pick_any y 65536 _ hy0 hy1 (by decide) (by decide)).mono ?_
  rintro e w' ⟨rfl, rfl⟩
  obtain ⟨a0, a1⟩ := H.pk_range y 65536 (by decide)
  generalize H.pk y 65536 = a at *
  have ha1 : IntKind.u16.wrap a = a := by rw [IntKind.wrap_u16]; omega
  clear hp1 hp2 p0 p1
  go_wp2_with fail
  refine (pick_any z 65536 _ hz0 hz1 (by decide) (by decide)).mono ?_
  rintro e w' ⟨rfl, rfl⟩
  obtain ⟨b0, b1⟩ := H.pk_range z 65536 (by decide)
  generalize H.pk z 65536 = b at *
  have hb1 : IntKind.u16.wrap b = b := by rw [IntKind.wrap_u16]; omega
  clear ha1
  go_wp2_with fail
  refine (enc_mid w.heap.size 0 8 8 (prog8 o a b) _ (by decide) (by decide) rfl (prog8_row w o a b)).mono ?_
  rintro e w1 ⟨rfl, hb1'⟩
  have hok := prog8_ok o a b h4 h15 a0 (by omega) b0 (by omega)
  obtain ⟨t, ht⟩ : ∃ t, t = strOfNums (H.encAll (prog8 o a b)) := ⟨_, rfl⟩
  have e1 : encS 8 (prog8 o a b) = t := by rw [ht]; unfold encS; rw [hok]; rfl
  have e2 : encE 8 (prog8 o a b) = 0 := by unfold encE; rw [hok]; rfl
  rw [e1, e2]
  have Ht : Hid (H.bts t = H.encAll (prog8 o a b)) := by
    unfold Hid; rw [ht]
    refine bts_strOfNums _ (encAll_bytes _ ?_)
    intro x hx
    simp [prog8] at hx
    rcases hx with rfl | rfl | rfl | rfl | rfl | rfl | rfl | rfl <;> simp <;> omega
  have htl := (H.encAll_length (prog8 o a b)).2
  have htz : t.size ≤ 200 := by
    rw [← H.bts_length t, Ht.out]
    have : (prog8 o a b).length = 8 := rfl
    omega
  have HB1 : Hid (Below w.heap.size w w1) := ((Below.refl _ _).alloc (Nat.le_refl _) _).trans (hb1'.mono (by simp))
  have hs1 := HB1.out.size
  clear hb1' e1 e2 ht htl hok hb1
  have HRUN : Hid (∀ W, Calls Try.prog 13 #[.string t, .agg #[.int .i64 8, .int .u16 0, .int .u16 0, .int .u16 0, .int .u16 0, .int .u16 0, .int .u16 0, .int .u16 0, .int .u16 0, .int .u8 0, .int .u8 0, .int .u16 0, .int .u8 0, .int .u8 0, .slice none 0 0]] W fun e w' => runEnd (if o = 7 ∧ b = 0 then { fault := 3, steps := 3, draws := 0, cells := zeros, shows := [], sends := [], err := 0 } else { fault := 0, steps := 8, draws := 0, cells := [0, 0, 0, sumV o a b, 0, 0, 0, 0], shows := [(b, ⟨#[]⟩ ++ Utf8.encode a)], sends := [], err := 0 }) W.heap.size W e w') := by
    intro W
    have h := runW_any t v0 [] W (by unfold maxLen; omega) v0_ok (v0_drawn W _)
    rw [Ht.out, show v0.cells = zeros from rfl, show v0.inp [] = I0 from rfl, sums_run o a b h4 h15 a0 (by omega) b0 (by omega)] at h
    exact h
  go_wp2_with fail
  refine (HRUN.out _).mono ?_
  rintro e w2 ⟨sv, dv, rfl, hos, hod, hb2⟩
  have HB2 : Hid (Below w.heap.size w w2) := HB1.out.trans (hb2.mono hs1)
  have hs2 := HB2.out.size
  obtain ⟨add, cd, hdv⟩ := own_shape hod
  obtain ⟨nd, hnd⟩ : ∃ nd, dv = .slice add nd cd := ⟨_, hdv⟩
  subst hnd
  clear hod hb2 HB1 HRUN Ht hdv
  by_cases hz : o = 7 ∧ b = 0
  · rw [if_pos hz] at hos ⊢
    obtain ⟨asx, cs, hsv⟩ := own_shape hos
    obtain ⟨rfl, rfl⟩ := hz
    subst hsv
    unfold outVal outAgg zeros
    simp only [List.getD_cons_zero, List.getD_cons_succ]
    clear hos
    go_wp2_with fail
    refine (sum_any 7 a 0 _ (by decide) (by decide) a0 (by omega) (by decide) (by decide)).mono ?_
    rintro e w3 ⟨rfl, rfl⟩
    have hf : sumOk 7 0 = false := rfl
    rw [hf]
    go_wp2
    go_ret
    exact ⟨rfl, HB2.out.alloc hs2 _⟩
  · rw [if_neg hz] at hos ⊢
    obtain ⟨g, cs, hsv, hgl⟩ := own_slice hos (by show 1 ≠ 0; omega)
    subst hsv
    have q0 := hos.cellAt 0 (by show 0 < 1 * 2; omega)
    have q1 := hos.cellAt 1 (by show 1 < 1 * 2; omega)
    have q0' : w2.cell? ⟨g, 0, none⟩ = some (.int .u16 b) := q0
    have q1' : w2.cell? ⟨g, 1, none⟩ = some (.string (⟨#[]⟩ ++ Utf8.encode a)) := q1
    have hap : (⟨#[]⟩ : ByteArray) ++ Utf8.encode a = Utf8.encode a := ByteArray.empty_append
    rw [hap] at q1'
    have hgne : ¬ g = w2.heap.size := by omega
    have hw32 : IntKind.i32.wrap a = a := by rw [IntKind.wrap_i32]; omega
    have HZ : Hid (¬ (o = 7 ∧ b = 0)) := hz
    unfold outVal outAgg
    simp only [List.getD_cons_zero, List.getD_cons_succ, List.length_cons, List.length_nil]
    clear hos hz q0 q1 hap
    go_wp2_with fail
    refine (sum_any o a b _ h4 h15 a0 (by omega) b0 (by omega)).mono ?_
    rintro e w3 ⟨rfl, rfl⟩
    have hf : sumOk o b = true := by unfold sumOk; rw [decide_eq_false HZ.out]; rfl
    rw [hf]
    generalize sumV o a b = r at *
    go_wp2
    go_ret
    exact ⟨rfl, HB2.out.alloc hs2 _⟩

end Go.Proofs.Ytfggaacijcggeaa
