/-
  The walk of appendIns.
-/
import Derived.Test.YtfggaacijcggeaaSmall
import Derived.Test.YtfggaacijcggeaaHeap
namespace Go.Proofs.Ytfggaacijcggeaa
open Go.RowKit
set_option linter.unusedVariables false

theorem info5 : (Try.prog.info? 5).map (fun i => (i.zero, i.size, i.bytes)) = some (some (.int .u8 0), 1, 1) := by kernel_rfl

def u8s (l : List Int) : List Value := l.map (Value.int .u8)

set_option maxHeartbeats 1000000 in
theorem app_0 (base : Nat) (v : Value) (ys : List Int) (o a : Int) (w : World) (hb : base ≤ w.heap.size) (hown : w.ownsRow base 5 1 v ys.length (u8s ys)) (hl : ys.length ≤ 1000) (hw : H.wid o = 0) :
    Calls Try.prog 29 #[v, .agg #[.int .u8 o, .int .i64 a]] w fun e w' => ∃ v', e = .returned v' ∧ w'.ownsRow base 5 1 v' (ys.length + 1) (u8s ys ++ [.int .u8 o]) ∧ Below base w w' := by
  obtain ⟨i0, hi, hz0, hz1, hz2⟩ := info_parts info5
  go_enter Try.func29, Try.ntmps29
  go_wp2_with (first
    | (at_builtin; refine wpList_append_own _ rfl (.tmp 5) (.tmp 8) 72 rfl base 5 i0 (.int .u8 0) 1 1 Try.underlying72 hi hz0 hz1 hz2 rfl (by decide) _ _ _ rfl ((hown.alloc _).alloc _) ⟨w.heap.size + 1, 0, none⟩ 1 1 [.int .u8 o] rfl rfl (new_one1 _ _ _ _) (by intro u hu; simp at hu; subst hu; rfl) (by unfold maxLen; omega) (by omega) (by simp; omega) ?_)
    | (go_at_call 24; refine (width_any _ _).mono ?_; rintro e w' ⟨rfl, rfl⟩))
  intro v1 w1 hown1 hg1 _
  have hx : Blk w1 w.heap.size #[.int .u8 o, .int .i64 a] 28 := ((Blk.new w _ 28).alloc _).grown hg1 (own_ne_new hown (Nat.le_refl _))
  have c0 := hx.cell 0
  have c1 := hx.cell 1
  simp at c0 c1
  have HB : Hid (Below base w w1) := below_app (((Below.refl _ _).alloc hb _).alloc (by simp; omega) _) hg1 ((hown.alloc _).alloc _) (Nat.le_refl _) (by simp; omega)
  have HO : Hid (w1.ownsRow base 5 1 v1 (ys.length + 1) (u8s ys ++ [.int .u8 o])) := hown1
  clear hown hown1 hg1 hx
  go_wp2_with (go_at_call 24; refine (width_any _ _).mono ?_; rintro e w' ⟨rfl, rfl⟩)
  go_ret
  exact ⟨v1, rfl, HO.out, HB.out⟩

set_option maxHeartbeats 1000000 in
theorem app_1 (base : Nat) (v : Value) (ys : List Int) (o a : Int) (w : World) (hb : base ≤ w.heap.size) (hown : w.ownsRow base 5 1 v ys.length (u8s ys)) (hl : ys.length ≤ 1000) (hw : H.wid o = 1) :
    Calls Try.prog 29 #[v, .agg #[.int .u8 o, .int .i64 a]] w fun e w' => ∃ v', e = .returned v' ∧ w'.ownsRow base 5 1 v' (ys.length + 2) (u8s ys ++ [.int .u8 o, .int .u8 (a % 256)]) ∧ Below base w w' := by
  obtain ⟨i0, hi, hz0, hz1, hz2⟩ := info_parts info5
  go_enter Try.func29, Try.ntmps29
  go_wp2_with (first
    | (at_builtin; refine wpList_append_own _ rfl (.tmp 5) (.tmp 8) 72 rfl base 5 i0 (.int .u8 0) 1 1 Try.underlying72 hi hz0 hz1 hz2 rfl (by decide) _ _ _ rfl ((hown.alloc _).alloc _) ⟨w.heap.size + 1, 0, none⟩ 1 1 [.int .u8 o] rfl rfl (new_one1 _ _ _ _) (by intro u hu; simp at hu; subst hu; rfl) (by unfold maxLen; omega) (by omega) (by simp; omega) ?_)
    | (go_at_call 24; refine (width_any _ _).mono ?_; rintro e w' ⟨rfl, rfl⟩))
  intro v1 w1 hown1 hg1 _
  have hx : Blk w1 w.heap.size #[.int .u8 o, .int .i64 a] 28 := ((Blk.new w _ 28).alloc _).grown hg1 (own_ne_new hown (Nat.le_refl _))
  have c0 := hx.cell 0
  have c1 := hx.cell 1
  simp at c0 c1
  have hb1 : Below base w w1 := below_app (((Below.refl _ _).alloc hb _).alloc (by simp; omega) _) hg1 ((hown.alloc _).alloc _) (Nat.le_refl _) (by simp; omega)
  have hs1 : base ≤ w1.heap.size := Nat.le_trans hb hb1.size
  have HB : Hid (Below base w w1) := hb1
  clear hown hg1 hx hb1
  go_wp2_with (first
    | (at_builtin; refine wpList_append_own _ rfl (.tmp 25) (.tmp 29) 72 rfl base 5 i0 (.int .u8 0) 1 1 Try.underlying72 hi hz0 hz1 hz2 rfl (by decide) _ _ _ rfl (hown1.alloc _) ⟨w1.heap.size, 0, none⟩ 1 1 [.int .u8 (a % 256)] rfl rfl (new_one _ _ _) (by intro u hu; simp at hu; subst hu; rfl) (by unfold maxLen; omega) (by omega) (by simp; omega) ?_)
    | (go_at_call 24; refine (width_any _ _).mono ?_; rintro e w' ⟨rfl, rfl⟩))
  intro v2 w2 hown2 hg2 _
  have hb2 : Below base w w2 := below_app (HB.out.alloc hs1 _) hg2 (hown1.alloc _) (Nat.le_refl _) (by simp; omega)
  have HB2 : Hid (Below base w w2) := hb2
  have HO : Hid (w2.ownsRow base 5 1 v2 (ys.length + 1 + 1) (u8s ys ++ [.int .u8 o, .int .u8 (a % 256)])) := hown2
  clear hown1 hown2 hg2 hb2 HB c0 c1
  go_wp2
  go_ret
  exact ⟨v2, rfl, HO.out, HB2.out⟩

set_option maxHeartbeats 1000000 in
theorem app_2 (base : Nat) (v : Value) (ys : List Int) (o a : Int) (w : World) (hb : base ≤ w.heap.size) (hown : w.ownsRow base 5 1 v ys.length (u8s ys)) (hl : ys.length ≤ 1000) (hw : H.wid o = 2) :
    Calls Try.prog 29 #[v, .agg #[.int .u8 o, .int .i64 a]] w fun e w' => ∃ v', e = .returned v' ∧ w'.ownsRow base 5 1 v' (ys.length + 3) (u8s ys ++ [.int .u8 o, .int .u8 (a / 256 % 256), .int .u8 (a % 256)]) ∧ Below base w w' := by
  obtain ⟨i0, hi, hz0, hz1, hz2⟩ := info_parts info5
  go_enter Try.func29, Try.ntmps29
  go_wp2_with (first
    | (at_builtin; refine wpList_append_own _ rfl (.tmp 5) (.tmp 8) 72 rfl base 5 i0 (.int .u8 0) 1 1 Try.underlying72 hi hz0 hz1 hz2 rfl (by decide) _ _ _ rfl ((hown.alloc _).alloc _) ⟨w.heap.size + 1, 0, none⟩ 1 1 [.int .u8 o] rfl rfl (new_one1 _ _ _ _) (by intro u hu; simp at hu; subst hu; rfl) (by unfold maxLen; omega) (by omega) (by simp; omega) ?_)
    | (go_at_call 24; refine (width_any _ _).mono ?_; rintro e w' ⟨rfl, rfl⟩))
  intro v1 w1 hown1 hg1 _
  have hx : Blk w1 w.heap.size #[.int .u8 o, .int .i64 a] 28 := ((Blk.new w _ 28).alloc _).grown hg1 (own_ne_new hown (Nat.le_refl _))
  have c0 := hx.cell 0
  have c1 := hx.cell 1
  simp at c0 c1
  have hb1 : Below base w w1 := below_app (((Below.refl _ _).alloc hb _).alloc (by simp; omega) _) hg1 ((hown.alloc _).alloc _) (Nat.le_refl _) (by simp; omega)
  have hs1 : base ≤ w1.heap.size := Nat.le_trans hb hb1.size
  have HB : Hid (Below base w w1) := hb1
  have HX : Hid (Blk w1 w.heap.size #[.int .u8 o, .int .i64 a] 28) := hx
  clear hown hg1 hx hb1
  go_wp2_with (first
    | (at_builtin; refine wpList_append_own _ rfl (.tmp 14) (.tmp 19) 72 rfl base 5 i0 (.int .u8 0) 1 1 Try.underlying72 hi hz0 hz1 hz2 rfl (by decide) _ _ _ rfl (hown1.alloc _) ⟨w1.heap.size, 0, none⟩ 1 1 [.int .u8 (a / 256 % 256)] rfl rfl (new_one _ _ _) (by intro u hu; simp at hu; subst hu; rfl) (by unfold maxLen; omega) (by omega) (by simp; omega) ?_)
    | (go_at_call 24; refine (width_any _ _).mono ?_; rintro e w' ⟨rfl, rfl⟩))
  intro v2 w2 hown2 hg2 _
  have hb2 : Below base w w2 := below_app (HB.out.alloc hs1 _) hg2 (hown1.alloc _) (Nat.le_refl _) (by simp; omega)
  have hx2 : Blk w2 w.heap.size #[.int .u8 o, .int .i64 a] 28 := (HX.out.alloc _).grown hg2 (HX.out.ne_own hown1 (by decide))
  have d0 := hx2.cell 0
  have d1 := hx2.cell 1
  simp at d0 d1
  have hs2 : base ≤ w2.heap.size := Nat.le_trans hb hb2.size
  have HB2 : Hid (Below base w w2) := hb2
  clear hown1 hg2 hx2 hb2 HB HX c0 c1
  go_wp2_with (first
    | (at_builtin; refine wpList_append_own _ rfl (.tmp 25) (.tmp 29) 72 rfl base 5 i0 (.int .u8 0) 1 1 Try.underlying72 hi hz0 hz1 hz2 rfl (by decide) _ _ _ rfl (hown2.alloc _) ⟨w2.heap.size, 0, none⟩ 1 1 [.int .u8 (a % 256)] rfl rfl (new_one _ _ _) (by intro u hu; simp at hu; subst hu; rfl) (by unfold maxLen; omega) (by omega) (by simp; omega) ?_)
    | (go_at_call 24; refine (width_any _ _).mono ?_; rintro e w' ⟨rfl, rfl⟩))
  intro v3 w3 hown3 hg3 _
  have hb3 : Below base w w3 := below_app (HB2.out.alloc hs2 _) hg3 (hown2.alloc _) (Nat.le_refl _) (by simp; omega)
  have HB3 : Hid (Below base w w3) := hb3
  have HO : Hid (w3.ownsRow base 5 1 v3 (ys.length + 1 + 1 + 1) (u8s ys ++ [.int .u8 o, .int .u8 (a / 256 % 256), .int .u8 (a % 256)])) := hown3
  clear hown2 hown3 hg3 hb3 HB2 d0 d1
  go_wp2
  go_ret
  exact ⟨v3, rfl, HO.out, HB3.out⟩

theorem app_any (base : Nat) (v : Value) (ys : List Int) (o a : Int) (w : World) (hb : base ≤ w.heap.size) (hown : w.ownsRow base 5 1 v ys.length (u8s ys)) (hl : ys.length ≤ 1000) :
    Calls Try.prog 29 #[v, .agg #[.int .u8 o, .int .i64 a]] w fun e w' => ∃ v', e = .returned v' ∧ w'.ownsRow base 5 1 v' (ys ++ H.enc o a).length (u8s (ys ++ H.enc o a)) ∧ Below base w w' := by
  have hle := H.wid_le o
  by_cases h2 : H.wid o = 2
  · refine (app_2 base v ys o a w hb hown hl h2).mono ?_
    rintro e w' ⟨v', rfl, h, hb⟩
    exact ⟨v', rfl, by simpa [H.enc, h2, u8s] using h, hb⟩
  · by_cases h1 : H.wid o = 1
    · refine (app_1 base v ys o a w hb hown hl h1).mono ?_
      rintro e w' ⟨v', rfl, h, hb⟩
      exact ⟨v', rfl, by simpa [H.enc, h1, u8s] using h, hb⟩
    · have h0 : H.wid o = 0 := by omega
      refine (app_0 base v ys o a w hb hown hl h0).mono ?_
      rintro e w' ⟨v', rfl, h, hb⟩
      exact ⟨v', rfl, by simpa [H.enc, h0, u8s] using h, hb⟩

end Go.Proofs.Ytfggaacijcggeaa
