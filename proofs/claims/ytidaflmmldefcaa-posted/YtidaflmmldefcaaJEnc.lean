/-
  Small, Alone, AppIns, Read, Lands, Enc, Dec: joined.
-/
import Derived.Test.YtidaflmmldefcaaProg
import Derived.Test.YtidaflmmldefcaaJCode
import Derived.WalkKit
import Derived.WalkSpells
import Derived.WalkLawsBesides
import Derived.Test.YtidaflmmldefcaaJHeap
import Derived.Deep.QuietTactic
import Derived.BigQuiet
import Derived.Laws.BytesArg

/-
  The walks of the small functions of package vm: width, standsAlone.
-/
namespace Go.Proofs.Ytidaflmmldefcaa
open Go.RowKit

set_option maxHeartbeats 400000 in
theorem width_any (op : Int) (w : World) :
    Calls Try.prog 39 #[.int .u8 op] w fun e w' => e = .returned (.int .i64 (H.wid op)) ∧ w = w' := by
  by_cases h1 : op = 1
  · subst h1
    go_enter Try.func39, Try.ntmps39
    go_wp2
    go_ret
    exact ⟨rfl, rfl⟩
  by_cases h2 : op = 2
  · subst h2
    go_enter Try.func39, Try.ntmps39
    go_wp2
    go_ret
    exact ⟨rfl, rfl⟩
  by_cases h3 : op = 3
  · subst h3
    go_enter Try.func39, Try.ntmps39
    go_wp2
    go_ret
    exact ⟨rfl, rfl⟩
  by_cases h16 : op = 16
  · subst h16
    go_enter Try.func39, Try.ntmps39
    go_wp2
    go_ret
    exact ⟨rfl, rfl⟩
  by_cases h17 : op = 17
  · subst h17
    go_enter Try.func39, Try.ntmps39
    go_wp2
    go_ret
    exact ⟨rfl, rfl⟩
  by_cases h25 : op = 25
  · subst h25
    go_enter Try.func39, Try.ntmps39
    go_wp2
    go_ret
    exact ⟨rfl, rfl⟩
  have e : H.wid op = 0 := by simp [H.wid, h1, h2, h3, h16, h17, h25]
  rw [e]
  have b1 : (op == 1) = false := by simpa using h1
  have b2 : (op == 2) = false := by simpa using h2
  have b3 : (op == 3) = false := by simpa using h3
  have b16 : (op == 16) = false := by simpa using h16
  have b17 : (op == 17) = false := by simpa using h17
  have b25 : (op == 25) = false := by simpa using h25
  clear e h1 h2 h3 h16 h17 h25
  go_enter Try.func39, Try.ntmps39
  go_wp2
  go_ret
  exact ⟨rfl, rfl⟩

end Go.Proofs.Ytidaflmmldefcaa

/-
  The walk of standsAlone.
-/
namespace Go.Proofs.Ytidaflmmldefcaa
open Go.RowKit

set_option maxHeartbeats 400000 in
theorem alone_1 (a : Int) (w : World) :
    Calls Try.prog 28 #[.agg #[.int .u8 1, .int .i64 a]] w fun e w' => e = .returned (.bool (H.alone 1 a)) ∧ Below w.heap.size w w' := by
  have e : H.alone 1 a = decide (0 ≤ a ∧ a ≤ 65535) := by simp [H.alone]
  rw [e]; clear e
  by_cases h0 : 0 ≤ a
  · by_cases h2 : a ≤ 65535
    · rw [show decide (0 ≤ a ∧ a ≤ 65535) = true by simp [h0, h2]]
      go_enter Try.func28, Try.ntmps28
      go_wp2
      go_ret
      exact ⟨rfl, (Below.refl _ _).alloc (Nat.le_refl _) _⟩
    · rw [show decide (0 ≤ a ∧ a ≤ 65535) = false by simp; omega]
      go_enter Try.func28, Try.ntmps28
      go_wp2
      go_ret
      exact ⟨rfl, (Below.refl _ _).alloc (Nat.le_refl _) _⟩
  · rw [show decide (0 ≤ a ∧ a ≤ 65535) = false by simp; omega]
    go_enter Try.func28, Try.ntmps28
    go_wp2
    go_ret
    exact ⟨rfl, (Below.refl _ _).alloc (Nat.le_refl _) _⟩

set_option maxHeartbeats 400000 in
theorem alone_2 (a : Int) (w : World) :
    Calls Try.prog 28 #[.agg #[.int .u8 2, .int .i64 a]] w fun e w' => e = .returned (.bool (H.alone 2 a)) ∧ Below w.heap.size w w' := by
  have e : H.alone 2 a = decide (0 ≤ a ∧ a < 8) := by simp [H.alone]
  rw [e]; clear e
  by_cases h0 : 0 ≤ a
  · by_cases h2 : a < 8
    · rw [show decide (0 ≤ a ∧ a < 8) = true by simp [h0, h2]]
      go_enter Try.func28, Try.ntmps28
      go_wp2
      go_ret
      exact ⟨rfl, (Below.refl _ _).alloc (Nat.le_refl _) _⟩
    · rw [show decide (0 ≤ a ∧ a < 8) = false by simp; omega]
      go_enter Try.func28, Try.ntmps28
      go_wp2
      go_ret
      exact ⟨rfl, (Below.refl _ _).alloc (Nat.le_refl _) _⟩
  · rw [show decide (0 ≤ a ∧ a < 8) = false by simp; omega]
    go_enter Try.func28, Try.ntmps28
    go_wp2
    go_ret
    exact ⟨rfl, (Below.refl _ _).alloc (Nat.le_refl _) _⟩

set_option maxHeartbeats 400000 in
theorem alone_3 (a : Int) (w : World) :
    Calls Try.prog 28 #[.agg #[.int .u8 3, .int .i64 a]] w fun e w' => e = .returned (.bool (H.alone 3 a)) ∧ Below w.heap.size w w' := by
  have e : H.alone 3 a = decide (0 ≤ a ∧ a < 8) := by simp [H.alone]
  rw [e]; clear e
  by_cases h0 : 0 ≤ a
  · by_cases h2 : a < 8
    · rw [show decide (0 ≤ a ∧ a < 8) = true by simp [h0, h2]]
      go_enter Try.func28, Try.ntmps28
      go_wp2
      go_ret
      exact ⟨rfl, (Below.refl _ _).alloc (Nat.le_refl _) _⟩
    · rw [show decide (0 ≤ a ∧ a < 8) = false by simp; omega]
      go_enter Try.func28, Try.ntmps28
      go_wp2
      go_ret
      exact ⟨rfl, (Below.refl _ _).alloc (Nat.le_refl _) _⟩
  · rw [show decide (0 ≤ a ∧ a < 8) = false by simp; omega]
    go_enter Try.func28, Try.ntmps28
    go_wp2
    go_ret
    exact ⟨rfl, (Below.refl _ _).alloc (Nat.le_refl _) _⟩

set_option maxHeartbeats 400000 in
theorem alone_16 (a : Int) (w : World) :
    Calls Try.prog 28 #[.agg #[.int .u8 16, .int .i64 a]] w fun e w' => e = .returned (.bool (H.alone 16 a)) ∧ Below w.heap.size w w' := by
  have e : H.alone 16 a = decide (-128 ≤ a ∧ a ≤ 127) := by simp [H.alone]
  rw [e]; clear e
  by_cases h0 : -128 ≤ a
  · by_cases h2 : a ≤ 127
    · rw [show decide (-128 ≤ a ∧ a ≤ 127) = true by simp [h0, h2]]
      go_enter Try.func28, Try.ntmps28
      go_wp2
      go_ret
      exact ⟨rfl, (Below.refl _ _).alloc (Nat.le_refl _) _⟩
    · rw [show decide (-128 ≤ a ∧ a ≤ 127) = false by simp; omega]
      go_enter Try.func28, Try.ntmps28
      go_wp2
      go_ret
      exact ⟨rfl, (Below.refl _ _).alloc (Nat.le_refl _) _⟩
  · rw [show decide (-128 ≤ a ∧ a ≤ 127) = false by simp; omega]
    go_enter Try.func28, Try.ntmps28
    go_wp2
    go_ret
    exact ⟨rfl, (Below.refl _ _).alloc (Nat.le_refl _) _⟩

set_option maxHeartbeats 400000 in
theorem alone_17 (a : Int) (w : World) :
    Calls Try.prog 28 #[.agg #[.int .u8 17, .int .i64 a]] w fun e w' => e = .returned (.bool (H.alone 17 a)) ∧ Below w.heap.size w w' := by
  have e : H.alone 17 a = decide (-128 ≤ a ∧ a ≤ 127) := by simp [H.alone]
  rw [e]; clear e
  by_cases h0 : -128 ≤ a
  · by_cases h2 : a ≤ 127
    · rw [show decide (-128 ≤ a ∧ a ≤ 127) = true by simp [h0, h2]]
      go_enter Try.func28, Try.ntmps28
      go_wp2
      go_ret
      exact ⟨rfl, (Below.refl _ _).alloc (Nat.le_refl _) _⟩
    · rw [show decide (-128 ≤ a ∧ a ≤ 127) = false by simp; omega]
      go_enter Try.func28, Try.ntmps28
      go_wp2
      go_ret
      exact ⟨rfl, (Below.refl _ _).alloc (Nat.le_refl _) _⟩
  · rw [show decide (-128 ≤ a ∧ a ≤ 127) = false by simp; omega]
    go_enter Try.func28, Try.ntmps28
    go_wp2
    go_ret
    exact ⟨rfl, (Below.refl _ _).alloc (Nat.le_refl _) _⟩

set_option maxHeartbeats 400000 in
theorem alone_25 (a : Int) (w : World) :
    Calls Try.prog 28 #[.agg #[.int .u8 25, .int .i64 a]] w fun e w' => e = .returned (.bool (H.alone 25 a)) ∧ Below w.heap.size w w' := by
  have e : H.alone 25 a = decide (0 ≤ a ∧ a < 4) := by simp [H.alone]
  rw [e]; clear e
  by_cases h0 : 0 ≤ a
  · by_cases h2 : a < 4
    · rw [show decide (0 ≤ a ∧ a < 4) = true by simp [h0, h2]]
      go_enter Try.func28, Try.ntmps28
      go_wp2
      go_ret
      exact ⟨rfl, (Below.refl _ _).alloc (Nat.le_refl _) _⟩
    · rw [show decide (0 ≤ a ∧ a < 4) = false by simp; omega]
      go_enter Try.func28, Try.ntmps28
      go_wp2
      go_ret
      exact ⟨rfl, (Below.refl _ _).alloc (Nat.le_refl _) _⟩
  · rw [show decide (0 ≤ a ∧ a < 4) = false by simp; omega]
    go_enter Try.func28, Try.ntmps28
    go_wp2
    go_ret
    exact ⟨rfl, (Below.refl _ _).alloc (Nat.le_refl _) _⟩

set_option maxHeartbeats 400000 in
theorem alone_any (op a : Int) (w : World) :
    Calls Try.prog 28 #[.agg #[.int .u8 op, .int .i64 a]] w fun e w' => e = .returned (.bool (H.alone op a)) ∧ Below w.heap.size w w' := by
  by_cases h1 : op = 1
  · subst h1; exact alone_1 a w
  by_cases h2 : op = 2
  · subst h2; exact alone_2 a w
  by_cases h3 : op = 3
  · subst h3; exact alone_3 a w
  by_cases h16 : op = 16
  · subst h16; exact alone_16 a w
  by_cases h17 : op = 17
  · subst h17; exact alone_17 a w
  by_cases h25 : op = 25
  · subst h25; exact alone_25 a w
  have e : H.alone op a = decide (op ≤ 27 ∧ a = 0) := by simp [H.alone, h1, h2, h3, h16, h17, h25]
  rw [e]; clear e
  have b1 : (op == 1) = false := by simpa using h1
  have b2 : (op == 2) = false := by simpa using h2
  have b3 : (op == 3) = false := by simpa using h3
  have b16 : (op == 16) = false := by simpa using h16
  have b17 : (op == 17) = false := by simpa using h17
  have b25 : (op == 25) = false := by simpa using h25
  clear h1 h2 h3 h16 h17 h25
  by_cases h27 : op ≤ 27
  · by_cases h0 : a = 0
    · subst h0
      rw [show decide (op ≤ 27 ∧ (0 : Int) = 0) = true by simp [h27]]
      go_enter Try.func28, Try.ntmps28
      go_wp2
      go_ret
      exact ⟨rfl, (Below.refl _ _).alloc (Nat.le_refl _) _⟩
    · rw [show decide (op ≤ 27 ∧ a = 0) = false by simp [h0]]
      have b0 : (a == 0) = false := by simpa using h0
      clear h0
      go_enter Try.func28, Try.ntmps28
      go_wp2
      go_ret
      exact ⟨rfl, (Below.refl _ _).alloc (Nat.le_refl _) _⟩
  · rw [show decide (op ≤ 27 ∧ a = 0) = false by simp [h27]]
    go_enter Try.func28, Try.ntmps28
    go_wp2
    go_ret
    exact ⟨rfl, (Below.refl _ _).alloc (Nat.le_refl _) _⟩

end Go.Proofs.Ytidaflmmldefcaa

/-
  The walk of appendIns.
-/
namespace Go.Proofs.Ytidaflmmldefcaa
open Go.RowKit
set_option linter.unusedVariables false

theorem info5 : (Try.prog.info? 5).map (fun i => (i.zero, i.size, i.bytes)) = some (some (.int .u8 0), 1, 1) := by kernel_rfl

def u8s (l : List Int) : List Value := l.map (Value.int .u8)

set_option maxHeartbeats 1000000 in
theorem app_0 (base : Nat) (v : Value) (ys : List Int) (o a : Int) (w : World) (hb : base ≤ w.heap.size) (hown : w.ownsRow base 5 1 v ys.length (u8s ys)) (hl : ys.length ≤ 1000) (hw : H.wid o = 0) :
    Calls Try.prog 30 #[v, .agg #[.int .u8 o, .int .i64 a]] w fun e w' => ∃ v', e = .returned v' ∧ w'.ownsRow base 5 1 v' (ys.length + 1) (u8s ys ++ [.int .u8 o]) ∧ Below base w w' := by
  obtain ⟨i0, hi, hz0, hz1, hz2⟩ := info_parts info5
  go_enter Try.func30, Try.ntmps30
  go_wp2_with (first
    | (at_builtin; refine wpList_append_own _ rfl (.tmp 5) (.tmp 8) 78 rfl base 5 i0 (.int .u8 0) 1 1 Try.underlying78 hi hz0 hz1 hz2 rfl (by decide) _ _ _ rfl ((hown.alloc _).alloc _) ⟨w.heap.size + 1, 0, none⟩ 1 1 [.int .u8 o] rfl rfl (new_one1 _ _ _ _) (by intro u hu; simp at hu; subst hu; rfl) (by unfold maxLen; omega) (by omega) (by simp; omega) ?_)
    | (go_at_call 39; refine (width_any _ _).mono ?_; rintro e w' ⟨rfl, rfl⟩))
  intro v1 w1 hown1 hg1 _
  have hx : Blk w1 w.heap.size #[.int .u8 o, .int .i64 a] 52 := ((Blk.new w _ 52).alloc _).grown hg1 (own_ne_new hown (Nat.le_refl _))
  have c0 := hx.cell 0
  have c1 := hx.cell 1
  simp at c0 c1
  have HB : Hid (Below base w w1) := below_app (((Below.refl _ _).alloc hb _).alloc (by simp; omega) _) hg1 ((hown.alloc _).alloc _) (Nat.le_refl _) (by simp; omega)
  have HO : Hid (w1.ownsRow base 5 1 v1 (ys.length + 1) (u8s ys ++ [.int .u8 o])) := hown1
  clear hown hown1 hg1 hx
  go_wp2_with (go_at_call 39; refine (width_any _ _).mono ?_; rintro e w' ⟨rfl, rfl⟩)
  go_ret
  exact ⟨v1, rfl, HO.out, HB.out⟩

set_option maxHeartbeats 1000000 in
theorem app_1 (base : Nat) (v : Value) (ys : List Int) (o a : Int) (w : World) (hb : base ≤ w.heap.size) (hown : w.ownsRow base 5 1 v ys.length (u8s ys)) (hl : ys.length ≤ 1000) (hw : H.wid o = 1) :
    Calls Try.prog 30 #[v, .agg #[.int .u8 o, .int .i64 a]] w fun e w' => ∃ v', e = .returned v' ∧ w'.ownsRow base 5 1 v' (ys.length + 2) (u8s ys ++ [.int .u8 o, .int .u8 (a % 256)]) ∧ Below base w w' := by
  obtain ⟨i0, hi, hz0, hz1, hz2⟩ := info_parts info5
  go_enter Try.func30, Try.ntmps30
  go_wp2_with (first
    | (at_builtin; refine wpList_append_own _ rfl (.tmp 5) (.tmp 8) 78 rfl base 5 i0 (.int .u8 0) 1 1 Try.underlying78 hi hz0 hz1 hz2 rfl (by decide) _ _ _ rfl ((hown.alloc _).alloc _) ⟨w.heap.size + 1, 0, none⟩ 1 1 [.int .u8 o] rfl rfl (new_one1 _ _ _ _) (by intro u hu; simp at hu; subst hu; rfl) (by unfold maxLen; omega) (by omega) (by simp; omega) ?_)
    | (go_at_call 39; refine (width_any _ _).mono ?_; rintro e w' ⟨rfl, rfl⟩))
  intro v1 w1 hown1 hg1 _
  have hx : Blk w1 w.heap.size #[.int .u8 o, .int .i64 a] 52 := ((Blk.new w _ 52).alloc _).grown hg1 (own_ne_new hown (Nat.le_refl _))
  have c0 := hx.cell 0
  have c1 := hx.cell 1
  simp at c0 c1
  have hb1 : Below base w w1 := below_app (((Below.refl _ _).alloc hb _).alloc (by simp; omega) _) hg1 ((hown.alloc _).alloc _) (Nat.le_refl _) (by simp; omega)
  have hs1 : base ≤ w1.heap.size := Nat.le_trans hb hb1.size
  have HB : Hid (Below base w w1) := hb1
  clear hown hg1 hx hb1
  go_wp2_with (first
    | (at_builtin; refine wpList_append_own _ rfl (.tmp 25) (.tmp 29) 78 rfl base 5 i0 (.int .u8 0) 1 1 Try.underlying78 hi hz0 hz1 hz2 rfl (by decide) _ _ _ rfl (hown1.alloc _) ⟨w1.heap.size, 0, none⟩ 1 1 [.int .u8 (a % 256)] rfl rfl (new_one _ _ _) (by intro u hu; simp at hu; subst hu; rfl) (by unfold maxLen; omega) (by omega) (by simp; omega) ?_)
    | (go_at_call 39; refine (width_any _ _).mono ?_; rintro e w' ⟨rfl, rfl⟩))
  intro v2 w2 hown2 hg2 _
  have hb2 : Below base w w2 := below_app (HB.out.alloc hs1 _) hg2 (hown1.alloc _) (Nat.le_refl _) (by simp; omega)
  have HB2 : Hid (Below base w w2) := hb2
  have HO : Hid (w2.ownsRow base 5 1 v2 (ys.length + 1 + 1) (u8s ys ++ [.int .u8 o, .int .u8 (a % 256)])) := hown2
  clear hown1 hown2 hg2 hb2 HB c0 c1
  go_wp2
  go_ret
  exact ⟨v2, rfl, HO.out, HB2.out⟩

set_option maxHeartbeats 1000000 in
theorem app_2 (base : Nat) (v : Value) (ys : List Int) (o a : Int) (w : World) (hb : base ≤ w.heap.size) (hown : w.ownsRow base 5 1 v ys.length (u8s ys)) (hl : ys.length ≤ 1000) (hw : H.wid o = 2) :
    Calls Try.prog 30 #[v, .agg #[.int .u8 o, .int .i64 a]] w fun e w' => ∃ v', e = .returned v' ∧ w'.ownsRow base 5 1 v' (ys.length + 3) (u8s ys ++ [.int .u8 o, .int .u8 (a / 256 % 256), .int .u8 (a % 256)]) ∧ Below base w w' := by
  obtain ⟨i0, hi, hz0, hz1, hz2⟩ := info_parts info5
  go_enter Try.func30, Try.ntmps30
  go_wp2_with (first
    | (at_builtin; refine wpList_append_own _ rfl (.tmp 5) (.tmp 8) 78 rfl base 5 i0 (.int .u8 0) 1 1 Try.underlying78 hi hz0 hz1 hz2 rfl (by decide) _ _ _ rfl ((hown.alloc _).alloc _) ⟨w.heap.size + 1, 0, none⟩ 1 1 [.int .u8 o] rfl rfl (new_one1 _ _ _ _) (by intro u hu; simp at hu; subst hu; rfl) (by unfold maxLen; omega) (by omega) (by simp; omega) ?_)
    | (go_at_call 39; refine (width_any _ _).mono ?_; rintro e w' ⟨rfl, rfl⟩))
  intro v1 w1 hown1 hg1 _
  have hx : Blk w1 w.heap.size #[.int .u8 o, .int .i64 a] 52 := ((Blk.new w _ 52).alloc _).grown hg1 (own_ne_new hown (Nat.le_refl _))
  have c0 := hx.cell 0
  have c1 := hx.cell 1
  simp at c0 c1
  have hb1 : Below base w w1 := below_app (((Below.refl _ _).alloc hb _).alloc (by simp; omega) _) hg1 ((hown.alloc _).alloc _) (Nat.le_refl _) (by simp; omega)
  have hs1 : base ≤ w1.heap.size := Nat.le_trans hb hb1.size
  have HB : Hid (Below base w w1) := hb1
  have HX : Hid (Blk w1 w.heap.size #[.int .u8 o, .int .i64 a] 52) := hx
  clear hown hg1 hx hb1
  go_wp2_with (first
    | (at_builtin; refine wpList_append_own _ rfl (.tmp 14) (.tmp 19) 78 rfl base 5 i0 (.int .u8 0) 1 1 Try.underlying78 hi hz0 hz1 hz2 rfl (by decide) _ _ _ rfl (hown1.alloc _) ⟨w1.heap.size, 0, none⟩ 1 1 [.int .u8 (a / 256 % 256)] rfl rfl (new_one _ _ _) (by intro u hu; simp at hu; subst hu; rfl) (by unfold maxLen; omega) (by omega) (by simp; omega) ?_)
    | (go_at_call 39; refine (width_any _ _).mono ?_; rintro e w' ⟨rfl, rfl⟩))
  intro v2 w2 hown2 hg2 _
  have hb2 : Below base w w2 := below_app (HB.out.alloc hs1 _) hg2 (hown1.alloc _) (Nat.le_refl _) (by simp; omega)
  have hx2 : Blk w2 w.heap.size #[.int .u8 o, .int .i64 a] 52 := (HX.out.alloc _).grown hg2 (HX.out.ne_own hown1 (by decide))
  have d0 := hx2.cell 0
  have d1 := hx2.cell 1
  simp at d0 d1
  have hs2 : base ≤ w2.heap.size := Nat.le_trans hb hb2.size
  have HB2 : Hid (Below base w w2) := hb2
  clear hown1 hg2 hx2 hb2 HB HX c0 c1
  go_wp2_with (first
    | (at_builtin; refine wpList_append_own _ rfl (.tmp 25) (.tmp 29) 78 rfl base 5 i0 (.int .u8 0) 1 1 Try.underlying78 hi hz0 hz1 hz2 rfl (by decide) _ _ _ rfl (hown2.alloc _) ⟨w2.heap.size, 0, none⟩ 1 1 [.int .u8 (a % 256)] rfl rfl (new_one _ _ _) (by intro u hu; simp at hu; subst hu; rfl) (by unfold maxLen; omega) (by omega) (by simp; omega) ?_)
    | (go_at_call 39; refine (width_any _ _).mono ?_; rintro e w' ⟨rfl, rfl⟩))
  intro v3 w3 hown3 hg3 _
  have hb3 : Below base w w3 := below_app (HB2.out.alloc hs2 _) hg3 (hown2.alloc _) (Nat.le_refl _) (by simp; omega)
  have HB3 : Hid (Below base w w3) := hb3
  have HO : Hid (w3.ownsRow base 5 1 v3 (ys.length + 1 + 1 + 1) (u8s ys ++ [.int .u8 o, .int .u8 (a / 256 % 256), .int .u8 (a % 256)])) := hown3
  clear hown2 hown3 hg3 hb3 HB2 d0 d1
  go_wp2
  go_ret
  exact ⟨v3, rfl, HO.out, HB3.out⟩

theorem app_any (base : Nat) (v : Value) (ys : List Int) (o a : Int) (w : World) (hb : base ≤ w.heap.size) (hown : w.ownsRow base 5 1 v ys.length (u8s ys)) (hl : ys.length ≤ 1000) :
    Calls Try.prog 30 #[v, .agg #[.int .u8 o, .int .i64 a]] w fun e w' => ∃ v', e = .returned v' ∧ w'.ownsRow base 5 1 v' (ys ++ H.enc o a).length (u8s (ys ++ H.enc o a)) ∧ Below base w w' := by
  have hle := H.wid_le o
  by_cases h2 : H.wid o = 2
  · refine (app_2 base v ys o a w hb hown hl h2).mono ?_
    rintro e w' ⟨v', rfl, h, hb⟩
    exact ⟨v', rfl, by simpa [H.enc, h2, u8s] using h, hb⟩
  · by_cases h1 : H.wid o = 1
    · refine (app_1 base v ys o a w hb hown hl h1).mono ?_
      rintro e w' ⟨v', rfl, h, hb⟩
      exact ⟨v', rfl, by simpa [H.enc, h1, u8s] using h, hb⟩
    · have h0 : H.wid o = 0 := by omega
      refine (app_0 base v ys o a w hb hown hl h0).mono ?_
      rintro e w' ⟨v', rfl, h, hb⟩
      exact ⟨v', rfl, by simpa [H.enc, h0, u8s] using h, hb⟩

end Go.Proofs.Ytidaflmmldefcaa

/-
  The walk of readIns.
-/
namespace Go.Proofs.Ytidaflmmldefcaa
open Go.RowKit
set_option linter.unusedVariables false

theorem or256 (x y : Nat) (hx : x < 256) (hy : y < 256) : bits .or .i64 (wrap64 (wrap64 (x : Int) * 256)) (wrap64 (y : Int)) = 256 * x + y := by
  have e1 : wrap64 (wrap64 (x : Int) * 256) = ((x * 256 : Nat) : Int) := by unfold wrap64; omega
  have e2 : wrap64 (y : Int) = (y : Int) := by unfold wrap64; omega
  rw [e1, e2]
  have h1 : (BitVec.ofInt 64 ((x * 256 : Nat) : Int)).toNat = x * 256 := ofInt_u64 _ (by omega)
  have h2 : (BitVec.ofInt 64 (y : Int)).toNat = y := ofInt_u64 _ (by omega)
  have h3 : (BitVec.ofInt 64 ((x * 256 : Nat) : Int) ||| BitVec.ofInt 64 (y : Int)).toNat = x * 256 + y := by
    rw [BitVec.toNat_or, h1, h2, nat_join 8 (x * 256) y (by omega) (by omega)]
  show IntKind.i64.wrap ((BitVec.ofInt 64 ((x * 256 : Nat) : Int) ||| BitVec.ofInt 64 (y : Int)).toNat : Int) = _
  rw [h3, IntKind.wrap_i64]
  omega

theorem wrap_i8 (x : Int) : IntKind.i8.wrap x = if 128 ≤ x % 256 then x % 256 - 256 else x % 256 := by
  simp [IntKind.wrap, IntKind.bits, IntKind.signed]

theorem sg_conv (x : Nat) (hx : x < 256) : wrap64 (IntKind.i8.wrap (x : Int)) = H.sg x := by
  rw [wrap_i8]
  unfold H.sg wrap64
  split <;> split <;> omega

set_option maxHeartbeats 400000 in
theorem read_cut (s : ByteArray) (p : Nat) (w : World) (hs : s.size ≤ maxLen) (hp : p < s.size) (hw : s.size ≤ p + H.wid (H.at0 (H.bts s) p)) :
    Calls Try.prog 57 #[.string s, .int .i64 p] w fun e w' => e = .returned (.tuple #[.agg #[.int .u8 0, .int .i64 0], .bool false]) ∧ Below w.heap.size w w' := by
  unfold maxLen at hs
  rw [H.at0_bts s p hp] at hw
  have hle := H.wid_le (((s[p]).toNat : Nat) : Int)
  have hw2 : (s.size : Int) - p ≤ (H.wid (((s[p]).toNat : Nat) : Int) : Int) := by omega
  clear hw
  go_enter Try.func57, Try.ntmps57
  go_wp2_with (go_at_call 39; refine (width_any _ _).mono ?_; rintro e w' ⟨rfl, rfl⟩)
  exact bodyPost_ret (v := .tuple #[.agg #[.int .u8 0, .int .i64 0], .bool false]) (by simp [results, Try.results57, go_sem]) rfl ⟨rfl, by (repeat (first | exact Below.refl _ _ | assumption | refine Below.setCell ?_ (by first | exact Nat.le_refl _ | (simp; done) | (simp; omega)) _ | refine below_drewN ?_ _ | refine Below.drew ?_ | refine Below.alloc ?_ (by first | exact Nat.le_refl _ | (simp; done) | (simp; omega)) _))⟩

set_option maxHeartbeats 400000 in
theorem read_push (s : ByteArray) (p : Nat) (w : World) (hs : s.size ≤ maxLen) (hp : p + 2 < s.size) (hop : (s[p]'(by omega)).toNat = 1) :
    Calls Try.prog 57 #[.string s, .int .i64 p] w fun e w' => e = .returned (.tuple #[.agg #[.int .u8 1, .int .i64 (256 * (s[p+1]'(by omega)).toNat + (s[p+2]'(by omega)).toNat)], .bool true]) ∧ Below w.heap.size w w' := by
  unfold maxLen at hs
  have hp0 : p < s.size := by omega
  have hop2 : (((s[p]'(by omega)).toNat : Nat) : Int) = 1 := by omega
  have hw : H.wid 1 = 2 := rfl
  have hi1 : (p : Int) + 1 < (s.size : Int) := by omega
  have hi2 : (p : Int) + 2 < (s.size : Int) := by omega
  have hw1 : IntKind.i64.wrap ((p : Int) + 1) = (p : Int) + 1 := by rw [IntKind.wrap_i64]; omega
  have hw2 : IntKind.i64.wrap ((p : Int) + 2) = (p : Int) + 2 := by rw [IntKind.wrap_i64]; omega
  have h01 : (0 : Int) ≤ (p : Int) + 1 := by omega
  have h02 : (0 : Int) ≤ (p : Int) + 2 := by omega
  have hor := or256 (s[p+1]'(by omega)).toNat (s[p+2]'(by omega)).toNat (s[p+1]'(by omega)).toNat_lt (s[p+2]'(by omega)).toNat_lt
  go_enter Try.func57, Try.ntmps57
  go_wp2_with (go_at_call 39; refine (width_any _ _).mono ?_; rintro e w' ⟨rfl, rfl⟩)
  go_quiet (fail)
  go_wp2
  exact bodyPost_ret (v := .tuple #[.agg #[.int .u8 1, .int .i64 (256 * (s[p+1]'(by omega)).toNat + (s[p+2]'(by omega)).toNat)], .bool true]) (by simp [results, Try.results57, go_sem]) rfl ⟨rfl, by (repeat (first | exact Below.refl _ _ | assumption | refine Below.setCell ?_ (by first | exact Nat.le_refl _ | (simp; done) | (simp; omega)) _ | refine below_drewN ?_ _ | refine Below.drew ?_ | refine Below.alloc ?_ (by first | exact Nat.le_refl _ | (simp; done) | (simp; omega)) _))⟩

set_option maxHeartbeats 400000 in
theorem read_jump (s : ByteArray) (p : Nat) (w : World) (o : Int) (ho : o = 16 ∨ o = 17) (hs : s.size ≤ maxLen) (hp : p + 1 < s.size) (hop : ((s[p]'(by omega)).toNat : Int) = o) :
    Calls Try.prog 57 #[.string s, .int .i64 p] w fun e w' => e = .returned (.tuple #[.agg #[.int .u8 o, .int .i64 (H.sg (s[p+1]'(by omega)).toNat)], .bool true]) ∧ Below w.heap.size w w' := by
  unfold maxLen at hs
  have hp0 : p < s.size := by omega
  have hi1 : (p : Int) + 1 < (s.size : Int) := by omega
  have hsg := sg_conv (s[p+1]'(by omega)).toNat (s[p+1]'(by omega)).toNat_lt
  have hw : H.wid 16 = 1 := rfl
  have hw17 : H.wid 17 = 1 := rfl
  rcases ho with rfl | rfl
  · go_enter Try.func57, Try.ntmps57
    go_wp2_with (go_at_call 39; refine (width_any _ _).mono ?_; rintro e w' ⟨rfl, rfl⟩)
    exact bodyPost_ret (v := .tuple #[.agg #[.int .u8 16, .int .i64 (H.sg (s[p+1]'(by omega)).toNat)], .bool true]) (by simp [results, Try.results57, go_sem]) rfl ⟨rfl, by (repeat (first | exact Below.refl _ _ | assumption | refine Below.setCell ?_ (by first | exact Nat.le_refl _ | (simp; done) | (simp; omega)) _ | refine below_drewN ?_ _ | refine Below.drew ?_ | refine Below.alloc ?_ (by first | exact Nat.le_refl _ | (simp; done) | (simp; omega)) _))⟩
  · go_enter Try.func57, Try.ntmps57
    go_wp2_with (go_at_call 39; refine (width_any _ _).mono ?_; rintro e w' ⟨rfl, rfl⟩)
    exact bodyPost_ret (v := .tuple #[.agg #[.int .u8 17, .int .i64 (H.sg (s[p+1]'(by omega)).toNat)], .bool true]) (by simp [results, Try.results57, go_sem]) rfl ⟨rfl, by (repeat (first | exact Below.refl _ _ | assumption | refine Below.setCell ?_ (by first | exact Nat.le_refl _ | (simp; done) | (simp; omega)) _ | refine below_drewN ?_ _ | refine Below.drew ?_ | refine Below.alloc ?_ (by first | exact Nat.le_refl _ | (simp; done) | (simp; omega)) _))⟩

set_option maxHeartbeats 400000 in
theorem read_one (s : ByteArray) (p : Nat) (w : World) (o : Int) (ho : o = 2 ∨ o = 3 ∨ o = 25) (hs : s.size ≤ maxLen) (hp : p + 1 < s.size) (hop : ((s[p]'(by omega)).toNat : Int) = o) :
    Calls Try.prog 57 #[.string s, .int .i64 p] w fun e w' => e = .returned (.tuple #[.agg #[.int .u8 o, .int .i64 ((s[p+1]'(by omega)).toNat)], .bool true]) ∧ Below w.heap.size w w' := by
  unfold maxLen at hs
  have hp0 : p < s.size := by omega
  have hi1 : (p : Int) + 1 < (s.size : Int) := by omega
  have hsg : wrap64 ((s[p+1]'(by omega)).toNat : Int) = ((s[p+1]'(by omega)).toNat : Int) := by
    have := (s[p+1]'(by omega)).toNat_lt
    unfold wrap64; omega
  have hw2 : H.wid 2 = 1 := rfl
  have hw3 : H.wid 3 = 1 := rfl
  have hw25 : H.wid 25 = 1 := rfl
  rcases ho with rfl | rfl | rfl
  · go_enter Try.func57, Try.ntmps57
    go_wp2_with (go_at_call 39; refine (width_any _ _).mono ?_; rintro e w' ⟨rfl, rfl⟩)
    exact bodyPost_ret (v := .tuple #[.agg #[.int .u8 2, .int .i64 ((s[p+1]'(by omega)).toNat)], .bool true]) (by simp [results, Try.results57, go_sem]) rfl ⟨rfl, by (repeat (first | exact Below.refl _ _ | assumption | refine Below.setCell ?_ (by first | exact Nat.le_refl _ | (simp; done) | (simp; omega)) _ | refine below_drewN ?_ _ | refine Below.drew ?_ | refine Below.alloc ?_ (by first | exact Nat.le_refl _ | (simp; done) | (simp; omega)) _))⟩
  · go_enter Try.func57, Try.ntmps57
    go_wp2_with (go_at_call 39; refine (width_any _ _).mono ?_; rintro e w' ⟨rfl, rfl⟩)
    exact bodyPost_ret (v := .tuple #[.agg #[.int .u8 3, .int .i64 ((s[p+1]'(by omega)).toNat)], .bool true]) (by simp [results, Try.results57, go_sem]) rfl ⟨rfl, by (repeat (first | exact Below.refl _ _ | assumption | refine Below.setCell ?_ (by first | exact Nat.le_refl _ | (simp; done) | (simp; omega)) _ | refine below_drewN ?_ _ | refine Below.drew ?_ | refine Below.alloc ?_ (by first | exact Nat.le_refl _ | (simp; done) | (simp; omega)) _))⟩
  · go_enter Try.func57, Try.ntmps57
    go_wp2_with (go_at_call 39; refine (width_any _ _).mono ?_; rintro e w' ⟨rfl, rfl⟩)
    exact bodyPost_ret (v := .tuple #[.agg #[.int .u8 25, .int .i64 ((s[p+1]'(by omega)).toNat)], .bool true]) (by simp [results, Try.results57, go_sem]) rfl ⟨rfl, by (repeat (first | exact Below.refl _ _ | assumption | refine Below.setCell ?_ (by first | exact Nat.le_refl _ | (simp; done) | (simp; omega)) _ | refine below_drewN ?_ _ | refine Below.drew ?_ | refine Below.alloc ?_ (by first | exact Nat.le_refl _ | (simp; done) | (simp; omega)) _))⟩

set_option maxHeartbeats 400000 in
theorem read_none (s : ByteArray) (p : Nat) (w : World) (o : Int) (h1 : o ≠ 1) (h16 : o ≠ 16) (h17 : o ≠ 17) (h2 : o ≠ 2) (h3 : o ≠ 3) (h25 : o ≠ 25) (hs : s.size ≤ maxLen) (hp : p < s.size) (hop : ((s[p]'(by omega)).toNat : Int) = o) :
    Calls Try.prog 57 #[.string s, .int .i64 p] w fun e w' => e = .returned (.tuple #[.agg #[.int .u8 o, .int .i64 0], .bool true]) ∧ Below w.heap.size w w' := by
  unfold maxLen at hs
  have hw : H.wid o = 0 := by simp [H.wid, h1, h2, h3, h16, h17, h25]
  have b1 : (o == 1) = false := by simpa using h1
  have b2 : (o == 2) = false := by simpa using h2
  have b3 : (o == 3) = false := by simpa using h3
  have b16 : (o == 16) = false := by simpa using h16
  have b17 : (o == 17) = false := by simpa using h17
  have b25 : (o == 25) = false := by simpa using h25
  clear h1 h2 h3 h16 h17 h25
  go_enter Try.func57, Try.ntmps57
  go_wp2_with (go_at_call 39; refine (width_any _ _).mono ?_; rintro e w' ⟨rfl, rfl⟩)
  exact bodyPost_ret (v := .tuple #[.agg #[.int .u8 o, .int .i64 0], .bool true]) (by simp [results, Try.results57, go_sem]) rfl ⟨rfl, by (repeat (first | exact Below.refl _ _ | assumption | refine Below.setCell ?_ (by first | exact Nat.le_refl _ | (simp; done) | (simp; omega)) _ | refine below_drewN ?_ _ | refine Below.drew ?_ | refine Below.alloc ?_ (by first | exact Nat.le_refl _ | (simp; done) | (simp; omega)) _))⟩

theorem read_any (s : ByteArray) (p : Nat) (w : World) (hs : s.size ≤ maxLen) (hp : p < s.size) (hw : p + H.wid (H.at0 (H.bts s) p) < s.size) :
    Calls Try.prog 57 #[.string s, .int .i64 p] w fun e w' => e = .returned (.tuple #[.agg #[.int .u8 (H.at0 (H.bts s) p), .int .i64 (H.opnd (H.bts s) p)], .bool true]) ∧ Below w.heap.size w w' := by
  have e0 := H.at0_bts s p hp
  by_cases h1 : H.at0 (H.bts s) p = 1
  · rw [h1] at hw
    have hw2 : H.wid 1 = 2 := rfl
    have e : H.opnd (H.bts s) p = 256 * ((s[p+1]'(by omega)).toNat : Int) + (s[p+2]'(by omega)).toNat := by
      unfold H.opnd
      rw [if_pos h1, H.at0_bts s (p + 1) (by omega), H.at0_bts s (p + 2) (by omega)]
    rw [e, h1]
    exact read_push s p w hs (by omega) (by omega)
  by_cases hj : H.at0 (H.bts s) p = 16 ∨ H.at0 (H.bts s) p = 17
  · have hw2 : H.wid (H.at0 (H.bts s) p) = 1 := by rcases hj with h | h <;> rw [h] <;> rfl
    have e : H.opnd (H.bts s) p = H.sg ((s[p+1]'(by omega)).toNat : Int) := by
      unfold H.opnd
      rw [if_neg h1, if_pos hj, H.at0_bts s (p + 1) (by omega)]
    rw [e]
    exact read_jump s p w _ hj hs (by omega) e0.symm
  by_cases ho : H.at0 (H.bts s) p = 2 ∨ H.at0 (H.bts s) p = 3 ∨ H.at0 (H.bts s) p = 25
  · have hw2 : H.wid (H.at0 (H.bts s) p) = 1 := by rcases ho with h | h | h <;> rw [h] <;> rfl
    have e : H.opnd (H.bts s) p = ((s[p+1]'(by omega)).toNat : Int) := by
      unfold H.opnd
      rw [if_neg h1, if_neg hj, if_pos ho, H.at0_bts s (p + 1) (by omega)]
    rw [e]
    exact read_one s p w _ ho hs (by omega) e0.symm
  have e : H.opnd (H.bts s) p = 0 := by
    unfold H.opnd
    rw [if_neg h1, if_neg hj, if_neg ho]
  rw [e]
  exact read_none s p w _ h1 (fun h => hj (.inl h)) (fun h => hj (.inr h)) (fun h => ho (.inl h)) (fun h => ho (.inr (.inl h))) (fun h => ho (.inr (.inr h))) hs hp e0.symm

end Go.Proofs.Ytidaflmmldefcaa

/-
  The walk of landsInside.
-/
namespace Go.Proofs.Ytidaflmmldefcaa
open Go.RowKit
set_option linter.unusedVariables false

set_option maxHeartbeats 400000 in
theorem lands_no (b off n cap i : Nat) (o a : Int) (w : World) (hi : i < n) (h16 : o ≠ 16) (h17 : o ≠ 17)
    (c0 : w.cell? ⟨b, off + i * 2, none⟩ = some (.int .u8 o)) (c1 : w.cell? ⟨b, off + i * 2 + 1, none⟩ = some (.int .i64 a)) :
    Calls Try.prog 29 #[.slice (some ⟨b, off, none⟩) n cap, .int .i64 i] w fun e w' => e = .returned (.bool true) ∧ Below w.heap.size w w' := by
  have b16 : (o != 16) = true := by simpa using h16
  have b17 : (o != 17) = true := by simpa using h17
  clear h16 h17
  go_enter Try.func29, Try.ntmps29
  go_wp2
  go_ret
  exact ⟨rfl, by (repeat (first | exact Below.refl _ _ | assumption | refine Below.setCell ?_ (by first | exact Nat.le_refl _ | (simp; done) | (simp; omega)) _ | refine below_drewN ?_ _ | refine Below.drew ?_ | refine Below.alloc ?_ (by first | exact Nat.le_refl _ | (simp; done) | (simp; omega)) _))⟩

set_option maxHeartbeats 400000 in
theorem lands_yes (b off n cap i : Nat) (o a : Int) (w : World) (hi : i < n) (hn : n ≤ 64) (ho : o = 16 ∨ o = 17) (ha : -128 ≤ a) (hb : a ≤ 127)
    (c0 : w.cell? ⟨b, off + i * 2, none⟩ = some (.int .u8 o)) (c1 : w.cell? ⟨b, off + i * 2 + 1, none⟩ = some (.int .i64 a)) :
    Calls Try.prog 29 #[.slice (some ⟨b, off, none⟩) n cap, .int .i64 i] w fun e w' => e = .returned (.bool (decide (0 ≤ (i : Int) + 1 + a ∧ (i : Int) + 1 + a ≤ n))) ∧ Below w.heap.size w w' := by
  by_cases h0 : 0 ≤ (i : Int) + 1 + a
  · by_cases h2 : (i : Int) + 1 + a ≤ n
    · rw [show decide (0 ≤ (i : Int) + 1 + a ∧ (i : Int) + 1 + a ≤ n) = true by simp [h0, h2]]
      rcases ho with rfl | rfl
      all_goals
        go_enter Try.func29, Try.ntmps29
        go_wp2
        go_ret
        exact ⟨rfl, by (repeat (first | exact Below.refl _ _ | assumption | refine Below.setCell ?_ (by first | exact Nat.le_refl _ | (simp; done) | (simp; omega)) _ | refine below_drewN ?_ _ | refine Below.drew ?_ | refine Below.alloc ?_ (by first | exact Nat.le_refl _ | (simp; done) | (simp; omega)) _))⟩
    · rw [show decide (0 ≤ (i : Int) + 1 + a ∧ (i : Int) + 1 + a ≤ n) = false by simp; omega]
      rcases ho with rfl | rfl
      all_goals
        go_enter Try.func29, Try.ntmps29
        go_wp2
        go_ret
        exact ⟨rfl, by (repeat (first | exact Below.refl _ _ | assumption | refine Below.setCell ?_ (by first | exact Nat.le_refl _ | (simp; done) | (simp; omega)) _ | refine below_drewN ?_ _ | refine Below.drew ?_ | refine Below.alloc ?_ (by first | exact Nat.le_refl _ | (simp; done) | (simp; omega)) _))⟩
  · rw [show decide (0 ≤ (i : Int) + 1 + a ∧ (i : Int) + 1 + a ≤ n) = false by simp; omega]
    rcases ho with rfl | rfl
    all_goals
      go_enter Try.func29, Try.ntmps29
      go_wp2
      go_ret
      exact ⟨rfl, by (repeat (first | exact Below.refl _ _ | assumption | refine Below.setCell ?_ (by first | exact Nat.le_refl _ | (simp; done) | (simp; omega)) _ | refine below_drewN ?_ _ | refine Below.drew ?_ | refine Below.alloc ?_ (by first | exact Nat.le_refl _ | (simp; done) | (simp; omega)) _))⟩

theorem lands_any (b off n cap i : Nat) (o a : Int) (w : World) (hi : i < n) (hn : n ≤ 64) (ha : H.alone o a = true)
    (c0 : w.cell? ⟨b, off + i * 2, none⟩ = some (.int .u8 o)) (c1 : w.cell? ⟨b, off + i * 2 + 1, none⟩ = some (.int .i64 a)) :
    Calls Try.prog 29 #[.slice (some ⟨b, off, none⟩) n cap, .int .i64 i] w fun e w' => e = .returned (.bool (H.lands n i o a)) ∧ Below w.heap.size w w' := by
  by_cases ho : o = 16 ∨ o = 17
  · have hb : -128 ≤ a ∧ a ≤ 127 := by
      rcases ho with rfl | rfl <;> simpa [H.alone] using ha
    have e : H.lands n i o a = decide (0 ≤ (i : Int) + 1 + a ∧ (i : Int) + 1 + a ≤ n) := by unfold H.lands; rw [if_pos ho]
    rw [e]
    exact lands_yes b off n cap i o a w hi hn ho hb.1 hb.2 c0 c1
  · have e : H.lands n i o a = true := by unfold H.lands; rw [if_neg ho]
    rw [e]
    exact lands_no b off n cap i o a w hi (fun h => ho (.inl h)) (fun h => ho (.inr h)) c0 c1

end Go.Proofs.Ytidaflmmldefcaa

/-
  The walk of Encode.
-/
namespace Go.Proofs.Ytidaflmmldefcaa
open Go.RowKit
set_option linter.unusedVariables false

/-- Instructions lie in memory from ⟨b, off⟩ on. -/
def InsRow (w : World) (b off : Nat) (l : List (Int × Int)) : Prop :=
  ∀ i x, l[i]? = some x → w.cell? ⟨b, off + i * 2, none⟩ = some (.int .u8 x.1) ∧ w.cell? ⟨b, off + i * 2 + 1, none⟩ = some (.int .i64 x.2)

theorem InsRow.below {B : Nat} {w w' : World} {b off : Nat} {l : List (Int × Int)} (h : InsRow w b off l) (hb : Below B w w') (hl : b < B) : InsRow w' b off l := by
  intro i x hx
  obtain ⟨h0, h1⟩ := h i x hx
  exact ⟨(hb.cell hl).trans h0, (hb.cell hl).trans h1⟩

/-- What Encode writes, and its error, of a list of 1 to 64. -/
def encS (n : Nat) (l : List (Int × Int)) : ByteArray := if H.okFrom n 0 l then strOfNums (H.encAll l) else ⟨#[]⟩
def encE (n : Nat) (l : List (Int × Int)) : Int := if H.okFrom n 0 l then 0 else 1
theorem enc_bad {n : Nat} {l : List (Int × Int)} (h : H.okFrom n 0 l = false) : Ending.returned (.tuple #[.string ⟨#[]⟩, .int .i64 1]) = Ending.returned (.tuple #[.string (encS n l), .int .i64 (encE n l)]) := by
  simp [encS, encE, h]
theorem enc_good {n : Nat} {l : List (Int × Int)} (h : H.okFrom n 0 l = true) : Ending.returned (.tuple #[.string (strOfNums (H.encAll l)), .int .i64 0]) = Ending.returned (.tuple #[.string (encS n l), .int .i64 (encE n l)]) := by
  simp [encS, encE, h]

set_option maxHeartbeats 400000 in
theorem enc_short (ao : Option Addr) (cap : Nat) (w : World) :
    Calls Try.prog 12 #[.slice ao 0 cap] w fun e w' => e = .returned (.tuple #[.string ⟨#[]⟩, .int .i64 1]) ∧ w = w' := by
  go_enter Try.func12, Try.ntmps12
  go_wp2
  go_ret2
  exact ⟨rfl, rfl⟩

set_option maxHeartbeats 400000 in
theorem enc_long (ao : Option Addr) (n cap : Nat) (w : World) (hn : 64 < n) (hm : n ≤ maxLen) :
    Calls Try.prog 12 #[.slice ao n cap] w fun e w' => e = .returned (.tuple #[.string ⟨#[]⟩, .int .i64 1]) ∧ w = w' := by
  unfold maxLen at hm
  have h1 : ¬ (n : Int) < 1 := by omega
  have h2 : (64 : Int) < n := by omega
  go_enter Try.func12, Try.ntmps12
  go_wp2
  go_ret2
  exact ⟨rfl, rfl⟩

set_option maxHeartbeats 2000000 in
theorem enc_mid (b off n cap : Nat) (l : List (Int × Int)) (w : World) (h1 : 1 ≤ n) (h64 : n ≤ 64) (hn : l.length = n) (hrow : InsRow w b off l) :
    Calls Try.prog 12 #[.slice (some ⟨b, off, none⟩) n cap] w fun e w' =>
      e = .returned (.tuple #[.string (encS n l), .int .i64 (encE n l)]) ∧ Below w.heap.size w w' := by
  have hbl : b < w.heap.size := by
    obtain ⟨x, hx⟩ : ∃ x, l[0]? = some x := ⟨l[0]'(by omega), List.getElem?_eq_getElem (by omega)⟩
    exact World.block_lt_of_cell? _ _ (hrow 0 x hx).1
  have HR : Hid (InsRow w b off l) := hrow
  clear hrow
  have Hn : Hid (l.length = n) := hn
  clear hn
  have e1 : ¬ (n : Int) < 1 := by omega
  have e2 : ¬ (64 : Int) < n := by omega
  go_enter Try.func12, Try.ntmps12
  go_wp2
  go_loopw [4, 17] (fun v i wr => ∃ (k : Nat) (u : Value), u = v ∧ k ≤ n ∧ i = .int .i64 k ∧ wr.ownsRow w.heap.size 5 1 u (H.encAll (l.take k)).length (u8s (H.encAll (l.take k))) ∧ Below w.heap.size w wr ∧ H.okFrom n 0 l = H.okFrom n k (l.drop k))
    (fun _ i _ => n - (intOf i).toNat)
  case atStart => exact ⟨0, _, rfl, Nat.zero_le _, rfl, by simpa [H.encAll, u8s] using World.ownsRow_nil _ _ _ _, Below.refl _ _, by simp⟩
  case round =>
    obtain ⟨k, u, rfl, hk, rfl, hown, hbel, hok⟩ := hrel
    have HO : Hid (wr.ownsRow w.heap.size 5 1 u (H.encAll (l.take k)).length (u8s (H.encAll (l.take k)))) := hown
    have HB : Hid (Below w.heap.size w wr) := hbel
    have HK : Hid (H.okFrom n 0 l = H.okFrom n k (l.drop k)) := hok
    have hsz := hbel.size
    clear hown hbel hok
    by_cases hlt : k < n
    · obtain ⟨x, hx⟩ : ∃ x, l[k]? = some x := ⟨l[k]'(by have := Hn.out; omega), List.getElem?_eq_getElem (by have := Hn.out; omega)⟩
      obtain ⟨o, a⟩ := x
      obtain ⟨c0, c1⟩ := (HR.out.below HB.out hbl) k _ hx
      have HX : Hid (l[k]? = some (o, a)) := hx
      clear hx
      go_wp2_with fail
      refine (alone_any o a _).mono ?_
      rintro e w1 ⟨rfl, hb1⟩
      have hb1w : Below w.heap.size w w1 := (HB.out.alloc hsz _).trans (hb1.mono (by simp; omega))
      have hx1 : Blk w1 wr.heap.size #[.int .u8 o, .int .i64 a] 52 := (Blk.new wr _ 52).below hb1 (by simp)
      have hown1 : w1.ownsRow w.heap.size 5 1 u (H.encAll (l.take k)).length (u8s (H.encAll (l.take k))) := own_below' (HO.out.alloc _) hb1 (Nat.le_refl _)
      have d0 := hx1.cell 0
      have d1 := hx1.cell 1
      simp at d0 d1
      obtain ⟨r0, r1⟩ := (HR.out.below hb1w hbl) k _ HX.out
      have hs1 := hb1w.size
      have hs1' := hx1.lt
      have HB1 : Hid (Below w.heap.size w w1) := hb1w
      have HX1 : Hid (Blk w1 wr.heap.size #[.int .u8 o, .int .i64 a] 52) := hx1
      have HO1 : Hid (w1.ownsRow w.heap.size 5 1 u (H.encAll (l.take k)).length (u8s (H.encAll (l.take k)))) := hown1
      clear hb1 hb1w hx1 hown1 c0 c1 HB HO
      have HS : Hid (H.okFrom n 0 l = (H.alone o a && H.lands n k o a && H.okFrom n (k + 1) (l.drop (k + 1)))) := HK.out.trans (H.okFrom_step n l k (o, a) HX.out)
      clear HK
      cases hal : H.alone o a
      · have hv : Hid (H.okFrom n 0 l = false) := by unfold Hid; rw [HS.out, hal]; rfl
        clear hal HS
        go_wp2
        go_ret2
        exact ⟨enc_bad hv.out, HB1.out⟩
      · have HA : Hid (H.alone o a = true) := hal
        clear hal
        go_wp2_with fail
        refine (lands_any b off n cap k o a _ hlt h64 HA.out (by exact r0) (by exact r1)).mono ?_
        rintro e w2 ⟨rfl, hb2⟩
        have hb2w : Below w.heap.size w w2 := HB1.out.trans (hb2.mono hs1)
        have hx2 : Blk w2 wr.heap.size #[.int .u8 o, .int .i64 a] 52 := HX1.out.below hb2 hs1'
        have hown2 : w2.ownsRow w.heap.size 5 1 u (H.encAll (l.take k)).length (u8s (H.encAll (l.take k))) := own_below' HO1.out hb2 (Nat.le_refl _)
        have f0 := hx2.cell 0
        have f1 := hx2.cell 1
        simp at f0 f1
        have hs2 := hb2w.size
        have HB2 : Hid (Below w.heap.size w w2) := hb2w
        have HO2 : Hid (w2.ownsRow w.heap.size 5 1 u (H.encAll (l.take k)).length (u8s (H.encAll (l.take k)))) := hown2
        clear hb2 hb2w hx2 hown2 HB1 HO1 HX1 d0 d1 r0 r1
        cases hla : H.lands n k o a
        · have hv : Hid (H.okFrom n 0 l = false) := by unfold Hid; rw [HS.out, hla]; simp
          clear hla HS
          go_wp2
          go_ret2
          exact ⟨enc_bad hv.out, HB2.out⟩
        · have HK : Hid (H.okFrom n 0 l = H.okFrom n (k + 1) (l.drop (k + 1))) := by unfold Hid; rw [HS.out, HA.out, hla]; simp
          clear hla HS
          go_wp2_with fail
          have hlen : (H.encAll (l.take k)).length ≤ 1000 := by
            have h3 := (H.encAll_length (l.take k)).2
            have h4 := List.length_take_le k l
            omega
          refine (app_any w.heap.size u (H.encAll (l.take k)) o a _ (by exact hs2) HO2.out hlen).mono ?_
          rintro e w3 ⟨v3, rfl, hown3, hb3⟩
          have hb3w : Below w.heap.size w w3 := HB2.out.trans hb3
          have HB3 : Hid (Below w.heap.size w w3) := hb3w
          have HO3 : Hid (w3.ownsRow w.heap.size 5 1 v3 (H.encAll (l.take k) ++ H.enc o a).length (u8s (H.encAll (l.take k) ++ H.enc o a))) := hown3
          clear hb3 hb3w hown3 HO2 HB2 hlen
          go_wp2
          go_roundw
          case rel =>
            have e : H.encAll (l.take (k + 1)) = H.encAll (l.take k) ++ H.enc o a := by rw [H.take_snoc l k (o, a) HX.out, H.encAll_snoc]
            exact ⟨k + 1, v3, rfl, by omega, by go_num, by rw [e]; exact HO3.out, HB3.out, HK.out⟩
          case measure => simp [intOf]; omega
    · have hkn : k = n := by omega
      subst hkn
      have hv : Hid (H.okFrom k 0 l = true) := by unfold Hid; rw [HK.out, List.drop_of_length_le (by have := Hn.out; omega)]; rfl
      have ht : l.take k = l := List.take_of_length_le (by have := Hn.out; omega)
      have hpos : 1 ≤ (H.encAll l).length := by have := (H.encAll_length l).1; have := Hn.out; omega
      obtain ⟨g, gc, hu, hcells⟩ : ∃ g gc, u = .slice (some ⟨g, 0, none⟩) (H.encAll l).length gc ∧ ∀ i, i < (H.encAll l).length → wr.cell? ⟨g, 0 + i, none⟩ = some (.int .u8 ((H.encAll l).getD i 0)) := by
        have hown := HO.out
        rw [ht] at hown
        rcases hown.2 with ⟨_, h⟩ | ⟨g, gc, cur, h, _⟩
        · omega
        · refine ⟨g, gc, h, fun i hi => ?_⟩
          subst h
          rw [Nat.zero_add, hown.cellAt i (by omega)]
          simp [u8s, List.getD, List.getElem?_eq_getElem hi]
      obtain ⟨sz, hsz2⟩ : ∃ sz, sz = (H.encAll l).length := ⟨_, rfl⟩
      rw [← hsz2] at hu
      subst hu
      have hconv := run_convert_bytes_arg (P := Try.prog) wr 78 5 Try.underlying78 Try.underlying5 g 0 sz gc (H.encAll l) hsz2.symm (by rw [hsz2]; exact hcells) 9 Try.underlying9
      clear ht hcells HO HK hsz2 hpos
      go_wp2
      go_ret2
      exact ⟨enc_good hv.out, HB.out⟩

end Go.Proofs.Ytidaflmmldefcaa

/-
  The walk of Decode.
-/
namespace Go.Proofs.Ytidaflmmldefcaa
open Go.RowKit
set_option linter.unusedVariables false

theorem info28 : (Try.prog.info? 52).map (fun i => (i.zero, i.size, i.bytes)) = some (some (.agg #[.int .u8 0, .int .i64 0]), 2, 16) := by kernel_rfl

/-- The cells of instructions. -/
def insCells (l : List (Int × Int)) : List Value := l.flatMap fun x => [.int .u8 x.1, .int .i64 x.2]

theorem insCells_snoc (l : List (Int × Int)) (x : Int × Int) : insCells (l ++ [x]) = insCells l ++ [.int .u8 x.1, .int .i64 x.2] := by simp [insCells]

theorem insCells_at : ∀ (l : List (Int × Int)) (i : Nat) (x : Int × Int), l[i]? = some x → (insCells l)[i * 2]? = some (.int .u8 x.1) ∧ (insCells l)[i * 2 + 1]? = some (.int .i64 x.2)
  | [], i, x, h => by simp at h
  | y :: r, 0, x, h => by simp at h; subst h; simp [insCells]
  | y :: r, i + 1, x, h => by
    have := insCells_at r i x (by simpa using h)
    simp only [insCells, List.flatMap_cons] at *
    rw [show (i + 1) * 2 = i * 2 + 2 by omega]
    simpa using this

theorem insCells_length (l : List (Int × Int)) : (insCells l).length = l.length * 2 := by
  induction l with
  | nil => rfl
  | cons x r ih => simp only [insCells, List.flatMap_cons, List.length_append, List.length_cons] at *; simp at *; omega

theorem own_insRow {w : World} {base g n cap : Nat} {l : List (Int × Int)} (h : w.ownsRow base 52 2 (.slice (some ⟨g, 0, none⟩) n cap) n (insCells l)) (hn : l.length = n) : InsRow w g 0 l := by
  intro i x hx
  obtain ⟨h0, h1⟩ := insCells_at l i x hx
  have hi : i < l.length := (List.getElem?_eq_some_iff.1 hx).1
  rw [Nat.zero_add]
  exact ⟨(h.cellAt (i * 2) (by omega)).trans h0, (h.cellAt (i * 2 + 1) (by omega)).trans h1⟩

/-- What Decode hands back. -/
def decEnd (L : List Int) (base : Nat) (w : World) (e : Ending) (w' : World) : Prop :=
  ∃ v, e = .returned (.tuple #[v, .int .i64 (H.decode L).2.1, .int .i64 (H.decode L).2.2]) ∧ w'.ownsRow base 52 2 v (H.decode L).1.length (insCells (H.decode L).1) ∧ Below base w w'

theorem decEnd_bad {L : List Int} {base : Nat} {w w' : World} {p : Int} (h : H.decode L = ([], 1, p)) (hb : Below base w w') :
    decEnd L base w (.returned (.tuple #[.slice none 0 0, .int .i64 1, .int .i64 p])) w' := by
  refine ⟨.slice none 0 0, by rw [h], ?_, hb⟩
  rw [h]
  exact World.ownsRow_nil _ _ _ _

theorem decEnd_ok {L : List Int} {base : Nat} {w w' : World} {l : List (Int × Int)} {v : Value} (h : H.decode L = (l, 0, 0)) (ho : w'.ownsRow base 52 2 v l.length (insCells l)) (hb : Below base w w') :
    decEnd L base w (.returned (.tuple #[v, .int .i64 0, .int .i64 0])) w' := by
  refine ⟨v, by rw [h], ?_, hb⟩
  rw [h]
  exact ho

set_option maxHeartbeats 4000000 in
theorem dec_any (s : ByteArray) (w : World) (hs : s.size ≤ maxLen) :
    Calls Try.prog 53 #[.string s] w fun e w' => decEnd (H.bts s) w.heap.size w e w' := by
  obtain ⟨i0, hi, hz0, hz1, hz2⟩ := info_parts info28
  have HS : Hid (s.size ≤ maxLen) := hs
  have HL : Hid ((H.bts s).length = s.size) := H.bts_length s
  unfold maxLen at hs
  go_enter Try.func53, Try.ntmps53
  go_wp2
  go_loopw [5, 6] (fun v i wr => ∃ (p cv : Nat) (ao : Option Addr) (acc : List (Int × Int)), v = .slice ao acc.length cv ∧ p ≤ s.size ∧ i = .int .i64 p ∧ wr.ownsRow w.heap.size 52 2 (.slice ao acc.length cv) acc.length (insCells acc) ∧ Below w.heap.size w wr ∧ acc.length ≤ 64 ∧ (∀ x ∈ acc, H.alone x.1 x.2 = true) ∧ H.scanAt (H.bts s) 0 [] = H.scanAt (H.bts s) p acc)
    (fun _ i _ => s.size - (intOf i).toNat)
  case atStart => exact ⟨0, 0, none, [], rfl, Nat.zero_le _, rfl, World.ownsRow_nil _ _ _ _, Below.refl _ _, by simp, by simp, rfl⟩
  case round =>
    obtain ⟨p, cv, ao, acc, rfl, hp, rfl, hown, hbel, h64, hal, hsc⟩ := hrel
    have HO : Hid (wr.ownsRow w.heap.size 52 2 (.slice ao acc.length cv) acc.length (insCells acc)) := hown
    have HB : Hid (Below w.heap.size w wr) := hbel
    have HC : Hid (H.scanAt (H.bts s) 0 [] = H.scanAt (H.bts s) p acc) := hsc
    have HA : Hid (∀ x ∈ acc, H.alone x.1 x.2 = true) := hal
    have hsz := hbel.size
    clear hown hbel hsc hal
    by_cases hlt : p < s.size
    · go_wp2_with fail
      by_cases hw : p + H.wid (H.at0 (H.bts s) p) < s.size
      · refine (read_any s p _ HS.out hlt hw).mono ?_
        rintro e w1 ⟨rfl, hb1⟩
        obtain ⟨o, ho⟩ : ∃ o, o = H.at0 (H.bts s) p := ⟨_, rfl⟩
        obtain ⟨a, ha⟩ : ∃ a, a = H.opnd (H.bts s) p := ⟨_, rfl⟩
        have hwl := H.wid_le o
        have HP : Hid (p + H.wid o < s.size) := by unfold Hid; rw [ho]; exact hw
        have Ho : Hid (o = H.at0 (H.bts s) p) := ho
        have Ha : Hid (a = H.opnd (H.bts s) p) := ha
        rw [← ho, ← ha]
        have hp2 : p + H.wid o < s.size := HP.out
        clear ho ha hw
        have hb1w : Below w.heap.size w w1 := HB.out.trans (hb1.mono hsz)
        have HB1 : Hid (Below w.heap.size w w1) := hb1w
        have hs1 := hb1w.size
        have HO1 : Hid (w1.ownsRow w.heap.size 52 2 (.slice ao acc.length cv) acc.length (insCells acc)) := own_below' HO.out hb1 (Nat.le_refl _)
        clear hb1 hb1w HB HO
        by_cases hl : acc.length = 64
        · have hd : Hid (H.decode (H.bts s) = ([], 1, (p : Int))) := H.decode_bad _ [] p (HC.out.trans (H.scanAt_bad _ _ _ (by have := HL.out; omega) (by rintro ⟨_, h, _⟩; exact h hl)))
          have hl2 : (acc.length : Int) = 64 := by omega
          clear hl HC HO1
          go_wp2
          go_ret3
          exact decEnd_bad hd.out (HB1.out.alloc HB1.out.size _)
        · have hl2 : ((acc.length : Int) == 64) = false := by simp; omega
          go_wp2_with fail
          refine (alone_any o a _).mono ?_
          rintro e w2 ⟨rfl, hb2⟩
          have hb2w : Below w.heap.size w w2 := (HB1.out.alloc hs1 _).trans (hb2.mono (by simp; omega))
          have HB2 : Hid (Below w.heap.size w w2) := hb2w
          have hs2 := hb2w.size
          have HX2 : Hid (Blk w2 w1.heap.size #[.int .u8 o, .int .i64 a] 52) := (Blk.new w1 _ 52).below hb2 (by simp)
          have HO2 : Hid (w2.ownsRow w.heap.size 52 2 (.slice ao acc.length cv) acc.length (insCells acc)) := own_below' (HO1.out.alloc _) hb2 (Nat.le_refl _)
          have hne2 : Hid (some w1.heap.size ≠ (Value.slice ao acc.length cv).ownBlock) := own_ne_new HO1.out (Nat.le_refl _)
          clear hb2 hb2w HB1 HO1
          cases halo : H.alone o a
          · have hd : Hid (H.decode (H.bts s) = ([], 1, (p : Int))) := H.decode_bad _ [] p (HC.out.trans (H.scanAt_bad _ _ _ (by have := HL.out; omega) (by rintro ⟨_, _, h⟩; rw [← Ho.out, ← Ha.out, halo] at h; cases h)))
            clear halo HC HO2 HX2 hne2
            go_wp2
            go_ret3
            exact decEnd_bad hd.out HB2.out
          · have Hal : Hid (H.alone o a = true) := halo
            have d0 := HX2.out.cell 0
            have d1 := HX2.out.cell 1
            simp at d0 d1
            clear halo
            go_wp2_with (at_builtin; refine wpList_append_own _ rfl (.tmp 34) (.tmp 36) 38 rfl w.heap.size 52 i0 (.agg #[.int .u8 0, .int .i64 0]) 2 16 Try.underlying38 hi hz0 hz1 hz2 rfl (by decide) _ _ _ rfl (HO2.out.alloc _) ⟨w2.heap.size, 0, none⟩ 1 1 [.int .u8 o, .int .i64 a] rfl rfl (new_two _ _ _ _) (by intro u hu; simp at hu; rcases hu with rfl | rfl <;> rfl) (by unfold maxLen; omega) (by omega) (by simp; omega) ?_)
            intro v3 w3 hown3 hg3 _
            have hb3 : Below w.heap.size w w3 := below_app (HB2.out.alloc hs2 _) hg3 (HO2.out.alloc _) (Nat.le_refl _) (by simp; omega)
            have hx3 : Blk w3 w1.heap.size #[.int .u8 o, .int .i64 a] 52 := (HX2.out.alloc _).grown hg3 hne2.out
            have f0 := hx3.cell 0
            have f1 := hx3.cell 1
            simp at f0 f1
            obtain ⟨g3, cap3, hv3⟩ : ∃ g3 cap3, v3 = .slice (some ⟨g3, 0, none⟩) (acc.length + 1) cap3 := by
              rcases hown3.2 with ⟨_, h⟩ | ⟨g3, cap3, _, h, _⟩
              · omega
              · exact ⟨g3, cap3, h⟩
            have HV : Hid (v3 = .slice (some ⟨g3, 0, none⟩) (acc.length + 1) cap3) := hv3
            have HB3 : Hid (Below w.heap.size w w3) := hb3
            have HO3 : Hid (w3.ownsRow w.heap.size 52 2 v3 (acc.length + 1) (insCells acc ++ [.int .u8 o, .int .i64 a])) := hown3
            clear hown3 hg3 hb3 hx3 HX2 HO2 HB2 hne2 d0 d1 hv3
            go_wp2_with (go_at_call 39; refine (width_any _ _).mono ?_; rintro e w' ⟨rfl, rfl⟩)
            go_roundw
            case rel =>
              refine ⟨p + 1 + H.wid o, cap3, some ⟨g3, 0, none⟩, acc ++ [(o, a)], by rw [HV.out]; simp, by omega, by go_num, ?_, HB3.out, by simp; omega, ?_, ?_⟩
              · rw [insCells_snoc]
                have h := HO3.out
                rw [HV.out] at h
                simpa using h
              · intro x hx
                rcases List.mem_append.1 hx with h | h
                · exact HA.out x h
                · simp at h; subst h; exact Hal.out
              · rw [HC.out, Ho.out, Ha.out]
                exact H.scanAt_ok _ _ _ (by have := HL.out; omega) (by rw [← Ho.out]; have := HL.out; omega) hl (by rw [← Ho.out, ← Ha.out]; exact Hal.out)
            case measure => simp [intOf]; omega
      · refine (read_cut s p _ HS.out hlt (by omega)).mono ?_
        rintro e w1 ⟨rfl, hb1⟩
        have hd : Hid (H.decode (H.bts s) = ([], 1, (p : Int))) := H.decode_bad _ [] p (HC.out.trans (H.scanAt_bad _ _ _ (by have := HL.out; omega) (by have := HL.out; omega)))
        have HB1 : Hid (Below w.heap.size w w1) := HB.out.trans (hb1.mono hsz)
        clear hb1 HC HO HB
        go_wp2
        go_ret3
        exact decEnd_bad hd.out (HB1.out.alloc HB1.out.size _)
    · have hsc : Hid (H.scanAt (H.bts s) 0 [] = (acc, none)) := HC.out.trans (H.scanAt_end _ _ _ (by have := HL.out; omega))
      clear HC
      by_cases hl0 : acc.length = 0
      · have hd : Hid (H.decode (H.bts s) = ([], 1, 0)) := H.decode_none _ (by rw [hsc.out, List.eq_nil_of_length_eq_zero hl0])
        have hl1 : (acc.length : Int) = 0 := by omega
        clear HO hl0
        go_wp2
        go_ret3
        exact decEnd_bad hd.out HB.out
      · have hl1 : ((acc.length : Int) == 0) = false := by rw [beq_eq_false_iff_ne]; omega
        obtain ⟨n, hn⟩ : ∃ n, n = acc.length := ⟨_, rfl⟩
        have Hn : Hid (n = acc.length) := hn
        rw [← hn] at hl1 h64 ⊢
        obtain ⟨g, rfl⟩ : ∃ g, ao = some ⟨g, 0, none⟩ := by
          rcases HO.out.2 with ⟨_, h⟩ | ⟨g, c, _, h, _⟩
          · omega
          · simp at h; exact ⟨g, h.1⟩
        have HO' : Hid (wr.ownsRow w.heap.size 52 2 (.slice (some ⟨g, 0, none⟩) n cv) n (insCells acc)) := by have h := HO.out; rw [← hn] at h; exact h
        have hn0 : n ≠ 0 := by omega
        clear HO hn hl0
        obtain ⟨wo, rfl⟩ : ∃ wo : World, wo = wr := ⟨_, rfl⟩
        go_wp2_with fail
        go_loopw [6, 49] (fun q i wr => ∃ (k p : Nat), k ≤ n ∧ p ≤ 3 * k ∧ q = .int .i64 p ∧ i = .int .i64 k ∧ Below w.heap.size w wr ∧ wr.ownsRow w.heap.size 52 2 (.slice (some ⟨g, 0, none⟩) n cv) n (insCells acc) ∧ H.stray n 0 0 acc = H.stray n k p (acc.drop k))
          (fun _ i _ => n - (intOf i).toNat)
        case atStart => exact ⟨0, 0, Nat.zero_le _, by omega, rfl, rfl, HB.out, HO'.out, by simp⟩
        case round =>
          obtain ⟨k, p, hk, hp, rfl, rfl, hbel, hown, hst⟩ := hrel
          have HBr : Hid (Below w.heap.size w wr) := hbel
          have HOr : Hid (wr.ownsRow w.heap.size 52 2 (.slice (some ⟨g, 0, none⟩) n cv) n (insCells acc)) := hown
          have HSt : Hid (H.stray n 0 0 acc = H.stray n k p (acc.drop k)) := hst
          have hsr := hbel.size
          clear hbel hown hst HB HO'
          by_cases hkn : k < n
          · obtain ⟨x, hx⟩ : ∃ x, acc[k]? = some x := ⟨acc[k]'(by have := Hn.out; omega), List.getElem?_eq_getElem (by have := Hn.out; omega)⟩
            obtain ⟨o, a⟩ := x
            have hrow := own_insRow HOr.out Hn.out.symm
            obtain ⟨c0, c1⟩ := hrow k _ hx
            rw [Nat.zero_add] at c0 c1
            have HX : Hid (acc[k]? = some (o, a)) := hx
            have Hal : Hid (H.alone o a = true) := HA.out (o, a) (List.mem_of_getElem? hx)
            have HR : Hid (InsRow wr g 0 acc) := hrow
            have HT : Hid (H.stray n 0 0 acc = if H.lands n k o a = true then H.stray n (k + 1) (p + 1 + H.wid o) (acc.drop (k + 1)) else some p) := HSt.out.trans (H.stray_step n acc k p (o, a) hx)
            have hgl : g < wr.heap.size := World.block_lt_of_cell? _ _ c0
            clear hx hrow HSt
            go_wp2_with fail
            have e0 : (wr.alloc (.cells #[.int .u8 o, .int .i64 a] 52)).cell? ⟨g, 0 + k * 2, none⟩ = some (.int .u8 o) := by rw [World.cell?_alloc_lt _ _ _ hgl]; exact (HR.out k _ HX.out).1
            have e1 : (wr.alloc (.cells #[.int .u8 o, .int .i64 a] 52)).cell? ⟨g, 0 + k * 2 + 1, none⟩ = some (.int .i64 a) := by rw [World.cell?_alloc_lt _ _ _ hgl]; exact (HR.out k _ HX.out).2
            refine (lands_any g 0 n cv k o a _ hkn h64 Hal.out (by exact e0) (by exact e1)).mono ?_
            rintro e w1 ⟨rfl, hb1⟩
            have hb1w : Below w.heap.size w w1 := (HBr.out.alloc hsr _).trans (hb1.mono (by simp; omega))
            have HB1 : Hid (Below w.heap.size w w1) := hb1w
            have HO1 : Hid (w1.ownsRow w.heap.size 52 2 (.slice (some ⟨g, 0, none⟩) n cv) n (insCells acc)) := own_below' (HOr.out.alloc _) hb1 (Nat.le_refl _)
            have hx1 : Blk w1 wr.heap.size #[.int .u8 o, .int .i64 a] 52 := (Blk.new wr _ 52).below hb1 (by simp)
            have d0 := hx1.cell 0
            have d1 := hx1.cell 1
            simp at d0 d1
            clear hb1 hb1w hx1 e0 e1 c0 c1 HR HOr HBr
            have hwl := H.wid_le o
            cases hla : H.lands n k o a
            · have hd : Hid (H.decode (H.bts s) = ([], 1, (p : Int))) := H.decode_stray _ acc p hsc.out (by have := Hn.out; omega) (by rw [← Hn.out, HT.out, hla]; rfl)
              clear hla HT
              go_wp2
              go_ret3
              exact decEnd_bad hd.out HB1.out
            · have HS2 : Hid (H.stray n 0 0 acc = H.stray n (k + 1) (p + 1 + H.wid o) (acc.drop (k + 1))) := by unfold Hid; rw [HT.out, hla]; rfl
              clear hla HT
              go_wp2_with (go_at_call 39; refine (width_any _ _).mono ?_; rintro e w' ⟨rfl, rfl⟩)
              go_roundw
              case rel => exact ⟨k + 1, p + 1 + H.wid o, by omega, by omega, by go_num, by go_num, HB1.out, HO1.out, HS2.out⟩
              case measure => simp [intOf]; omega
          · have hkn' : k = n := by omega
            have hd : Hid (H.decode (H.bts s) = (acc, 0, 0)) := H.decode_ok _ acc hsc.out (by have := Hn.out; omega) (by rw [← Hn.out, HSt.out, List.drop_of_length_le (by have := Hn.out; omega)]; rfl)
            have HO3 : Hid (wr.ownsRow w.heap.size 52 2 (.slice (some ⟨g, 0, none⟩) n cv) acc.length (insCells acc)) := by have h := HOr.out; have e := Hn.out; unfold Hid; rw [← e]; exact h
            clear hkn' HSt
            go_wp2
            go_ret3
            exact decEnd_ok hd.out HO3.out HBr.out

end Go.Proofs.Ytidaflmmldefcaa
