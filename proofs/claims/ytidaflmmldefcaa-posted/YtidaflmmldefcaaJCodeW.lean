/-
  Pick, CodeW, CodeX, RoundW, TextW: joined.
-/
import Derived.Test.YtidaflmmldefcaaJEnc
import Derived.Test.YtidaflmmldefcaaJCode
import Derived.Deep.QuietTactic
import Derived.BigQuiet

/-
  The walk of pick.
-/
namespace Go.Proofs.Ytidaflmmldefcaa
open Go.RowKit
set_option linter.unusedVariables false

theorem ret_int {k : IntKind} {a b : Int} (h : a = b) : Ending.returned (.int k a) = .returned (.int k b) := by rw [h]

set_option maxHeartbeats 400000 in
theorem pick_any (c n : Int) (w : World) (h0 : -9223372036854775808 ≤ c) (h1 : c ≤ 9223372036854775807) (hn : 0 < n) (hn2 : n ≤ 70000) :
    Calls Try.prog 10 #[.int .i64 c, .int .i64 n] w fun e w' => e = .returned (.int .i64 (H.pk c n)) ∧ w = w' := by
  by_cases hc : c < 0
  · have e : Hid (-((c + 1).tmod n) = H.pk c n) := by
      unfold Hid H.pk; rw [if_pos hc, ← Int.neg_tmod, Int.tmod_eq_emod_of_nonneg (by omega)]
    have hz : (n == 0) = false := by rw [beq_eq_false_iff_ne]; omega
    go_enter Try.func10, Try.ntmps10
    go_wp2
    go_ret
    exact ⟨ret_int e.out, rfl⟩
  · have e : Hid (c % n = H.pk c n) := by
      unfold Hid H.pk; rw [if_neg hc]
    have hz : (n == 0) = false := by rw [beq_eq_false_iff_ne]; omega
    go_enter Try.func10, Try.ntmps10
    go_wp2
    go_ret
    exact ⟨ret_int e.out, rfl⟩

end Go.Proofs.Ytidaflmmldefcaa

/-
  The walk of the statements' own function code: a right program out of raw instructions.
-/
namespace Go.Proofs.Ytidaflmmldefcaa
open Go.RowKit
set_option linter.unusedVariables false

/-- Raw instructions: an Op of eight bits, an operand of 64. -/
def rawOk (l : List (Int × Int)) : Prop := ∀ x ∈ l, 0 ≤ x.1 ∧ x.1 ≤ 255 ∧ -9223372036854775808 ≤ x.2 ∧ x.2 ≤ 9223372036854775807

/-- What code hands back. -/
def codeEnd (w : World) (e : Ending) (w' : World) : Prop :=
  ∃ v l, e = .returned v ∧ 1 ≤ l.length ∧ l.length ≤ 64 ∧ H.good l.length l ∧ w'.ownsRow w.heap.size 52 2 v l.length (insCells l) ∧ Below w.heap.size w w'

set_option maxHeartbeats 1000000 in
theorem code_nil (ao : Option Addr) (cap : Nat) (w : World) :
    Calls Try.prog 45 #[.slice ao 0 cap] w fun e w' => codeEnd w e w' := by
  obtain ⟨i0, hi, hz0, hz1, hz2⟩ := info_parts info28
  go_enter Try.func45, Try.ntmps45
  go_wp2_with (at_make; refine wpList_make_own _ rfl _ _ 38 rfl w.heap.size 52 i0 (.agg #[.int .u8 0, .int .i64 0]) 2 Try.underlying38 hi hz0 hz1 _ _ _ 1 rfl rfl (by omega) (by rw [hz2]; omega) (by unfold maxLen; omega) (Nat.le_refl _) ?_)
  intro w1 hown1 hg1
  have hb1 : Below w.heap.size w w1 := (Below.refl _ _).grown hg1 (Nat.le_refl _) (by simp)
  have hs1 := hb1.size
  have HB1 : Hid (Below w.heap.size w w1) := hb1
  have HO1 : Hid (w1.ownsRow w.heap.size 52 2 (.slice (some ⟨w.heap.size, 0, none⟩) 0 1) 0 []) := hown1
  clear hown1 hg1 hb1
  go_wp2
  refine wp_loop_rounds 1 ?_
  rw [rounds_succ]
  go_wp2_with (at_builtin; refine wpList_append_own _ rfl (.tmp 77) (.tmp 79) 38 rfl w.heap.size 52 i0 (.agg #[.int .u8 0, .int .i64 0]) 2 16 Try.underlying38 hi hz0 hz1 hz2 rfl (by decide) _ _ _ rfl (HO1.out.alloc _) ⟨w1.heap.size, 0, none⟩ 1 1 [.int .u8 0, .int .i64 0] rfl rfl (new_two _ _ _ _) (by intro u hu; simp at hu; rcases hu with rfl | rfl <;> rfl) (by unfold maxLen; omega) (by omega) (by simp; omega) ?_)
  intro v3 w3 hown3 hg3 _
  have hb3 : Below w.heap.size w w3 := below_app (HB1.out.alloc hs1 _) hg3 (HO1.out.alloc _) (Nat.le_refl _) (by simp; omega)
  have HB3 : Hid (Below w.heap.size w w3) := hb3
  have HO3 : Hid (w3.ownsRow w.heap.size 52 2 v3 1 [.int .u8 0, .int .i64 0]) := hown3
  clear hown3 hg3 hb3 HO1 HB1
  go_wp2
  go_ret
  exact ⟨v3, [(0, 0)], rfl, by simp, by simp, H.good_snoc (H.good_nil _) (by decide) (by decide) (by decide), HO3.out, HB3.out⟩

theorem lands_other {n k : Nat} {o a : Int} (h16 : o ≠ 16) (h17 : o ≠ 17) : H.lands n k o a = true := by
  unfold H.lands; rw [if_neg (by omega)]

set_option maxHeartbeats 8000000 in
theorem code_mid (b off n cap : Nat) (raw : List (Int × Int)) (w : World) (h1 : 1 ≤ n) (h64 : n ≤ 64) (hn : raw.length = n) (hmax : n ≤ maxLen) (hraw : rawOk raw) (hrow : InsRow w b off raw) :
    Calls Try.prog 45 #[.slice (some ⟨b, off, none⟩) n cap] w fun e w' => codeEnd w e w' := by
  obtain ⟨i0, hi, hz0, hz1, hz2⟩ := info_parts info28
  have hbl : b < w.heap.size := by
    obtain ⟨x, hx⟩ : ∃ x, raw[0]? = some x := ⟨raw[0]'(by omega), List.getElem?_eq_getElem (by omega)⟩
    exact World.block_lt_of_cell? _ _ (hrow 0 x hx).1
  have HR : Hid (InsRow w b off raw) := hrow
  have Hn : Hid (raw.length = n) := hn
  have HW : Hid (rawOk raw) := hraw
  unfold maxLen at hmax
  clear hrow hn hraw
  have e2 : ¬ (64 : Int) < n := by omega
  go_enter Try.func45, Try.ntmps45
  go_wp2_with (at_make; refine wpList_make_own _ rfl _ _ 38 rfl w.heap.size 52 i0 (.agg #[.int .u8 0, .int .i64 0]) 2 Try.underlying38 hi hz0 hz1 _ _ _ (n + 1) rfl rfl (by omega) (by rw [hz2]; omega) (by unfold maxLen; omega) (Nat.le_refl _) ?_)
  intro w1 hown1 hg1
  have hb1 : Below w.heap.size w w1 := (Below.refl _ _).grown hg1 (Nat.le_refl _) (by simp)
  have HB1 : Hid (Below w.heap.size w w1) := hb1
  have HO1 : Hid (w1.ownsRow w.heap.size 52 2 (.slice (some ⟨w.heap.size, 0, none⟩) 0 (n + 1)) 0 []) := hown1
  clear hown1 hg1 hb1
  go_wp2
  go_loopw [4, 5] (fun v i wr => ∃ (k cv : Nat) (ao : Option Addr) (acc : List (Int × Int)), v = .slice ao k cv ∧ k ≤ n ∧ acc.length = k ∧ i = .int .i64 k ∧ wr.ownsRow w.heap.size 52 2 (.slice ao k cv) k (insCells acc) ∧ Below w.heap.size w wr ∧ H.good n acc)
    (fun _ i _ => n - (intOf i).toNat)
  case atStart => exact ⟨0, _, _, [], rfl, Nat.zero_le _, rfl, rfl, HO1.out, HB1.out, H.good_nil _⟩
  case round =>
    obtain ⟨k, cv, ao, acc, rfl, hk, hkl, rfl, hown, hbel, hgood⟩ := hrel
    have HO : Hid (wr.ownsRow w.heap.size 52 2 (.slice ao k cv) k (insCells acc)) := hown
    have HB : Hid (Below w.heap.size w wr) := hbel
    have HG : Hid (H.good n acc) := hgood
    have Hk : Hid (acc.length = k) := hkl
    have hsz := hbel.size
    clear hown hbel hgood hkl HO1 HB1
    by_cases hlt : k < n
    · obtain ⟨x, hx⟩ : ∃ x, raw[k]? = some x := ⟨raw[k]'(by have := Hn.out; omega), List.getElem?_eq_getElem (by have := Hn.out; omega)⟩
      obtain ⟨ro, ra⟩ := x
      obtain ⟨c0, c1⟩ := (HR.out.below HB.out hbl) k _ hx
      obtain ⟨q0, q1, q2, q3⟩ := HW.out _ (List.mem_of_getElem? hx)
      simp only at q0 q1 q2 q3 c0 c1
      have hne : Hid (some wr.heap.size ≠ (Value.slice ao k cv).ownBlock) := own_ne_new HO.out (Nat.le_refl _)
      have hbw : b < wr.heap.size := by omega
      have hbne : ¬ b = wr.heap.size := by omega
      obtain ⟨o, ho⟩ : ∃ o, o = ro % 28 := ⟨_, rfl⟩
      have ho0 : 0 ≤ o := by omega
      have ho1 : o ≤ 27 := by omega
      have hro : ro.tmod 28 = o := by rw [ho]; exact Int.tmod_eq_emod_of_nonneg q0
      have hro2 : ro % 28 = o := ho.symm
      clear hx ho
      by_cases h1 : o = 1
      · subst h1
        have hpk := H.pk_range ra 65536 (by omega)
        go_wp2_with (first
          | (go_at_call 10; refine (pick_any _ _ _ (by omega) (by omega) (by omega) (by omega)).mono ?_; rintro e w' ⟨rfl, rfl⟩)
          | (at_builtin; refine wpList_append_own _ rfl (.tmp 71) (.tmp 73) 38 rfl w.heap.size 52 i0 (.agg #[.int .u8 0, .int .i64 0]) 2 16 Try.underlying38 hi hz0 hz1 hz2 rfl (by decide) _ _ _ rfl ((HO.out.alloc _).alloc _) ⟨wr.heap.size + 1, 0, none⟩ 1 1 [.int .u8 1, .int .i64 (H.pk ra 65536)] rfl rfl (new_two1 _ _ _ _ _) (by intro u hu; simp at hu; rcases hu with rfl | rfl <;> rfl) (by unfold maxLen; omega) (by omega) (by simp; omega) ?_))
        intro v3 w3 hown3 hg3 _
        have hb3 : Below w.heap.size w w3 := below_app ((HB.out.alloc hsz _).alloc (by simp; omega) _) hg3 ((HO.out.alloc _).alloc _) (Nat.le_refl _) (by simp; omega)
        obtain ⟨g3, cap3, hv3⟩ : ∃ g3 cap3, v3 = .slice (some ⟨g3, 0, none⟩) (k + 1) cap3 := by
          rcases hown3.2 with ⟨_, h⟩ | ⟨g3, cap3, _, h, _⟩
          · omega
          · exact ⟨g3, cap3, h⟩
        have HV : Hid (v3 = .slice (some ⟨g3, 0, none⟩) (k + 1) cap3) := hv3
        have HB3 : Hid (Below w.heap.size w w3) := hb3
        have HO3 : Hid (w3.ownsRow w.heap.size 52 2 v3 (k + 1) (insCells acc ++ [.int .u8 1, .int .i64 (H.pk ra 65536)])) := hown3
        clear hown3 hg3 hb3 HO HB hne hv3
        go_wp2
        go_roundw
        case rel =>
          refine ⟨k + 1, cap3, some ⟨g3, 0, none⟩, acc ++ [(1, H.pk ra 65536)], HV.out, by omega, by simp [Hk.out], by go_num, ?_, HB3.out, H.good_snoc HG.out (by simp [H.alone]; omega) (lands_other (by omega) (by omega)) (by omega)⟩
          rw [insCells_snoc, ← HV.out]
          exact HO3.out
        case measure => simp [intOf]; omega
      by_cases h2 : o = 2
      · subst h2
        have hpk := H.pk_range ra 8 (by omega)
        go_wp2_with (first
          | (go_at_call 10; refine (pick_any _ _ _ (by omega) (by omega) (by omega) (by omega)).mono ?_; rintro e w' ⟨rfl, rfl⟩)
          | (at_builtin; refine wpList_append_own _ rfl (.tmp 71) (.tmp 73) 38 rfl w.heap.size 52 i0 (.agg #[.int .u8 0, .int .i64 0]) 2 16 Try.underlying38 hi hz0 hz1 hz2 rfl (by decide) _ _ _ rfl ((HO.out.alloc _).alloc _) ⟨wr.heap.size + 1, 0, none⟩ 1 1 [.int .u8 2, .int .i64 (H.pk ra 8)] rfl rfl (new_two1 _ _ _ _ _) (by intro u hu; simp at hu; rcases hu with rfl | rfl <;> rfl) (by unfold maxLen; omega) (by omega) (by simp; omega) ?_))
        intro v3 w3 hown3 hg3 _
        have hb3 : Below w.heap.size w w3 := below_app ((HB.out.alloc hsz _).alloc (by simp; omega) _) hg3 ((HO.out.alloc _).alloc _) (Nat.le_refl _) (by simp; omega)
        obtain ⟨g3, cap3, hv3⟩ : ∃ g3 cap3, v3 = .slice (some ⟨g3, 0, none⟩) (k + 1) cap3 := by
          rcases hown3.2 with ⟨_, h⟩ | ⟨g3, cap3, _, h, _⟩
          · omega
          · exact ⟨g3, cap3, h⟩
        have HV : Hid (v3 = .slice (some ⟨g3, 0, none⟩) (k + 1) cap3) := hv3
        have HB3 : Hid (Below w.heap.size w w3) := hb3
        have HO3 : Hid (w3.ownsRow w.heap.size 52 2 v3 (k + 1) (insCells acc ++ [.int .u8 2, .int .i64 (H.pk ra 8)])) := hown3
        clear hown3 hg3 hb3 HO HB hne hv3
        go_wp2
        go_roundw
        case rel =>
          refine ⟨k + 1, cap3, some ⟨g3, 0, none⟩, acc ++ [(2, H.pk ra 8)], HV.out, by omega, by simp [Hk.out], by go_num, ?_, HB3.out, H.good_snoc HG.out (by simp [H.alone]; omega) (lands_other (by omega) (by omega)) (by omega)⟩
          rw [insCells_snoc, ← HV.out]
          exact HO3.out
        case measure => simp [intOf]; omega
      by_cases h3 : o = 3
      · subst h3
        have hpk := H.pk_range ra 8 (by omega)
        go_wp2_with (first
          | (go_at_call 10; refine (pick_any _ _ _ (by omega) (by omega) (by omega) (by omega)).mono ?_; rintro e w' ⟨rfl, rfl⟩)
          | (at_builtin; refine wpList_append_own _ rfl (.tmp 71) (.tmp 73) 38 rfl w.heap.size 52 i0 (.agg #[.int .u8 0, .int .i64 0]) 2 16 Try.underlying38 hi hz0 hz1 hz2 rfl (by decide) _ _ _ rfl ((HO.out.alloc _).alloc _) ⟨wr.heap.size + 1, 0, none⟩ 1 1 [.int .u8 3, .int .i64 (H.pk ra 8)] rfl rfl (new_two1 _ _ _ _ _) (by intro u hu; simp at hu; rcases hu with rfl | rfl <;> rfl) (by unfold maxLen; omega) (by omega) (by simp; omega) ?_))
        intro v3 w3 hown3 hg3 _
        have hb3 : Below w.heap.size w w3 := below_app ((HB.out.alloc hsz _).alloc (by simp; omega) _) hg3 ((HO.out.alloc _).alloc _) (Nat.le_refl _) (by simp; omega)
        obtain ⟨g3, cap3, hv3⟩ : ∃ g3 cap3, v3 = .slice (some ⟨g3, 0, none⟩) (k + 1) cap3 := by
          rcases hown3.2 with ⟨_, h⟩ | ⟨g3, cap3, _, h, _⟩
          · omega
          · exact ⟨g3, cap3, h⟩
        have HV : Hid (v3 = .slice (some ⟨g3, 0, none⟩) (k + 1) cap3) := hv3
        have HB3 : Hid (Below w.heap.size w w3) := hb3
        have HO3 : Hid (w3.ownsRow w.heap.size 52 2 v3 (k + 1) (insCells acc ++ [.int .u8 3, .int .i64 (H.pk ra 8)])) := hown3
        clear hown3 hg3 hb3 HO HB hne hv3
        go_wp2
        go_roundw
        case rel =>
          refine ⟨k + 1, cap3, some ⟨g3, 0, none⟩, acc ++ [(3, H.pk ra 8)], HV.out, by omega, by simp [Hk.out], by go_num, ?_, HB3.out, H.good_snoc HG.out (by simp [H.alone]; omega) (lands_other (by omega) (by omega)) (by omega)⟩
          rw [insCells_snoc, ← HV.out]
          exact HO3.out
        case measure => simp [intOf]; omega
      by_cases h25 : o = 25
      · subst h25
        have hpk := H.pk_range ra 4 (by omega)
        go_wp2_with (first
          | (go_at_call 10; refine (pick_any _ _ _ (by omega) (by omega) (by omega) (by omega)).mono ?_; rintro e w' ⟨rfl, rfl⟩)
          | (at_builtin; refine wpList_append_own _ rfl (.tmp 71) (.tmp 73) 38 rfl w.heap.size 52 i0 (.agg #[.int .u8 0, .int .i64 0]) 2 16 Try.underlying38 hi hz0 hz1 hz2 rfl (by decide) _ _ _ rfl ((HO.out.alloc _).alloc _) ⟨wr.heap.size + 1, 0, none⟩ 1 1 [.int .u8 25, .int .i64 (H.pk ra 4)] rfl rfl (new_two1 _ _ _ _ _) (by intro u hu; simp at hu; rcases hu with rfl | rfl <;> rfl) (by unfold maxLen; omega) (by omega) (by simp; omega) ?_))
        intro v3 w3 hown3 hg3 _
        have hb3 : Below w.heap.size w w3 := below_app ((HB.out.alloc hsz _).alloc (by simp; omega) _) hg3 ((HO.out.alloc _).alloc _) (Nat.le_refl _) (by simp; omega)
        obtain ⟨g3, cap3, hv3⟩ : ∃ g3 cap3, v3 = .slice (some ⟨g3, 0, none⟩) (k + 1) cap3 := by
          rcases hown3.2 with ⟨_, h⟩ | ⟨g3, cap3, _, h, _⟩
          · omega
          · exact ⟨g3, cap3, h⟩
        have HV : Hid (v3 = .slice (some ⟨g3, 0, none⟩) (k + 1) cap3) := hv3
        have HB3 : Hid (Below w.heap.size w w3) := hb3
        have HO3 : Hid (w3.ownsRow w.heap.size 52 2 v3 (k + 1) (insCells acc ++ [.int .u8 25, .int .i64 (H.pk ra 4)])) := hown3
        clear hown3 hg3 hb3 HO HB hne hv3
        go_wp2
        go_roundw
        case rel =>
          refine ⟨k + 1, cap3, some ⟨g3, 0, none⟩, acc ++ [(25, H.pk ra 4)], HV.out, by omega, by simp [Hk.out], by go_num, ?_, HB3.out, H.good_snoc HG.out (by simp [H.alone]; omega) (lands_other (by omega) (by omega)) (by omega)⟩
          rw [insCells_snoc, ← HV.out]
          exact HO3.out
        case measure => simp [intOf]; omega
      by_cases h16 : o = 16
      · subst h16
        have hpk := H.pk_range ra ((n : Int) + 1) (by omega)
        go_wp2_with (first
          | (go_at_call 10; refine (pick_any _ _ _ (by omega) (by omega) (by omega) (by omega)).mono ?_; rintro e w' ⟨rfl, rfl⟩)
          | (at_builtin; refine wpList_append_own _ rfl (.tmp 71) (.tmp 73) 38 rfl w.heap.size 52 i0 (.agg #[.int .u8 0, .int .i64 0]) 2 16 Try.underlying38 hi hz0 hz1 hz2 rfl (by decide) _ _ _ rfl ((HO.out.alloc _).alloc _) ⟨wr.heap.size + 1, 0, none⟩ 1 1 [.int .u8 16, .int .i64 (H.pk ra ((n : Int) + 1) - (k : Int) - 1)] rfl rfl (new_two1 _ _ _ _ _) (by intro u hu; simp at hu; rcases hu with rfl | rfl <;> rfl) (by unfold maxLen; omega) (by omega) (by simp; omega) ?_))
        intro v3 w3 hown3 hg3 _
        have hb3 : Below w.heap.size w w3 := below_app ((HB.out.alloc hsz _).alloc (by simp; omega) _) hg3 ((HO.out.alloc _).alloc _) (Nat.le_refl _) (by simp; omega)
        obtain ⟨g3, cap3, hv3⟩ : ∃ g3 cap3, v3 = .slice (some ⟨g3, 0, none⟩) (k + 1) cap3 := by
          rcases hown3.2 with ⟨_, h⟩ | ⟨g3, cap3, _, h, _⟩
          · omega
          · exact ⟨g3, cap3, h⟩
        have HV : Hid (v3 = .slice (some ⟨g3, 0, none⟩) (k + 1) cap3) := hv3
        have HB3 : Hid (Below w.heap.size w w3) := hb3
        have HO3 : Hid (w3.ownsRow w.heap.size 52 2 v3 (k + 1) (insCells acc ++ [.int .u8 16, .int .i64 (H.pk ra ((n : Int) + 1) - (k : Int) - 1)])) := hown3
        clear hown3 hg3 hb3 HO HB hne hv3
        go_wp2
        go_roundw
        case rel =>
          refine ⟨k + 1, cap3, some ⟨g3, 0, none⟩, acc ++ [(16, H.pk ra ((n : Int) + 1) - (k : Int) - 1)], HV.out, by omega, by simp [Hk.out], by go_num, ?_, HB3.out, H.good_snoc HG.out (by simp [H.alone]; omega) (by unfold H.lands; rw [if_pos (by omega), Hk.out]; simp; omega) (by omega)⟩
          rw [insCells_snoc, ← HV.out]
          exact HO3.out
        case measure => simp [intOf]; omega
      by_cases h17 : o = 17
      · subst h17
        have hpk := H.pk_range ra ((n : Int) + 1) (by omega)
        go_wp2_with (first
          | (go_at_call 10; refine (pick_any _ _ _ (by omega) (by omega) (by omega) (by omega)).mono ?_; rintro e w' ⟨rfl, rfl⟩)
          | (at_builtin; refine wpList_append_own _ rfl (.tmp 71) (.tmp 73) 38 rfl w.heap.size 52 i0 (.agg #[.int .u8 0, .int .i64 0]) 2 16 Try.underlying38 hi hz0 hz1 hz2 rfl (by decide) _ _ _ rfl ((HO.out.alloc _).alloc _) ⟨wr.heap.size + 1, 0, none⟩ 1 1 [.int .u8 17, .int .i64 (H.pk ra ((n : Int) + 1) - (k : Int) - 1)] rfl rfl (new_two1 _ _ _ _ _) (by intro u hu; simp at hu; rcases hu with rfl | rfl <;> rfl) (by unfold maxLen; omega) (by omega) (by simp; omega) ?_))
        intro v3 w3 hown3 hg3 _
        have hb3 : Below w.heap.size w w3 := below_app ((HB.out.alloc hsz _).alloc (by simp; omega) _) hg3 ((HO.out.alloc _).alloc _) (Nat.le_refl _) (by simp; omega)
        obtain ⟨g3, cap3, hv3⟩ : ∃ g3 cap3, v3 = .slice (some ⟨g3, 0, none⟩) (k + 1) cap3 := by
          rcases hown3.2 with ⟨_, h⟩ | ⟨g3, cap3, _, h, _⟩
          · omega
          · exact ⟨g3, cap3, h⟩
        have HV : Hid (v3 = .slice (some ⟨g3, 0, none⟩) (k + 1) cap3) := hv3
        have HB3 : Hid (Below w.heap.size w w3) := hb3
        have HO3 : Hid (w3.ownsRow w.heap.size 52 2 v3 (k + 1) (insCells acc ++ [.int .u8 17, .int .i64 (H.pk ra ((n : Int) + 1) - (k : Int) - 1)])) := hown3
        clear hown3 hg3 hb3 HO HB hne hv3
        go_wp2
        go_roundw
        case rel =>
          refine ⟨k + 1, cap3, some ⟨g3, 0, none⟩, acc ++ [(17, H.pk ra ((n : Int) + 1) - (k : Int) - 1)], HV.out, by omega, by simp [Hk.out], by go_num, ?_, HB3.out, H.good_snoc HG.out (by simp [H.alone]; omega) (by unfold H.lands; rw [if_pos (by omega), Hk.out]; simp; omega) (by omega)⟩
          rw [insCells_snoc, ← HV.out]
          exact HO3.out
        case measure => simp [intOf]; omega
      have b1 : (o == 1) = false := by simpa using h1
      have b2 : (o == 2) = false := by simpa using h2
      have b3 : (o == 3) = false := by simpa using h3
      have b25 : (o == 25) = false := by simpa using h25
      have b16 : (o == 16) = false := by simpa using h16
      have b17 : (o == 17) = false := by simpa using h17
      have Hal : Hid (H.alone o 0 = true) := by unfold Hid; simp [H.alone, h1, h2, h3, h25, h16, h17]; omega
      have Hla : Hid (H.lands n acc.length o 0 = true) := lands_other h16 h17
      clear h1 h2 h3 h25 h16 h17
      go_wp2_with (first
        | (go_at_call 10; refine (pick_any _ _ _ (by omega) (by omega) (by omega) (by omega)).mono ?_; rintro e w' ⟨rfl, rfl⟩)
        | (at_builtin; refine wpList_append_own _ rfl (.tmp 71) (.tmp 73) 38 rfl w.heap.size 52 i0 (.agg #[.int .u8 0, .int .i64 0]) 2 16 Try.underlying38 hi hz0 hz1 hz2 rfl (by decide) _ _ _ rfl ((HO.out.alloc _).alloc _) ⟨wr.heap.size + 1, 0, none⟩ 1 1 [.int .u8 o, .int .i64 (0)] rfl rfl (new_two1 _ _ _ _ _) (by intro u hu; simp at hu; rcases hu with rfl | rfl <;> rfl) (by unfold maxLen; omega) (by omega) (by simp; omega) ?_))
      intro v3 w3 hown3 hg3 _
      have hb3 : Below w.heap.size w w3 := below_app ((HB.out.alloc hsz _).alloc (by simp; omega) _) hg3 ((HO.out.alloc _).alloc _) (Nat.le_refl _) (by simp; omega)
      obtain ⟨g3, cap3, hv3⟩ : ∃ g3 cap3, v3 = .slice (some ⟨g3, 0, none⟩) (k + 1) cap3 := by
        rcases hown3.2 with ⟨_, h⟩ | ⟨g3, cap3, _, h, _⟩
        · omega
        · exact ⟨g3, cap3, h⟩
      have HV : Hid (v3 = .slice (some ⟨g3, 0, none⟩) (k + 1) cap3) := hv3
      have HB3 : Hid (Below w.heap.size w w3) := hb3
      have HO3 : Hid (w3.ownsRow w.heap.size 52 2 v3 (k + 1) (insCells acc ++ [.int .u8 o, .int .i64 (0)])) := hown3
      clear hown3 hg3 hb3 HO HB hne hv3
      go_wp2
      go_roundw
      case rel =>
        refine ⟨k + 1, cap3, some ⟨g3, 0, none⟩, acc ++ [(o, 0)], HV.out, by omega, by simp [Hk.out], by go_num, ?_, HB3.out, H.good_snoc HG.out Hal.out Hla.out (by omega)⟩
        rw [insCells_snoc, ← HV.out]
        exact HO3.out
      case measure => simp [intOf]; omega
    · have hkM : k = n := by omega
      have hz : ((n : Int) == 0) = false := by first | rfl | (rw [beq_eq_false_iff_ne]; omega)
      clear hlt
      go_wp2
      go_ret
      refine ⟨_, acc, rfl, by rw [Hk.out]; omega, by rw [Hk.out]; omega, ?_, ?_, HB.out⟩
      · rw [Hk.out, hkM]; exact HG.out
      · rw [Hk.out]; exact HO.out

end Go.Proofs.Ytidaflmmldefcaa

/-
  The walk of code where there are more than 64 raw instructions; and at every list.
-/
namespace Go.Proofs.Ytidaflmmldefcaa
open Go.RowKit
set_option linter.unusedVariables false

set_option maxRecDepth 100000 in
set_option maxHeartbeats 8000000 in
theorem code_long (b off n cap : Nat) (raw : List (Int × Int)) (w : World) (h1 : 64 < n) (hn : raw.length = n) (hmax : n ≤ maxLen) (hraw : rawOk raw) (hrow : InsRow w b off raw) :
    Calls Try.prog 45 #[.slice (some ⟨b, off, none⟩) n cap] w fun e w' => codeEnd w e w' := by
  obtain ⟨i0, hi, hz0, hz1, hz2⟩ := info_parts info28
  have hbl : b < w.heap.size := by
    obtain ⟨x, hx⟩ : ∃ x, raw[0]? = some x := ⟨raw[0]'(by omega), List.getElem?_eq_getElem (by omega)⟩
    exact World.block_lt_of_cell? _ _ (hrow 0 x hx).1
  have HR : Hid (InsRow w b off raw) := hrow
  have Hn : Hid (raw.length = n) := hn
  have HW : Hid (rawOk raw) := hraw
  unfold maxLen at hmax
  clear hrow hn hraw
  have e2 : (64 : Int) < n := by omega
  go_enter Try.func45, Try.ntmps45
  go_wp2_with (at_make; refine wpList_make_own _ rfl _ _ 38 rfl w.heap.size 52 i0 (.agg #[.int .u8 0, .int .i64 0]) 2 Try.underlying38 hi hz0 hz1 _ _ _ (64 + 1) rfl rfl (by omega) (by rw [hz2]; omega) (by unfold maxLen; omega) (Nat.le_refl _) ?_)
  intro w1 hown1 hg1
  have hb1 : Below w.heap.size w w1 := (Below.refl _ _).grown hg1 (Nat.le_refl _) (by simp)
  have HB1 : Hid (Below w.heap.size w w1) := hb1
  have HO1 : Hid (w1.ownsRow w.heap.size 52 2 (.slice (some ⟨w.heap.size, 0, none⟩) 0 (64 + 1)) 0 []) := hown1
  clear hown1 hg1 hb1
  go_wp2
  go_loopw [4, 5] (fun v i wr => ∃ (k cv : Nat) (ao : Option Addr) (acc : List (Int × Int)), v = .slice ao k cv ∧ k ≤ 64 ∧ acc.length = k ∧ i = .int .i64 k ∧ wr.ownsRow w.heap.size 52 2 (.slice ao k cv) k (insCells acc) ∧ Below w.heap.size w wr ∧ H.good 64 acc)
    (fun _ i _ => 64 - (intOf i).toNat)
  case atStart => exact ⟨0, _, _, [], rfl, Nat.zero_le _, rfl, rfl, HO1.out, HB1.out, H.good_nil _⟩
  case round =>
    obtain ⟨k, cv, ao, acc, rfl, hk, hkl, rfl, hown, hbel, hgood⟩ := hrel
    have HO : Hid (wr.ownsRow w.heap.size 52 2 (.slice ao k cv) k (insCells acc)) := hown
    have HB : Hid (Below w.heap.size w wr) := hbel
    have HG : Hid (H.good 64 acc) := hgood
    have Hk : Hid (acc.length = k) := hkl
    have hsz := hbel.size
    clear hown hbel hgood hkl HO1 HB1
    by_cases hlt : k < 64
    · obtain ⟨x, hx⟩ : ∃ x, raw[k]? = some x := ⟨raw[k]'(by have := Hn.out; omega), List.getElem?_eq_getElem (by have := Hn.out; omega)⟩
      obtain ⟨ro, ra⟩ := x
      obtain ⟨c0, c1⟩ := (HR.out.below HB.out hbl) k _ hx
      obtain ⟨q0, q1, q2, q3⟩ := HW.out _ (List.mem_of_getElem? hx)
      simp only at q0 q1 q2 q3 c0 c1
      have hne : Hid (some wr.heap.size ≠ (Value.slice ao k cv).ownBlock) := own_ne_new HO.out (Nat.le_refl _)
      have hbw : b < wr.heap.size := by omega
      have hbne : ¬ b = wr.heap.size := by omega
      obtain ⟨o, ho⟩ : ∃ o, o = ro % 28 := ⟨_, rfl⟩
      have ho0 : 0 ≤ o := by omega
      have ho1 : o ≤ 27 := by omega
      have hro : ro.tmod 28 = o := by rw [ho]; exact Int.tmod_eq_emod_of_nonneg q0
      have hro2 : ro % 28 = o := ho.symm
      clear hx ho
      by_cases h1 : o = 1
      · subst h1
        have hpk := H.pk_range ra 65536 (by omega)
        go_wp2_with (first
          | (go_at_call 10; refine (pick_any _ _ _ (by omega) (by omega) (by omega) (by omega)).mono ?_; rintro e w' ⟨rfl, rfl⟩)
          | (at_builtin; refine wpList_append_own _ rfl (.tmp 71) (.tmp 73) 38 rfl w.heap.size 52 i0 (.agg #[.int .u8 0, .int .i64 0]) 2 16 Try.underlying38 hi hz0 hz1 hz2 rfl (by decide) _ _ _ rfl ((HO.out.alloc _).alloc _) ⟨wr.heap.size + 1, 0, none⟩ 1 1 [.int .u8 1, .int .i64 (H.pk ra 65536)] rfl rfl (new_two1 _ _ _ _ _) (by intro u hu; simp at hu; rcases hu with rfl | rfl <;> rfl) (by unfold maxLen; omega) (by omega) (by simp; omega) ?_))
        intro v3 w3 hown3 hg3 _
        have hb3 : Below w.heap.size w w3 := below_app ((HB.out.alloc hsz _).alloc (by simp; omega) _) hg3 ((HO.out.alloc _).alloc _) (Nat.le_refl _) (by simp; omega)
        obtain ⟨g3, cap3, hv3⟩ : ∃ g3 cap3, v3 = .slice (some ⟨g3, 0, none⟩) (k + 1) cap3 := by
          rcases hown3.2 with ⟨_, h⟩ | ⟨g3, cap3, _, h, _⟩
          · omega
          · exact ⟨g3, cap3, h⟩
        have HV : Hid (v3 = .slice (some ⟨g3, 0, none⟩) (k + 1) cap3) := hv3
        have HB3 : Hid (Below w.heap.size w w3) := hb3
        have HO3 : Hid (w3.ownsRow w.heap.size 52 2 v3 (k + 1) (insCells acc ++ [.int .u8 1, .int .i64 (H.pk ra 65536)])) := hown3
        clear hown3 hg3 hb3 HO HB hne hv3
        go_wp2
        go_roundw
        case rel =>
          refine ⟨k + 1, cap3, some ⟨g3, 0, none⟩, acc ++ [(1, H.pk ra 65536)], HV.out, by omega, by simp [Hk.out], by go_num, ?_, HB3.out, H.good_snoc HG.out (by simp [H.alone]; omega) (lands_other (by omega) (by omega)) (by omega)⟩
          rw [insCells_snoc, ← HV.out]
          exact HO3.out
        case measure => simp [intOf]; omega
      by_cases h2 : o = 2
      · subst h2
        have hpk := H.pk_range ra 8 (by omega)
        go_wp2_with (first
          | (go_at_call 10; refine (pick_any _ _ _ (by omega) (by omega) (by omega) (by omega)).mono ?_; rintro e w' ⟨rfl, rfl⟩)
          | (at_builtin; refine wpList_append_own _ rfl (.tmp 71) (.tmp 73) 38 rfl w.heap.size 52 i0 (.agg #[.int .u8 0, .int .i64 0]) 2 16 Try.underlying38 hi hz0 hz1 hz2 rfl (by decide) _ _ _ rfl ((HO.out.alloc _).alloc _) ⟨wr.heap.size + 1, 0, none⟩ 1 1 [.int .u8 2, .int .i64 (H.pk ra 8)] rfl rfl (new_two1 _ _ _ _ _) (by intro u hu; simp at hu; rcases hu with rfl | rfl <;> rfl) (by unfold maxLen; omega) (by omega) (by simp; omega) ?_))
        intro v3 w3 hown3 hg3 _
        have hb3 : Below w.heap.size w w3 := below_app ((HB.out.alloc hsz _).alloc (by simp; omega) _) hg3 ((HO.out.alloc _).alloc _) (Nat.le_refl _) (by simp; omega)
        obtain ⟨g3, cap3, hv3⟩ : ∃ g3 cap3, v3 = .slice (some ⟨g3, 0, none⟩) (k + 1) cap3 := by
          rcases hown3.2 with ⟨_, h⟩ | ⟨g3, cap3, _, h, _⟩
          · omega
          · exact ⟨g3, cap3, h⟩
        have HV : Hid (v3 = .slice (some ⟨g3, 0, none⟩) (k + 1) cap3) := hv3
        have HB3 : Hid (Below w.heap.size w w3) := hb3
        have HO3 : Hid (w3.ownsRow w.heap.size 52 2 v3 (k + 1) (insCells acc ++ [.int .u8 2, .int .i64 (H.pk ra 8)])) := hown3
        clear hown3 hg3 hb3 HO HB hne hv3
        go_wp2
        go_roundw
        case rel =>
          refine ⟨k + 1, cap3, some ⟨g3, 0, none⟩, acc ++ [(2, H.pk ra 8)], HV.out, by omega, by simp [Hk.out], by go_num, ?_, HB3.out, H.good_snoc HG.out (by simp [H.alone]; omega) (lands_other (by omega) (by omega)) (by omega)⟩
          rw [insCells_snoc, ← HV.out]
          exact HO3.out
        case measure => simp [intOf]; omega
      by_cases h3 : o = 3
      · subst h3
        have hpk := H.pk_range ra 8 (by omega)
        go_wp2_with (first
          | (go_at_call 10; refine (pick_any _ _ _ (by omega) (by omega) (by omega) (by omega)).mono ?_; rintro e w' ⟨rfl, rfl⟩)
          | (at_builtin; refine wpList_append_own _ rfl (.tmp 71) (.tmp 73) 38 rfl w.heap.size 52 i0 (.agg #[.int .u8 0, .int .i64 0]) 2 16 Try.underlying38 hi hz0 hz1 hz2 rfl (by decide) _ _ _ rfl ((HO.out.alloc _).alloc _) ⟨wr.heap.size + 1, 0, none⟩ 1 1 [.int .u8 3, .int .i64 (H.pk ra 8)] rfl rfl (new_two1 _ _ _ _ _) (by intro u hu; simp at hu; rcases hu with rfl | rfl <;> rfl) (by unfold maxLen; omega) (by omega) (by simp; omega) ?_))
        intro v3 w3 hown3 hg3 _
        have hb3 : Below w.heap.size w w3 := below_app ((HB.out.alloc hsz _).alloc (by simp; omega) _) hg3 ((HO.out.alloc _).alloc _) (Nat.le_refl _) (by simp; omega)
        obtain ⟨g3, cap3, hv3⟩ : ∃ g3 cap3, v3 = .slice (some ⟨g3, 0, none⟩) (k + 1) cap3 := by
          rcases hown3.2 with ⟨_, h⟩ | ⟨g3, cap3, _, h, _⟩
          · omega
          · exact ⟨g3, cap3, h⟩
        have HV : Hid (v3 = .slice (some ⟨g3, 0, none⟩) (k + 1) cap3) := hv3
        have HB3 : Hid (Below w.heap.size w w3) := hb3
        have HO3 : Hid (w3.ownsRow w.heap.size 52 2 v3 (k + 1) (insCells acc ++ [.int .u8 3, .int .i64 (H.pk ra 8)])) := hown3
        clear hown3 hg3 hb3 HO HB hne hv3
        go_wp2
        go_roundw
        case rel =>
          refine ⟨k + 1, cap3, some ⟨g3, 0, none⟩, acc ++ [(3, H.pk ra 8)], HV.out, by omega, by simp [Hk.out], by go_num, ?_, HB3.out, H.good_snoc HG.out (by simp [H.alone]; omega) (lands_other (by omega) (by omega)) (by omega)⟩
          rw [insCells_snoc, ← HV.out]
          exact HO3.out
        case measure => simp [intOf]; omega
      by_cases h25 : o = 25
      · subst h25
        have hpk := H.pk_range ra 4 (by omega)
        go_wp2_with (first
          | (go_at_call 10; refine (pick_any _ _ _ (by omega) (by omega) (by omega) (by omega)).mono ?_; rintro e w' ⟨rfl, rfl⟩)
          | (at_builtin; refine wpList_append_own _ rfl (.tmp 71) (.tmp 73) 38 rfl w.heap.size 52 i0 (.agg #[.int .u8 0, .int .i64 0]) 2 16 Try.underlying38 hi hz0 hz1 hz2 rfl (by decide) _ _ _ rfl ((HO.out.alloc _).alloc _) ⟨wr.heap.size + 1, 0, none⟩ 1 1 [.int .u8 25, .int .i64 (H.pk ra 4)] rfl rfl (new_two1 _ _ _ _ _) (by intro u hu; simp at hu; rcases hu with rfl | rfl <;> rfl) (by unfold maxLen; omega) (by omega) (by simp; omega) ?_))
        intro v3 w3 hown3 hg3 _
        have hb3 : Below w.heap.size w w3 := below_app ((HB.out.alloc hsz _).alloc (by simp; omega) _) hg3 ((HO.out.alloc _).alloc _) (Nat.le_refl _) (by simp; omega)
        obtain ⟨g3, cap3, hv3⟩ : ∃ g3 cap3, v3 = .slice (some ⟨g3, 0, none⟩) (k + 1) cap3 := by
          rcases hown3.2 with ⟨_, h⟩ | ⟨g3, cap3, _, h, _⟩
          · omega
          · exact ⟨g3, cap3, h⟩
        have HV : Hid (v3 = .slice (some ⟨g3, 0, none⟩) (k + 1) cap3) := hv3
        have HB3 : Hid (Below w.heap.size w w3) := hb3
        have HO3 : Hid (w3.ownsRow w.heap.size 52 2 v3 (k + 1) (insCells acc ++ [.int .u8 25, .int .i64 (H.pk ra 4)])) := hown3
        clear hown3 hg3 hb3 HO HB hne hv3
        go_wp2
        go_roundw
        case rel =>
          refine ⟨k + 1, cap3, some ⟨g3, 0, none⟩, acc ++ [(25, H.pk ra 4)], HV.out, by omega, by simp [Hk.out], by go_num, ?_, HB3.out, H.good_snoc HG.out (by simp [H.alone]; omega) (lands_other (by omega) (by omega)) (by omega)⟩
          rw [insCells_snoc, ← HV.out]
          exact HO3.out
        case measure => simp [intOf]; omega
      by_cases h16 : o = 16
      · subst h16
        have hpk := H.pk_range ra (65) (by omega)
        go_wp2_with (first
          | (go_at_call 10; refine (pick_any _ _ _ (by omega) (by omega) (by omega) (by omega)).mono ?_; rintro e w' ⟨rfl, rfl⟩)
          | (at_builtin; refine wpList_append_own _ rfl (.tmp 71) (.tmp 73) 38 rfl w.heap.size 52 i0 (.agg #[.int .u8 0, .int .i64 0]) 2 16 Try.underlying38 hi hz0 hz1 hz2 rfl (by decide) _ _ _ rfl ((HO.out.alloc _).alloc _) ⟨wr.heap.size + 1, 0, none⟩ 1 1 [.int .u8 16, .int .i64 (H.pk ra (65) - (k : Int) - 1)] rfl rfl (new_two1 _ _ _ _ _) (by intro u hu; simp at hu; rcases hu with rfl | rfl <;> rfl) (by unfold maxLen; omega) (by omega) (by simp; omega) ?_))
        intro v3 w3 hown3 hg3 _
        have hb3 : Below w.heap.size w w3 := below_app ((HB.out.alloc hsz _).alloc (by simp; omega) _) hg3 ((HO.out.alloc _).alloc _) (Nat.le_refl _) (by simp; omega)
        obtain ⟨g3, cap3, hv3⟩ : ∃ g3 cap3, v3 = .slice (some ⟨g3, 0, none⟩) (k + 1) cap3 := by
          rcases hown3.2 with ⟨_, h⟩ | ⟨g3, cap3, _, h, _⟩
          · omega
          · exact ⟨g3, cap3, h⟩
        have HV : Hid (v3 = .slice (some ⟨g3, 0, none⟩) (k + 1) cap3) := hv3
        have HB3 : Hid (Below w.heap.size w w3) := hb3
        have HO3 : Hid (w3.ownsRow w.heap.size 52 2 v3 (k + 1) (insCells acc ++ [.int .u8 16, .int .i64 (H.pk ra (65) - (k : Int) - 1)])) := hown3
        clear hown3 hg3 hb3 HO HB hne hv3
        go_wp2
        go_roundw
        case rel =>
          refine ⟨k + 1, cap3, some ⟨g3, 0, none⟩, acc ++ [(16, H.pk ra (65) - (k : Int) - 1)], HV.out, by omega, by simp [Hk.out], by go_num, ?_, HB3.out, H.good_snoc HG.out (by simp [H.alone]; omega) (by unfold H.lands; rw [if_pos (by omega), Hk.out]; simp; omega) (by omega)⟩
          rw [insCells_snoc, ← HV.out]
          exact HO3.out
        case measure => simp [intOf]; omega
      by_cases h17 : o = 17
      · subst h17
        have hpk := H.pk_range ra (65) (by omega)
        go_wp2_with (first
          | (go_at_call 10; refine (pick_any _ _ _ (by omega) (by omega) (by omega) (by omega)).mono ?_; rintro e w' ⟨rfl, rfl⟩)
          | (at_builtin; refine wpList_append_own _ rfl (.tmp 71) (.tmp 73) 38 rfl w.heap.size 52 i0 (.agg #[.int .u8 0, .int .i64 0]) 2 16 Try.underlying38 hi hz0 hz1 hz2 rfl (by decide) _ _ _ rfl ((HO.out.alloc _).alloc _) ⟨wr.heap.size + 1, 0, none⟩ 1 1 [.int .u8 17, .int .i64 (H.pk ra (65) - (k : Int) - 1)] rfl rfl (new_two1 _ _ _ _ _) (by intro u hu; simp at hu; rcases hu with rfl | rfl <;> rfl) (by unfold maxLen; omega) (by omega) (by simp; omega) ?_))
        intro v3 w3 hown3 hg3 _
        have hb3 : Below w.heap.size w w3 := below_app ((HB.out.alloc hsz _).alloc (by simp; omega) _) hg3 ((HO.out.alloc _).alloc _) (Nat.le_refl _) (by simp; omega)
        obtain ⟨g3, cap3, hv3⟩ : ∃ g3 cap3, v3 = .slice (some ⟨g3, 0, none⟩) (k + 1) cap3 := by
          rcases hown3.2 with ⟨_, h⟩ | ⟨g3, cap3, _, h, _⟩
          · omega
          · exact ⟨g3, cap3, h⟩
        have HV : Hid (v3 = .slice (some ⟨g3, 0, none⟩) (k + 1) cap3) := hv3
        have HB3 : Hid (Below w.heap.size w w3) := hb3
        have HO3 : Hid (w3.ownsRow w.heap.size 52 2 v3 (k + 1) (insCells acc ++ [.int .u8 17, .int .i64 (H.pk ra (65) - (k : Int) - 1)])) := hown3
        clear hown3 hg3 hb3 HO HB hne hv3
        go_wp2
        go_roundw
        case rel =>
          refine ⟨k + 1, cap3, some ⟨g3, 0, none⟩, acc ++ [(17, H.pk ra (65) - (k : Int) - 1)], HV.out, by omega, by simp [Hk.out], by go_num, ?_, HB3.out, H.good_snoc HG.out (by simp [H.alone]; omega) (by unfold H.lands; rw [if_pos (by omega), Hk.out]; simp; omega) (by omega)⟩
          rw [insCells_snoc, ← HV.out]
          exact HO3.out
        case measure => simp [intOf]; omega
      have b1 : (o == 1) = false := by simpa using h1
      have b2 : (o == 2) = false := by simpa using h2
      have b3 : (o == 3) = false := by simpa using h3
      have b25 : (o == 25) = false := by simpa using h25
      have b16 : (o == 16) = false := by simpa using h16
      have b17 : (o == 17) = false := by simpa using h17
      have Hal : Hid (H.alone o 0 = true) := by unfold Hid; simp [H.alone, h1, h2, h3, h25, h16, h17]; omega
      have Hla : Hid (H.lands 64 acc.length o 0 = true) := lands_other h16 h17
      clear h1 h2 h3 h25 h16 h17
      go_wp2_with (first
        | (go_at_call 10; refine (pick_any _ _ _ (by omega) (by omega) (by omega) (by omega)).mono ?_; rintro e w' ⟨rfl, rfl⟩)
        | (at_builtin; refine wpList_append_own _ rfl (.tmp 71) (.tmp 73) 38 rfl w.heap.size 52 i0 (.agg #[.int .u8 0, .int .i64 0]) 2 16 Try.underlying38 hi hz0 hz1 hz2 rfl (by decide) _ _ _ rfl ((HO.out.alloc _).alloc _) ⟨wr.heap.size + 1, 0, none⟩ 1 1 [.int .u8 o, .int .i64 (0)] rfl rfl (new_two1 _ _ _ _ _) (by intro u hu; simp at hu; rcases hu with rfl | rfl <;> rfl) (by unfold maxLen; omega) (by omega) (by simp; omega) ?_))
      intro v3 w3 hown3 hg3 _
      have hb3 : Below w.heap.size w w3 := below_app ((HB.out.alloc hsz _).alloc (by simp; omega) _) hg3 ((HO.out.alloc _).alloc _) (Nat.le_refl _) (by simp; omega)
      obtain ⟨g3, cap3, hv3⟩ : ∃ g3 cap3, v3 = .slice (some ⟨g3, 0, none⟩) (k + 1) cap3 := by
        rcases hown3.2 with ⟨_, h⟩ | ⟨g3, cap3, _, h, _⟩
        · omega
        · exact ⟨g3, cap3, h⟩
      have HV : Hid (v3 = .slice (some ⟨g3, 0, none⟩) (k + 1) cap3) := hv3
      have HB3 : Hid (Below w.heap.size w w3) := hb3
      have HO3 : Hid (w3.ownsRow w.heap.size 52 2 v3 (k + 1) (insCells acc ++ [.int .u8 o, .int .i64 (0)])) := hown3
      clear hown3 hg3 hb3 HO HB hne hv3
      go_wp2
      go_roundw
      case rel =>
        refine ⟨k + 1, cap3, some ⟨g3, 0, none⟩, acc ++ [(o, 0)], HV.out, by omega, by simp [Hk.out], by go_num, ?_, HB3.out, H.good_snoc HG.out Hal.out Hla.out (by omega)⟩
        rw [insCells_snoc, ← HV.out]
        exact HO3.out
      case measure => simp [intOf]; omega
    · have hkM : k = 64 := by omega
      have hz : ((64 : Int) == 0) = false := by first | rfl | (rw [beq_eq_false_iff_ne]; omega)
      clear hlt
      go_wp2
      go_ret
      refine ⟨_, acc, rfl, by rw [Hk.out]; omega, by rw [Hk.out]; omega, ?_, ?_, HB.out⟩
      · rw [Hk.out, hkM]; exact HG.out
      · rw [Hk.out]; exact HO.out

theorem code_any (ao : Option Addr) (b off n cap : Nat) (raw : List (Int × Int)) (w : World) (hao : 0 < n → ao = some ⟨b, off, none⟩) (hn : raw.length = n) (hmax : n ≤ maxLen) (hraw : rawOk raw) (hrow : InsRow w b off raw) :
    Calls Try.prog 45 #[.slice ao n cap] w fun e w' => codeEnd w e w' := by
  by_cases h0 : n = 0
  · subst h0; exact code_nil ao cap w
  · obtain rfl := hao (by omega)
    by_cases h64 : n ≤ 64
    · exact code_mid b off n cap raw w (by omega) h64 hn hmax hraw hrow
    · exact code_long b off n cap raw w (by omega) hn hmax hraw hrow

end Go.Proofs.Ytidaflmmldefcaa

/-
  Small facts on texts and rows.
-/
namespace Go.Proofs.Ytidaflmmldefcaa
open Go.RowKit
set_option linter.unusedVariables false

theorem bts_strOfNums (xs : List Int) (h : ∀ x ∈ xs, 0 ≤ x ∧ x ≤ 255) : H.bts (strOfNums xs) = xs := by
  unfold H.bts
  rw [strOfNums_data]
  simp only [List.map_map]
  conv => rhs; rw [← List.map_id xs]
  apply List.map_congr_left
  intro x hx
  have := h x hx
  simp [UInt8.toNat_ofNat']
  omega

theorem enc_bytes (o a : Int) (h0 : 0 ≤ o) (h1 : o ≤ 255) : ∀ x ∈ H.enc o a, 0 ≤ x ∧ x ≤ 255 := by
  intro x hx
  unfold H.enc at hx
  split at hx
  · simp at hx; omega
  · split at hx
    · simp at hx; omega
    · simp at hx; omega

theorem encAll_bytes (l : List (Int × Int)) (h : ∀ x ∈ l, 0 ≤ x.1 ∧ x.1 ≤ 255) : ∀ x ∈ H.encAll l, 0 ≤ x ∧ x ≤ 255 := by
  intro x hx
  unfold H.encAll at hx
  obtain ⟨y, hy, hxy⟩ := List.mem_flatMap.1 hx
  exact enc_bytes _ _ (h y hy).1 (h y hy).2 x hxy

theorem good_ops {n : Nat} {l : List (Int × Int)} (h : H.good n l) : ∀ x ∈ l, 0 ≤ x.1 ∧ x.1 ≤ 255 := by
  intro x hx
  obtain ⟨i, hi⟩ := List.mem_iff_getElem?.1 hx
  have h1 := h i x hi
  have := H.alone_op _ _ h1.1
  omega

theorem bts_append (s t : ByteArray) : H.bts (s ++ t) = H.bts s ++ H.bts t := by
  unfold H.bts
  simp

theorem own_slice {w : World} {base n : Nat} {v : Value} {xs : List Value} {e size : Nat} (h : w.ownsRow base e size v n xs) (hn : n ≠ 0) : ∃ g cap, v = .slice (some ⟨g, 0, none⟩) n cap ∧ g < w.heap.size := by
  rcases h.2 with ⟨_, h⟩ | ⟨g, cap, _, h, _, hh, _⟩
  · omega
  · exact ⟨g, cap, h, lt_of_block hh⟩

theorem strOfNums_bts (s : ByteArray) : strOfNums (H.bts s) = s := by
  have h : (strOfNums (H.bts s)).data.toList = s.data.toList := by
    rw [strOfNums_data]
    unfold H.bts
    simp only [List.map_map]
    conv => rhs; rw [← List.map_id s.data.toList]
    apply List.map_congr_left
    intro x _
    simp
  have h2 : (strOfNums (H.bts s)).data = s.data := Array.toList_inj.1 h
  cases s
  cases hs : strOfNums (H.bts _)
  rw [hs] at h2
  simp at h2
  rw [h2]

theorem ff_one : (⟨#[255]⟩ : ByteArray).size = 1 := rfl
theorem ff_size (t : ByteArray) (h : t.size ≤ 200) : ((⟨#[255]⟩ : ByteArray) ++ t).size ≤ maxLen ∧ (t ++ (⟨#[255]⟩ : ByteArray)).size ≤ maxLen := by
  rw [ByteArray.size_append, ByteArray.size_append, ff_one]
  unfold maxLen
  omega

end Go.Proofs.Ytidaflmmldefcaa

/-
  The walk of the statements' own function text.
-/
namespace Go.Proofs.Ytidaflmmldefcaa
open Go.RowKit
set_option linter.unusedVariables false

/-- What text hands back: the bytes of a right program. -/
def textEnd (w : World) (e : Ending) (w' : World) : Prop :=
  ∃ t l, e = .returned (.tuple #[.string t, .bool true]) ∧ 1 ≤ l.length ∧ H.decode (H.bts t) = (l, 0, 0) ∧ t.size ≤ 200 ∧ Below w.heap.size w w'

set_option maxHeartbeats 2000000 in
theorem text_any (ao : Option Addr) (b off n cap : Nat) (raw : List (Int × Int)) (w : World) (hao : 0 < n → ao = some ⟨b, off, none⟩) (hn : raw.length = n) (hmax : n ≤ maxLen) (hraw : rawOk raw) (hrow : InsRow w b off raw) :
    Calls Try.prog 36 #[.slice ao n cap] w fun e w' => textEnd w e w' := by
  have HCod : Hid (Calls Try.prog 45 #[.slice ao n cap] w fun e w' => codeEnd w e w') := code_any ao b off n cap raw w hao hn hmax hraw hrow
  clear hao hn hmax hraw hrow
  go_enter Try.func36, Try.ntmps36
  go_wp2_with fail
  refine HCod.out.mono ?_
  rintro e w1 ⟨v, l, rfl, h1, h64, hg, hown, hb1⟩
  obtain ⟨g, cv, rfl, hgl⟩ := own_slice hown (by omega)
  obtain ⟨m, hm⟩ : ∃ m, m = l.length := ⟨_, rfl⟩
  have Hm : Hid (m = l.length) := hm
  rw [← hm] at h1 h64 hg hown ⊢
  have HG : Hid (H.good m l) := hg
  have HO1 : Hid (w1.ownsRow w.heap.size 52 2 (.slice (some ⟨g, 0, none⟩) m cv) m (insCells l)) := hown
  have HB1 : Hid (Below w.heap.size w w1) := hb1
  have hs1 := hb1.size
  have hok : Hid (H.okFrom m 0 l = true) := H.good_okFrom hg
  clear hg hown hb1 hm HCod
  go_wp2_with fail
  refine (enc_mid g 0 m cv l _ h1 h64 Hm.out.symm (own_insRow HO1.out Hm.out.symm)).mono ?_
  rintro e w2 ⟨rfl, hb2⟩
  obtain ⟨t, ht⟩ : ∃ t, t = strOfNums (H.encAll l) := ⟨_, rfl⟩
  have e1 : encS m l = t := by rw [ht]; unfold encS; rw [hok.out]; rfl
  have e2 : encE m l = 0 := by unfold encE; rw [hok.out]; rfl
  rw [e1, e2]
  have Ht : Hid (H.bts t = H.encAll l) := by unfold Hid; rw [ht]; exact bts_strOfNums _ (encAll_bytes _ (good_ops HG.out))
  have htl := H.encAll_length l
  have htz : t.size ≤ 200 := by
    rw [← H.bts_length t, Ht.out]
    have := Hm.out
    omega
  have htp : 0 < t.size := by
    rw [← H.bts_length t, Ht.out]
    have := Hm.out
    omega
  have htp' : (0 : Int) < (t.size : Int) := by omega
  have HB2 : Hid (Below w.heap.size w w2) := HB1.out.trans (hb2.mono hs1)
  have HD : Hid (H.decode (H.bts t) = (l, 0, 0)) := by
    unfold Hid
    rw [Ht.out]
    exact H.decode_enc l (by have := Hm.out; omega) (by have := Hm.out; omega) (by rw [← Hm.out]; exact hok.out)
  clear hb2 e1 e2 ht htl HO1 HB1
  go_wp2
  go_ret2
  exact ⟨t, l, rfl, by have := Hm.out; omega, HD.out, htz, HB2.out⟩

end Go.Proofs.Ytidaflmmldefcaa
