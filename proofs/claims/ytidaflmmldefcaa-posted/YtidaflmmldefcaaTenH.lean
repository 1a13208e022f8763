/-
  The walk of hold.
-/
import Derived.Test.YtidaflmmldefcaaJTen
import Derived.Deep.RegionWith
import Derived.Deep.Cut
import Derived.Deep.CutRange
namespace Go.Proofs.Ytidaflmmldefcaa
open Go.RowKit
set_option linter.unusedVariables false

/-- What is shown of a tenant that is Held. -/
def heldShow : List Tr.T.Sh := [(65535, ⟨#[33]⟩)]
/-- A tenant is shut out. -/
def Tn.hold (x : Tn) (n fault steps : Int) : Tn :=
  ({ ({ x with phase := 2, until_ := n + x.back * 2 ^ x.dbl.toNat, dbl := if x.dbl < 4 then x.dbl + 1 else x.dbl } : Tn).show heldShow with box := [] } : Tn).note n 2 fault (steps % 65536)

set_option maxHeartbeats 8000000 in
theorem hold_any {w : World} {tb o : Nat} {x : Tn} {nv bv lv : Value} (h : TenAt w tb o x nv bv lv) (n f s d k0 k1 k2 k3 k4 k5 k6 k7 : Int) (sv dv : Value) (hll : x.log.length ≤ 100000) (hb0 : 0 ≤ x.back) (hb1 : x.back ≤ 100000) (hd0 : 0 ≤ x.dbl) (hd1 : x.dbl ≤ 4) (hn0 : 0 ≤ n) (hn1 : n ≤ 1000000) (hf0 : 0 ≤ f) (hf1 : f ≤ 255) (hko : Tr.ndOk x.nodes) :
    Calls Try.prog 49 #[.pointer (some ⟨tb, o, none⟩), .int .i64 n, .agg #[.int .u8 f, .int .i64 s, .int .i64 d, .int .u16 k0, .int .u16 k1, .int .u16 k2, .int .u16 k3, .int .u16 k4, .int .u16 k5, .int .u16 k6, .int .u16 k7, sv, dv]] w fun e w' => e = .returned (.tuple #[]) ∧ TAft w tb o bv lv (x.hold n f s) w' := by
  have HT : Hid (TenAt w tb o x nv bv lv) := h
  have htb := h.slot.lt
  obtain ⟨OB, hOB⟩ : ∃ OB, OB = Obj.cells #[.int .u8 f, .int .i64 s, .int .i64 d, .int .u16 k0, .int .u16 k1, .int .u16 k2, .int .u16 k3, .int .u16 k4, .int .u16 k5, .int .u16 k6, .int .u16 k7, sv, dv] 115 := ⟨_, rfl⟩
  have hne : ¬ tb = w.heap.size := by omega
  have hne' : ¬ w.heap.size = tb := by omega
  have c6 := h.slot.cell 6 rfl
  have c7 := h.slot.cell 7 rfl
  have c19 := h.slot.cell 19 rfl
  have c20 := h.slot.cell 20 rfl
  have fz : ∀ i, w.frozen? ⟨tb, i, none⟩ = false := fun i => h.slot.free i
  have hpw : x.back * 2 ^ x.dbl.toNat ≤ 100000 * 16 := by
    have h1 : (2 : Int) ^ x.dbl.toNat ≤ 16 := by
      rcases (show x.dbl.toNat = 0 ∨ x.dbl.toNat = 1 ∨ x.dbl.toNat = 2 ∨ x.dbl.toNat = 3 ∨ x.dbl.toNat = 4 by omega) with e | e | e | e | e <;> rw [e] <;> decide
    have h2 : (0 : Int) ≤ 2 ^ x.dbl.toNat := Int.pow_nonneg (by decide)
    exact Int.mul_le_mul hb1 h1 h2 (by decide)
  have hpw0 : 0 ≤ x.back * 2 ^ x.dbl.toNat := Int.mul_nonneg hb0 (Int.pow_nonneg (by decide))
  have HKo : Hid (Tr.ndOk x.nodes) := hko
  obtain ⟨un, hun⟩ : ∃ un, un = n + x.back * 2 ^ x.dbl.toNat := ⟨_, rfl⟩
  obtain ⟨D, hD⟩ : ∃ D, D = (if x.dbl < 4 then x.dbl + 1 else x.dbl) := ⟨_, rfl⟩
  have HE : Hid (x.hold n f s = ({ ({ x with phase := 2, until_ := un, dbl := D } : Tn).show heldShow with box := [] } : Tn).note n 2 f (s % 65536)) := by
    unfold Hid Tn.hold
    rw [hun, hD]
  have HUn : Hid (un = n + x.back * 2 ^ x.dbl.toNat) := hun
  have hf : IntKind.u16.wrap f = f := by rw [IntKind.wrap_u16]; omega
  have hsw : IntKind.u16.wrap s = s % 65536 := by simp [IntKind.wrap, IntKind.signed, IntKind.bits]
  clear h hko hun
  go_enter Try.func49, Try.ntmps49
  go_upto_region 2 with fail
  go_region
  obtain ⟨W3, hW3⟩ : ∃ W3, W3 = (((w.setCell ⟨tb, o + 7, none⟩ (.int .u8 2)).setCell ⟨tb, o + 19, none⟩ (.int .i64 (n + x.back * 2 ^ x.dbl.toNat))).alloc (.cells #[.int .u8 f, .int .i64 s, .int .i64 d, .int .u16 k0, .int .u16 k1, .int .u16 k2, .int .u16 k3, .int .u16 k4, .int .u16 k5, .int .u16 k6, .int .u16 k7, sv, dv] 115)).drew := ⟨_, rfl⟩
  have HT3 : Hid (TenAt W3 tb o { x with phase := 2, until_ := un } nv bv lv) := by
    unfold Hid; rw [hW3, HUn.out]
    exact (((HT.out.set_phase 2).set_until (n + x.back * 2 ^ x.dbl.toNat)).alloc _).drew
  have HF3 : Hid (TFr w W3 tb o bv lv) := by
    unfold Hid; rw [hW3]
    exact ((((TFr.refl _ _ _ _ _).set 7 (by decide) _).set 19 (by decide) _).alloc (by simpa using htb) _).drew
  have HO3 : Hid (Blk W3 w.heap.size #[.int .u8 f, .int .i64 s, .int .i64 d, .int .u16 k0, .int .u16 k1, .int .u16 k2, .int .u16 k3, .int .u16 k4, .int .u16 k5, .int .u16 k6, .int .u16 k7, sv, dv] 115) := by
    unfold Hid; rw [hW3]
    have h := Blk.new ((w.setCell ⟨tb, o + 7, none⟩ (.int .u8 2)).setCell ⟨tb, o + 19, none⟩ (.int .i64 (n + x.back * 2 ^ x.dbl.toNat))) #[.int .u8 f, .int .i64 s, .int .i64 d, .int .u16 k0, .int .u16 k1, .int .u16 k2, .int .u16 k3, .int .u16 k4, .int .u16 k5, .int .u16 k6, .int .u16 k7, sv, dv] 115
    rw [show ((w.setCell ⟨tb, o + 7, none⟩ (.int .u8 2)).setCell ⟨tb, o + 19, none⟩ (.int .i64 (n + x.back * 2 ^ x.dbl.toNat))).heap.size = w.heap.size by simp [World.setCell]] at h
    exact h
  rw [← hW3]
  clear hW3 c6 c7 c19 c20 fz hpw hpw0
  have c20 : W3.cell? ⟨tb, o + 20, none⟩ = some (.int .u8 x.dbl) := HT3.out.slot.cell 20 rfl
  have fz : ∀ i, W3.frozen? ⟨tb, i, none⟩ = false := fun i => HT3.out.slot.free i
  by_cases hd4 : x.dbl < 4
  · have hw : IntKind.u8.wrap (x.dbl + 1) = x.dbl + 1 := by rw [IntKind.wrap_u8]; omega
    have HDe : Hid (D = x.dbl + 1) := by unfold Hid; rw [hD, if_pos hd4]
    go_upto_region 5 with fail
    obtain ⟨W4, hW4⟩ : ∃ W4, W4 = W3.setCell ⟨tb, o + 20, none⟩ (.int .u8 (x.dbl + 1)) := ⟨_, rfl⟩
    have HT4 : Hid (TenAt W4 tb o { x with phase := 2, until_ := un, dbl := D } nv bv lv) := by
      unfold Hid; rw [hW4, HDe.out]; exact HT3.out.set_dbl (x.dbl + 1)
    have HF4 : Hid (TFr w W4 tb o bv lv) := by unfold Hid; rw [hW4]; exact HF3.out.set 20 (by decide) _
    have HO4 : Hid (Blk W4 w.heap.size #[.int .u8 f, .int .i64 s, .int .i64 d, .int .u16 k0, .int .u16 k1, .int .u16 k2, .int .u16 k3, .int .u16 k4, .int .u16 k5, .int .u16 k6, .int .u16 k7, sv, dv] 115) := by unfold Hid; rw [hW4]; exact HO3.out.other ⟨tb, o + 20, none⟩ _ (by simpa using hne')
    rw [← hW4]
    clear hW4 c20 fz HT3 HF3 HO3 HDe hw
    have HSh : Hid (Tr.ShAt (W4.alloc (.cells #[.int .u16 65535, .string ⟨#[33]⟩] 129)) (some ⟨W4.heap.size, 0, none⟩) heldShow) := by
      refine Or.inr ⟨W4.heap.size, 0, rfl, by simp, ?_⟩
      intro i y hy
      have hb := Blk.new W4 #[.int .u16 65535, .string ⟨#[33]⟩] 129
      match i, hy with
      | 0, hy =>
        simp [heldShow] at hy
        subst hy
        exact ⟨by rw [hb.cell]; rfl, by rw [hb.cell]; rfl⟩
      | (i + 1), hy => simp [heldShow] at hy
    have HT5 : Hid (TenAt (W4.alloc (.cells #[.int .u16 65535, .string ⟨#[33]⟩] 129)) tb o { x with phase := 2, until_ := un, dbl := D } nv bv lv) := HT4.out.alloc _
    have HF5 : Hid (TFr w (W4.alloc (.cells #[.int .u16 65535, .string ⟨#[33]⟩] 129)) tb o bv lv) := HF4.out.alloc HT4.out.slot.lt _
    have HO5 : Hid (Blk (W4.alloc (.cells #[.int .u16 65535, .string ⟨#[33]⟩] 129)) w.heap.size #[.int .u8 f, .int .i64 s, .int .i64 d, .int .u16 k0, .int .u16 k1, .int .u16 k2, .int .u16 k3, .int .u16 k4, .int .u16 k5, .int .u16 k6, .int .u16 k7, sv, dv] 115) := HO4.out.alloc _
    clear HT4 HF4 HO4
    go_wp2_with fail
    refine (tshow_any HT5.out (some ⟨W4.heap.size, 0, none⟩) 1 heldShow (by decide) HSh.out (by intro y hy; simp [heldShow] at hy; subst hy; exact ⟨by decide, by unfold maxLen; decide⟩) HKo.out).mono ?_
    rintro e w6 ⟨rfl, nv6, bv6, lv6, ht6, hf6, hm6, hm7⟩
    have HT6 : Hid (TenAt w6 tb o (({ x with phase := 2, until_ := un, dbl := D } : Tn).show heldShow) nv6 bv6 lv6) := ht6
    have HF6 : Hid (TFr w w6 tb o bv lv) := HF5.out.trans hf6 (Moved.refl _ _) (Moved.refl _ _)
    have HM6 : Hid (Moved w bv bv6 ∧ Moved w lv lv6) := ⟨(Moved.refl w bv).trans hm6 HF5.out.kept.size, (Moved.refl w lv).trans hm7 HF5.out.kept.size⟩
    have HO6 : Hid (Blk w6 w.heap.size #[.int .u8 f, .int .i64 s, .int .i64 d, .int .u16 k0, .int .u16 k1, .int .u16 k2, .int .u16 k3, .int .u16 k4, .int .u16 k5, .int .u16 k6, .int .u16 k7, sv, dv] 115) := by
      refine HO5.out.of_block (hf6.kept.block _ HO5.out.lt ?_)
      obtain ⟨c1, q1, _⟩ := HT5.out.slot
      intro q
      rcases q with q | q | q
      · exact HO5.out.ne q1 (by decide) q
      · obtain ⟨c2, q2⟩ := HT5.out.box.blk q.symm
        exact HO5.out.ne q2 (by decide) rfl
      · exact HO5.out.ne_own HT5.out.log (by decide) q
    have c17 := ht6.slot.cell 17 rfl
    have fz6 : ∀ i, w6.frozen? ⟨tb, i, none⟩ = false := fun i => ht6.slot.free i
    have o0 : w6.cell? ⟨w.heap.size, 0, none⟩ = some (.int .u8 f) := by rw [HO6.out.cell 0]; rfl
    have o1 : w6.cell? ⟨w.heap.size, 1, none⟩ = some (.int .i64 s) := by rw [HO6.out.cell 1]; rfl
    obtain ⟨ao, cap, hv, _⟩ := ht6.box.shape
    subst hv
    clear ht6 hf6 hm6 hm7 HT5 HF5 HO5 HSh
    obtain ⟨W7, hW7⟩ : ∃ W7, W7 = w6.setCell ⟨tb, o + 17, none⟩ (.slice none 0 0) := ⟨_, rfl⟩
    go_upto_region 7 with fail
    rw [← hW7]
    have HT7 : Hid (TenAt W7 tb o { ({ x with phase := 2, until_ := un, dbl := D } : Tn).show heldShow with box := [] } nv6 (.slice none 0 0) lv6) := by unfold Hid; rw [hW7]; exact HT6.out.set_box (BoxAt.nil _)
    have HF7 : Hid (TFr w W7 tb o bv lv) := by unfold Hid; rw [hW7]; exact HF6.out.set 17 (by decide) _
    have p0 : W7.cell? ⟨w.heap.size, 0, none⟩ = some (.int .u8 f) := by rw [hW7]; rw [(HO6.out.other ⟨tb, o + 17, none⟩ (.slice none 0 0) (by simpa using hne')).cell 0]; rfl
    have p1 : W7.cell? ⟨w.heap.size, 1, none⟩ = some (.int .i64 s) := by rw [hW7]; rw [(HO6.out.other ⟨tb, o + 17, none⟩ (.slice none 0 0) (by simpa using hne')).cell 1]; rfl
    clear hW7 c17 fz6 o0 o1 HT6 HF6 HO6
    go_wp2_with fail
    refine (note_any HT7.out n 2 f (s % 65536) hll).mono ?_
    rintro e w8 ⟨rfl, ha⟩
    have HA : Hid (TAft w tb o bv lv (x.hold n f s) w8) := by
      unfold Hid
      rw [HE.out]
      exact TAft.trans HF7.out (Moved.nil _ _) HM6.out.2 ha
    clear ha
    go_wp2
    go_end0
    exact ⟨rfl, HA.out⟩
  · have HDe : Hid (D = x.dbl) := by unfold Hid; rw [hD, if_neg hd4]
    go_upto_region 5 with fail
    obtain ⟨W4, hW4⟩ : ∃ W4, W4 = W3 := ⟨_, rfl⟩
    have HT4 : Hid (TenAt W4 tb o { x with phase := 2, until_ := un, dbl := D } nv bv lv) := by
      unfold Hid; rw [hW4, HDe.out]; exact HT3.out
    have HF4 : Hid (TFr w W4 tb o bv lv) := by unfold Hid; rw [hW4]; exact HF3.out
    have HO4 : Hid (Blk W4 w.heap.size #[.int .u8 f, .int .i64 s, .int .i64 d, .int .u16 k0, .int .u16 k1, .int .u16 k2, .int .u16 k3, .int .u16 k4, .int .u16 k5, .int .u16 k6, .int .u16 k7, sv, dv] 115) := by unfold Hid; rw [hW4]; exact HO3.out
    rw [← hW4]
    clear hW4 c20 fz HT3 HF3 HO3 HDe
    have HSh : Hid (Tr.ShAt (W4.alloc (.cells #[.int .u16 65535, .string ⟨#[33]⟩] 129)) (some ⟨W4.heap.size, 0, none⟩) heldShow) := by
      refine Or.inr ⟨W4.heap.size, 0, rfl, by simp, ?_⟩
      intro i y hy
      have hb := Blk.new W4 #[.int .u16 65535, .string ⟨#[33]⟩] 129
      match i, hy with
      | 0, hy =>
        simp [heldShow] at hy
        subst hy
        exact ⟨by rw [hb.cell]; rfl, by rw [hb.cell]; rfl⟩
      | (i + 1), hy => simp [heldShow] at hy
    have HT5 : Hid (TenAt (W4.alloc (.cells #[.int .u16 65535, .string ⟨#[33]⟩] 129)) tb o { x with phase := 2, until_ := un, dbl := D } nv bv lv) := HT4.out.alloc _
    have HF5 : Hid (TFr w (W4.alloc (.cells #[.int .u16 65535, .string ⟨#[33]⟩] 129)) tb o bv lv) := HF4.out.alloc HT4.out.slot.lt _
    have HO5 : Hid (Blk (W4.alloc (.cells #[.int .u16 65535, .string ⟨#[33]⟩] 129)) w.heap.size #[.int .u8 f, .int .i64 s, .int .i64 d, .int .u16 k0, .int .u16 k1, .int .u16 k2, .int .u16 k3, .int .u16 k4, .int .u16 k5, .int .u16 k6, .int .u16 k7, sv, dv] 115) := HO4.out.alloc _
    clear HT4 HF4 HO4
    go_wp2_with fail
    refine (tshow_any HT5.out (some ⟨W4.heap.size, 0, none⟩) 1 heldShow (by decide) HSh.out (by intro y hy; simp [heldShow] at hy; subst hy; exact ⟨by decide, by unfold maxLen; decide⟩) HKo.out).mono ?_
    rintro e w6 ⟨rfl, nv6, bv6, lv6, ht6, hf6, hm6, hm7⟩
    have HT6 : Hid (TenAt w6 tb o (({ x with phase := 2, until_ := un, dbl := D } : Tn).show heldShow) nv6 bv6 lv6) := ht6
    have HF6 : Hid (TFr w w6 tb o bv lv) := HF5.out.trans hf6 (Moved.refl _ _) (Moved.refl _ _)
    have HM6 : Hid (Moved w bv bv6 ∧ Moved w lv lv6) := ⟨(Moved.refl w bv).trans hm6 HF5.out.kept.size, (Moved.refl w lv).trans hm7 HF5.out.kept.size⟩
    have HO6 : Hid (Blk w6 w.heap.size #[.int .u8 f, .int .i64 s, .int .i64 d, .int .u16 k0, .int .u16 k1, .int .u16 k2, .int .u16 k3, .int .u16 k4, .int .u16 k5, .int .u16 k6, .int .u16 k7, sv, dv] 115) := by
      refine HO5.out.of_block (hf6.kept.block _ HO5.out.lt ?_)
      obtain ⟨c1, q1, _⟩ := HT5.out.slot
      intro q
      rcases q with q | q | q
      · exact HO5.out.ne q1 (by decide) q
      · obtain ⟨c2, q2⟩ := HT5.out.box.blk q.symm
        exact HO5.out.ne q2 (by decide) rfl
      · exact HO5.out.ne_own HT5.out.log (by decide) q
    have c17 := ht6.slot.cell 17 rfl
    have fz6 : ∀ i, w6.frozen? ⟨tb, i, none⟩ = false := fun i => ht6.slot.free i
    have o0 : w6.cell? ⟨w.heap.size, 0, none⟩ = some (.int .u8 f) := by rw [HO6.out.cell 0]; rfl
    have o1 : w6.cell? ⟨w.heap.size, 1, none⟩ = some (.int .i64 s) := by rw [HO6.out.cell 1]; rfl
    obtain ⟨ao, cap, hv, _⟩ := ht6.box.shape
    subst hv
    clear ht6 hf6 hm6 hm7 HT5 HF5 HO5 HSh
    obtain ⟨W7, hW7⟩ : ∃ W7, W7 = w6.setCell ⟨tb, o + 17, none⟩ (.slice none 0 0) := ⟨_, rfl⟩
    go_upto_region 7 with fail
    rw [← hW7]
    have HT7 : Hid (TenAt W7 tb o { ({ x with phase := 2, until_ := un, dbl := D } : Tn).show heldShow with box := [] } nv6 (.slice none 0 0) lv6) := by unfold Hid; rw [hW7]; exact HT6.out.set_box (BoxAt.nil _)
    have HF7 : Hid (TFr w W7 tb o bv lv) := by unfold Hid; rw [hW7]; exact HF6.out.set 17 (by decide) _
    have p0 : W7.cell? ⟨w.heap.size, 0, none⟩ = some (.int .u8 f) := by rw [hW7]; rw [(HO6.out.other ⟨tb, o + 17, none⟩ (.slice none 0 0) (by simpa using hne')).cell 0]; rfl
    have p1 : W7.cell? ⟨w.heap.size, 1, none⟩ = some (.int .i64 s) := by rw [hW7]; rw [(HO6.out.other ⟨tb, o + 17, none⟩ (.slice none 0 0) (by simpa using hne')).cell 1]; rfl
    clear hW7 c17 fz6 o0 o1 HT6 HF6 HO6
    go_wp2_with fail
    refine (note_any HT7.out n 2 f (s % 65536) hll).mono ?_
    rintro e w8 ⟨rfl, ha⟩
    have HA : Hid (TAft w tb o bv lv (x.hold n f s) w8) := by
      unfold Hid
      rw [HE.out]
      exact TAft.trans HF7.out (Moved.nil _ _) HM6.out.2 ha
    clear ha
    go_wp2
    go_end0
    exact ⟨rfl, HA.out⟩
end Go.Proofs.Ytidaflmmldefcaa
