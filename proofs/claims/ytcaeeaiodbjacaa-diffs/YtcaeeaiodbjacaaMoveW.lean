/-
  The walks of behind, move and removeOthers.
-/
import Derived.Test.YtcaeeaiodbjacaaDoW
namespace Go.Proofs.Ytcaeeaiodbjacaa
open Go.RowKit
set_option linter.unusedVariables false

/-- A tree on its way, of a size. -/
def Fit (c : T.Ch) : Prop := c.1.length ≤ 16 ∧ ndOk c.1

theorem fit_do {c : T.Ch} {p : T.Pt} (h : Fit c) (hp : (0 ≤ p.2.1 ∧ p.2.1 ≤ 255) ∧ (0 ≤ p.2.2.2.1 ∧ p.2.2.2.1 ≤ 65535) ∧ p.2.2.2.2.size ≤ maxLen) : Fit (T.doP c p) := by
  unfold Fit T.doP
  simp only
  cases hq : T.patchP c.1 p with
  | none => exact ⟨by simp, by intro x hx; simp at hx⟩
  | some r => exact patchP_ok h.1 h.2 hp hq

set_option maxRecDepth 100000 in
set_option maxHeartbeats 1000000 in
theorem behind_any {w : World} {base B : Nat} {c : T.Ch} (h : CB w base B c) (hf : Fit c) (ao : Option Addr) (cap : Nat) (l : List T.Nd) (hl : l.length ≤ 16) (ha : NodeAt w ao l) :
    Calls Try.prog 54 #[.pointer (some ⟨B, 0, none⟩), .slice ao l.length cap] w fun e w' => e = .returned (.int .i64 (T.behind c.1 l)) ∧ Below w.heap.size w w' := by
  obtain ⟨no, nc, c0, hBl, hnc, hnn, hna⟩ := h.now
  have HP : Hid (∀ (i : Int) (u : World), Below w.heap.size w u → Calls Try.prog 49 #[.slice no c.1.length nc, .int .u8 i] u fun e w' => e = .returned (.int .i64 (T.place c.1 i)) ∧ Below u.heap.size u w') := fun i u hu => place_any no nc c.1 i u (by have := hf.1; unfold maxLen; omega) (hna.below hu (Nat.le_refl _) hu.size)
  have hpl : ∀ i, -1 ≤ T.place c.1 i ∧ T.place c.1 i < 16 := by
    intro i
    have := hf.1
    cases hh : T.has c.1 i with
    | false => rw [T.place_no hh]; omega
    | true => have := T.place_yes hh; omega
  generalize c.1.length = nn at HP c0
  cases hlast : l.getLast? with
  | none =>
    have hl0 : l = [] := by simpa using hlast
    subst hl0
    have HV : Hid (T.behind c.1 [] = 0) := rfl
    go_enter Try.func54, Try.ntmps54
    go_wp2
    go_ret
    rw [HV.out]
    exact ⟨rfl, Below.refl _ _⟩
  | some z =>
    have HV : Hid (T.behind c.1 l = T.place c.1 z.1 + 1) := by unfold Hid T.behind; rw [hlast]
    have hlen : 0 < l.length := by
      cases l with
      | nil => simp at hlast
      | cons x r => simp
    obtain ⟨b, off, rfl, hbl, hr⟩ : ∃ b off, ao = some ⟨b, off, none⟩ ∧ b < w.heap.size ∧ NodeRow w b off l := ha.resolve_left (by rintro rfl; simp at hlen)
    have hz : l[l.length - 1]? = some z := by rw [← List.getLast?_eq_getElem?]; exact hlast
    obtain ⟨d0, d1, d2⟩ := hr _ _ hz
    obtain ⟨m, hm⟩ : ∃ m, m = l.length := ⟨_, rfl⟩
    obtain ⟨n, hn⟩ : ∃ n, n = m - 1 := ⟨_, rfl⟩
    rw [← hm] at d0 d1 d2 hl hlen ⊢
    rw [← hn] at d0 d1 d2
    have hpz := hpl z.1
    obtain ⟨pz, hpe⟩ : ∃ p, p = T.place c.1 z.1 := ⟨_, rfl⟩
    have HPz : Hid (pz = T.place c.1 z.1) := hpe
    rw [← hpe] at hpz
    have HC : Hid (∀ (u : World), Below w.heap.size w u → Calls Try.prog 49 #[.slice no nn nc, .int .u8 z.1] u fun e w' => e = .returned (.int .i64 pz) ∧ Below u.heap.size u w') := by
      intro u hu
      have := HP.out z.1 u hu
      rw [← hpe] at this
      exact this
    have hidx : (m : Int) - 1 = (n : Int) := by omega
    have hni : (n : Int) < (m : Int) := by omega
    have hn0 : (0 : Int) ≤ (n : Int) := by omega
    have hne : ((m : Int) == 0) = false := by rw [beq_eq_false_iff_ne]; omega
    have hm1 : 1 ≤ m := by omega
    have hwp : IntKind.i64.wrap (pz + 1) = pz + 1 := by rw [IntKind.wrap_i64]; omega
    have hwn : IntKind.i64.wrap (n : Int) = (n : Int) := by rw [IntKind.wrap_i64]; omega
    clear hr hz hlast ha HP hpl hpe hn hm
    go_enter Try.func54, Try.ntmps54
    go_wp2_with fail
    go_region_with (go_at_call 49; refine (HC.out _ (by first | exact Below.refl _ _ | exact (Below.refl _ _).drew)).mono ?_; rintro e w1 ⟨rfl, hb1⟩)
    all_goals
      have HB1 : Hid (Below w.heap.size w w1) := ((Below.refl _ _).drew).trans hb1
      clear hb1
      go_wp2
      go_ret
      rw [HV.out, ← HPz.out]
      refine ⟨?_, HB1.out⟩
      first | rfl | exact ret_int hwp | (simp [hwp])

set_option maxRecDepth 100000 in
set_option maxHeartbeats 1000000 in
theorem move_any {w : World} {base B : Nat} {c : T.Ch} (h : CB w base B c) (hB : base ≤ B) (hs : base ≤ w.heap.size) (hf : Fit c) (hpl : c.2.length ≤ 1000) (id at_ : Int) (hid : 0 ≤ id ∧ id ≤ 255) (hat : 0 ≤ at_ ∧ at_ ≤ 1000) :
    Calls Try.prog 55 #[.pointer (some ⟨B, 0, none⟩), .int .u8 id, .int .i64 at_] w fun e w' => e = .returned (.tuple #[]) ∧ CB w' base B (T.moveP c id at_) ∧ Fm base w w' := by
  obtain ⟨no, nc, c0, hBl, hnc, hnn, hna⟩ := h.now
  have HP : Hid (∀ (u : World), Below w.heap.size w u → Calls Try.prog 49 #[.slice no c.1.length nc, .int .u8 id] u fun e w' => e = .returned (.int .i64 (T.place c.1 id)) ∧ Below u.heap.size u w') := fun u hu => place_any no nc c.1 id u (by have := hf.1; unfold maxLen; omega) (hna.below hu (Nat.le_refl _) hu.size)
  have HD : Hid (∀ (u : World) (a : Int), Below w.heap.size w u → Calls Try.prog 52 #[.pointer (some ⟨B, 0, none⟩), .agg #[.int .u8 3, .int .u8 id, .int .i64 a, .int .u16 0, .string ⟨#[]⟩]] u fun e w' => e = .returned (.tuple #[]) ∧ CB w' base B (T.doP c (3, id, a, 0, ⟨#[]⟩)) ∧ Fm base u w') :=
    fun u a hu => do_any (h.below hu) hB (by have := hu.size; omega) hf.1 hf.2 hpl 3 id a 0 ⟨#[]⟩ hid (by omega) (by unfold maxLen; decide)
  have HS : Hid (base ≤ w.heap.size) := hs
  generalize c.1.length = nn at HP c0
  obtain ⟨p, hp⟩ : ∃ p, p = T.place c.1 id := ⟨_, rfl⟩
  rw [← hp] at HP
  by_cases hlt : p < at_
  · have HM : Hid (T.moveP c id at_ = T.doP c (3, id, at_ - 1, 0, ⟨#[]⟩)) := by unfold Hid T.moveP; rw [← hp, if_pos hlt]
    clear hp hna h hf
    go_enter Try.func55, Try.ntmps55
    go_wp2_with fail
    refine (HP.out _ (Below.refl _ _)).mono ?_
    rintro e w1 ⟨rfl, hb1⟩
    have HB1 : Hid (Below w.heap.size w w1) := hb1
    clear hb1
    go_wp2_with fail
    refine (HD.out w1 (at_ - 1) HB1.out).mono ?_
    rintro e w2 ⟨rfl, hc2, hf2⟩
    have HC2 : Hid (CB w2 base B (T.doP c (3, id, at_ - 1, 0, ⟨#[]⟩)) ∧ Fm base w1 w2) := ⟨hc2, hf2⟩
    clear hc2 hf2
    go_wp2
    go_end0
    rw [HM.out]
    exact ⟨rfl, HC2.out.1, (Fm.of HB1.out HS.out).trans HC2.out.2⟩
  · have HM : Hid (T.moveP c id at_ = T.doP c (3, id, at_, 0, ⟨#[]⟩)) := by unfold Hid T.moveP; rw [← hp, if_neg hlt]
    clear hp hna h hf
    go_enter Try.func55, Try.ntmps55
    go_wp2_with fail
    refine (HP.out _ (Below.refl _ _)).mono ?_
    rintro e w1 ⟨rfl, hb1⟩
    have HB1 : Hid (Below w.heap.size w w1) := hb1
    clear hb1
    go_wp2_with fail
    refine (HD.out w1 at_ HB1.out).mono ?_
    rintro e w2 ⟨rfl, hc2, hf2⟩
    have HC2 : Hid (CB w2 base B (T.doP c (3, id, at_, 0, ⟨#[]⟩)) ∧ Fm base w1 w2) := ⟨hc2, hf2⟩
    clear hc2 hf2
    go_wp2
    go_end0
    rw [HM.out]
    exact ⟨rfl, HC2.out.1, (Fm.of HB1.out HS.out).trans HC2.out.2⟩

end Go.Proofs.Ytcaeeaiodbjacaa
