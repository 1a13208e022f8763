/-
  The walk of Diff.
-/
import Derived.Test.YtcaeeaiodbjacaaArrW
namespace Go.Proofs.Ytcaeeaiodbjacaa
open Go.RowKit
set_option linter.unusedVariables false

namespace T
def diffOk (old next : List Nd) : Bool := isTree old && isTree next
def diffO (old next : List Nd) : List Pt := if diffOk old next then diff old next else []
def diffE (old next : List Nd) : Int := if diffOk old next then 0 else 3
end T

/-- What Diff hands back. -/
def diffEnd (old next : List T.Nd) (w : World) (e : Ending) (w' : World) : Prop :=
  ∃ v, e = .returned (.tuple #[v, .int .i64 (T.diffE old next)]) ∧ w'.ownsRow w.heap.size 46 5 v (T.diffO old next).length (ptCells (T.diffO old next)) ∧ Below w.heap.size w w'

theorem diffEnd_bad {old next : List T.Nd} {w w' : World} (h : T.diffOk old next = false) (hb : Below w.heap.size w w') : diffEnd old next w (.returned (.tuple #[.slice none 0 0, .int .i64 3])) w' := by
  refine ⟨.slice none 0 0, by simp [T.diffE, h], ?_, hb⟩
  rw [show T.diffO old next = [] by simp [T.diffO, h]]
  exact World.ownsRow_nil _ _ _ _

theorem diffEnd_good {old next : List T.Nd} {w w' : World} {v : Value} (h : T.diffOk old next = true) (ho : w'.ownsRow w.heap.size 46 5 v (T.diff old next).length (ptCells (T.diff old next))) (hb : Below w.heap.size w w') : diffEnd old next w (.returned (.tuple #[v, .int .i64 0])) w' := by
  refine ⟨v, by simp [T.diffE, h], ?_, hb⟩
  rw [show T.diffO old next = T.diff old next by simp [T.diffO, h]]
  exact ho

theorem CB.patches {w : World} {base B : Nat} {c : T.Ch} (h : CB w base B c) : ∃ pv, w.cell? ⟨B, 1, none⟩ = some pv ∧ w.ownsRow base 46 5 pv c.2.length (ptCells c.2) := by
  obtain ⟨no, nc, pv, h1, h2, h3, h4, h5⟩ := h
  exact ⟨pv, by rw [h1.cell]; rfl, h5⟩

set_option maxRecDepth 100000 in
set_option maxHeartbeats 4000000 in
theorem diff_any (oo xo : Option Addr) (oc xc : Nat) (old next : List T.Nd) (w : World) (hlo : old.length ≤ maxLen) (hlx : next.length ≤ maxLen) (hco : old.length ≤ oc) (hcx : next.length ≤ xc) (hno : oo = none → old = [] ∧ oc = 0) (hao : NodeAt w oo old) (hax : NodeAt w xo next) (hko : ndOk old) (hkx : ndOk next) :
    Calls Try.prog 20 #[.slice oo old.length oc, .slice xo next.length xc] w fun e w' => diffEnd old next w e w' := by
  have HT1 : Hid (∀ u : World, Below w.heap.size w u → Calls Try.prog 31 #[.slice oo old.length oc] u fun e w' => e = .returned (.bool (T.isTree old)) ∧ Below u.heap.size u w') := fun u hu => tree_any oo oc old u hlo hco (hao.below hu (Nat.le_refl _) hu.size) hko
  have HT2 : Hid (∀ u : World, Below w.heap.size w u → Calls Try.prog 31 #[.slice xo next.length xc] u fun e w' => e = .returned (.bool (T.isTree next)) ∧ Below u.heap.size u w') := fun u hu => tree_any xo xc next u hlx hcx (hax.below hu (Nat.le_refl _) hu.size) hkx
  have HAo : Hid (NodeAt w oo old) := hao
  have HAx : Hid (NodeAt w xo next) := hax
  have HK : Hid (ndOk old ∧ ndOk next) := ⟨hko, hkx⟩
  have HNo : Hid (oo = none → old = [] ∧ oc = 0) := hno
  obtain ⟨on, hon⟩ : ∃ n, n = old.length := ⟨_, rfl⟩
  have Hon : Hid (old.length = on) := hon.symm
  obtain ⟨xn, hxn⟩ : ∃ n, n = next.length := ⟨_, rfl⟩
  have Hxn : Hid (next.length = xn) := hxn.symm
  rw [← hon] at HT1 hco ⊢
  rw [← hxn] at HT2 hcx ⊢
  clear hlo hlx hno hao hax hko hkx hon hxn
  cases h1 : T.isTree old with
  | false =>
    have HV : Hid (T.diffOk old next = false) := by unfold Hid T.diffOk; rw [h1]; rfl
    rw [h1] at HT1
    clear h1
    go_enter Try.func20, Try.ntmps20
    go_wp2_with fail
    refine (HT1.out _ (Below.refl _ _)).mono ?_
    rintro e w1 ⟨rfl, hb1⟩
    go_wp2
    go_ret2
    exact diffEnd_bad HV.out hb1
  | true =>
    cases h2 : T.isTree next with
    | false =>
      have HV : Hid (T.diffOk old next = false) := by unfold Hid T.diffOk; rw [h1, h2]; rfl
      rw [h1] at HT1
      rw [h2] at HT2
      clear h1 h2
      go_enter Try.func20, Try.ntmps20
      go_wp2_with fail
      refine (HT1.out _ (Below.refl _ _)).mono ?_
      rintro e w1 ⟨rfl, hb1⟩
      have HB1 : Hid (Below w.heap.size w w1) := hb1
      clear hb1
      go_wp2_with fail
      refine (HT2.out _ HB1.out).mono ?_
      rintro e w2 ⟨rfl, hb2⟩
      have HB2 : Hid (Below w.heap.size w w2) := HB1.out.trans (hb2.mono HB1.out.size)
      clear hb2
      go_wp2
      go_ret2
      exact diffEnd_bad HV.out HB2.out
    | true =>
      have HV : Hid (T.diffOk old next = true) := by unfold Hid T.diffOk; rw [h1, h2]; rfl
      have ho16 : on ≤ 16 := by have := (T.isTree_iff old).1 h1; have := Hon.out; omega
      have hx16 : xn ≤ 16 := by have := (T.isTree_iff next).1 h2; have := Hxn.out; omega
      rw [h1] at HT1
      rw [h2] at HT2
      clear h1 h2
      go_enter Try.func20, Try.ntmps20
      go_wp2_with fail
      refine (HT1.out _ (Below.refl _ _)).mono ?_
      rintro e w1 ⟨rfl, hb1⟩
      have HB1 : Hid (Below w.heap.size w w1) := hb1
      clear hb1
      go_wp2_with fail
      refine (HT2.out _ HB1.out).mono ?_
      rintro e w2 ⟨rfl, hb2⟩
      have hb02 : Below w.heap.size w w2 := HB1.out.trans (hb2.mono HB1.out.size)
      have HB2 : Hid (Below w.heap.size w w2) := hb02
      have hs2 := hb02.size
      clear hb2 hb02 HT1 HT2 HB1
      go_wp2_with fail
      have HC3 : Hid (CB (w2.alloc (.cells #[.slice oo on oc, .slice none 0 0] 74)) w2.heap.size w2.heap.size (old, [])) := by
        refine ⟨oo, oc, .slice none 0 0, by rw [Hon.out]; exact Blk.new w2 _ 74, by rw [Hon.out]; exact hco, HNo.out, ?_, World.ownsRow_nil _ _ _ _⟩
        rcases HAo.out with h | ⟨b, off, e, hb, hr⟩
        · exact Or.inl h
        · refine Or.inr ⟨b, off, e, by simp; omega, by omega, by simp [Value.ownBlock], ?_⟩
          exact hr.below (HB2.out.alloc hs2 _) hb
      have HB3 : Hid (Below w.heap.size w (w2.alloc (.cells #[.slice oo on oc, .slice none 0 0] 74))) := HB2.out.alloc hs2 _
      obtain ⟨w3, hw3⟩ : ∃ w3, w3 = w2.alloc (.cells #[.slice oo on oc, .slice none 0 0] 74) := ⟨_, rfl⟩
      have hs3 : w2.heap.size ≤ w3.heap.size := by rw [hw3]; simp
      rw [← hw3] at HC3 HB3 ⊢
      obtain ⟨B, hBe⟩ : ∃ B, B = w2.heap.size := ⟨_, rfl⟩
      rw [← hBe] at HC3 hs3 hs2 ⊢
      have HO : Hid (∀ u : World, Below B w3 u → NodeAt u oo old) := by
        intro u hu
        have hb : Below w.heap.size w u := HB3.out.trans (hu.mono hs2)
        exact HAo.out.below hb (Nat.le_refl _) hb.size
      have HX : Hid (∀ u : World, Below B w3 u → NodeAt u xo next) := by
        intro u hu
        have hb : Below w.heap.size w u := HB3.out.trans (hu.mono hs2)
        exact HAx.out.below hb (Nat.le_refl _) hb.size
      have HRm : Hid (Calls Try.prog 40 #[.pointer (some ⟨B, 0, none⟩), .slice oo on oc, .slice xo xn xc] w3 fun e w' => e = .returned (.tuple #[]) ∧ CB w' B B (T.rmAll next old (old, [])) ∧ Fm B w3 w' ∧ Fit (T.rmAll next old (old, [])) ∧ (T.rmAll next old (old, [])).2.length ≤ 16) := by
        unfold Hid
        have := rm_any HC3.out (Nat.le_refl _) hs3 ⟨by simp only; have := Hon.out; omega, HK.out.1⟩ (by simp) oo xo oc xc old next (by have := Hon.out; omega) (by have := Hxn.out; omega) HK.out.1 HO.out HX.out
        rw [Hon.out, Hxn.out] at this
        simpa using this
      clear hw3 hBe HAo HAx HNo HB2
      generalize hg1 : T.rmAll next old (old, []) = c1 at HRm
      have Hg1 : Hid (T.rmAll next old (old, []) = c1) := hg1
      clear hg1
      refine HRm.out.mono ?_
      rintro e w4 ⟨rfl, hc4, hf4, hfit4, hl4⟩
      have HAr : Hid (Calls Try.prog 41 #[.pointer (some ⟨B, 0, none⟩), .slice xo xn xc] w4 fun e w' => e = .returned (.tuple #[]) ∧ CB w' B B (T.arrange next c1) ∧ Fm B w4 w' ∧ Fit (T.arrange next c1) ∧ (T.arrange next c1).2.length ≤ c1.2.length + 16) := by
        have := arr_any hc4 (Nat.le_refl _) (by have := hf4.size; omega) hfit4 (by omega) xo xc next (by have := Hxn.out; omega) (by have := Hxn.out; omega) HK.out.2 (fun u hu => HX.out u (hf4.bel.trans hu))
        rw [Hxn.out] at this
        exact this
      have HF4 : Hid (Fm B w3 w4) := hf4
      clear hc4 hf4 hfit4 HRm HO HC3
      go_wp2_with fail
      generalize hg2 : T.arrange next c1 = c2 at HAr
      have Hg2 : Hid (T.arrange next c1 = c2) := hg2
      clear hg2
      refine HAr.out.mono ?_
      rintro e w5 ⟨rfl, hc5, hf5, hfit5, hl5⟩
      have hf35 := HF4.out.trans hf5
      have HRt : Hid (Calls Try.prog 42 #[.pointer (some ⟨B, 0, none⟩), .slice xo xn xc] w5 fun e w' => e = .returned (.tuple #[]) ∧ CB w' B B (T.rtAll next c2) ∧ Fm B w5 w') := by
        have := rt_any hc5 (Nat.le_refl _) (by have := hf35.size; omega) hfit5 (by omega) xo xc next (by have := Hxn.out; omega) HK.out.2 (fun u hu => HX.out u (hf35.bel.trans hu))
        rw [Hxn.out] at this
        exact this
      have HF5 : Hid (Fm B w3 w5) := hf35
      clear hc5 hf5 hfit5 HAr hf35 HF4
      go_wp2_with fail
      refine HRt.out.mono ?_
      rintro e w6 ⟨rfl, hc6, hf6⟩
      obtain ⟨pv, hp1, hp2⟩ := hc6.patches
      have HP2 : Hid (w6.ownsRow w.heap.size 46 5 pv (T.diff old next).length (ptCells (T.diff old next))) := by
        have e : T.diff old next = (T.rtAll next c2).2 := by unfold T.diff; rw [Hg1.out, Hg2.out]
        rw [e]
        exact own_weaken hp2 hs2
      have HB6 : Hid (Below w.heap.size w w6) := HB3.out.trans (((HF5.out.trans hf6).bel).mono hs2)
      clear hc6 hf6 hp2 HRt HX HF5
      go_wp2
      go_ret2
      exact diffEnd_good HV.out HP2.out HB6.out

end Go.Proofs.Ytcaeeaiodbjacaa
