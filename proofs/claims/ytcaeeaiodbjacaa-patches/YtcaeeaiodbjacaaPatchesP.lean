/-
  Patches, for every list of nodes and every list of patches: the call returns true, and what came in reads as it did. No condition.
-/
import Derived.Test.YtcaeeaiodbjacaaRows
import Derived.Test.YtcaeeaiodbjacaaPatchesW
import Derived.Test.YtcaeeaiodbjacaaOpenP
namespace Go.Proofs.Ytcaeeaiodbjacaa
open Go.ChangeShapes Go.WideShapes Go.ChangeAt Go.RowKit
set_option linter.unusedVariables false

theorem patches_any (oo so : Option Addr) (oc sc : Nat) (old : List T.Nd) (ps : List T.Pt) (w : World) (hlo : old.length ≤ 5864062014800) (hco : old.length ≤ oc) (hno : oo = none → old = [] ∧ oc = 0) (hao : NodeAt w oo old) (hko : ndOk old) (hko2 : ndSmall old)
    (hls : ps.length ≤ 3518437208780) (hns : so = none → ps = [] ∧ sc = 0) (has : PtAt w so ps) (hks : ptOk ps) (hks2 : ∀ x ∈ ps, x.2.2.2.2.size ≤ 4611686018427387904) :
    Calls Try.prog 4 #[.slice oo old.length oc, .slice so ps.length sc] w fun e w' => e = .returned (.bool true) ∧ Below w.heap.size w w' := by
  refine patches_walk (.slice oo old.length oc) so sc old ps w hls has hns ?_ (fun u hu => refApply_any oo so oc sc old ps u (by unfold maxLen; omega) (by omega) (hao.below hu (Nat.le_refl _) hu.size) hko hko2 (has.below hu (Nat.le_refl _) hu.size) hks hks2)
  cases oo with
  | none =>
    obtain ⟨rfl, rfl⟩ := hno rfl
    refine (lent_nil w).mono ?_
    rintro e w1 ⟨rfl, rfl⟩
    exact ⟨_, rfl, Below.refl _ _, fun u g hu hs => apply_any none (some ⟨g, 0, none⟩) 0 (ps.length + 1) [] ps u (by simp) (by simp) (fun _ => ⟨rfl, rfl⟩) (by omega) (Or.inl rfl) hko hs hks, fun u hu => back_nil _ u⟩
  | some a =>
    refine (lent_some a oc old w hlo hao).mono ?_
    rintro e w1 ⟨g, rfl, hg0, hg1, hr, hb1⟩
    refine ⟨_, rfl, hb1, fun u gs hu hs => ?_, fun u hu => ?_⟩
    · exact apply_any (some ⟨g, 0, none⟩) (some ⟨gs, 0, none⟩) (old.length + 1) (ps.length + 1) old ps u hlo (by omega) (by intro h; cases h) (by omega) (Or.inr ⟨g, 0, rfl, by have := hu.size; omega, hr.front.below hu hg1⟩) hko hs hks
    · exact back_some a oc g old u hlo ((hao.below hb1 (Nat.le_refl _) hb1.size).below hu (Nat.le_refl _) hu.size) (by have := hu.size; omega) (hr.below hu hg1)

set_option maxRecDepth 100000 in
theorem patches_lifted (os : Os) (started : os.Started) (H : Type) (enc : TypeId × Value → H) :
    ReturnsInHanded {} Try.checked os 4 .any (Rows.patchesSpec.pre6 enc Try.prog Try.f4 Rows.patchesRow.domain false) (Rows.patchesSpec.post enc Try.prog Try.f4 false true false false) := by
  refine returnsInHanded_of_change_sized (C := Try.checked) own started (by kernel_rfl) Try.func4
    (ChangeSpec.witness6 (enc := enc) (C := Try.checked) false ⟨#[], #[.slice none 0 0, .slice none 0 0], []⟩ 8 (by kernel_rfl) (by kernel_rfl) (by kernel_rfl) (by kernel_rfl)) ?_
  intro W base args ds gs before hval0 hW hcnd hsz _
  have hval : ∀ (j : Nat) t v, Try.f4.params[j]? = some t → args[j]? = some v → Value.okWide Try.prog W .any base t v := hval0
  have hW' := hW
  obtain ⟨p, q, hA0, hV, rfl, hfz, hnd⟩ := hW
  have hA : DataW.TrodAll enc Try.prog W 0 (fun _ => true) true Try.f4.params.toList args.toList ds p := hA0
  rw [Try.params4] at hA hval
  obtain ⟨v0, vs0, d0, ds0, p0, q0, hargs, rfl, rfl, h0, r0⟩ := trodAll_cons hA
  obtain ⟨v1, vs1, d1, ds1, p1, q1, rfl, rfl, rfl, h1, r1⟩ := trodAll_cons r0
  obtain ⟨rfl, rfl, rfl⟩ := trodAll_nil r1
  obtain rfl : args = #[v0, v1] := by cases args; simp_all
  obtain ⟨rfl, rfl⟩ := trodVars_none hV
  obtain ⟨a0, len0, cap0, rfl⟩ := okWide_slice Try.underlying22 (hval 0 22 v0 rfl rfl)
  obtain ⟨a1, len1, cap1, rfl⟩ := okWide_slice Try.underlying44 (hval 1 44 v1 rfl rfl)
  have k0 := h0
  have k1 := h1
  have lt0 : ∀ x ∈ p0, x.block < W.heap.size := by obtain ⟨m, hm⟩ := k0; exact DataW.trod_lt m _ _ _ hm
  have lt1 : ∀ x ∈ p1, x.block < W.heap.size := by obtain ⟨m, hm⟩ := k1; exact DataW.trod_lt m _ _ _ hm
  obtain ⟨fuel0, hf0⟩ := h0
  obtain ⟨fuel1, hf1⟩ := h1
  have hsz' : (DataW.weightsEach Try.prog [22, 44] [d0, d1]).all (· ≤ reachBytes) = true := hsz
  have hw0 : ∀ n ∈ d0.weights Try.prog 22, n ≤ reachBytes := fun n hn => by
    have := List.all_eq_true.1 hsz' n (DataW.weights_mem_each (j := 0) rfl rfl n hn)
    simpa using this
  have hw1 : ∀ n ∈ d1.weights Try.prog 44, n ≤ reachBytes := fun n hn => by
    have := List.all_eq_true.1 hsz' n (DataW.weights_mem_each (j := 1) rfl rfl n hn)
    simpa using this
  obtain ⟨l, hll, hlc, hlb, hlk, hls, hla, hln⟩ := open_nodes (x := (d0, p0)) (by simpa [Value.cells] using hf0) hw0
  obtain ⟨sh, hll1, hlc1, hlb1, hlk1, hls1, hla1, hln1⟩ := open_patches (x := (d1, p1)) (by simpa [Value.cells] using hf1) hw1
  clear hA0 hval0
  subst hll
  subst hll1
  refine (patches_any a0 a1 cap0 cap1 l sh W hlb hlc hln hla hlk hls hlb1 hln1 hla1 hlk1 hls1).mono fun e W' ⟨he, bel⟩ => ?_
  subst he
  exact ⟨_, rfl, _, _, _, [], _, [], hW', trodAll_mk1 (shut_bool Try.underlying4 _), (trodAll_cons_mk (Below.trod laidOut (by kernel_rfl) (of_decide_eq_true (by kernel_rfl)) k0 bel lt0) (trodAll_cons_mk (Below.trod laidOut (by kernel_rfl) (of_decide_eq_true (by kernel_rfl)) k1 bel lt1) trodAll_mk0)), rfl, bel.frame _, fun h => by cases h⟩

theorem patches_holds : Rows.PatchesSaid :=
  OpenClaim.holds_of_wide 4 Try.f4 rfl rfl rfl rfl rfl rfl rfl ⟨rfl, rfl, rfl, rfl, rfl⟩ rfl rfl rfl rfl rfl (by kernel_rfl) Try.func4 (by kernel_rfl)
    (of_decide_eq_true (by kernel_rfl)) (by unfold Func.isWrapper; first | (rw [if_pos (by decide +kernel)]; kernel_rfl) | (rw [if_neg (by decide +kernel)]; exact ⟨rfl, rfl⟩))
    (fun os started H enc _ => patches_lifted os started H enc)

#print axioms patches_holds
end Go.Proofs.Ytcaeeaiodbjacaa
