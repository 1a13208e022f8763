/-
  Lasting, for every list of lists of raw numbers: the call returns true, and what came in reads as it did. No condition.
-/
import Derived.Test.YtcaeeaiodbjacaaRows
import Derived.Test.YtcaeeaiodbjacaaLastW
import Derived.Test.YtcaeeaiodbjacaaOpenT
namespace Go.Proofs.Ytcaeeaiodbjacaa
open Go.ChangeShapes Go.WideShapes Go.ChangeAt Go.RowKit Go.Deep
set_option linter.unusedVariables false

theorem weightsAll_in {H : Type} {P : Program} {e : TypeId} : ∀ {l : List (DataW H)} {d : DataW H}, d ∈ l → ∀ n ∈ d.weights P e, n ∈ DataW.weightsAll P e l
  | d' :: r, d, hd, n, hn => by
    simp only [DataW.weightsAll, List.mem_append]
    rcases List.mem_cons.1 hd with rfl | h
    · exact Or.inl hn
    · exact Or.inr (weightsAll_in h n hn)

/-- How many numbers a list within a list can have. -/
theorem inner_small {H : Type} {elems spare : List (DataW H)} (hsz : (DataW.weightsEach Try.prog [58] [DataW.slice elems spare]).all (· ≤ reachBytes) = true) {d : DataW H} (hd : d ∈ elems) {len : Nat}
    (h : len = 0 ∨ ∃ e' s', d = .slice e' s' ∧ e'.length = len) : len ≤ 4611686018427387904 := by
  rcases h with h | ⟨e', s', rfl, hl⟩
  · omega
  · have h1 : (e'.length + s'.length) * Try.prog.bytesOf 3 ≤ reachBytes := by
      refine of_decide_eq_true (List.all_eq_true.1 hsz _ (DataW.weights_mem_each (j := 0) rfl rfl _ ?_))
      simp only [DataW.weights, Try.underlying58, List.mem_cons, List.mem_append]
      exact Or.inr (Or.inl (weightsAll_in hd _ (by simp [DataW.weights, Try.underlying62])))
    have h2 : Try.prog.bytesOf 3 = 8 := by kernel_rfl
    rw [h2] at h1
    have := reach62
    omega

theorem open_raws {H : Type} {enc : TypeId × Value → H} {W : World} {a0 : Option Addr} {len cap : Nat} {x : DataW H × List MemPlace} {fuel : Nat}
    (h : DataW.trod enc Try.prog W 0 (fun _ => true) true fuel 58 [.slice a0 len cap] = some x) (hsz : (DataW.weightsEach Try.prog [58] [x.1]).all (· ≤ reachBytes) = true) :
    ∃ rs : List Raw, rs.length = len ∧ len ≤ maxLen ∧ RawsAt W a0 rs ∧ rawsOk W rs := by
  rcases open_slice1 Try.underlying58 (by kernel_rfl) h with ⟨hcs, _⟩ | ⟨a, len', cap', m, n, V, D, Pl, hcs, _, hl, hm, hmm, hx, hc⟩
  · simp at hcs
    obtain ⟨rfl, rfl, rfl⟩ := hcs
    exact ⟨[], rfl, Nat.zero_le _, Or.inl rfl, by intro x hx; simp at hx⟩
  · simp at hcs
    obtain ⟨rfl, rfl, rfl⟩ := hcs
    simp at hmm
    subst hmm
    obtain ⟨b, off, spot⟩ := a
    rw [hx] at hsz
    have each : ∀ i, i < len → ∃ z : Raw, W.cell? ((⟨b, off, spot⟩ : Addr).add i) = some (.slice z.1 z.2.2.length z.2.1) ∧ z.2.2.length ≤ 4611686018427387904 ∧ rawOk z.2.2 ∧ IntAt W z.1 z.2.2 := by
      intro i hi
      obtain ⟨c0, t0⟩ := hc i (by omega)
      have shape : ∃ o l2 c2, V i = .slice o l2 c2 := by
        rcases open_slice1 Try.underlying62 (by kernel_rfl) t0 with ⟨h1, _⟩ | ⟨a2, l2, c2, _, _, _, _, _, h1, _⟩
        · simp at h1; exact ⟨none, 0, 0, h1⟩
        · simp at h1; exact ⟨some a2, l2, c2, h1⟩
      obtain ⟨o, l2, c2, hv⟩ := shape
      rw [hv] at t0 c0
      obtain ⟨raw, h1, h2, h3, h4⟩ := open_ints t0
      refine ⟨(o, c2, raw), by rw [c0, h1], ?_, h2, h3⟩
      show raw.length ≤ _
      rw [h1]
      exact inner_small hsz (d := D i) (List.mem_map.2 ⟨i, by simpa using hi, rfl⟩) h4
    obtain ⟨f, hf⟩ := choose_lt each
    have hspot : 0 < len → spot = none := by
      intro h0
      have := (hf 0 h0).1
      simpa [Addr.add] using World.cell?_spot this
    refine ⟨(List.range len).map f, by simp, by omega, ?_, ?_⟩
    · by_cases h0 : 0 < len
      · have hsp := hspot h0
        subst hsp
        have hrow : RawsRow W b off ((List.range len).map f) := by
          intro i z hz
          have hi : i < len := by
            have := (List.getElem?_eq_some_iff.1 hz).1
            simpa using this
          have hz' : f i = z := by simpa [hi] using hz
          subst hz'
          have h1 := (hf i hi).1
          rw [Addr.add_lit] at h1
          exact h1
        exact Or.inr ⟨b, off, rfl, World.block_lt_of_cell? _ _ (hrow 0 (f 0) (by simp [h0])), hrow⟩
      · left
        have : len = 0 := by omega
        subst this
        rfl
    · intro z hz
      obtain ⟨i, hi, rfl⟩ := List.mem_map.1 hz
      have hi' : i < len := by simpa using hi
      exact (hf i hi').2

set_option maxRecDepth 100000 in
theorem lasting_lifted (os : Os) (started : os.Started) (H : Type) (enc : TypeId × Value → H) :
    ReturnsInHanded {} Try.checked os 7 .any (Rows.lastingSpec.pre6 enc Try.prog Try.f7 Rows.lastingRow.domain false) (Rows.lastingSpec.post enc Try.prog Try.f7 false true false false) := by
  refine returnsInHanded_of_change_sized (C := Try.checked) own started (by kernel_rfl) Try.func7
    (ChangeSpec.witness6 (enc := enc) (C := Try.checked) false ⟨#[], #[.slice none 0 0], []⟩ 8 (by kernel_rfl) (by kernel_rfl) (by kernel_rfl) (by kernel_rfl)) ?_
  intro W base args ds gs before hval0 hW hcnd hsz _
  have hval : ∀ (j : Nat) t v, Try.f7.params[j]? = some t → args[j]? = some v → Value.okWide Try.prog W .any base t v := hval0
  have hW' := hW
  obtain ⟨p, q, hA0, hV, rfl, hfz, hnd⟩ := hW
  have hA : DataW.TrodAll enc Try.prog W 0 (fun _ => true) true Try.f7.params.toList args.toList ds p := hA0
  rw [Try.params7] at hA hval
  obtain ⟨v0, vs0, d0, ds0, p0, q0, hargs, rfl, rfl, h0, r0⟩ := trodAll_cons hA
  obtain ⟨rfl, rfl, rfl⟩ := trodAll_nil r0
  obtain rfl : args = #[v0] := by cases args; simp_all
  obtain ⟨rfl, rfl⟩ := trodVars_none hV
  obtain ⟨a0, len0, cap0, rfl⟩ := okWide_slice Try.underlying58 (hval 0 58 v0 rfl rfl)
  have k0 := h0
  have lt0 : ∀ x ∈ p0, x.block < W.heap.size := by obtain ⟨m, hm⟩ := k0; exact DataW.trod_lt m _ _ _ hm
  obtain ⟨fuel, hf⟩ := h0
  have hsz' : (DataW.weightsEach Try.prog [58] [d0]).all (· ≤ reachBytes) = true := hsz
  obtain ⟨rs, hrl, hrm, hra, hrk⟩ := open_raws (x := (d0, p0)) (by simpa [Value.cells] using hf) hsz'
  clear hA0 hval0
  subst hrl
  refine (lasting_any a0 cap0 rs W hrm hra hrk).mono fun e W' ⟨he, bel⟩ => ?_
  subst he
  exact ⟨_, rfl, _, _, _, [], _, [], hW', trodAll_mk1 (shut_bool Try.underlying4 _), (trodAll_cons_mk (Below.trod laidOut (by kernel_rfl) (of_decide_eq_true (by kernel_rfl)) k0 bel lt0) trodAll_mk0), rfl, bel.frame _, fun h => by cases h⟩

theorem lasting_holds : Rows.LastingSaid :=
  OpenClaim.holds_of_wide 7 Try.f7 rfl rfl rfl rfl rfl rfl rfl ⟨rfl, rfl, rfl, rfl, rfl⟩ rfl rfl rfl rfl rfl (by kernel_rfl) Try.func7 (by kernel_rfl)
    (of_decide_eq_true (by kernel_rfl)) (by unfold Func.isWrapper; first | (rw [if_pos (by decide +kernel)]; kernel_rfl) | (rw [if_neg (by decide +kernel)]; exact ⟨rfl, rfl⟩))
    (fun os started H enc _ => lasting_lifted os started H enc)

#print axioms lasting_holds
end Go.Proofs.Ytcaeeaiodbjacaa
