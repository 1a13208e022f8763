/-
  Runs, for every two texts and every input: the call returns true, and what came in reads as it did. No condition.
-/
import Derived.Test.YtfggaacijcggeaaRows
import Derived.Test.YtfggaacijcggeaaRunsW
import Derived.Test.YtfggaacijcggeaaOpenIn
import Derived.SizedLaws
namespace Go.Proofs.Ytfggaacijcggeaa
open Go.ChangeShapes Go.WideShapes Go.ChangeAt Go.RowKit
open Go.ChangeMaps (open_string shut_string)
set_option linter.unusedVariables false

set_option maxRecDepth 100000 in
/-- The draws of what came in: nil has no room; how many there are. -/
theorem draws_shape {H : Type} {enc : TypeId × Value → H} {W : World} {i : InV} {x : DataW H × List MemPlace} {fuel : Nat}
    (h : DataW.trod enc Try.prog W 0 (fun _ => true) true fuel 39 i.arr.toList = some x) : (i.ao = none → i.n = 0 ∧ i.cap = 0) ∧ (i.n = 0 ∨ ∃ parts elems spare, x.1 = .agg parts ∧ parts[4]? = some (.slice elems spare) ∧ elems.length = i.n) := by
  obtain ⟨xs, m, _, hx, _, hl, hf⟩ := DataW.trod_struct Try.underlying39 h
  obtain ⟨y4, h4⟩ := some_at (i := 4) hl (by decide)
  have f4 : DataW.trod enc Try.prog W 0 (fun _ => true) true m 37 ((i.arr.toList.drop 14).take (Try.prog.cellsOf 37)) = some y4 := by rw [← h4]; exact hf 4 _ rfl
  rw [cells37] at f4
  have e : (i.arr.toList.drop 14).take 1 = [.slice i.ao i.n i.cap] := rfl
  rw [e] at f4
  rcases DataW.trod_slice Try.underlying37 f4 with ⟨hcs, _⟩ | ⟨a, len', cap', elems, rest, n, _, hcs, hx4, _, _, _, hlen, _⟩
  · simp at hcs
    obtain ⟨e1, e2, e3⟩ := hcs
    exact ⟨fun _ => ⟨e2, e3⟩, Or.inl e2⟩
  · simp at hcs
    obtain ⟨e1, e2, e3⟩ := hcs
    refine ⟨fun h => ?_, Or.inr ⟨xs.map (·.1), elems.map (·.1), rest.map (·.1), by rw [hx], ?_, ?_⟩⟩
    · rw [h] at e1
      simp at e1
    · rw [List.getElem?_map, h4, hx4]; rfl
    · simpa [e2] using hlen

set_option maxRecDepth 100000 in
theorem runs_lifted (os : Os) (started : os.Started) (H : Type) (enc : TypeId × Value → H) :
    ReturnsInHanded {} Try.checked os 4 .any (Rows.runsSpec.pre6 enc Try.prog Try.f4 Rows.runsRow.domain false) (Rows.runsSpec.post enc Try.prog Try.f4 false true false false) := by
  refine returnsInHanded_of_change_sized (C := Try.checked) own started (by kernel_rfl) Try.func4
    (ChangeSpec.witness6 (enc := enc) (C := Try.checked) false ⟨#[], #[.string ⟨#[]⟩, .agg #[.int .i64 0, .int .u16 0, .int .u16 0, .int .u16 0, .int .u16 0, .int .u16 0, .int .u16 0, .int .u16 0, .int .u16 0, .int .u8 0, .int .u8 0, .int .u16 0, .int .u8 0, .int .u8 0, .slice none 0 0], .string ⟨#[]⟩], []⟩ 8 (by kernel_rfl) (by kernel_rfl) (by kernel_rfl) (by kernel_rfl)) ?_
  intro W base args ds gs before hval0 hW hcnd hsz _
  have hval : ∀ (j : Nat) t v, Try.f4.params[j]? = some t → args[j]? = some v → Value.okWide Try.prog W .any base t v := hval0
  have hW' := hW
  obtain ⟨p, q, hA0, hV, rfl, hfz, hnd⟩ := hW
  have hA : DataW.TrodAll enc Try.prog W 0 (fun _ => true) true Try.f4.params.toList args.toList ds p := hA0
  rw [Try.params4] at hA hval
  obtain ⟨v0, vs0, d0, ds0, p0, q0, hargs, rfl, rfl, h0, r0⟩ := trodAll_cons hA
  obtain ⟨v1, vs1, d1, ds1, p1, q1, rfl, rfl, rfl, h1, r1⟩ := trodAll_cons r0
  obtain ⟨v2, vs2, d2, ds2, p2, q2, rfl, rfl, rfl, h2, r2⟩ := trodAll_cons r1
  obtain ⟨rfl, rfl, rfl⟩ := trodAll_nil r2
  obtain rfl : args = #[v0, v1, v2] := by cases args; simp_all
  obtain ⟨rfl, rfl⟩ := trodVars_none hV
  obtain ⟨s, rfl, rfl, rfl, hs⟩ := open_string Try.underlying9 (hval 0 9 v0 rfl rfl) h0
  obtain ⟨o, rfl, rfl, rfl, ho⟩ := open_string Try.underlying9 (hval 2 9 v2 rfl rfl) h2
  have k1 := h1
  have lt1 : ∀ x ∈ p1, x.block < W.heap.size := by obtain ⟨m, hm⟩ := k1; exact DataW.trod_lt m _ _ _ hm
  obtain ⟨fuel1, hf1⟩ := h1
  obtain ⟨i, dr, rfl, hok, hfu0, hfu1, hdr⟩ := open_input (hval 1 39 v1 rfl rfl) hf1
  have hf1' : DataW.trod enc Try.prog W 0 (fun _ => true) true fuel1 39 i.arr.toList = some (d1, p1) := by simpa [Value.cells] using hf1
  obtain ⟨hnone, hshape⟩ := draws_shape hf1'
  have hsz' : (DataW.weightsEach Try.prog [9, 39, 9] [.lit (.string s.data.toList), d1, .lit (.string o.data.toList)]).all (· ≤ reachBytes) = true := hsz
  have hsmall : i.n ≤ 70368744175616 := by
    rcases hshape with h | ⟨parts, elems, spare, e1, e2, e3⟩
    · omega
    · simp only at e1
      subst e1
      have hw : (elems.length + spare.length) * Try.prog.bytesOf 33 ∈ DataW.weights Try.prog 39 (.agg parts) := by
        have hx : (elems.length + spare.length) * Try.prog.bytesOf 33 ∈ DataW.weights Try.prog 37 (.slice elems spare) := by simp [DataW.weights, Try.underlying37]
        simp only [DataW.weights, Try.underlying39]
        exact DataW.weights_mem_each (j := 4) (by rfl) e2 _ hx
      have h1 := List.all_eq_true.1 hsz' _ (DataW.weights_mem_each (j := 1) rfl rfl _ hw)
      have h2 : Try.prog.bytesOf 33 = 2 := by kernel_rfl
      have h3 : reachBytes = 140737488351232 := rfl
      rw [h2, h3] at h1
      simp at h1
      omega
  clear hA0 hval0
  refine (runs_any s o i dr W hs ho hok hdr hsmall hnone).mono fun e W' ⟨he, bel⟩ => ?_
  subst he
  exact ⟨_, rfl, _, _, _, [], _, [], hW', trodAll_mk1 (shut_bool Try.underlying4 _), (trodAll_cons_mk (shut_string Try.underlying9 hs) (trodAll_cons_mk (Below.trod laidOut (by kernel_rfl) (of_decide_eq_true (by kernel_rfl)) k1 bel lt1) (trodAll_cons_mk (shut_string Try.underlying9 ho) trodAll_mk0))), rfl, bel.frame _, fun h => by cases h⟩

theorem runs_holds : Rows.RunsSaid :=
  OpenClaim.holds_of_wide 4 Try.f4 rfl rfl rfl rfl rfl rfl rfl ⟨rfl, rfl, rfl, rfl, rfl⟩ rfl rfl rfl rfl rfl (by kernel_rfl) Try.func4 (by kernel_rfl)
    (of_decide_eq_true (by kernel_rfl)) (by unfold Func.isWrapper; first | (rw [if_pos (by decide +kernel)]; kernel_rfl) | (rw [if_neg (by decide +kernel)]; exact ⟨rfl, rfl⟩))
    (fun os started H enc _ => runs_lifted os started H enc)

#print axioms runs_holds
end Go.Proofs.Ytfggaacijcggeaa
