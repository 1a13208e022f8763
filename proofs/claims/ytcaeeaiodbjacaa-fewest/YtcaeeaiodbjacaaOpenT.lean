/-
  How lists of ints that came in are read.
-/
import Derived.Test.YtcaeeaiodbjacaaGrown
import Derived.Test.YtcaeeaiodbjacaaChecked
import Derived.ProofKit
import Derived.OpenShut
import Derived.ShutString
import Derived.ChangeOld
import Derived.SizedLaws
import Derived.Deep.Slices
namespace Go.Proofs.Ytcaeeaiodbjacaa
open Go.ChangeShapes Go.WideShapes Go.ChangeAt Go.RowKit Go.Deep
set_option linter.unusedVariables false

theorem own : ownKnob Try.prog.godebug = none := by kernel_rfl
theorem laidOut : laidOutB Try.prog = true := by kernel_rfl

/-- A list of ints that came in: the numbers, and where they lie. -/
theorem open_ints {H : Type} {enc : TypeId × Value → H} {W : World} {a0 : Option Addr} {len cap : Nat} {x : DataW H × List MemPlace} {fuel : Nat}
    (h : DataW.trod enc Try.prog W 0 (fun _ => true) true fuel 62 [.slice a0 len cap] = some x) :
    ∃ raw : List Int, raw.length = len ∧ rawOk raw ∧ IntAt W a0 raw ∧ (len = 0 ∨ ∃ elems spare, x.1 = .slice elems spare ∧ elems.length = len) := by
  rcases open_slice1 Try.underlying62 (by kernel_rfl) h with ⟨hcs, _⟩ | ⟨a, len', cap', m, n, V, D, Pl, hcs, _, hl, hm, hmm, hx, hc⟩
  · simp at hcs
    obtain ⟨rfl, rfl, rfl⟩ := hcs
    exact ⟨[], rfl, by intro x hx; simp at hx, Or.inl rfl, Or.inl rfl⟩
  · simp at hcs
    obtain ⟨rfl, rfl, rfl⟩ := hcs
    simp at hmm
    subst hmm
    obtain ⟨b, off, spot⟩ := a
    have each : ∀ i, i < len → ∃ z : Int, W.cell? ((⟨b, off, spot⟩ : Addr).add i) = some (.int .i64 z) ∧ (Lit.int .i64 z).wf = true := by
      intro i hi
      obtain ⟨c0, t0⟩ := hc i (by omega)
      obtain ⟨z, e0, _, w0⟩ := DataW.trod_int Try.underlying3 t0
      simp at e0
      exact ⟨z, by rw [c0, e0], w0⟩
    obtain ⟨f, hf⟩ := choose_lt each
    have hspot : 0 < len → spot = none := by
      intro h0
      have := (hf 0 h0).1
      simpa [Addr.add] using World.cell?_spot this
    refine ⟨(List.range len).map f, by simp, ?_, ?_, Or.inr ⟨_, _, by rw [hx], by simp⟩⟩
    · intro z hz
      obtain ⟨i, hi, rfl⟩ := List.mem_map.1 hz
      have hi' : i < len := by simpa using hi
      exact bounds_i64 (hf i hi').2
    · by_cases h0 : 0 < len
      · have hsp := hspot h0
        subst hsp
        have hrow : IntRow W b off ((List.range len).map f) := by
          intro i z hz
          have hi : i < len := by
            have := (List.getElem?_eq_some_iff.1 hz).1
            simpa using this
          have hz' : f i = z := by simpa [hi] using hz
          subst hz'
          have h1 := (hf i hi).1
          rw [Addr.add_lit] at h1
          exact h1
        exact Or.inr ⟨b, off, rfl, World.block_lt_of_cell? _ _ (hrow 0 (f 0) (by simp [h0])), hrow⟩
      · left
        have : len = 0 := by omega
        subst this
        rfl

theorem reach62 : reachBytes < 4611686018427387904 := by have := reachBytes_lt; omega

/-- .. how many there can be. -/
theorem ints_small {H : Type} {ts : List TypeId} {ds : List (DataW H)} (hsz : (DataW.weightsEach Try.prog ts ds).all (· ≤ reachBytes) = true) {j len : Nat} {d : DataW H} (ht : ts[j]? = some 62) (hd : ds[j]? = some d)
    (h : len = 0 ∨ ∃ elems spare, d = .slice elems spare ∧ elems.length = len) : len ≤ 4611686018427387904 := by
  rcases h with h | ⟨elems, spare, rfl, hl⟩
  · omega
  · have h1 := sized_slice hsz ht hd Try.underlying62
    have h2 : Try.prog.bytesOf 3 = 8 := by kernel_rfl
    rw [h2] at h1
    have := reach62
    omega

end Go.Proofs.Ytcaeeaiodbjacaa
