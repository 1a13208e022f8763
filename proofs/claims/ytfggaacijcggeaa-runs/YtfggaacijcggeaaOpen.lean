/-
  How a list of instructions that came in is read.
-/
import Derived.Test.YtfggaacijcggeaaJCodeW
import Derived.Test.YtfggaacijcggeaaChecked
import Derived.ProofKit
import Derived.OpenShut
import Derived.ShutString
import Derived.ChangeOld
import Derived.Deep.SlicePairs
namespace Go.Proofs.Ytfggaacijcggeaa
open Go.ChangeShapes Go.WideShapes Go.ChangeAt Go.RowKit Go.Deep
set_option linter.unusedVariables false

theorem own : ownKnob Try.prog.godebug = none := by kernel_rfl
theorem laidOut : laidOutB Try.prog = true := by kernel_rfl

/-- A list of instructions that came in: the numbers, and where they lie. -/
theorem open_ins {H : Type} {enc : TypeId × Value → H} {W : World} {a0 : Option Addr} {len cap : Nat} {x : DataW H × List MemPlace} {fuel : Nat}
    (h : DataW.trod enc Try.prog W 0 (fun _ => true) true fuel 22 [.slice a0 len cap] = some x) :
    ∃ (raw : List (Int × Int)) (b off : Nat), raw.length = len ∧ len ≤ maxLen ∧ (0 < len → a0 = some ⟨b, off, none⟩) ∧ rawOk raw ∧ InsRow W b off raw := by
  rcases open_slice_pairs Try.underlying22 Try.underlying28 (by kernel_rfl) rfl rfl (by kernel_rfl) (by kernel_rfl) h with ⟨hcs, _⟩ | ⟨a, len', cap', m, n, V0, V1, D0, D1, P0, P1, hcs, _, hl, hm, hmm, _, hc⟩
  · simp at hcs
    obtain ⟨rfl, rfl, rfl⟩ := hcs
    exact ⟨[], 0, 0, rfl, Nat.zero_le _, by omega, by intro x hx; simp at hx, by intro i x hx; simp at hx⟩
  · simp at hcs
    obtain ⟨rfl, rfl, rfl⟩ := hcs
    simp at hmm
    subst hmm
    obtain ⟨b, off, spot⟩ := a
    have each : ∀ i, i < len → ∃ o q : Int, W.cell? ((⟨b, off, spot⟩ : Addr).add (i * 2)) = some (.int .u8 o) ∧ W.cell? ((⟨b, off, spot⟩ : Addr).add (i * 2 + 1)) = some (.int .i64 q) ∧ (Lit.int .u8 o).wf = true ∧ (Lit.int .i64 q).wf = true := by
      intro i hi
      obtain ⟨c0, c1, t0, t1⟩ := hc i (by omega)
      obtain ⟨o, e0, _, w0⟩ := DataW.trod_int Try.underlying5 t0
      obtain ⟨q, e1, _, w1⟩ := DataW.trod_int Try.underlying3 t1
      simp at e0 e1
      exact ⟨o, q, by rw [c0, e0], by rw [c1, e1], w0, w1⟩
    have each2 : ∀ i, i < len → ∃ x : Int × Int, W.cell? ((⟨b, off, spot⟩ : Addr).add (i * 2)) = some (.int .u8 x.1) ∧ W.cell? ((⟨b, off, spot⟩ : Addr).add (i * 2 + 1)) = some (.int .i64 x.2) ∧ (Lit.int .u8 x.1).wf = true ∧ (Lit.int .i64 x.2).wf = true := by
      intro i hi
      obtain ⟨o, q, h⟩ := each i hi
      exact ⟨(o, q), h⟩
    obtain ⟨f, hf⟩ := choose_lt each2
    have hspot : 0 < len → spot = none := by
      intro h0
      have := (hf 0 h0).1
      simpa [Addr.add] using World.cell?_spot this
    refine ⟨(List.range len).map f, b, off, by simp, by omega, fun h0 => by rw [hspot h0], ?_, ?_⟩
    · intro x hx
      obtain ⟨i, hi, rfl⟩ := List.mem_map.1 hx
      have hi' : i < len := by simpa using hi
      have b0 := bounds_u8 (hf i hi').2.2.1
      have b1 := bounds_i64 (hf i hi').2.2.2
      omega
    · intro i x hx
      have hi : i < len := by
        have := (List.getElem?_eq_some_iff.1 hx).1
        simpa using this
      have hsp := hspot (by omega)
      subst hsp
      have hx' : f i = x := by simpa [hi] using hx
      subst hx'
      have h0 := (hf i hi).1
      have h1 := (hf i hi).2.1
      rw [Addr.add_lit] at h0 h1
      exact ⟨h0, by rw [← h1]; rfl⟩

end Go.Proofs.Ytfggaacijcggeaa
