/-
  How lists of nodes that came in are read.
-/
import Derived.Test.YtcaeeaiodbjacaaIsTreeR
import Derived.Test.YtcaeeaiodbjacaaOpenT
namespace Go.Proofs.Ytcaeeaiodbjacaa
open Go.ChangeShapes Go.WideShapes Go.ChangeAt Go.RowKit Go.Deep
set_option linter.unusedVariables false

theorem weightsAll_into {H : Type} {P : Program} {e : TypeId} : ∀ {l : List (DataW H)} {d : DataW H}, d ∈ l → ∀ n ∈ d.weights P e, n ∈ DataW.weightsAll P e l
  | d' :: r, d, hd, n, hn => by
    simp only [DataW.weightsAll, List.mem_append]
    rcases List.mem_cons.1 hd with rfl | h
    · exact Or.inl hn
    · exact Or.inr (weightsAll_into h n hn)

set_option maxRecDepth 100000 in
/-- A list of nodes that came in: the nodes, and where they lie. -/
theorem open_nodes {H : Type} {enc : TypeId × Value → H} {W : World} {a0 : Option Addr} {len cap : Nat} {x : DataW H × List MemPlace} {fuel : Nat}
    (h : DataW.trod enc Try.prog W 0 (fun _ => true) true fuel 22 [.slice a0 len cap] = some x) (hsz : ∀ n ∈ x.1.weights Try.prog 22, n ≤ reachBytes) :
    ∃ l : List T.Nd, l.length = len ∧ len ≤ cap ∧ len ≤ 5864062014800 ∧ ndOk l ∧ ndSmall l ∧ NodeAt W a0 l ∧ (a0 = none → l = [] ∧ cap = 0) := by
  rcases open_slice Try.underlying22 h with ⟨hcs, _⟩ | ⟨a, len', cap', m, n, D, Pl, hcs, _, hl, hm, hmm, hx, hc⟩
  · simp at hcs
    obtain ⟨rfl, rfl, rfl⟩ := hcs
    exact ⟨[], rfl, by omega, by omega, by intro x hx; simp at hx, by intro x hx; simp at hx, Or.inl rfl, fun _ => ⟨rfl, rfl⟩⟩
  · simp at hcs
    obtain ⟨rfl, rfl, rfl⟩ := hcs
    simp at hmm
    subst hmm
    obtain ⟨b, off, spot⟩ := a
    have ce : Try.prog.cellsOf 60 = 3 := by kernel_rfl
    have c5 : Try.prog.cellsOf 5 = 1 := by kernel_rfl
    have c25 : Try.prog.cellsOf 25 = 1 := by kernel_rfl
    have c9 : Try.prog.cellsOf 9 = 1 := by kernel_rfl
    have hrb := reach62
    rw [hx] at hsz
    have hlen : len * 24 ≤ reachBytes := by
      have h1 := hsz ((((List.range len).map D).length + ((List.range (m - len)).map fun j => D (len + j)).length) * Try.prog.bytesOf 60) (by simp [DataW.weights, Try.underlying22])
      have h2 : Try.prog.bytesOf 60 = 24 := by kernel_rfl
      rw [h2] at h1
      simp at h1
      omega
    have hlen2 : len ≤ 5864062014800 := by
      have : reachBytes = 140737488351232 := rfl
      omega
    have each : ∀ i, i < len → ∃ z : T.Nd, W.cell? ((⟨b, off, spot⟩ : Addr).add (i * 3)) = some (.int .u8 z.1) ∧ W.cell? ((⟨b, off, spot⟩ : Addr).add (i * 3 + 1)) = some (.int .u16 z.2.1) ∧ W.cell? ((⟨b, off, spot⟩ : Addr).add (i * 3 + 2)) = some (.string z.2.2) ∧ T.inGo z ∧ z.2.2.size ≤ 4611686018427387904 := by
      intro i hi
      obtain ⟨cs', h1, h2⟩ := hc i (by omega)
      rw [ce] at h1
      obtain ⟨_, hln, hcell⟩ := World.cells?_some h1
      obtain ⟨xs, k, hk, hxy, _, hxl, hf⟩ := DataW.trod_struct Try.underlying60 h2
      match xs, hxl, cs', hln with
      | [y0, y1, y2], _, [v0, v1, v2], _ =>
        have g0 := hf 0 _ rfl
        have g1 := hf 1 _ rfl
        have g2 := hf 2 _ rfl
        simp [c5, c25, c9] at g0 g1 g2
        have e0 := hcell 0 (by omega)
        have e1 := hcell 1 (by omega)
        have e2 := hcell 2 (by omega)
        rw [add_add] at e0 e1 e2
        obtain ⟨z0, q0, r0, w0⟩ := DataW.trod_int Try.underlying5 g0
        obtain ⟨z1, q1, r1, w1⟩ := DataW.trod_int Try.underlying25 g1
        obtain ⟨z2, q2, r2, w2⟩ := DataW.trod_string Try.underlying9 g2
        simp at q0 q1 q2
        subst q0
        subst q1
        subst q2
        have b0 := bounds_u8 w0
        have b1 := bounds_u16 w1
        simp only [Prod.mk.injEq] at hxy
        have hD : D i = .agg [y0.1, y1.1, y2.1] := by simpa using hxy.1
        have hsize : z2.data.toList.length ≤ reachBytes := by
          refine hsz _ ?_
          simp only [DataW.weights, Try.underlying22, List.mem_cons, List.mem_append]
          refine Or.inr (Or.inl (weightsAll_into (d := D i) (List.mem_map.2 ⟨i, by simpa using hi, rfl⟩) _ ?_))
          rw [hD, r2]
          simp [DataW.weights, Try.underlying60, DataW.weightsEach]
        refine ⟨(z0, z1, z2), by simpa using e0, by simpa using e1, by simpa using e2, ⟨b0.1, b0.2, b1.1, b1.2⟩, ?_⟩
        have : z2.data.toList.length = z2.size := by simp
        show z2.size ≤ _
        omega
    obtain ⟨f, hf⟩ := choose_lt each
    have hspot : 0 < len → spot = none := by
      intro h0
      have := (hf 0 h0).1
      simpa [Addr.add] using World.cell?_spot this
    refine ⟨(List.range len).map f, by simp, hl, hlen2, ?_, ?_, ?_, by intro h; cases h⟩
    · intro z hz
      obtain ⟨i, hi, rfl⟩ := List.mem_map.1 hz
      have := hf i (by simpa using hi)
      exact ⟨this.2.2.2.1, by have := this.2.2.2.2; unfold maxLen; omega⟩
    · intro z hz
      obtain ⟨i, hi, rfl⟩ := List.mem_map.1 hz
      exact (hf i (by simpa using hi)).2.2.2.2
    · by_cases h0 : 0 < len
      · have hsp := hspot h0
        subst hsp
        have hrow : NodeRow W b off ((List.range len).map f) := by
          intro i z hz
          have hi : i < len := by
            have := (List.getElem?_eq_some_iff.1 hz).1
            simpa using this
          have hz' : f i = z := by simpa [hi] using hz
          subst hz'
          obtain ⟨q0, q1, q2, _⟩ := hf i hi
          rw [Addr.add_lit] at q0 q1 q2
          exact ⟨q0, q1, q2⟩
        exact Or.inr ⟨b, off, rfl, World.block_lt_of_cell? _ _ (hrow 0 (f 0) (by simp [h0])).1, hrow⟩
      · left
        have : len = 0 := by omega
        subst this
        rfl

end Go.Proofs.Ytcaeeaiodbjacaa
