/-
  How guests, steps and draws that came in are read.
-/
import Derived.Test.YtidaflmmldefcaaBndW
import Derived.Test.YtidaflmmldefcaaChecked
import Derived.ProofKit
import Derived.OpenShut
import Derived.ShutString
import Derived.ChangeOld
import Derived.Deep.SlicePairs
import Derived.Deep.Slices
namespace Go.Proofs.Ytidaflmmldefcaa
open Go.ChangeShapes Go.WideShapes Go.ChangeAt Go.RowKit Go.Deep
set_option linter.unusedVariables false

theorem own : ownKnob Try.prog.godebug = none := by kernel_rfl
theorem laidOut : laidOutB Try.prog = true := by kernel_rfl

/-- A list of instructions that came in: the numbers, and where they lie. -/
theorem open_ins {H : Type} {enc : TypeId × Value → H} {W : World} {v : Value} {x : DataW H × List MemPlace} {fuel : Nat}
    (h : DataW.trod enc Try.prog W 0 (fun _ => true) true fuel 38 [v] = some x) :
    ∃ (ao : Option Addr) (n cap : Nat) (raw : List (Int × Int)), v = .slice ao n cap ∧ CodeAt W ao n raw := by
  rcases open_slice_pairs Try.underlying38 Try.underlying52 (by kernel_rfl) rfl rfl (by kernel_rfl) (by kernel_rfl) h with ⟨hcs, _⟩ | ⟨a, len, cap, m, n, V0, V1, D0, D1, P0, P1, hcs, _, hl, hm, hmm, _, hc⟩
  · simp at hcs
    subst hcs
    exact ⟨none, 0, 0, [], rfl, ⟨0, 0, by omega, by intro i x hx; simp at hx⟩, rfl, Nat.zero_le _, by intro x hx; simp at hx⟩
  · simp at hcs
    subst hcs
    simp at hmm
    subst hmm
    obtain ⟨b, off, spot⟩ := a
    have each : ∀ i, i < len → ∃ x : Int × Int, W.cell? ((⟨b, off, spot⟩ : Addr).add (i * 2)) = some (.int .u8 x.1) ∧ W.cell? ((⟨b, off, spot⟩ : Addr).add (i * 2 + 1)) = some (.int .i64 x.2) ∧ (Lit.int .u8 x.1).wf = true ∧ (Lit.int .i64 x.2).wf = true := by
      intro i hi
      obtain ⟨c0, c1, t0, t1⟩ := hc i (by omega)
      obtain ⟨o, e0, _, w0⟩ := DataW.trod_int Try.underlying5 t0
      obtain ⟨q, e1, _, w1⟩ := DataW.trod_int Try.underlying3 t1
      simp at e0 e1
      exact ⟨(o, q), by rw [c0, e0], by rw [c1, e1], w0, w1⟩
    obtain ⟨f, hf⟩ := choose_lt each
    have hspot : 0 < len → spot = none := by
      intro h0
      have := (hf 0 h0).1
      simpa [Addr.add] using World.cell?_spot this
    refine ⟨some ⟨b, off, spot⟩, len, m, (List.range len).map f, rfl, ⟨⟨b, off, fun h0 => ?_, ?_⟩, by simp, by omega, ?_⟩⟩
    · have hsp := hspot h0
      subst hsp
      have h1 := (hf 0 h0).1
      rw [Addr.add_lit] at h1
      exact ⟨rfl, World.block_lt_of_cell? _ _ h1⟩
    · intro i x hx
      have hi : i < len := by
        have := (List.getElem?_eq_some_iff.1 hx).1
        simpa using this
      have hsp := hspot (by omega)
      subst hsp
      have hx' : f i = x := by simpa [hi] using hx
      subst hx'
      have h0 := (hf i hi).1
      have h1 := (hf i hi).2.1
      rw [Addr.add_lit] at h0 h1
      exact ⟨h0, by rw [← h1]; rfl⟩
    · intro x hx
      obtain ⟨i, hi, rfl⟩ := List.mem_map.1 hx
      have hi' : i < len := by simpa using hi
      have b0 := bounds_u8 (hf i hi').2.2.1
      have b1 := bounds_i64 (hf i hi').2.2.2
      omega

theorem cells46 : Try.prog.cellsOf 46 = 1 := by kernel_rfl
theorem cells63 : Try.prog.cellsOf 63 = 1 := by kernel_rfl
theorem cells61 : Try.prog.cellsOf 61 = 7 := by kernel_rfl
theorem cells31 : Try.prog.cellsOf 31 = 3 := by kernel_rfl
theorem cells38 : Try.prog.cellsOf 38 = 1 := by kernel_rfl
theorem cells29 : Try.prog.cellsOf 29 = 1 := by kernel_rfl
theorem cells3 : Try.prog.cellsOf 3 = 1 := by kernel_rfl

/-- Numbers of 16 bits that came in. -/
theorem open_draw {H : Type} {enc : TypeId × Value → H} {W : World} {v : Value} {x : DataW H × List MemPlace} {fuel : Nat}
    (h : DataW.trod enc Try.prog W 0 (fun _ => true) true fuel 63 [v] = some x) :
    ∃ (eo : Option Addr) (ec : Nat) (ds : List Int), v = .slice eo ds.length ec ∧ ds.length ≤ maxLen ∧ InR ds ∧ ∃ bd o2, (0 < ds.length → eo = some ⟨bd, o2, none⟩ ∧ bd < W.heap.size) ∧ U16Row W bd o2 ds := by
  rcases open_ints Try.underlying63 Try.underlying46 cells46 h with ⟨hcs, _⟩ | ⟨ad, len, cap, zs, hcs, _, hlc, hm, hz, _, hcell, hwz⟩
  · simp at hcs
    subst hcs
    exact ⟨none, 0, [], rfl, Nat.zero_le _, by intro x hx; simp at hx, 0, 0, fun h => absurd h (Nat.lt_irrefl 0), by intro i x hx; simp at hx⟩
  · simp at hcs
    subst hcs
    obtain ⟨bd, off, spot⟩ := ad
    simp at hz
    have hrng : InR (zs.take len) := by
      intro x hx
      exact bounds_u16 (hwz x (List.mem_of_mem_take hx))
    have hspot : 0 < len → spot = none := by
      intro h0
      have := hcell 0 (by omega)
      simpa [Addr.add] using World.cell?_spot this
    have hlen : (zs.take len).length = len := by rw [List.length_take]; omega
    refine ⟨some ⟨bd, off, spot⟩, cap, zs.take len, by rw [hlen], by rw [hlen]; omega, hrng, bd, off, ?_, ?_⟩
    · intro h0
      rw [hlen] at h0
      have hs := hspot h0
      subst hs
      have := hcell 0 (by omega)
      rw [Addr.add_lit] at this
      exact ⟨rfl, World.block_lt_of_cell? _ _ this⟩
    · intro i x hx
      have hi := (List.getElem?_eq_some_iff.1 hx).1
      rw [hlen] at hi
      have hs := hspot (by omega)
      subst hs
      have h1 := hcell i (by omega)
      rw [Addr.add_lit] at h1
      rw [h1]
      rw [List.getElem?_take, if_pos (by omega)] at hx
      simp [List.getD, hx]

/-- The draws of a frame that came in. -/
theorem open_draws {H : Type} {enc : TypeId × Value → H} {W : World} {v : Value} {x : DataW H × List MemPlace} {fuel : Nat}
    (h : DataW.trod enc Try.prog W 0 (fun _ => true) true fuel 29 [v] = some x) :
    ∃ (dao : Option Addr) (dcap : Nat) (dl : List (List Int)), v = .slice dao dl.length dcap ∧ dl.length ≤ maxLen ∧ DrIn W dao dl ∧ ∀ l ∈ dl, InR l := by
  rcases open_slice1 Try.underlying29 cells63 h with ⟨hcs, _⟩ | ⟨a, len, cap, m, n, V, D, Pl, hcs, _, hl, hm, hmm, hx, hc⟩
  · simp at hcs
    subst hcs
    exact ⟨none, 0, [], rfl, Nat.zero_le _, by intro i x hx; simp at hx, by intro x hx; simp at hx⟩
  · simp at hcs
    subst hcs
    simp at hmm
    subst hmm
    obtain ⟨b, off, spot⟩ := a
    have each : ∀ i, i < len → ∃ z : Option Addr × Nat × List Int, W.cell? ((⟨b, off, spot⟩ : Addr).add i) = some (.slice z.1 z.2.2.length z.2.1) ∧ z.2.2.length ≤ maxLen ∧ InR z.2.2 ∧ ∃ bd o2, (0 < z.2.2.length → z.1 = some ⟨bd, o2, none⟩ ∧ bd < W.heap.size) ∧ U16Row W bd o2 z.2.2 := by
      intro i hi
      obtain ⟨c0, t0⟩ := hc i (by omega)
      obtain ⟨eo, ec, ds, e, r⟩ := open_draw t0
      exact ⟨(eo, ec, ds), by rw [c0, e], r⟩
    obtain ⟨f, hf⟩ := choose_lt each
    have hspot : 0 < len → spot = none := by
      intro h0
      have := (hf 0 h0).1
      simpa [Addr.add] using World.cell?_spot this
    refine ⟨some ⟨b, off, spot⟩, m, (List.range len).map (fun i => (f i).2.2), by simp, by simp; omega, ?_, ?_⟩
    · intro i ds hd
      have hi : i < len := by
        have := (List.getElem?_eq_some_iff.1 hd).1
        simpa using this
      have hsp := hspot (by omega)
      subst hsp
      have hz' : (f i).2.2 = ds := by simpa [hi] using hd
      subst hz'
      obtain ⟨q0, q1, q2, q3⟩ := hf i hi
      rw [Addr.add_lit] at q0
      exact ⟨b, off, (f i).1, (f i).2.1, rfl, World.block_lt_of_cell? _ _ q0, q0, q1, q2, q3⟩
    · intro l hl'
      obtain ⟨i, hi, rfl⟩ := List.mem_map.1 hl'
      exact (hf i (by simpa using hi)).2.2.1

set_option maxRecDepth 100000 in
/-- Guests that came in. -/
theorem open_guest {H : Type} {enc : TypeId × Value → H} {W : World} {cs : List Value} {x : DataW H × List MemPlace} {fuel : Nat} (hl : cs.length = 7)
    (h : DataW.trod enc Try.prog W 0 (fun _ => true) true fuel 61 cs = some x) : ∃ g : Gs, cs = g.arr.toList ∧ g.ok W := by
  obtain ⟨xs, k, hk, hxy, _, hxl, hf⟩ := DataW.trod_struct Try.underlying61 h
  match xs, hxl, cs, hl with
  | [y1, y2, y3, y4, y5, y6, y7], _, [v1, v2, v3, v4, v5, v6, v7], _ =>
    have g1 := hf 0 _ rfl
    have g2 := hf 1 _ rfl
    have g3 := hf 2 _ rfl
    have g4 := hf 3 _ rfl
    have g5 := hf 4 _ rfl
    have g6 := hf 5 _ rfl
    have g7 := hf 6 _ rfl
    simp [cells38, cells3] at g1 g2 g3 g4 g5 g6 g7
    obtain ⟨ao, n, cap, raw, e1, hcode⟩ := open_ins g1
    obtain ⟨z2, q2, _, w2⟩ := DataW.trod_int Try.underlying3 g2
    obtain ⟨z3, q3, _, w3⟩ := DataW.trod_int Try.underlying3 g3
    obtain ⟨z4, q4, _, w4⟩ := DataW.trod_int Try.underlying3 g4
    obtain ⟨z5, q5, _, w5⟩ := DataW.trod_int Try.underlying3 g5
    obtain ⟨z6, q6, _, w6⟩ := DataW.trod_int Try.underlying3 g6
    obtain ⟨z7, q7, _, w7⟩ := DataW.trod_int Try.underlying3 g7
    simp at q2 q3 q4 q5 q6 q7
    subst e1 q2 q3 q4 q5 q6 q7
    exact ⟨⟨ao, n, cap, raw, ⟨z2, z3, z4, z5, z6, z7⟩⟩, rfl, hcode, ⟨bounds_i64 w2, bounds_i64 w3, bounds_i64 w4, bounds_i64 w5, bounds_i64 w6, bounds_i64 w7⟩⟩

theorem open_guests {H : Type} {enc : TypeId × Value → H} {W : World} {a0 : Option Addr} {len cap : Nat} {x : DataW H × List MemPlace} {fuel : Nat}
    (h : DataW.trod enc Try.prog W 0 (fun _ => true) true fuel 22 [.slice a0 len cap] = some x) :
    ∃ l : List Gs, l.length = len ∧ len ≤ maxLen ∧ GsAt W a0 l := by
  rcases open_slice Try.underlying22 h with ⟨hcs, _⟩ | ⟨a, len', cap', m, n, D, Pl, hcs, _, hl, hm, hmm, hx, hc⟩
  · simp at hcs
    obtain ⟨rfl, rfl, rfl⟩ := hcs
    exact ⟨[], rfl, Nat.zero_le _, Or.inl rfl, by intro x hx; simp at hx⟩
  · simp at hcs
    obtain ⟨rfl, rfl, rfl⟩ := hcs
    simp at hmm
    subst hmm
    obtain ⟨b, off, spot⟩ := a
    have each : ∀ i, i < len → ∃ g : Gs, (∀ j v, g.arr[j]? = some v → W.cell? ((⟨b, off, spot⟩ : Addr).add (i * 7 + j)) = some v) ∧ g.ok W := by
      intro i hi
      obtain ⟨cs', h1, h2⟩ := hc i (by omega)
      rw [cells61] at h1
      obtain ⟨_, hln, hcell⟩ := World.cells?_some h1
      obtain ⟨g, e, hg⟩ := open_guest hln h2
      refine ⟨g, fun j v hv => ?_, hg⟩
      have hj : j < 7 := (Array.getElem?_eq_some_iff.1 hv).1
      have q := hcell j (by omega)
      rw [add_add] at q
      rw [q]
      subst e
      simp only [Array.getElem?_toList] at *
      first
        | (rw [hv]; done)
        | (simp [hv]; done)
        | (have := (Array.getElem?_eq_some_iff.1 hv).2; simp [this])
    haveI : Inhabited Gs := ⟨⟨none, 0, 0, [], ⟨0, 0, 0, 0, 0, 0⟩⟩⟩
    obtain ⟨f, hf⟩ := choose_lt each
    have hspot : 0 < len → spot = none := by
      intro h0
      have := (hf 0 h0).1 0 (.slice (f 0).ao (f 0).n (f 0).cap) rfl
      simpa [Addr.add] using World.cell?_spot this
    refine ⟨(List.range len).map f, by simp, by omega, ?_, ?_⟩
    · by_cases h0 : 0 < len
      · have hsp := hspot h0
        subst hsp
        have hrow : GsRow W b off ((List.range len).map f) := by
          intro i z hz j v hv
          have hi : i < len := by
            have := (List.getElem?_eq_some_iff.1 hz).1
            simpa using this
          have hz' : f i = z := by simpa [hi] using hz
          subst hz'
          have q := (hf i hi).1 j v hv
          rw [Addr.add_lit, ← Nat.add_assoc] at q
          exact q
        exact Or.inr ⟨b, off, rfl, World.block_lt_of_cell? _ _ (hrow 0 (f 0) (by simp [h0]) 1 _ rfl), hrow⟩
      · left
        have : len = 0 := by omega
        subst this
        rfl
    · intro g hg
      obtain ⟨i, hi, rfl⟩ := List.mem_map.1 hg
      exact (hf i (by simpa using hi)).2

set_option maxRecDepth 100000 in
/-- Steps that came in. -/
theorem open_step {H : Type} {enc : TypeId × Value → H} {W : World} {cs : List Value} {x : DataW H × List MemPlace} {fuel : Nat} (hl : cs.length = 3)
    (h : DataW.trod enc Try.prog W 0 (fun _ => true) true fuel 31 cs = some x) : ∃ s : St, cs = [.int .i64 s.kind, .int .i64 s.a, .slice s.dao s.dl.length s.dcap] ∧ s.ok W := by
  obtain ⟨xs, k, hk, hxy, _, hxl, hf⟩ := DataW.trod_struct Try.underlying31 h
  match xs, hxl, cs, hl with
  | [y1, y2, y3], _, [v1, v2, v3], _ =>
    have g1 := hf 0 _ rfl
    have g2 := hf 1 _ rfl
    have g3 := hf 2 _ rfl
    simp [cells29, cells3] at g1 g2 g3
    obtain ⟨z1, q1, _, w1⟩ := DataW.trod_int Try.underlying3 g1
    obtain ⟨z2, q2, _, w2⟩ := DataW.trod_int Try.underlying3 g2
    obtain ⟨dao, dcap, dl, e3, hdl, hdr, hin⟩ := open_draws g3
    simp at q1 q2
    subst e3 q1 q2
    exact ⟨⟨z1, z2, dao, dcap, dl⟩, rfl, bounds_i64 w1, bounds_i64 w2, hdl, hdr, hin⟩

theorem open_steps {H : Type} {enc : TypeId × Value → H} {W : World} {a0 : Option Addr} {len cap : Nat} {x : DataW H × List MemPlace} {fuel : Nat}
    (h : DataW.trod enc Try.prog W 0 (fun _ => true) true fuel 23 [.slice a0 len cap] = some x) :
    ∃ l : List St, l.length = len ∧ len ≤ maxLen ∧ StAt W a0 l := by
  rcases open_slice Try.underlying23 h with ⟨hcs, _⟩ | ⟨a, len', cap', m, n, D, Pl, hcs, _, hl, hm, hmm, hx, hc⟩
  · simp at hcs
    obtain ⟨rfl, rfl, rfl⟩ := hcs
    exact ⟨[], rfl, Nat.zero_le _, Or.inl rfl, by intro x hx; simp at hx⟩
  · simp at hcs
    obtain ⟨rfl, rfl, rfl⟩ := hcs
    simp at hmm
    subst hmm
    obtain ⟨b, off, spot⟩ := a
    have each : ∀ i, i < len → ∃ s : St, W.cell? ((⟨b, off, spot⟩ : Addr).add (i * 3)) = some (.int .i64 s.kind) ∧ W.cell? ((⟨b, off, spot⟩ : Addr).add (i * 3 + 1)) = some (.int .i64 s.a) ∧ W.cell? ((⟨b, off, spot⟩ : Addr).add (i * 3 + 2)) = some (.slice s.dao s.dl.length s.dcap) ∧ s.ok W := by
      intro i hi
      obtain ⟨cs', h1, h2⟩ := hc i (by omega)
      rw [cells31] at h1
      obtain ⟨_, hln, hcell⟩ := World.cells?_some h1
      obtain ⟨s, rfl, hs⟩ := open_step hln h2
      have e0 := hcell 0 (by omega)
      have e1 := hcell 1 (by omega)
      have e2 := hcell 2 (by omega)
      rw [add_add] at e0 e1 e2
      exact ⟨s, by simpa using e0, by simpa using e1, by simpa using e2, hs⟩
    haveI : Inhabited St := ⟨⟨0, 0, none, 0, []⟩⟩
    obtain ⟨f, hf⟩ := choose_lt each
    have hspot : 0 < len → spot = none := by
      intro h0
      have := (hf 0 h0).1
      simpa [Addr.add] using World.cell?_spot this
    refine ⟨(List.range len).map f, by simp, by omega, ?_, ?_⟩
    · by_cases h0 : 0 < len
      · have hsp := hspot h0
        subst hsp
        have hrow : StRow W b off ((List.range len).map f) := by
          intro i z hz
          have hi : i < len := by
            have := (List.getElem?_eq_some_iff.1 hz).1
            simpa using this
          have hz' : f i = z := by simpa [hi] using hz
          subst hz'
          obtain ⟨q0, q1, q2, _⟩ := hf i hi
          rw [Addr.add_lit] at q0 q1 q2
          exact ⟨q0, q1, q2⟩
        exact Or.inr ⟨b, off, rfl, World.block_lt_of_cell? _ _ (hrow 0 (f 0) (by simp [h0])).1, hrow⟩
      · left
        have : len = 0 := by omega
        subst this
        rfl
    · intro g hg
      obtain ⟨i, hi, rfl⟩ := List.mem_map.1 hg
      exact (hf i (by simpa using hi)).2.2.2
end Go.Proofs.Ytidaflmmldefcaa
