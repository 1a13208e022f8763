/-
  How the input of a run that came in is read.
-/
import Derived.Test.YtfggaacijcggeaaRunA
import Derived.Test.YtfggaacijcggeaaOpen
namespace Go.Proofs.Ytfggaacijcggeaa
open Go.ChangeShapes Go.WideShapes Go.ChangeAt Go.RowKit
set_option linter.unusedVariables false

theorem fifteen {l : List Value} (h : l.length = 15) : ∃ a0 a1 a2 a3 a4 a5 a6 a7 a8 a9 a10 a11 a12 a13 a14, l = [a0, a1, a2, a3, a4, a5, a6, a7, a8, a9, a10, a11, a12, a13, a14] := by
  match l, h with
  | [a0, a1, a2, a3, a4, a5, a6, a7, a8, a9, a10, a11, a12, a13, a14], _ => exact ⟨a0, a1, a2, a3, a4, a5, a6, a7, a8, a9, a10, a11, a12, a13, a14, rfl⟩

theorem cells39 : Try.prog.cellsOf 39 = 15 := by kernel_rfl
theorem cells34 : Try.prog.cellsOf 34 = 8 := by kernel_rfl
theorem cells33 : Try.prog.cellsOf 33 = 1 := by kernel_rfl
theorem cells36 : Try.prog.cellsOf 36 = 4 := by kernel_rfl
theorem cells3 : Try.prog.cellsOf 3 = 1 := by kernel_rfl
theorem cells5 : Try.prog.cellsOf 5 = 1 := by kernel_rfl
theorem cells37 : Try.prog.cellsOf 37 = 1 := by kernel_rfl

theorem some_at {α : Type} {xs : List α} {n i : Nat} (h : xs.length = n) (hi : i < n) : ∃ y, xs[i]? = some y := ⟨xs[i]'(by omega), List.getElem?_eq_getElem (by omega)⟩

section
variable {H : Type} {enc : TypeId × Value → H} {W : World}

theorem read_u8 {fuel : Nat} {c : Value} {x : DataW H × List MemPlace} (h : DataW.trod enc Try.prog W 0 (fun _ => true) true fuel 5 [c] = some x) : ∃ k, c = .int .u8 k ∧ 0 ≤ k ∧ k ≤ 255 := by
  obtain ⟨k, e, _, w⟩ := DataW.trod_int Try.underlying5 h
  simp at e
  exact ⟨k, e, bounds_u8 w⟩
theorem read_u16 {fuel : Nat} {c : Value} {x : DataW H × List MemPlace} (h : DataW.trod enc Try.prog W 0 (fun _ => true) true fuel 33 [c] = some x) : ∃ k, c = .int .u16 k ∧ 0 ≤ k ∧ k ≤ 65535 := by
  obtain ⟨k, e, _, w⟩ := DataW.trod_int Try.underlying33 h
  simp at e
  exact ⟨k, e, bounds_u16 w⟩

theorem read_cells {fuel : Nat} {a1 a2 a3 a4 a5 a6 a7 a8 : Value} {x : DataW H × List MemPlace} (h : DataW.trod enc Try.prog W 0 (fun _ => true) true fuel 34 [a1, a2, a3, a4, a5, a6, a7, a8] = some x) :
    ∃ k0 k1 k2 k3 k4 k5 k6 k7, a1 = .int .u16 k0 ∧ a2 = .int .u16 k1 ∧ a3 = .int .u16 k2 ∧ a4 = .int .u16 k3 ∧ a5 = .int .u16 k4 ∧ a6 = .int .u16 k5 ∧ a7 = .int .u16 k6 ∧ a8 = .int .u16 k7 ∧ InR [k0, k1, k2, k3, k4, k5, k6, k7] := by
  obtain ⟨xs, m, _, _, _, hl, hf⟩ := DataW.trod_array Try.underlying34 h
  rw [cells33] at hf
  have each : ∀ (i : Nat) (c : Value), [a1, a2, a3, a4, a5, a6, a7, a8][i]? = some c → ∃ k, c = .int .u16 k ∧ 0 ≤ k ∧ k ≤ 65535 := by
    intro i c hc
    have hi : i < 8 := by have := (List.getElem?_eq_some_iff.1 hc).1; simpa using this
    obtain ⟨y, hy⟩ := some_at hl hi
    have h1 := hf i hi
    rw [hy, Nat.mul_one] at h1
    have e : (List.drop i [a1, a2, a3, a4, a5, a6, a7, a8]).take 1 = [c] := by
      rw [List.drop_eq_getElem_cons (by simpa using hi)]
      simp
      have := (List.getElem?_eq_some_iff.1 hc).2
      exact this
    rw [e] at h1
    exact read_u16 h1
  obtain ⟨k0, e0, b0⟩ := each 0 a1 rfl
  obtain ⟨k1, e1, b1⟩ := each 1 a2 rfl
  obtain ⟨k2, e2, b2⟩ := each 2 a3 rfl
  obtain ⟨k3, e3, b3⟩ := each 3 a4 rfl
  obtain ⟨k4, e4, b4⟩ := each 4 a5 rfl
  obtain ⟨k5, e5, b5⟩ := each 5 a6 rfl
  obtain ⟨k6, e6, b6⟩ := each 6 a7 rfl
  obtain ⟨k7, e7, b7⟩ := each 7 a8 rfl
  refine ⟨k0, k1, k2, k3, k4, k5, k6, k7, e0, e1, e2, e3, e4, e5, e6, e7, ?_⟩
  intro x hx
  simp at hx
  rcases hx with rfl | rfl | rfl | rfl | rfl | rfl | rfl | rfl <;> assumption

theorem read_event {fuel : Nat} {a1 a2 a3 a4 : Value} {x : DataW H × List MemPlace} (h : DataW.trod enc Try.prog W 0 (fun _ => true) true fuel 36 [a1, a2, a3, a4] = some x) :
    ∃ k0 k1 k2 k3, a1 = .int .u8 k0 ∧ a2 = .int .u8 k1 ∧ a3 = .int .u16 k2 ∧ a4 = .int .u8 k3 ∧ (0 ≤ k0 ∧ k0 ≤ 255) ∧ (0 ≤ k2 ∧ k2 ≤ 65535) ∧ (0 ≤ k3 ∧ k3 ≤ 255) := by
  obtain ⟨xs, m, _, _, _, hl, hf⟩ := DataW.trod_struct Try.underlying36 h
  obtain ⟨y0, h0⟩ := some_at (i := 0) hl (by decide)
  obtain ⟨y1, h1⟩ := some_at (i := 1) hl (by decide)
  obtain ⟨y2, h2⟩ := some_at (i := 2) hl (by decide)
  obtain ⟨y3, h3⟩ := some_at (i := 3) hl (by decide)
  have f0 : DataW.trod enc Try.prog W 0 (fun _ => true) true m 5 ((([a1, a2, a3, a4] : List Value).drop 0).take (Try.prog.cellsOf 5)) = some y0 := by rw [← h0]; exact hf 0 _ rfl
  rw [cells5] at f0
  have f1 : DataW.trod enc Try.prog W 0 (fun _ => true) true m 5 ((([a1, a2, a3, a4] : List Value).drop 1).take (Try.prog.cellsOf 5)) = some y1 := by rw [← h1]; exact hf 1 _ rfl
  rw [cells5] at f1
  have f2 : DataW.trod enc Try.prog W 0 (fun _ => true) true m 33 ((([a1, a2, a3, a4] : List Value).drop 2).take (Try.prog.cellsOf 33)) = some y2 := by rw [← h2]; exact hf 2 _ rfl
  rw [cells33] at f2
  have f3 : DataW.trod enc Try.prog W 0 (fun _ => true) true m 5 ((([a1, a2, a3, a4] : List Value).drop 3).take (Try.prog.cellsOf 5)) = some y3 := by rw [← h3]; exact hf 3 _ rfl
  rw [cells5] at f3
  obtain ⟨k0, e0, b0⟩ := read_u8 f0
  obtain ⟨k1, e1, b1⟩ := read_u8 f1
  obtain ⟨k2, e2, b2⟩ := read_u16 f2
  obtain ⟨k3, e3, b3⟩ := read_u8 f3
  exact ⟨k0, k1, k2, k3, e0, e1, e2, e3, b0, b2, b3⟩

set_option maxRecDepth 100000 in
/-- What a run is given, as it came in: its numbers, and where the draws lie. -/
theorem open_input {v : Value} {x : DataW H × List MemPlace} {fuel : Nat} {base : Nat}
    (hv : Value.okWide Try.prog W .any base 39 v)
    (h : DataW.trod enc Try.prog W 0 (fun _ => true) true fuel 39 v.cells.toList = some x) :
    ∃ (i : InV) (ds : List Int), v = .agg i.arr ∧ i.ok ∧ -9223372036854775808 ≤ i.fuel ∧ i.fuel ≤ 9223372036854775807 ∧ Drawn W i ds W.heap.size := by
  obtain ⟨cs, rfl, hsz⟩ := okWide_struct Try.underlying39 hv
  rw [cells39] at hsz
  obtain ⟨a0, a1, a2, a3, a4, a5, a6, a7, a8, a9, a10, a11, a12, a13, a14, hcs⟩ := fifteen (l := cs.toList) (by simpa using hsz)
  have hcs' : cs = #[a0, a1, a2, a3, a4, a5, a6, a7, a8, a9, a10, a11, a12, a13, a14] := by rw [← Array.toArray_toList (xs := cs), hcs]
  subst hcs'
  simp only [Value.cells] at h
  obtain ⟨xs, m, _, _, _, hl, hf⟩ := DataW.trod_struct Try.underlying39 h
  obtain ⟨y0, h0⟩ := some_at (i := 0) hl (by decide)
  obtain ⟨y1, h1⟩ := some_at (i := 1) hl (by decide)
  obtain ⟨y2, h2⟩ := some_at (i := 2) hl (by decide)
  obtain ⟨y3, h3⟩ := some_at (i := 3) hl (by decide)
  obtain ⟨y4, h4⟩ := some_at (i := 4) hl (by decide)
  have f0 : DataW.trod enc Try.prog W 0 (fun _ => true) true m 3 ((([a0, a1, a2, a3, a4, a5, a6, a7, a8, a9, a10, a11, a12, a13, a14] : List Value).drop 0).take (Try.prog.cellsOf 3)) = some y0 := by rw [← h0]; exact hf 0 _ rfl
  rw [cells3] at f0
  have f1 : DataW.trod enc Try.prog W 0 (fun _ => true) true m 34 ((([a0, a1, a2, a3, a4, a5, a6, a7, a8, a9, a10, a11, a12, a13, a14] : List Value).drop 1).take (Try.prog.cellsOf 34)) = some y1 := by rw [← h1]; exact hf 1 _ rfl
  rw [cells34] at f1
  have f2 : DataW.trod enc Try.prog W 0 (fun _ => true) true m 36 ((([a0, a1, a2, a3, a4, a5, a6, a7, a8, a9, a10, a11, a12, a13, a14] : List Value).drop 9).take (Try.prog.cellsOf 36)) = some y2 := by rw [← h2]; exact hf 2 _ rfl
  rw [cells36] at f2
  have f3 : DataW.trod enc Try.prog W 0 (fun _ => true) true m 5 ((([a0, a1, a2, a3, a4, a5, a6, a7, a8, a9, a10, a11, a12, a13, a14] : List Value).drop 13).take (Try.prog.cellsOf 5)) = some y3 := by rw [← h3]; exact hf 3 _ rfl
  rw [cells5] at f3
  have f4 : DataW.trod enc Try.prog W 0 (fun _ => true) true m 37 ((([a0, a1, a2, a3, a4, a5, a6, a7, a8, a9, a10, a11, a12, a13, a14] : List Value).drop 14).take (Try.prog.cellsOf 37)) = some y4 := by rw [← h4]; exact hf 4 _ rfl
  rw [cells37] at f4
  obtain ⟨fu, e0, _, w0⟩ := DataW.trod_int Try.underlying3 f0
  have bf := bounds_i64 w0
  obtain ⟨k0, k1, k2, k3, k4, k5, k6, k7, c0, c1, c2, c3, c4, c5, c6, c7, hr⟩ := read_cells f1
  obtain ⟨q0, q1, q2, q3, v0, v1, v2, v3, b0, b2, b3⟩ := read_event f2
  obtain ⟨ro, r0, br⟩ := read_u8 f3
  simp at e0
  subst e0 c0 c1 c2 c3 c4 c5 c6 c7 v0 v1 v2 v3 r0
  rcases open_ints Try.underlying37 Try.underlying33 cells33 f4 with ⟨hcs, _⟩ | ⟨ad, len, cap, zs, hcs, _, hlc, hm, hz, _, hcell, hwz⟩
  · simp at hcs
    subst hcs
    exact ⟨⟨fu, k0, k1, k2, k3, k4, k5, k6, k7, q0, q1, q2, q3, ro, none, 0, 0⟩, [], rfl, ⟨b0, b2, b3, br, hr⟩, bf.1, bf.2, ⟨rfl, by show 0 ≤ maxLen; unfold maxLen; omega, ⟨0, 0, by intro h; exact absurd h (Nat.lt_irrefl 0), by intro i x hx; simp at hx⟩, by intro x hx; simp at hx⟩⟩
  · simp at hcs
    subst hcs
    obtain ⟨bd, off, spot⟩ := ad
    simp at hz
    have hrng : InR (zs.take len) := by
      intro x hx
      exact bounds_u16 (hwz x (List.mem_of_mem_take hx))
    have hspot : 0 < len → spot = none := by
      intro h0
      have := hcell 0 (by omega)
      simpa [Addr.add] using World.cell?_spot this
    refine ⟨⟨fu, k0, k1, k2, k3, k4, k5, k6, k7, q0, q1, q2, q3, ro, some ⟨bd, off, spot⟩, len, cap⟩, zs.take len, rfl, ⟨b0, b2, b3, br, hr⟩, bf.1, bf.2, ⟨by show (zs.take len).length = len; rw [List.length_take]; omega, by show len ≤ maxLen; omega, ⟨bd, off, ?_, ?_⟩, hrng⟩⟩
    · intro h0
      have hs := hspot h0
      subst hs
      have := hcell 0 (by show 0 < zs.length; have : 0 < len := h0; omega)
      rw [Addr.add_lit] at this
      exact ⟨rfl, World.block_lt_of_cell? _ _ this⟩
    · intro i x hx
      have hi := (List.getElem?_eq_some_iff.1 hx).1
      rw [List.length_take] at hi
      have hs := hspot (by omega)
      subst hs
      have h1 := hcell i (by omega)
      rw [Addr.add_lit] at h1
      rw [h1]
      rw [List.getElem?_take, if_pos (by omega)] at hx
      simp [List.getD, hx]
end

end Go.Proofs.Ytfggaacijcggeaa
