/-
  The walk of Run where the bytes are no program.
-/
import Derived.Test.YtidaflmmldefcaaOutc
import Derived.Test.YtidaflmmldefcaaJCodeW
namespace Go.Proofs.Ytidaflmmldefcaa
open Go.RowKit
set_option linter.unusedVariables false

namespace H
/-- What Run answers. -/
structure Out where
  fault : Int
  steps : Nat
  draws : Nat
  cells : List Int
  shows : List (Int × ByteArray)
  sends : List (Int × Int)
  err : Int

def outNone (e : Int) : Out := { fault := 0, steps := 0, draws := 0, cells := [0, 0, 0, 0, 0, 0, 0, 0], shows := [], sends := [], err := e }
def outOf (first : List Int) (M : Mach) : Out :=
  if M.fault = 0 then { fault := 0, steps := M.steps, draws := M.draws, cells := M.cells, shows := M.shows, sends := M.sends, err := 0 }
  else { fault := M.fault, steps := M.steps, draws := M.draws, cells := first, shows := [], sends := [], err := 0 }
def run (L : List Int) (first : List Int) (I : Inp) : Out :=
  if (decode L).2.1 = 0 then
    if I.fuel < 0 ∨ 1000 < I.fuel then outNone 2
    else outOf first (runM (decode L).1 I I.fuel.toNat (I.fuel.toNat + 1) (mach0 first))
  else outNone (decode L).2.1
end H

def outVal (O : H.Out) (sv dv : Value) : Value :=
  outAgg O.fault O.steps O.draws (O.cells.getD 0 0) (O.cells.getD 1 0) (O.cells.getD 2 0) (O.cells.getD 3 0) (O.cells.getD 4 0) (O.cells.getD 5 0) (O.cells.getD 6 0) (O.cells.getD 7 0) sv dv

/-- What Run hands back. -/
def runEnd (O : H.Out) (base : Nat) (w : World) (e : Ending) (w' : World) : Prop :=
  ∃ sv dv, e = .returned (.tuple #[outVal O sv dv, .int .i64 O.err]) ∧ w'.ownsRow base 129 2 sv O.shows.length (showCells O.shows) ∧ w'.ownsRow base 93 2 dv O.sends.length (sendCells O.sends) ∧ Below base w w'

theorem runEnd_none {base : Nat} {w w' : World} {x : Int} (hb : Below base w w') : runEnd (H.outNone x) base w (.returned (.tuple #[outAgg 0 0 0 0 0 0 0 0 0 0 0 (.slice none 0 0) (.slice none 0 0), .int .i64 x])) w' :=
  ⟨.slice none 0 0, .slice none 0 0, rfl, World.ownsRow_nil _ _ _ _, World.ownsRow_nil _ _ _ _, hb⟩

/-- A whole outcome is written into a block of the call's own. -/
theorem below_13 {B b : Nat} {a w : World} (h : Below B a w) (hb : B ≤ b) (u0 u1 u2 u3 u4 u5 u6 u7 u8 u9 u10 u11 u12 : Value) : Below B a (((((((((((((w.setCell ⟨b, 0, none⟩ u0).setCell ⟨b, 1, none⟩ u1).setCell ⟨b, 2, none⟩ u2).setCell ⟨b, 3, none⟩ u3).setCell ⟨b, 4, none⟩ u4).setCell ⟨b, 5, none⟩ u5).setCell ⟨b, 6, none⟩ u6).setCell ⟨b, 7, none⟩ u7).setCell ⟨b, 8, none⟩ u8).setCell ⟨b, 9, none⟩ u9).setCell ⟨b, 10, none⟩ u10).setCell ⟨b, 11, none⟩ u11).setCell ⟨b, 12, none⟩ u12) :=
  (((((((((((((h.setCell (p := ⟨b, 0, none⟩) hb u0).setCell (p := ⟨b, 1, none⟩) hb u1).setCell (p := ⟨b, 2, none⟩) hb u2).setCell (p := ⟨b, 3, none⟩) hb u3).setCell (p := ⟨b, 4, none⟩) hb u4).setCell (p := ⟨b, 5, none⟩) hb u5).setCell (p := ⟨b, 6, none⟩) hb u6).setCell (p := ⟨b, 7, none⟩) hb u7).setCell (p := ⟨b, 8, none⟩) hb u8).setCell (p := ⟨b, 9, none⟩) hb u9).setCell (p := ⟨b, 10, none⟩) hb u10).setCell (p := ⟨b, 11, none⟩) hb u11).setCell (p := ⟨b, 12, none⟩) hb u12)
theorem own_13 {base e n b : Nat} {v : Value} {xs : List Value} {w : World} (h : w.ownsRow base e 2 v n xs) (hb : v.ownBlock ≠ some b) (u0 u1 u2 u3 u4 u5 u6 u7 u8 u9 u10 u11 u12 : Value) : (((((((((((((w.setCell ⟨b, 0, none⟩ u0).setCell ⟨b, 1, none⟩ u1).setCell ⟨b, 2, none⟩ u2).setCell ⟨b, 3, none⟩ u3).setCell ⟨b, 4, none⟩ u4).setCell ⟨b, 5, none⟩ u5).setCell ⟨b, 6, none⟩ u6).setCell ⟨b, 7, none⟩ u7).setCell ⟨b, 8, none⟩ u8).setCell ⟨b, 9, none⟩ u9).setCell ⟨b, 10, none⟩ u10).setCell ⟨b, 11, none⟩ u11).setCell ⟨b, 12, none⟩ u12).ownsRow base e 2 v n xs := by
  have h0 := ownsRow_setCell_other h (a := ⟨b, 0, none⟩) hb u0
  have h1 := ownsRow_setCell_other h0 (a := ⟨b, 1, none⟩) hb u1
  have h2 := ownsRow_setCell_other h1 (a := ⟨b, 2, none⟩) hb u2
  have h3 := ownsRow_setCell_other h2 (a := ⟨b, 3, none⟩) hb u3
  have h4 := ownsRow_setCell_other h3 (a := ⟨b, 4, none⟩) hb u4
  have h5 := ownsRow_setCell_other h4 (a := ⟨b, 5, none⟩) hb u5
  have h6 := ownsRow_setCell_other h5 (a := ⟨b, 6, none⟩) hb u6
  have h7 := ownsRow_setCell_other h6 (a := ⟨b, 7, none⟩) hb u7
  have h8 := ownsRow_setCell_other h7 (a := ⟨b, 8, none⟩) hb u8
  have h9 := ownsRow_setCell_other h8 (a := ⟨b, 9, none⟩) hb u9
  have h10 := ownsRow_setCell_other h9 (a := ⟨b, 10, none⟩) hb u10
  have h11 := ownsRow_setCell_other h10 (a := ⟨b, 11, none⟩) hb u11
  have h12 := ownsRow_setCell_other h11 (a := ⟨b, 12, none⟩) hb u12
  exact h12

theorem scan_ops : ∀ (f : Nat) (L : List Int) (p : Nat) (acc l : List (Int × Int)), (∀ i, 0 ≤ H.at0 L i ∧ H.at0 L i ≤ 255) → (∀ x ∈ acc, 0 ≤ x.1) → H.scan f L p acc = (l, none) → ∀ x ∈ l, 0 ≤ x.1
  | 0, L, p, acc, l, hb, ha, h => by simp [H.scan] at h; subst h; exact ha
  | f + 1, L, p, acc, l, hb, ha, h => by
    simp only [H.scan] at h
    by_cases h1 : p < L.length
    · rw [if_pos h1] at h
      by_cases h2 : p + H.wid (H.at0 L p) < L.length ∧ acc.length ≠ 64 ∧ H.alone (H.at0 L p) (H.opnd L p) = true
      · rw [if_pos h2] at h
        refine scan_ops f L _ _ _ hb ?_ h
        intro x hx
        rcases List.mem_append.1 hx with h' | h'
        · exact ha x h'
        · simp at h'; subst h'; exact (hb p).1
      · rw [if_neg h2] at h; simp at h
    · rw [if_neg h1] at h; simp at h; subst h; exact ha

theorem dec_ops (L : List Int) (l : List (Int × Int)) (hb : ∀ i, 0 ≤ H.at0 L i ∧ H.at0 L i ≤ 255) (h : H.decode L = (l, 0, 0)) : ∀ x ∈ l, 0 ≤ x.1 := by
  rcases hs : H.scanAt L 0 [] with ⟨m, q⟩
  cases q with
  | some q => rw [H.decode_bad L m q hs] at h; simp at h
  | none =>
    have hm := scan_ops _ L 0 [] m hb (by simp) hs
    by_cases h0 : m.length = 0
    · have : m = [] := List.eq_nil_of_length_eq_zero h0
      subst this
      rw [H.decode_none L hs] at h; simp at h
    · cases ht : H.stray m.length 0 0 m with
      | some q => rw [H.decode_stray L m q hs h0 ht] at h; simp at h
      | none => rw [H.decode_ok L m hs h0 ht] at h; simp at h; subst h; exact hm

set_option maxRecDepth 100000 in
set_option maxHeartbeats 4000000 in
theorem runW_bad (code : ByteArray) (v : InV) (ds : List Int) (w : World) (hc : code.size ≤ maxLen) (hv : v.ok) (hd : Drawn w v ds w.heap.size) (p : Nat) (hd1 : H.decode (H.bts code) = ([], 1, (p : Int))) :
    Calls Try.prog 48 #[.string code, .agg v.arr] w fun e w' => runEnd (H.run (H.bts code) v.cells (v.inp ds)) w.heap.size w e w' := by
  have Hc : Hid (code.size ≤ maxLen) := hc
  have Hv : Hid v.ok := hv
  have HD : Hid (Drawn w v ds w.heap.size) := hd
  obtain ⟨F, hF⟩ : ∃ F, F = v.fuel := ⟨_, rfl⟩
  have HF : Hid (F = v.fuel) := hF
  have harr : v.arr = #[.int .i64 F, .int .u16 v.c0, .int .u16 v.c1, .int .u16 v.c2, .int .u16 v.c3, .int .u16 v.c4, .int .u16 v.c5, .int .u16 v.c6, .int .u16 v.c7, .int .u8 v.what, .int .u8 v.by_, .int .u16 v.arg, .int .u8 v.src, .int .u8 v.route, .slice v.ao v.n v.cap] := by unfold InV.arr; rw [hF]
  have HArr : Hid (v.arr = #[.int .i64 F, .int .u16 v.c0, .int .u16 v.c1, .int .u16 v.c2, .int .u16 v.c3, .int .u16 v.c4, .int .u16 v.c5, .int .u16 v.c6, .int .u16 v.c7, .int .u8 v.what, .int .u8 v.by_, .int .u16 v.arg, .int .u8 v.src, .int .u8 v.route, .slice v.ao v.n v.cap]) := harr
  rw [harr]
  have HDE : Hid (H.decode (H.bts code) = ([], 1, (p : Int))) := hd1
  clear hc hv hd hF harr hd1
  go_enter Try.func48, Try.ntmps48
  go_wp2_with fail
  refine (dec_any code _ Hc.out).mono ?_
  rintro e w1 ⟨v1, rfl, hown1, hb1⟩
  have hbw : Below w.heap.size w w1 := (((Below.refl _ _).alloc (Nat.le_refl _) _).alloc (by simp) _).trans (hb1.mono (by simp; omega))
  have HB1 : Hid (Below w.heap.size w w1) := hbw
  have hs1 := hbw.size
  have hs1b : w.heap.size + 2 ≤ w1.heap.size := by have := hb1.size; simp at this; omega
  have HX1 : Hid (Blk w1 w.heap.size v.arr 112) := by
    unfold Hid
    rw [HArr.out]
    exact ((Blk.new w _ 112).alloc _).below hb1 (by simp; omega)
  have HZ1 : Hid (Blk w1 (w.heap.size + 1) #[.int .u8 0, .int .i64 0, .int .i64 0, .int .u16 0, .int .u16 0, .int .u16 0, .int .u16 0, .int .u16 0, .int .u16 0, .int .u16 0, .int .u16 0, .slice none 0 0, .slice none 0 0] 115) := by
    have h := Blk.new (w.alloc (.cells #[.int .i64 F, .int .u16 v.c0, .int .u16 v.c1, .int .u16 v.c2, .int .u16 v.c3, .int .u16 v.c4, .int .u16 v.c5, .int .u16 v.c6, .int .u16 v.c7, .int .u8 v.what, .int .u8 v.by_, .int .u16 v.arg, .int .u8 v.src, .int .u8 v.route, .slice v.ao v.n v.cap] 112)) #[.int .u8 0, .int .i64 0, .int .i64 0, .int .u16 0, .int .u16 0, .int .u16 0, .int .u16 0, .int .u16 0, .int .u16 0, .int .u16 0, .int .u16 0, .slice none 0 0, .slice none 0 0] 115
    rw [show (w.alloc (.cells #[.int .i64 F, .int .u16 v.c0, .int .u16 v.c1, .int .u16 v.c2, .int .u16 v.c3, .int .u16 v.c4, .int .u16 v.c5, .int .u16 v.c6, .int .u16 v.c7, .int .u8 v.what, .int .u8 v.by_, .int .u16 v.arg, .int .u8 v.src, .int .u8 v.route, .slice v.ao v.n v.cap] 112)).heap.size = w.heap.size + 1 by simp] at h
    exact h.below hb1 (by simp)
  have z0 := HZ1.out.cell 0
  have z1 := HZ1.out.cell 1
  have z2 := HZ1.out.cell 2
  have z3 := HZ1.out.cell 3
  have z4 := HZ1.out.cell 4
  have z5 := HZ1.out.cell 5
  have z6 := HZ1.out.cell 6
  have z7 := HZ1.out.cell 7
  have z8 := HZ1.out.cell 8
  have z9 := HZ1.out.cell 9
  have z10 := HZ1.out.cell 10
  have z11 := HZ1.out.cell 11
  have z12 := HZ1.out.cell 12
  simp at z0 z1 z2 z3 z4 z5 z6 z7 z8 z9 z10 z11 z12
  have zf : ∀ i, w1.frozen? ⟨w.heap.size + 1, i, none⟩ = false := fun i => HZ1.out.free i
  have hd := HDE.out
  rw [hd] at hown1 ⊢
  simp only at hown1 ⊢
  have HE : Hid (H.run (H.bts code) v.cells (v.inp ds) = H.outNone 1) := by unfold Hid H.run; rw [hd]; rfl
  clear hd hown1 hb1 hbw HX1
  go_wp2
  refine bodyPost_ret (v := .tuple #[.agg #[.int .u8 0, .int .i64 0, .int .i64 0, .int .u16 0, .int .u16 0, .int .u16 0, .int .u16 0, .int .u16 0, .int .u16 0, .int .u16 0, .int .u16 0, .slice none 0 0, .slice none 0 0], .int .i64 1]) ?_ rfl ?_
  · simp [results, Try.results48, go_sem, z0, z1, z2, z3, z4, z5, z6, z7, z8, z9, z10, z11, z12]
  · rw [HE.out]
    exact runEnd_none (below_13 HB1.out (by omega) _ _ _ _ _ _ _ _ _ _ _ _ _)

end Go.Proofs.Ytidaflmmldefcaa
