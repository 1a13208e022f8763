/-
  The walk of do: one patch more.
  The walks of behind, move and removeOthers.
-/
import Derived.Test.YtcaeeaiodbjacaaDiffC
import Derived.Test.YtcaeeaiodbjacaaPtC
import Derived.Test.YtcaeeaiodbjacaaPlanR
namespace Go.Proofs.Ytcaeeaiodbjacaa
open Go.RowKit
set_option linter.unusedVariables false

/-- A tree on its way, in the block B. -/
def CB (w : World) (base B : Nat) (c : T.Ch) : Prop :=
  ∃ no nc pv, Blk w B #[.slice no c.1.length nc, pv] 74 ∧ c.1.length ≤ nc ∧ (no = none → c.1 = [] ∧ nc = 0) ∧
    (c.1 = [] ∨ ∃ b off, no = some ⟨b, off, none⟩ ∧ b < w.heap.size ∧ b ≠ B ∧ some b ≠ pv.ownBlock ∧ NodeRow w b off c.1) ∧ w.ownsRow base 46 5 pv c.2.length (ptCells c.2)

/-- What stays as it was: all below base, and every row that is neither of the change nor of patches. -/
structure Fm (base : Nat) (w w' : World) : Prop where
  bel : Below base w w'
  row : ∀ (k : Nat) (cs : Array Value) (t : TypeId), Blk w k cs t → t ≠ 74 → t ≠ 46 → Blk w' k cs t

theorem Fm.refl (base : Nat) (w : World) : Fm base w w := ⟨Below.refl _ _, fun _ _ _ h _ _ => h⟩
theorem Fm.trans {base : Nat} {a b c : World} (h : Fm base a b) (k : Fm base b c) : Fm base a c := ⟨h.bel.trans k.bel, fun i cs t q h1 h2 => k.row i cs t (h.row i cs t q h1 h2) h1 h2⟩
theorem Fm.of {base : Nat} {w w' : World} (h : Below w.heap.size w w') (hb : base ≤ w.heap.size) : Fm base w w' := ⟨h.mono hb, fun k cs t q _ _ => q.below h q.lt⟩
theorem Fm.size {base : Nat} {w w' : World} (h : Fm base w w') : w.heap.size ≤ w'.heap.size := h.bel.size
theorem Fm.own {base b0 : Nat} {w w' : World} {e : TypeId} {size : Nat} {v : Value} {n : Nat} {xs : List Value} (h : Fm base w w') (ho : w.ownsRow b0 e size v n xs) (h1 : e ≠ 74) (h2 : e ≠ 46) : w'.ownsRow b0 e size v n xs := by
  obtain ⟨q1, q2⟩ := ho
  refine ⟨q1, ?_⟩
  rcases q2 with q2 | ⟨g, cap, cur, hv, hg, hh, r⟩
  · exact Or.inl q2
  · exact Or.inr ⟨g, cap, cur, hv, hg, h.row g cur e hh h1 h2, r⟩

theorem CB.below {w w' : World} {base B : Nat} {c : T.Ch} (h : CB w base B c) (hb : Below w.heap.size w w') : CB w' base B c := by
  obtain ⟨no, nc, pv, h1, h2, h3, h4, h5⟩ := h
  refine ⟨no, nc, pv, h1.below hb h1.lt, h2, h3, ?_, own_below' h5 hb (Nat.le_refl _)⟩
  rcases h4 with h4 | ⟨b, off, e, q1, q2, q3, q4⟩
  · exact Or.inl h4
  · exact Or.inr ⟨b, off, e, by have := hb.size; omega, q2, q3, q4.below hb q1⟩

theorem CB.now {w : World} {base B : Nat} {c : T.Ch} (h : CB w base B c) : ∃ no nc, w.cell? ⟨B, 0, none⟩ = some (.slice no c.1.length nc) ∧ B < w.heap.size ∧ c.1.length ≤ nc ∧ (no = none → c.1 = [] ∧ nc = 0) ∧ NodeAt w no c.1 := by
  obtain ⟨no, nc, pv, h1, h2, h3, h4, h5⟩ := h
  refine ⟨no, nc, by rw [h1.cell]; rfl, h1.lt, h2, h3, ?_⟩
  rcases h4 with h4 | ⟨b, off, e, q1, q2, q3, q4⟩
  · exact Or.inl h4
  · exact Or.inr ⟨b, off, e, q1, q4⟩

/-- Behind a patch: the new list and the new row of patches. -/
theorem CB_of {w w1 w3 : World} {base B : Nat} {c : T.Ch} {p : T.Pt} {no v1o po v3o : Option Addr} {nc v1c pc v3c : Nat}
    (hB : Blk w B #[.slice no c.1.length nc, .slice po c.2.length pc] 74) (hpo : w.ownsRow base 46 5 (.slice po c.2.length pc) c.2.length (ptCells c.2)) (hbase : base ≤ B) (hs : base ≤ w.heap.size)
    (hb1 : Below w.heap.size w w1) (ho1 : w1.ownsRow w.heap.size 60 3 (.slice v1o (T.doP c p).1.length v1c) (T.doP c p).1.length (ndCells (T.doP c p).1))
    (hg : ((w1.setCell ⟨B, 0, none⟩ (.slice v1o (T.doP c p).1.length v1c)).alloc (.cells #[.int .u8 p.1, .int .u8 p.2.1, .int .i64 p.2.2.1, .int .u16 p.2.2.2.1, .string p.2.2.2.2] 46)).grownBy w3 (Value.ownBlock (.slice po c.2.length pc)))
    (ho3 : w3.ownsRow base 46 5 (.slice v3o (c.2.length + 1) v3c) (c.2.length + 1) (ptCells c.2 ++ [.int .u8 p.1, .int .u8 p.2.1, .int .i64 p.2.2.1, .int .u16 p.2.2.2.1, .string p.2.2.2.2])) :
    Blk w3 B #[.slice v1o (T.doP c p).1.length v1c, .slice po c.2.length pc] 74 ∧ CB (w3.setCell ⟨B, 1, none⟩ (.slice v3o (c.2.length + 1) v3c)) base B (T.doP c p) ∧ Fm base w (w3.setCell ⟨B, 1, none⟩ (.slice v3o (c.2.length + 1) v3c)) := by
  have hBl := hB.lt
  have hB1 : Blk w1 B #[.slice no c.1.length nc, .slice po c.2.length pc] 74 := hB.below hb1 hBl
  have hB2 : Blk (w1.setCell ⟨B, 0, none⟩ (.slice v1o (T.doP c p).1.length v1c)) B #[.slice v1o (T.doP c p).1.length v1c, .slice po c.2.length pc] 74 := hB1.set 0 _
  have hpo1 := own_below' hpo hb1 (Nat.le_refl _)
  have hpo2 : (w1.setCell ⟨B, 0, none⟩ (.slice v1o (T.doP c p).1.length v1c)).ownsRow base 46 5 (.slice po c.2.length pc) c.2.length (ptCells c.2) := by
    refine own_block hpo1 fun k hk => Below.heap_setCell _ _ _ _ ?_
    rintro rfl
    exact (hB1.ne_own hpo1 (by decide)) hk.symm
  have step : ∀ {k : Nat} {cs : Array Value} {t : TypeId}, Blk w1 k cs t → t ≠ 74 → t ≠ 46 → Blk (w3.setCell ⟨B, 1, none⟩ (.slice v3o (c.2.length + 1) v3c)) k cs t := by
    intro k cs t q h1 h2
    have q1 := (q.other ⟨B, 0, none⟩ (.slice v1o (T.doP c p).1.length v1c) (q.ne hB1 h1)).alloc (.cells #[.int .u8 p.1, .int .u8 p.2.1, .int .i64 p.2.2.1, .int .u16 p.2.2.2.1, .string p.2.2.2.2] 46)
    have q2 := q1.grown hg (q1.ne_own (hpo2.alloc _) h2)
    exact q2.other _ _ (q.ne hB1 h1)
  have hB2a := hB2.alloc (.cells #[.int .u8 p.1, .int .u8 p.2.1, .int .i64 p.2.2.1, .int .u16 p.2.2.2.1, .string p.2.2.2.2] 46)
  have hB3 : Blk w3 B #[.slice v1o (T.doP c p).1.length v1c, .slice po c.2.length pc] 74 := hB2a.grown hg (hB2a.ne_own (hpo2.alloc _) (by decide))
  have hs3 : w1.heap.size ≤ w3.heap.size := by
    have := hg.size
    simp at this
    omega
  refine ⟨hB3, ?_, ?_, ?_⟩
  · obtain ⟨ao', cap', e1, h2, h3, h4⟩ := own_slice_none ho1
    simp only [Value.slice.injEq] at e1
    obtain ⟨rfl, _, rfl⟩ := e1
    refine ⟨v1o, v1c, .slice v3o (c.2.length + 1) v3c, hB3.set 1 _, h2, h4, ?_, ?_⟩
    · rcases ho1.2 with ⟨hv, h0⟩ | ⟨g, cap, cur, hv, hgb, hh, r⟩
      · exact Or.inl (List.eq_nil_of_length_eq_zero h0)
      · right
        simp only [Value.slice.injEq] at hv
        obtain ⟨rfl, _, rfl⟩ := hv
        have hbk : Blk w1 g cur 60 := hh
        have hbk3 := step hbk (by decide) (by decide)
        refine ⟨g, 0, rfl, hbk3.lt, hbk.ne hB1 (by decide), ?_, ?_⟩
        · have hq2 := (hbk.other ⟨B, 0, none⟩ (.slice (some ⟨g, 0, none⟩) (T.doP c p).1.length v1c) (hbk.ne hB1 (by decide))).alloc (.cells #[.int .u8 p.1, .int .u8 p.2.1, .int .i64 p.2.2.1, .int .u16 p.2.2.2.1, .string p.2.2.2.2] 46)
          exact (hq2.grown hg (hq2.ne_own (hpo2.alloc _) (by decide))).ne_own ho3 (by decide)
        · have hr := own_nodeRow ho1 rfl
          intro i x hx
          obtain ⟨c0, c1, c2⟩ := hr i x hx
          rw [hbk.cell] at c0 c1 c2
          exact ⟨by rw [hbk3.cell]; exact c0, by rw [hbk3.cell]; exact c1, by rw [hbk3.cell]; exact c2⟩
    · have e : (T.doP c p).2 = c.2 ++ [p] := rfl
      rw [e, List.length_append, List.length_singleton, ptCells_snoc]
      refine own_block ho3 fun k hk => Below.heap_setCell _ _ _ _ ?_
      rintro rfl
      exact (hB3.ne_own ho3 (by decide)) hk.symm
  · have hb2 : Below base w (w1.setCell ⟨B, 0, none⟩ (.slice v1o (T.doP c p).1.length v1c)) := (hb1.mono hs).setCell hbase _
    have hb3 : Below base w ((w1.setCell ⟨B, 0, none⟩ (.slice v1o (T.doP c p).1.length v1c)).alloc (.cells #[.int .u8 p.1, .int .u8 p.2.1, .int .i64 p.2.2.1, .int .u16 p.2.2.2.1, .string p.2.2.2.2] 46)) := hb2.alloc (by have := hb1.size; simp; omega) _
    have hgB : Below base w w3 := hb3.grown hg (by have := hb1.size; simp; omega) (fun k hk => (hpo.lt k hk).1)
    exact hgB.setCell hbase _
  · intro k cs t q h1 h2
    exact step (q.below hb1 q.lt) h1 h2

set_option maxRecDepth 100000 in
set_option maxHeartbeats 4000000 in
theorem do_any {w : World} {base B : Nat} {c : T.Ch} (h : CB w base B c) (hB : base ≤ B) (hs : base ≤ w.heap.size) (hl : c.1.length ≤ 16) (hk : ndOk c.1) (hpl : c.2.length ≤ 1000)
    (p1 p2 p3 p4 : Int) (p5 : ByteArray) (h2 : 0 ≤ p2 ∧ p2 ≤ 255) (h4 : 0 ≤ p4 ∧ p4 ≤ 65535) (h5 : p5.size ≤ maxLen) :
    Calls Try.prog 52 #[.pointer (some ⟨B, 0, none⟩), .agg #[.int .u8 p1, .int .u8 p2, .int .i64 p3, .int .u16 p4, .string p5]] w fun e w' => e = .returned (.tuple #[]) ∧ CB w' base B (T.doP c (p1, p2, p3, p4, p5)) ∧ Fm base w w' := by
  obtain ⟨i0, hi, hz0, hz1, hz2⟩ := info_parts infoPt
  obtain ⟨no, nc, pv, hb, hnc, hnn, hna, hpo⟩ := h
  obtain ⟨po, pc, rfl⟩ := own_is hpo
  have hNA : NodeAt w no c.1 := by
    rcases hna with q | ⟨b, off, e, q1, q2, q3, q4⟩
    · exact Or.inl q
    · exact Or.inr ⟨b, off, e, q1, q4⟩
  have HP : Hid (∀ u : World, Below w.heap.size w u → Calls Try.prog 38 #[.slice no c.1.length nc, .agg #[.int .u8 p1, .int .u8 p2, .int .i64 p3, .int .u16 p4, .string p5]] u fun e w' => optEnd (T.patchP c.1 (p1, p2, p3, p4, p5)) u.heap.size u e w') :=
    fun u hu => patched_any no nc c.1 p1 p2 p3 p4 p5 u (by omega) hnc hnn (hNA.below hu (Nat.le_refl _) hu.size) hk h2 h4 h5
  have HBk : Hid (Blk w B #[.slice no c.1.length nc, .slice po c.2.length pc] 74) := hb
  have HPo : Hid (w.ownsRow base 46 5 (.slice po c.2.length pc) c.2.length (ptCells c.2)) := hpo
  have b0 := hb.cell 0
  have b1 := hb.cell 1
  simp at b0 b1
  have hBl := hb.lt
  have hBne : ¬ B = w.heap.size := by omega
  obtain ⟨nn, hnn'⟩ : ∃ n, n = c.1.length := ⟨_, rfl⟩
  obtain ⟨np, hnp⟩ : ∃ n, n = c.2.length := ⟨_, rfl⟩
  have Hnn : Hid (c.1.length = nn) := hnn'.symm
  have Hnp : Hid (c.2.length = np) := hnp.symm
  rw [← hnn'] at HP b0
  rw [← hnp] at b1 hpl
  clear hb hpo hna hNA hnn hk hnn' hnp hnc hl
  go_enter Try.func52, Try.ntmps52
  go_wp2_with fail
  go_region_with (go_at_call 38; refine (HP.out _ ?_).mono ?_; (exact ((Below.refl _ _).alloc (Nat.le_refl _) _).drew); rintro e w1 ⟨v1, rfl, ho1, hb1⟩)
  all_goals
    have hbw1 : Below w.heap.size w w1 := (((Below.refl _ _).alloc (Nat.le_refl _) _).drew).trans (hb1.mono (by simp))
    have hpb : Blk w1 w.heap.size #[.int .u8 p1, .int .u8 p2, .int .i64 p3, .int .u16 p4, .string p5] 46 := by
      have hpa : Blk ((w.alloc (.cells #[.int .u8 p1, .int .u8 p2, .int .i64 p3, .int .u16 p4, .string p5] 46)).drew) w.heap.size #[.int .u8 p1, .int .u8 p2, .int .i64 p3, .int .u16 p4, .string p5] 46 := Blk.new w _ 46
      exact hpa.below hb1 (by simp)
    have ho1w : w1.ownsRow w.heap.size 60 3 v1 (T.doP c (p1, p2, p3, p4, p5)).1.length (ndCells (T.doP c (p1, p2, p3, p4, p5)).1) := own_weaken ho1 (by simp)
    obtain ⟨v1o, v1c, rfl⟩ := own_is ho1w
    have HOk : Hid (∀ v3 w3, w3.ownsRow base 46 5 v3 (np + 1) (ptCells c.2 ++ [.int .u8 p1, .int .u8 p2, .int .i64 p3, .int .u16 p4, .string p5]) → (((w1.setCell ⟨B, 0, none⟩ (.slice v1o (T.doP c (p1, p2, p3, p4, p5)).1.length v1c)).alloc (.cells #[.int .u8 p1, .int .u8 p2, .int .i64 p3, .int .u16 p4, .string p5] 46)).drew).grownBy w3 (Value.slice po np pc).ownBlock →
        ∃ v3o v3c, v3 = .slice v3o (np + 1) v3c ∧ w3.cell? ⟨B, 1, none⟩ = some (.slice po np pc) ∧ w3.frozen? ⟨B, 1, none⟩ = false ∧ Hid (CB (w3.setCell ⟨B, 1, none⟩ (.slice v3o (np + 1) v3c)) base B (T.doP c (p1, p2, p3, p4, p5)) ∧ Fm base w (w3.setCell ⟨B, 1, none⟩ (.slice v3o (np + 1) v3c)))) := by
      intro v3 w3 ho3 hg3
      obtain ⟨v3o, v3c, rfl⟩ := own_is ho3
      rw [← Hnp.out] at ho3 hg3
      obtain ⟨k1, k2, k3⟩ := CB_of (p := (p1, p2, p3, p4, p5)) HBk.out HPo.out hB hs hbw1 ho1w ⟨hg3.os, hg3.tape, hg3.output, hg3.size, hg3.block⟩ ho3
      refine ⟨v3o, v3c, rfl, by rw [k1.cell, Hnp.out]; rfl, k1.free 1, ?_, ?_⟩
      · rw [Hnp.out] at k2; exact k2
      · rw [Hnp.out] at k3; exact k3
    have hB1 : Blk w1 B #[.slice no c.1.length nc, .slice po c.2.length pc] 74 := HBk.out.below hbw1 hBl
    have d0 := hB1.cell 0
    have d1 := hB1.cell 1
    simp at d0 d1
    rw [Hnp.out] at d1
    have g0 := hB1.free 0
    have g1 := hB1.free 1
    have hpo1 := own_below' HPo.out hbw1 (Nat.le_refl _)
    rw [Hnp.out] at hpo1
    have hpoS : (w1.setCell ⟨B, 0, none⟩ (.slice v1o (T.doP c (p1, p2, p3, p4, p5)).1.length v1c)).ownsRow base 46 5 (.slice po np pc) np (ptCells c.2) := by
      refine own_block hpo1 fun k hk => Below.heap_setCell _ _ _ _ ?_
      rintro rfl
      exact (hB1.ne_own hpo1 (by decide)) hk.symm
    have hs1 : w.heap.size ≤ w1.heap.size := hbw1.size
    have e0 := hpb.cell 0
    have e1 := hpb.cell 1
    have e2 := hpb.cell 2
    have e3 := hpb.cell 3
    have e4 := hpb.cell 4
    simp at e0 e1 e2 e3 e4
    have hpbl := hpb.lt
    generalize hlen : (T.doP c (p1, p2, p3, p4, p5)).1.length = dn at HOk hpoS ⊢
    have HOd : Hid ((((w1.setCell ⟨B, 0, none⟩ (.slice v1o dn v1c)).alloc (.cells #[.int .u8 p1, .int .u8 p2, .int .i64 p3, .int .u16 p4, .string p5] 46)).drew).ownsRow base 46 5 (.slice po np pc) np (ptCells c.2)) := hpoS.alloc _
    have hnews : Hid (∀ j u, [Value.int .u8 p1, .int .u8 p2, .int .i64 p3, .int .u16 p4, .string p5][j]? = some u → (((w1.setCell ⟨B, 0, none⟩ (.slice v1o dn v1c)).alloc (.cells #[.int .u8 p1, .int .u8 p2, .int .i64 p3, .int .u16 p4, .string p5] 46)).drew).cell? ((⟨w1.heap.size, 0, none⟩ : Addr).add j) = some u) := by
      intro j u hj
      have := Blk.new (w1.setCell ⟨B, 0, none⟩ (.slice v1o dn v1c)) #[.int .u8 p1, .int .u8 p2, .int .i64 p3, .int .u16 p4, .string p5] 46
      rw [show (w1.setCell ⟨B, 0, none⟩ (.slice v1o dn v1c)).heap.size = w1.heap.size by simp] at this
      have h := this.cell j
      rw [Addr.add_lit, Nat.zero_add]
      show World.cell? _ _ = _
      rw [← hj]
      simpa using h
    have hone : Hid (∀ u ∈ [Value.int .u8 p1, .int .u8 p2, .int .i64 p3, .int .u16 p4, .string p5], u.oneCell' = true) := by unfold Hid; intro u hu; simp at hu; rcases hu with rfl | rfl | rfl | rfl | rfl <;> rfl
    have hbase : Hid (base ≤ (((w1.setCell ⟨B, 0, none⟩ (.slice v1o dn v1c)).alloc (.cells #[.int .u8 p1, .int .u8 p2, .int .i64 p3, .int .u16 p4, .string p5] 46)).drew).heap.size) := by unfold Hid; simp; omega
    have hm63 : Hid (np + 1 ≤ maxLen) := by unfold Hid maxLen; omega
    have hbyt : Hid ((np + 1) * 40 ≤ 140737488355328) := by unfold Hid; omega
    have hBw : ¬ w.heap.size = B := by omega
    have hB1n : ¬ B = w1.heap.size := by omega
    have hBl1 : B < w1.heap.size := by omega
    have k1 : ∀ o, ((w1.setCell ⟨B, 0, none⟩ (.slice v1o dn v1c)).alloc o).cell? ⟨B, 1, none⟩ = some (.slice po np pc) := by
      intro o
      exact (((hB1.set 0 (.slice v1o dn v1c)).alloc o).cell 1).trans (by simp [Hnp.out])
    have hw1n : ¬ w.heap.size = w1.heap.size := by omega
    clear hbw1 hpb ho1w ho1 hb1 hB1 hpo1 hpoS HP hlen b0 b1
    go_wp2_with fail
    go_region_law (refine step_append_mine rfl (.tmp 23) (.tmp 25) 44 rfl base 46 i0 (.agg #[.int .u8 0, .int .u8 0, .int .i64 0, .int .u16 0, .string ⟨#[]⟩]) 5 40 Try.underlying44 hi hz0 hz1 hz2 rfl (by decide) (.slice po np pc) np (ptCells c.2) (by simp [Act.eval]) HOd.out ⟨w1.heap.size, 0, none⟩ 1 1 [.int .u8 p1, .int .u8 p2, .int .i64 p3, .int .u16 p4, .string p5] (by simp [Act.eval]) rfl hnews.out hone.out hm63.out hbyt.out hbase.out ?_; intro v3 w3 hown3 hg3; obtain ⟨v3o, v3c, hv3, q1, q2, HC3⟩ := HOk.out v3 w3 hown3 hg3; rw [hv3]; clear hown3 hg3 hv3)
    all_goals go_wp2
    all_goals go_end0
    all_goals exact ⟨rfl, HC3.out.1, HC3.out.2⟩

end Go.Proofs.Ytcaeeaiodbjacaa

namespace Go.Proofs.Ytcaeeaiodbjacaa
open Go.RowKit
set_option linter.unusedVariables false

/-- A tree on its way, of a size. -/
def Fit (c : T.Ch) : Prop := c.1.length ≤ 16 ∧ ndOk c.1

theorem fit_do {c : T.Ch} {p : T.Pt} (h : Fit c) (hp : (0 ≤ p.2.1 ∧ p.2.1 ≤ 255) ∧ (0 ≤ p.2.2.2.1 ∧ p.2.2.2.1 ≤ 65535) ∧ p.2.2.2.2.size ≤ maxLen) : Fit (T.doP c p) := by
  unfold Fit T.doP
  simp only
  cases hq : T.patchP c.1 p with
  | none => exact ⟨by simp, by intro x hx; simp at hx⟩
  | some r => exact patchP_ok h.1 h.2 hp hq

set_option maxRecDepth 100000 in
set_option maxHeartbeats 1000000 in
theorem behind_any {w : World} {base B : Nat} {c : T.Ch} (h : CB w base B c) (hf : Fit c) (ao : Option Addr) (cap : Nat) (l : List T.Nd) (hl : l.length ≤ 16) (ha : NodeAt w ao l) :
    Calls Try.prog 54 #[.pointer (some ⟨B, 0, none⟩), .slice ao l.length cap] w fun e w' => e = .returned (.int .i64 (T.behind c.1 l)) ∧ Below w.heap.size w w' := by
  obtain ⟨no, nc, c0, hBl, hnc, hnn, hna⟩ := h.now
  have HP : Hid (∀ (i : Int) (u : World), Below w.heap.size w u → Calls Try.prog 49 #[.slice no c.1.length nc, .int .u8 i] u fun e w' => e = .returned (.int .i64 (T.place c.1 i)) ∧ Below u.heap.size u w') := fun i u hu => place_any no nc c.1 i u (by have := hf.1; unfold maxLen; omega) (hna.below hu (Nat.le_refl _) hu.size)
  have hpl : ∀ i, -1 ≤ T.place c.1 i ∧ T.place c.1 i < 16 := by
    intro i
    have := hf.1
    cases hh : T.has c.1 i with
    | false => rw [T.place_no hh]; omega
    | true => have := T.place_yes hh; omega
  generalize c.1.length = nn at HP c0
  cases hlast : l.getLast? with
  | none =>
    have hl0 : l = [] := by simpa using hlast
    subst hl0
    have HV : Hid (T.behind c.1 [] = 0) := rfl
    go_enter Try.func54, Try.ntmps54
    go_wp2
    go_ret
    rw [HV.out]
    exact ⟨rfl, Below.refl _ _⟩
  | some z =>
    have HV : Hid (T.behind c.1 l = T.place c.1 z.1 + 1) := by unfold Hid T.behind; rw [hlast]
    have hlen : 0 < l.length := by
      cases l with
      | nil => simp at hlast
      | cons x r => simp
    obtain ⟨b, off, rfl, hbl, hr⟩ : ∃ b off, ao = some ⟨b, off, none⟩ ∧ b < w.heap.size ∧ NodeRow w b off l := ha.resolve_left (by rintro rfl; simp at hlen)
    have hz : l[l.length - 1]? = some z := by rw [← List.getLast?_eq_getElem?]; exact hlast
    obtain ⟨d0, d1, d2⟩ := hr _ _ hz
    obtain ⟨m, hm⟩ : ∃ m, m = l.length := ⟨_, rfl⟩
    obtain ⟨n, hn⟩ : ∃ n, n = m - 1 := ⟨_, rfl⟩
    rw [← hm] at d0 d1 d2 hl hlen ⊢
    rw [← hn] at d0 d1 d2
    have hpz := hpl z.1
    obtain ⟨pz, hpe⟩ : ∃ p, p = T.place c.1 z.1 := ⟨_, rfl⟩
    have HPz : Hid (pz = T.place c.1 z.1) := hpe
    rw [← hpe] at hpz
    have HC : Hid (∀ (u : World), Below w.heap.size w u → Calls Try.prog 49 #[.slice no nn nc, .int .u8 z.1] u fun e w' => e = .returned (.int .i64 pz) ∧ Below u.heap.size u w') := by
      intro u hu
      have := HP.out z.1 u hu
      rw [← hpe] at this
      exact this
    have hidx : (m : Int) - 1 = (n : Int) := by omega
    have hni : (n : Int) < (m : Int) := by omega
    have hn0 : (0 : Int) ≤ (n : Int) := by omega
    have hne : ((m : Int) == 0) = false := by rw [beq_eq_false_iff_ne]; omega
    have hm1 : 1 ≤ m := by omega
    have hwp : IntKind.i64.wrap (pz + 1) = pz + 1 := by rw [IntKind.wrap_i64]; omega
    have hwn : IntKind.i64.wrap (n : Int) = (n : Int) := by rw [IntKind.wrap_i64]; omega
    clear hr hz hlast ha HP hpl hpe hn hm
    go_enter Try.func54, Try.ntmps54
    go_wp2_with fail
    go_region_with (go_at_call 49; refine (HC.out _ (by first | exact Below.refl _ _ | exact (Below.refl _ _).drew)).mono ?_; rintro e w1 ⟨rfl, hb1⟩)
    all_goals
      have HB1 : Hid (Below w.heap.size w w1) := ((Below.refl _ _).drew).trans hb1
      clear hb1
      go_wp2
      go_ret
      rw [HV.out, ← HPz.out]
      refine ⟨?_, HB1.out⟩
      first | rfl | exact ret_int hwp | (simp [hwp])

set_option maxRecDepth 100000 in
set_option maxHeartbeats 1000000 in
theorem move_any {w : World} {base B : Nat} {c : T.Ch} (h : CB w base B c) (hB : base ≤ B) (hs : base ≤ w.heap.size) (hf : Fit c) (hpl : c.2.length ≤ 1000) (id at_ : Int) (hid : 0 ≤ id ∧ id ≤ 255) (hat : 0 ≤ at_ ∧ at_ ≤ 1000) :
    Calls Try.prog 55 #[.pointer (some ⟨B, 0, none⟩), .int .u8 id, .int .i64 at_] w fun e w' => e = .returned (.tuple #[]) ∧ CB w' base B (T.moveP c id at_) ∧ Fm base w w' := by
  obtain ⟨no, nc, c0, hBl, hnc, hnn, hna⟩ := h.now
  have HP : Hid (∀ (u : World), Below w.heap.size w u → Calls Try.prog 49 #[.slice no c.1.length nc, .int .u8 id] u fun e w' => e = .returned (.int .i64 (T.place c.1 id)) ∧ Below u.heap.size u w') := fun u hu => place_any no nc c.1 id u (by have := hf.1; unfold maxLen; omega) (hna.below hu (Nat.le_refl _) hu.size)
  have HD : Hid (∀ (u : World) (a : Int), Below w.heap.size w u → Calls Try.prog 52 #[.pointer (some ⟨B, 0, none⟩), .agg #[.int .u8 3, .int .u8 id, .int .i64 a, .int .u16 0, .string ⟨#[]⟩]] u fun e w' => e = .returned (.tuple #[]) ∧ CB w' base B (T.doP c (3, id, a, 0, ⟨#[]⟩)) ∧ Fm base u w') :=
    fun u a hu => do_any (h.below hu) hB (by have := hu.size; omega) hf.1 hf.2 hpl 3 id a 0 ⟨#[]⟩ hid (by omega) (by unfold maxLen; decide)
  have HS : Hid (base ≤ w.heap.size) := hs
  generalize c.1.length = nn at HP c0
  obtain ⟨p, hp⟩ : ∃ p, p = T.place c.1 id := ⟨_, rfl⟩
  rw [← hp] at HP
  by_cases hlt : p < at_
  · have HM : Hid (T.moveP c id at_ = T.doP c (3, id, at_ - 1, 0, ⟨#[]⟩)) := by unfold Hid T.moveP; rw [← hp, if_pos hlt]
    clear hp hna h hf
    go_enter Try.func55, Try.ntmps55
    go_wp2_with fail
    refine (HP.out _ (Below.refl _ _)).mono ?_
    rintro e w1 ⟨rfl, hb1⟩
    have HB1 : Hid (Below w.heap.size w w1) := hb1
    clear hb1
    go_wp2_with fail
    refine (HD.out w1 (at_ - 1) HB1.out).mono ?_
    rintro e w2 ⟨rfl, hc2, hf2⟩
    have HC2 : Hid (CB w2 base B (T.doP c (3, id, at_ - 1, 0, ⟨#[]⟩)) ∧ Fm base w1 w2) := ⟨hc2, hf2⟩
    clear hc2 hf2
    go_wp2
    go_end0
    rw [HM.out]
    exact ⟨rfl, HC2.out.1, (Fm.of HB1.out HS.out).trans HC2.out.2⟩
  · have HM : Hid (T.moveP c id at_ = T.doP c (3, id, at_, 0, ⟨#[]⟩)) := by unfold Hid T.moveP; rw [← hp, if_neg hlt]
    clear hp hna h hf
    go_enter Try.func55, Try.ntmps55
    go_wp2_with fail
    refine (HP.out _ (Below.refl _ _)).mono ?_
    rintro e w1 ⟨rfl, hb1⟩
    have HB1 : Hid (Below w.heap.size w w1) := hb1
    clear hb1
    go_wp2_with fail
    refine (HD.out w1 at_ HB1.out).mono ?_
    rintro e w2 ⟨rfl, hc2, hf2⟩
    have HC2 : Hid (CB w2 base B (T.doP c (3, id, at_, 0, ⟨#[]⟩)) ∧ Fm base w1 w2) := ⟨hc2, hf2⟩
    clear hc2 hf2
    go_wp2
    go_end0
    rw [HM.out]
    exact ⟨rfl, HC2.out.1, (Fm.of HB1.out HS.out).trans HC2.out.2⟩

end Go.Proofs.Ytcaeeaiodbjacaa
