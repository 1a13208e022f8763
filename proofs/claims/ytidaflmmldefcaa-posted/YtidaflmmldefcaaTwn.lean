/-
  The walks of same and twins, of what is the same.
-/
import Derived.Test.YtidaflmmldefcaaFrC
import Derived.Test.YtidaflmmldefcaaArr8
import Derived.Laws.StructEq
import Derived.MapKept
namespace Go.Proofs.Ytidaflmmldefcaa
open Go.RowKit
set_option linter.unusedVariables false

theorem drewN_below {B : Nat} {w w' : World} (h : Below B w w') (n : Nat) : Below B w (w'.drewN n) := ⟨h.os, h.tape, h.output, h.size, h.block⟩

set_option maxHeartbeats 4000000 in
theorem same_eq (ao bo : Option Addr) (ca cb n : Nat) (l : List Tr.T.Nd) (w : World) (hn : l.length = n) (hl : n ≤ 100000) (ha : w.ownsRow 0 77 3 (.slice ao n ca) n (Tr.ndCells l)) (hb : w.ownsRow 0 77 3 (.slice bo n cb) n (Tr.ndCells l)) :
    Calls Try.prog 37 #[.slice ao n ca, .slice bo n cb] w fun e w' => e = .returned (.bool true) ∧ Below w.heap.size w w' := by
  have HA : Hid (w.ownsRow 0 77 3 (.slice ao n ca) n (Tr.ndCells l)) := ha
  have HB : Hid (w.ownsRow 0 77 3 (.slice bo n cb) n (Tr.ndCells l)) := hb
  have Hn : Hid (l.length = n) := hn
  clear hn ha hb
  go_enter Try.func37, Try.ntmps37
  go_wp2_with fail
  go_loopw [5] (fun i wr => ∃ (k q : Nat), k ≤ n ∧ i = .int .i64 k ∧ wr = w.drewN q)
    (fun i _ => n - (intOf i).toNat)
  case atStart => exact ⟨0, 0, Nat.zero_le _, rfl, rfl⟩
  case round =>
    obtain ⟨k, q, hk, rfl, rfl⟩ := hrel
    by_cases hlt : k < n
    · obtain ⟨x, hx⟩ : ∃ x, l[k]? = some x := ⟨l[k]'(by have := Hn.out; omega), List.getElem?_eq_getElem (by have := Hn.out; omega)⟩
      obtain ⟨s0, s1, s2⟩ := Tr.ndCells_at l k _ hx
      obtain ⟨g1, rfl, c0, c1, c2⟩ := own_three HA.out s0 s1 s2
      obtain ⟨g2, rfl, d0, d1, d2⟩ := own_three HB.out s0 s1 s2
      obtain ⟨x1, x2, x3⟩ := x
      simp only at c0 c1 c2 d0 d1 d2
      have hi : (k : Int) < (n : Int) := by omega
      have h0 : (0 : Int) ≤ (k : Int) := by omega
      clear hx s0 s1 s2
      go_wp2_with fail
      go_quiet (fail)
      go_wp2
      go_roundw
      case rel => exact ⟨k + 1, _, by omega, by go_num, by first | rfl | simp⟩
      case measure => simp [intOf]; omega
    · have hi : ¬ (k : Int) < (n : Int) := by omega
      go_wp2
      go_ret
      exact ⟨rfl, drewN_below (Below.refl _ _) _⟩

theorem own_four {w : World} {base : Nat} {e : TypeId} {ao : Option Addr} {n c k : Nat} {xs : List Value} {a b d f : Value} (h : w.ownsRow base e 4 (.slice ao n c) n xs) (ha : xs[k * 4]? = some a) (hb : xs[k * 4 + 1]? = some b) (hd : xs[k * 4 + 2]? = some d) (hf : xs[k * 4 + 3]? = some f) : ∃ g, ao = some ⟨g, 0, none⟩ ∧ w.cell? ⟨g, k * 4, none⟩ = some a ∧ w.cell? ⟨g, k * 4 + 1, none⟩ = some b ∧ w.cell? ⟨g, k * 4 + 2, none⟩ = some d ∧ w.cell? ⟨g, k * 4 + 3, none⟩ = some f := by
  rcases h.2 with ⟨hv, h0⟩ | ⟨g, cap, cur, hv, _⟩
  · have : xs = [] := List.eq_nil_of_length_eq_zero (by have := h.1; omega)
    subst this
    simp at ha
  · simp only [Value.slice.injEq] at hv
    have q : ∀ j u, xs[j]? = some u → w.cell? ⟨g, j, none⟩ = some u := by
      intro j u hj
      have h1 := World.ownsRow.cells h (g := g) (by rw [hv.1]; rfl) _ _ hj
      rw [Addr.add_lit, Nat.zero_add] at h1
      exact h1
    exact ⟨g, hv.1, q _ _ ha, q _ _ hb, q _ _ hd, q _ _ hf⟩

section
variable {w : World} {hb tb cap hb2 tb2 cap2 : Nat} {G H : Hs} {vs vs2 : List Vs}

set_option maxRecDepth 100000 in
set_option maxHeartbeats 16000000 in
theorem twins_eq (hG : HostAt w hb tb cap G vs) (hH : HostAt w hb2 tb2 cap2 H vs2) (t : Nat) {x : Tn} (hx : G.ts[t]? = some x) (hy : H.ts[t]? = some x) (hlG : G.ts.length ≤ 100000) (hlH : H.ts.length ≤ 100000) (hnl : x.nodes.length ≤ 100000) (hbl : x.box.length ≤ 100000) (hll : x.log.length ≤ 100000) :
    Calls Try.prog 23 #[.pointer (some ⟨hb, 0, none⟩), .pointer (some ⟨hb2, 0, none⟩), .int .i64 t] w fun e w' => e = .returned (.bool true) ∧ Below w.heap.size w w' := by
  have htb : tb < w.heap.size := hG.tb_lt hx
  have htb2 : tb2 < w.heap.size := hH.tb_lt hy
  have P1 : Hid (Calls Try.prog 18 #[.pointer (some ⟨hb, 0, none⟩), .int .i64 t] w fun e w' => e = .returned (.int .u8 x.phase) ∧ w = w') := phase_any hG t hx hlG
  have P2 : Hid (Calls Try.prog 18 #[.pointer (some ⟨hb2, 0, none⟩), .int .i64 t] w fun e w' => e = .returned (.int .u8 x.phase) ∧ w = w') := phase_any hH t hy hlH
  have C1 : Hid (Calls Try.prog 17 #[.pointer (some ⟨hb, 0, none⟩), .int .i64 t] w fun e w' => e = .returned (.agg #[.int .u16 (x.cells.getD 0 0), .int .u16 (x.cells.getD 1 0), .int .u16 (x.cells.getD 2 0), .int .u16 (x.cells.getD 3 0), .int .u16 (x.cells.getD 4 0), .int .u16 (x.cells.getD 5 0), .int .u16 (x.cells.getD 6 0), .int .u16 (x.cells.getD 7 0)]) ∧ Below w.heap.size w w') := cells_any hG t hx hlG htb
  have C2 : Hid (∀ u, Below w.heap.size w u → Calls Try.prog 17 #[.pointer (some ⟨hb2, 0, none⟩), .int .i64 t] u fun e w' => e = .returned (.agg #[.int .u16 (x.cells.getD 0 0), .int .u16 (x.cells.getD 1 0), .int .u16 (x.cells.getD 2 0), .int .u16 (x.cells.getD 3 0), .int .u16 (x.cells.getD 4 0), .int .u16 (x.cells.getD 5 0), .int .u16 (x.cells.getD 6 0), .int .u16 (x.cells.getD 7 0)]) ∧ Below u.heap.size u w') := fun u hu => cells_any (hH.below hu htb2) t hy hlH (Nat.lt_of_lt_of_le htb2 hu.size)
  have T1 : Hid (∀ u, Below w.heap.size w u → Calls Try.prog 26 #[.pointer (some ⟨hb, 0, none⟩), .int .i64 t] u fun e w' => ∃ rv, e = .returned rv ∧ w'.ownsRow u.heap.size 77 3 rv x.nodes.length (Tr.ndCells x.nodes) ∧ Below u.heap.size u w') := fun u hu => htree_any (hG.below hu htb) t hx hlG hnl
  have T2 : Hid (∀ u, Below w.heap.size w u → Calls Try.prog 26 #[.pointer (some ⟨hb2, 0, none⟩), .int .i64 t] u fun e w' => ∃ rv, e = .returned rv ∧ w'.ownsRow u.heap.size 77 3 rv x.nodes.length (Tr.ndCells x.nodes) ∧ Below u.heap.size u w') := fun u hu => htree_any (hH.below hu htb2) t hy hlH hnl
  have B1 : Hid (∀ u, Below w.heap.size w u → Calls Try.prog 15 #[.pointer (some ⟨hb, 0, none⟩), .int .i64 t] u fun e w' => ∃ rv, e = .returned rv ∧ w'.ownsRow u.heap.size 58 4 rv x.box.length (evCells x.box) ∧ Below u.heap.size u w') := fun u hu => hbox_any (hG.below hu htb) t hx hlG hbl
  have B2 : Hid (∀ u, Below w.heap.size w u → Calls Try.prog 15 #[.pointer (some ⟨hb2, 0, none⟩), .int .i64 t] u fun e w' => ∃ rv, e = .returned rv ∧ w'.ownsRow u.heap.size 58 4 rv x.box.length (evCells x.box) ∧ Below u.heap.size u w') := fun u hu => hbox_any (hH.below hu htb2) t hy hlH hbl
  have L1 : Hid (∀ u, Below w.heap.size w u → Calls Try.prog 19 #[.pointer (some ⟨hb, 0, none⟩), .int .i64 t] u fun e w' => ∃ rv, e = .returned rv ∧ w'.ownsRow u.heap.size 56 4 rv x.log.length (enCells x.log) ∧ Below u.heap.size u w') := fun u hu => hlog_any (hG.below hu htb) t hx hlG hll
  have L2 : Hid (∀ u, Below w.heap.size w u → Calls Try.prog 19 #[.pointer (some ⟨hb2, 0, none⟩), .int .i64 t] u fun e w' => ∃ rv, e = .returned rv ∧ w'.ownsRow u.heap.size 56 4 rv x.log.length (enCells x.log) ∧ Below u.heap.size u w') := fun u hu => hlog_any (hH.below hu htb2) t hy hlH hll
  obtain ⟨p, hp⟩ : ∃ p, p = x.phase := ⟨_, rfl⟩
  obtain ⟨nl, hnl'⟩ : ∃ nl, nl = x.nodes.length := ⟨_, rfl⟩
  obtain ⟨bl, hbl'⟩ : ∃ bl, bl = x.box.length := ⟨_, rfl⟩
  obtain ⟨ll, hll'⟩ : ∃ ll, ll = x.log.length := ⟨_, rfl⟩
  have HLn : Hid (x.nodes.length = nl ∧ x.box.length = bl ∧ x.log.length = ll) := ⟨hnl'.symm, hbl'.symm, hll'.symm⟩
  rw [← hnl'] at T1 T2 hnl
  rw [← hbl'] at B1 B2 hbl
  rw [← hll'] at L1 L2 hll
  rw [← hp] at P1 P2
  generalize x.cells.getD 0 0 = k0 at C1 C2
  generalize x.cells.getD 1 0 = k1 at C1 C2
  generalize x.cells.getD 2 0 = k2 at C1 C2
  generalize x.cells.getD 3 0 = k3 at C1 C2
  generalize x.cells.getD 4 0 = k4 at C1 C2
  generalize x.cells.getD 5 0 = k5 at C1 C2
  generalize x.cells.getD 6 0 = k6 at C1 C2
  generalize x.cells.getD 7 0 = k7 at C1 C2
  have hq8 := fun W => arr8_eq k0 k1 k2 k3 k4 k5 k6 k7 W
  clear hG hH hx hy hp hnl' hbl' hll' hlG hlH htb htb2
  go_enter Try.func23, Try.ntmps23
  go_wp2_with fail
  refine P1.out.mono ?_
  rintro e w1 ⟨rfl, rfl⟩
  go_wp2_with fail
  refine P2.out.mono ?_
  rintro e w1 ⟨rfl, rfl⟩
  go_wp2_with fail
  refine C1.out.mono ?_
  rintro e w1 ⟨rfl, hb1⟩
  have HB1 : Hid (Below w.heap.size w w1) := hb1
  clear hb1
  obtain ⟨W1, hW1⟩ : ∃ W, W = w1.alloc (.cells #[.int .u16 k0, .int .u16 k1, .int .u16 k2, .int .u16 k3, .int .u16 k4, .int .u16 k5, .int .u16 k6, .int .u16 k7] 47) := ⟨_, rfl⟩
  have HBW1 : Hid (Below w.heap.size w W1) := by unfold Hid; rw [hW1]; exact HB1.out.alloc HB1.out.size _
  have HCW1 : Hid (Blk W1 w1.heap.size #[.int .u16 k0, .int .u16 k1, .int .u16 k2, .int .u16 k3, .int .u16 k4, .int .u16 k5, .int .u16 k6, .int .u16 k7] 47) := by unfold Hid; rw [hW1]; exact Blk.new w1 _ 47
  go_upto_region 4 with fail
  rw [← hW1]
  clear hW1
  obtain ⟨A1, hA1⟩ : ∃ A, A = w1.heap.size := ⟨_, rfl⟩
  rw [← hA1] at HCW1 ⊢
  clear hA1
  go_wp2_with fail
  refine (C2.out _ HBW1.out).mono ?_
  rintro e w2 ⟨rfl, hb2'⟩
  have HB2 : Hid (Below w.heap.size w w2) := HBW1.out.trans (hb2'.mono HBW1.out.size)
  have HCa : Hid (Blk w2 A1 #[.int .u16 k0, .int .u16 k1, .int .u16 k2, .int .u16 k3, .int .u16 k4, .int .u16 k5, .int .u16 k6, .int .u16 k7] 47) := HCW1.out.below hb2' HCW1.out.lt
  clear hb2'
  obtain ⟨W2, hW2⟩ : ∃ W, W = w2.alloc (.cells #[.int .u16 k0, .int .u16 k1, .int .u16 k2, .int .u16 k3, .int .u16 k4, .int .u16 k5, .int .u16 k6, .int .u16 k7] 47) := ⟨_, rfl⟩
  have HBW2 : Hid (Below w.heap.size w W2) := by unfold Hid; rw [hW2]; exact HB2.out.alloc HB2.out.size _
  have HCW2 : Hid (Blk W2 w2.heap.size #[.int .u16 k0, .int .u16 k1, .int .u16 k2, .int .u16 k3, .int .u16 k4, .int .u16 k5, .int .u16 k6, .int .u16 k7] 47) := by unfold Hid; rw [hW2]; exact Blk.new w2 _ 47
  have HCW1' : Hid (Blk W2 A1 #[.int .u16 k0, .int .u16 k1, .int .u16 k2, .int .u16 k3, .int .u16 k4, .int .u16 k5, .int .u16 k6, .int .u16 k7] 47) := by unfold Hid; rw [hW2]; exact HCa.out.below ((Below.refl _ _).alloc (Nat.le_refl _) _) HCa.out.lt
  go_upto_region 5 with fail
  rw [← hW2]
  clear hW2
  obtain ⟨A2, hA2⟩ : ∃ A, A = w2.heap.size := ⟨_, rfl⟩
  rw [← hA2] at HCW2 ⊢
  clear hA2 HCa HB1 HB2 HCW1 HBW1
  go_wp2_with fail
  refine (T1.out _ HBW2.out).mono ?_
  rintro e w3 ⟨rv, rfl, ho3, hb3⟩
  have HN3 : Hid (w3.ownsRow 0 77 3 rv nl (Tr.ndCells x.nodes)) := own_zero ho3
  obtain ⟨no, nc, rfl⟩ := own_is ho3
  have HB3 : Hid (Below w.heap.size w w3) := HBW2.out.trans (hb3.mono HBW2.out.size)
  have HX3 : Hid (Below W2.heap.size W2 w3) := hb3
  clear ho3 hb3
  go_wp2_with fail
  refine (T2.out _ HB3.out).mono ?_
  rintro e w4 ⟨rv, rfl, ho4, hb4⟩
  have HM4 : Hid (w4.ownsRow 0 77 3 rv nl (Tr.ndCells x.nodes)) := own_zero ho4
  obtain ⟨mo, mc, rfl⟩ := own_is ho4
  have HN4 : Hid (w4.ownsRow 0 77 3 (.slice no nl nc) nl (Tr.ndCells x.nodes)) := own_below' HN3.out hb4 (Nat.le_refl _)
  have HB4 : Hid (Below w.heap.size w w4) := HB3.out.trans (hb4.mono HB3.out.size)
  have HX4 : Hid (Below W2.heap.size W2 w4) := HX3.out.trans (hb4.mono HX3.out.size)
  clear ho4 hb4
  go_wp2_with fail
  refine (same_eq no mo nc mc nl x.nodes w4 HLn.out.1 hnl HN4.out HM4.out).mono ?_
  rintro e w5 ⟨rfl, hb5⟩
  have HB5 : Hid (Below w.heap.size w w5) := HB4.out.trans (hb5.mono HB4.out.size)
  have HX5 : Hid (Below W2.heap.size W2 w5) := HX4.out.trans (hb5.mono HX4.out.size)
  have HD1 := HCW1'.out.below HX5.out HCW1'.out.lt
  have HD2 := HCW2.out.below HX5.out HCW2.out.lt
  have g0 : w5.cell? ⟨A1, 0, none⟩ = some (.int .u16 k0) := by rw [HD1.cell 0]; rfl
  have g1 : w5.cell? ⟨A1, 1, none⟩ = some (.int .u16 k1) := by rw [HD1.cell 1]; rfl
  have g2 : w5.cell? ⟨A1, 2, none⟩ = some (.int .u16 k2) := by rw [HD1.cell 2]; rfl
  have g3 : w5.cell? ⟨A1, 3, none⟩ = some (.int .u16 k3) := by rw [HD1.cell 3]; rfl
  have g4 : w5.cell? ⟨A1, 4, none⟩ = some (.int .u16 k4) := by rw [HD1.cell 4]; rfl
  have g5 : w5.cell? ⟨A1, 5, none⟩ = some (.int .u16 k5) := by rw [HD1.cell 5]; rfl
  have g6 : w5.cell? ⟨A1, 6, none⟩ = some (.int .u16 k6) := by rw [HD1.cell 6]; rfl
  have g7 : w5.cell? ⟨A1, 7, none⟩ = some (.int .u16 k7) := by rw [HD1.cell 7]; rfl
  have i0 : w5.cell? ⟨A2, 0, none⟩ = some (.int .u16 k0) := by rw [HD2.cell 0]; rfl
  have i1 : w5.cell? ⟨A2, 1, none⟩ = some (.int .u16 k1) := by rw [HD2.cell 1]; rfl
  have i2 : w5.cell? ⟨A2, 2, none⟩ = some (.int .u16 k2) := by rw [HD2.cell 2]; rfl
  have i3 : w5.cell? ⟨A2, 3, none⟩ = some (.int .u16 k3) := by rw [HD2.cell 3]; rfl
  have i4 : w5.cell? ⟨A2, 4, none⟩ = some (.int .u16 k4) := by rw [HD2.cell 4]; rfl
  have i5 : w5.cell? ⟨A2, 5, none⟩ = some (.int .u16 k5) := by rw [HD2.cell 5]; rfl
  have i6 : w5.cell? ⟨A2, 6, none⟩ = some (.int .u16 k6) := by rw [HD2.cell 6]; rfl
  have i7 : w5.cell? ⟨A2, 7, none⟩ = some (.int .u16 k7) := by rw [HD2.cell 7]; rfl
  clear hb5 HD1 HD2 HN3 HN4 HM4 HX3 HX4 HX5 HB3 HB4 HBW2 HCW1' HCW2 T1 T2 C1 C2 P1 P2
  go_wp2_with fail
  clear g0 g1 g2 g3 g4 g5 g6 g7 i0 i1 i2 i3 i4 i5 i6 i7 hq8
  refine (B1.out _ HB5.out).mono ?_
  rintro e w6 ⟨rv, rfl, ho6, hb6⟩
  have HE6 : Hid (w6.ownsRow 0 58 4 rv bl (evCells x.box)) := own_zero ho6
  obtain ⟨bo, bc, rfl⟩ := own_is ho6
  have HB6 : Hid (Below w.heap.size w w6) := HB5.out.trans (hb6.mono HB5.out.size)
  clear ho6 hb6
  go_wp2_with fail
  refine (B2.out _ HB6.out).mono ?_
  rintro e w7 ⟨rv, rfl, ho7, hb7⟩
  have HF7 : Hid (w7.ownsRow 0 58 4 rv bl (evCells x.box)) := own_zero ho7
  obtain ⟨co, cc, rfl⟩ := own_is ho7
  have HE7 : Hid (w7.ownsRow 0 58 4 (.slice bo bl bc) bl (evCells x.box)) := own_below' HE6.out hb7 (Nat.le_refl _)
  have HB7 : Hid (Below w.heap.size w w7) := HB6.out.trans (hb7.mono HB6.out.size)
  clear ho7 hb7 HE6 HB6
  go_wp2_with fail
  refine (L1.out _ HB7.out).mono ?_
  rintro e w8 ⟨rv, rfl, ho8, hb8⟩
  have HL8 : Hid (w8.ownsRow 0 56 4 rv ll (enCells x.log)) := own_zero ho8
  obtain ⟨lo, lc, rfl⟩ := own_is ho8
  have HE8 : Hid (w8.ownsRow 0 58 4 (.slice bo bl bc) bl (evCells x.box)) := own_below' HE7.out hb8 (Nat.le_refl _)
  have HF8 : Hid (w8.ownsRow 0 58 4 (.slice co bl cc) bl (evCells x.box)) := own_below' HF7.out hb8 (Nat.le_refl _)
  have HB8 : Hid (Below w.heap.size w w8) := HB7.out.trans (hb8.mono HB7.out.size)
  clear ho8 hb8 HE7 HF7 HB7
  go_wp2_with fail
  refine (L2.out _ HB8.out).mono ?_
  rintro e w9 ⟨rv, rfl, ho9, hb9⟩
  have HM9 : Hid (w9.ownsRow 0 56 4 rv ll (enCells x.log)) := own_zero ho9
  obtain ⟨mo2, mc2, rfl⟩ := own_is ho9
  have HE9 : Hid (w9.ownsRow 0 58 4 (.slice bo bl bc) bl (evCells x.box)) := own_below' HE8.out hb9 (Nat.le_refl _)
  have HF9 : Hid (w9.ownsRow 0 58 4 (.slice co bl cc) bl (evCells x.box)) := own_below' HF8.out hb9 (Nat.le_refl _)
  have HL9 : Hid (w9.ownsRow 0 56 4 (.slice lo ll lc) ll (enCells x.log)) := own_below' HL8.out hb9 (Nat.le_refl _)
  have HB9 : Hid (Below w.heap.size w w9) := HB8.out.trans (hb9.mono HB8.out.size)
  clear ho9 hb9 HE8 HF8 HL8 HB8 B1 B2 L1 L2
  go_wp2_with fail
  go_loopw [75] (fun i wr => ∃ (k q : Nat), k ≤ bl ∧ i = .int .i64 k ∧ wr = w9.drewN q)
    (fun i _ => bl - (intOf i).toNat)
  case atStart => exact ⟨0, 0, Nat.zero_le _, rfl, rfl⟩
  case round =>
    obtain ⟨k, q, hk, rfl, rfl⟩ := hrel
    by_cases hlt : k < bl
    · obtain ⟨y, hy⟩ : ∃ y, x.box[k]? = some y := ⟨x.box[k]'(by have := HLn.out.2.1; omega), List.getElem?_eq_getElem (by have := HLn.out.2.1; omega)⟩
      have s := evCells_at x.box k y hy
      obtain ⟨b1', rfl, c0, c1, c2, c3⟩ := own_four HE9.out (s 0 (by decide)) (s 1 (by decide)) (s 2 (by decide)) (s 3 (by decide))
      obtain ⟨b2', rfl, d0, d1, d2, d3⟩ := own_four HF9.out (s 0 (by decide)) (s 1 (by decide)) (s 2 (by decide)) (s 3 (by decide))
      obtain ⟨y0, y1, y2, y3⟩ := y
      have hi : (k : Int) < (bl : Int) := by omega
      have h0 : (0 : Int) ≤ (k : Int) := by omega
      clear hy s
      go_wp2_with fail
      go_quiet (fail)
      go_wp2
      go_roundw
      case rel => exact ⟨k + 1, _, by omega, by go_num, by first | rfl | simp⟩
      case measure => simp [intOf]; omega
    · have hi : ¬ (k : Int) < (bl : Int) := by omega
      go_wp2_with fail
      go_loopw [90] (fun i wr => ∃ (k q : Nat), k ≤ ll ∧ i = .int .i64 k ∧ wr = w9.drewN q)
        (fun i _ => ll - (intOf i).toNat)
      case atStart => exact ⟨0, q, Nat.zero_le _, rfl, rfl⟩
      case round =>
        obtain ⟨k, q, hk, rfl, rfl⟩ := hrel
        by_cases hlt : k < ll
        · obtain ⟨y, hy⟩ : ∃ y, x.log[k]? = some y := ⟨x.log[k]'(by have := HLn.out.2.2; omega), List.getElem?_eq_getElem (by have := HLn.out.2.2; omega)⟩
          have s := enCells_at x.log k y hy
          obtain ⟨b1', rfl, c0, c1, c2, c3⟩ := own_four HL9.out (s 0 (by decide)) (s 1 (by decide)) (s 2 (by decide)) (s 3 (by decide))
          obtain ⟨b2', rfl, d0, d1, d2, d3⟩ := own_four HM9.out (s 0 (by decide)) (s 1 (by decide)) (s 2 (by decide)) (s 3 (by decide))
          obtain ⟨y0, y1, y2, y3⟩ := y
          have hi : (k : Int) < (ll : Int) := by omega
          have h0 : (0 : Int) ≤ (k : Int) := by omega
          clear hy s
          go_wp2_with fail
          go_quiet (fail)
          go_wp2
          go_roundw
          case rel => exact ⟨k + 1, _, by omega, by go_num, by first | rfl | simp⟩
          case measure => simp [intOf]; omega
        · have hi : ¬ (k : Int) < (ll : Int) := by omega
          go_wp2
          go_ret
          exact ⟨rfl, drewN_below HB9.out _⟩
end
end Go.Proofs.Ytidaflmmldefcaa
