/-
  Two outcomes that are alike: the walks of sameShows and of sameOutcome.
-/
import Derived.Test.YtfggaacijcggeaaRMark
import Derived.Test.YtfggaacijcggeaaRunX
import Derived.Test.YtfggaacijcggeaaJShow
import Derived.Test.YtfggaacijcggeaaArr8
import Derived.BigQuiet
namespace Go.Proofs.Ytfggaacijcggeaa
open Go.RowKit
set_option linter.unusedVariables false

theorem sendCells_at : ∀ (l : List (Int × Int)) (i : Nat) (x : Int × Int), l[i]? = some x → (sendCells l)[i * 2]? = some (.int .u8 x.1) ∧ (sendCells l)[i * 2 + 1]? = some (.int .u16 x.2)
  | [], i, x, h => by simp at h
  | y :: r, 0, x, h => by simp at h; subst h; simp [sendCells]
  | y :: r, i + 1, x, h => by
    have := sendCells_at r i x (by simpa using h)
    simp only [sendCells, List.flatMap_cons] at *
    rw [show (i + 1) * 2 = i * 2 + 2 by omega]
    simpa using this

set_option maxHeartbeats 2000000 in
/-- sameShows, of two lists that are alike. -/
theorem sameSh_any (ao bo : Option Addr) (ca cb b1 b2 : Nat) (l : List (Int × ByteArray)) (w : World) (hl : l.length ≤ 100) (ha : w.ownsRow b1 62 2 (.slice ao l.length ca) l.length (showCells l)) (hb : w.ownsRow b2 62 2 (.slice bo l.length cb) l.length (showCells l)) :
    Calls Try.prog 33 #[.slice ao l.length ca, .slice bo l.length cb] w fun e w' => e = .returned (.bool true) ∧ Below w.heap.size w w' := by
  obtain ⟨n, hn⟩ : ∃ n, n = l.length := ⟨_, rfl⟩
  have Hn : Hid (l.length = n) := hn.symm
  rw [← hn] at hl ha hb ⊢
  have HA : Hid (w.ownsRow b1 62 2 (.slice ao n ca) n (showCells l)) := ha
  have HB : Hid (w.ownsRow b2 62 2 (.slice bo n cb) n (showCells l)) := hb
  clear hn ha hb
  go_enter Try.func33, Try.ntmps33
  go_wp2
  go_loopw [5] (fun i wr => ∃ (k q : Nat), k ≤ n ∧ i = .int .i64 k ∧ wr = w.drewN q)
    (fun i _ => n - (intOf i).toNat)
  case atStart => exact ⟨0, 0, Nat.zero_le _, rfl, rfl⟩
  case round =>
    obtain ⟨k, q, hk, rfl, rfl⟩ := hrel
    by_cases hlt : k < n
    · obtain ⟨x, hx⟩ : ∃ x, l[k]? = some x := ⟨l[k]'(by have := Hn.out; omega), List.getElem?_eq_getElem (by have := Hn.out; omega)⟩
      obtain ⟨x1, x2⟩ := x
      obtain ⟨s0, s1⟩ := showCells_at l k _ hx
      obtain ⟨g1, rfl, c0, c1⟩ := own_pair HA.out s0 s1
      obtain ⟨g2, rfl, d0, d1⟩ := own_pair HB.out s0 s1
      simp only at c0 c1 d0 d1
      have hi : (k : Int) < (n : Int) := by omega
      have h0 : (0 : Int) ≤ (k : Int) := by omega
      have t1 : (x1 == x1) = true := by simp
      have t2 : (x2.toList == x2.toList) = true := by simp
      clear hx s0 s1
      go_wp2_with fail
      go_quiet (fail)
      go_wp2
      go_roundw
      case rel => exact ⟨k + 1, _, by omega, by go_num, by first | rfl | simp⟩
      case measure => simp [intOf]; omega
    · go_wp2
      go_ret
      exact ⟨rfl, below_drewN (Below.refl _ _) _⟩

set_option maxRecDepth 100000 in
set_option maxHeartbeats 4000000 in
/-- sameOutcome, of two that are alike. -/
theorem sameO_any (O : H.Out) (sv dv sv2 dv2 : Value) (b1 b2 : Nat) (w : World) (hl : O.shows.length ≤ 100) (hl2 : O.sends.length ≤ 100)
    (h1 : w.ownsRow b1 62 2 sv O.shows.length (showCells O.shows)) (h2 : w.ownsRow b1 85 2 dv O.sends.length (sendCells O.sends))
    (h3 : w.ownsRow b2 62 2 sv2 O.shows.length (showCells O.shows)) (h4 : w.ownsRow b2 85 2 dv2 O.sends.length (sendCells O.sends)) :
    Calls Try.prog 15 #[outVal O sv dv, outVal O sv2 dv2] w fun e w' => e = .returned (.bool true) ∧ Below w.heap.size w w' := by
  obtain ⟨so, sc, rfl⟩ := own_shape h1
  obtain ⟨dO, dc, rfl⟩ := own_shape h2
  obtain ⟨so2, sc2, rfl⟩ := own_shape h3
  obtain ⟨dO2, dc2, rfl⟩ := own_shape h4
  have HS : Hid (∀ u, Below w.heap.size w u → Calls Try.prog 33 #[.slice so O.shows.length sc, .slice so2 O.shows.length sc2] u fun e w' => e = .returned (.bool true) ∧ Below u.heap.size u w') := fun u hu =>
    sameSh_any so so2 sc sc2 b1 b2 O.shows u hl (own_below' h1 hu (Nat.le_refl _)) (own_below' h3 hu (Nat.le_refl _))
  have HD1 : Hid (∀ u, Below w.heap.size w u → u.ownsRow b1 85 2 (.slice dO O.sends.length dc) O.sends.length (sendCells O.sends)) := fun u hu => own_below' h2 hu (Nat.le_refl _)
  have HD2 : Hid (∀ u, Below w.heap.size w u → u.ownsRow b2 85 2 (.slice dO2 O.sends.length dc2) O.sends.length (sendCells O.sends)) := fun u hu => own_below' h4 hu (Nat.le_refl _)
  clear h1 h2 h3 h4
  obtain ⟨ft, st, dr, cells, shows, sends, err⟩ := O
  unfold outVal outAgg
  simp only at hl hl2 HS HD1 HD2 ⊢
  have hq8 := fun W => arr8_eq (cells.getD 0 0) (cells.getD 1 0) (cells.getD 2 0) (cells.getD 3 0) (cells.getD 4 0) (cells.getD 5 0) (cells.getD 6 0) (cells.getD 7 0) W
  generalize cells.getD 0 0 = k0 at *
  generalize cells.getD 1 0 = k1 at *
  generalize cells.getD 2 0 = k2 at *
  generalize cells.getD 3 0 = k3 at *
  generalize cells.getD 4 0 = k4 at *
  generalize cells.getD 5 0 = k5 at *
  generalize cells.getD 6 0 = k6 at *
  generalize cells.getD 7 0 = k7 at *
  obtain ⟨n, hn⟩ : ∃ n, n = shows.length := ⟨_, rfl⟩
  obtain ⟨m, hm⟩ : ∃ m, m = sends.length := ⟨_, rfl⟩
  have Hm : Hid (sends.length = m) := hm.symm
  rw [← hn] at hl HS ⊢
  rw [← hm] at hl2 HD1 HD2 ⊢
  clear hn hm
  go_enter Try.func15, Try.ntmps15
  go_wp2_with fail
  have B2 : Hid (Below w.heap.size w ((w.alloc (.cells #[.int .u8 ft, .int .i64 (st : Int), .int .i64 (dr : Int), .int .u16 k0, .int .u16 k1, .int .u16 k2, .int .u16 k3, .int .u16 k4, .int .u16 k5, .int .u16 k6, .int .u16 k7, .slice so n sc, .slice dO m dc] 43)).alloc (.cells #[.int .u8 ft, .int .i64 (st : Int), .int .i64 (dr : Int), .int .u16 k0, .int .u16 k1, .int .u16 k2, .int .u16 k3, .int .u16 k4, .int .u16 k5, .int .u16 k6, .int .u16 k7, .slice so2 n sc2, .slice dO2 m dc2] 43))) := ((Below.refl _ _).alloc (Nat.le_refl _) _).alloc (by simp) _
  refine (HS.out _ B2.out).mono ?_
  rintro e w3 ⟨rfl, hb3⟩
  have X1 : Hid (Blk w3 w.heap.size #[.int .u8 ft, .int .i64 (st : Int), .int .i64 (dr : Int), .int .u16 k0, .int .u16 k1, .int .u16 k2, .int .u16 k3, .int .u16 k4, .int .u16 k5, .int .u16 k6, .int .u16 k7, .slice so n sc, .slice dO m dc] 43) := ((Blk.new w _ 43).alloc _).below hb3 (by simp; omega)
  have X2 : Hid (Blk w3 (w.heap.size + 1) #[.int .u8 ft, .int .i64 (st : Int), .int .i64 (dr : Int), .int .u16 k0, .int .u16 k1, .int .u16 k2, .int .u16 k3, .int .u16 k4, .int .u16 k5, .int .u16 k6, .int .u16 k7, .slice so2 n sc2, .slice dO2 m dc2] 43) := by
    have h := Blk.new (w.alloc (.cells #[.int .u8 ft, .int .i64 (st : Int), .int .i64 (dr : Int), .int .u16 k0, .int .u16 k1, .int .u16 k2, .int .u16 k3, .int .u16 k4, .int .u16 k5, .int .u16 k6, .int .u16 k7, .slice so n sc, .slice dO m dc] 43)) #[.int .u8 ft, .int .i64 (st : Int), .int .i64 (dr : Int), .int .u16 k0, .int .u16 k1, .int .u16 k2, .int .u16 k3, .int .u16 k4, .int .u16 k5, .int .u16 k6, .int .u16 k7, .slice so2 n sc2, .slice dO2 m dc2] 43
    rw [show (w.alloc (.cells #[.int .u8 ft, .int .i64 (st : Int), .int .i64 (dr : Int), .int .u16 k0, .int .u16 k1, .int .u16 k2, .int .u16 k3, .int .u16 k4, .int .u16 k5, .int .u16 k6, .int .u16 k7, .slice so n sc, .slice dO m dc] 43)).heap.size = w.heap.size + 1 by simp] at h
    exact h.below hb3 (by simp)
  have B3 : Hid (Below w.heap.size w w3) := B2.out.trans (hb3.mono (by simp; omega))
  have p12 := X1.out.cell 12
  have q12 := X2.out.cell 12
  simp at p12 q12
  clear hb3 B2 HS hq8
  go_wp2_with fail
  go_loopw [6] (fun i wr => ∃ (k q : Nat), k ≤ m ∧ i = .int .i64 k ∧ wr = w3.drewN q)
    (fun i _ => m - (intOf i).toNat)
  case atStart => exact ⟨0, 0, Nat.zero_le _, rfl, rfl⟩
  case round =>
    obtain ⟨k, q, hk, rfl, rfl⟩ := hrel
    by_cases hlt : k < m
    · obtain ⟨x, hx⟩ : ∃ x, sends[k]? = some x := ⟨sends[k]'(by have := Hm.out; omega), List.getElem?_eq_getElem (by have := Hm.out; omega)⟩
      obtain ⟨x1, x2⟩ := x
      obtain ⟨s0, s1⟩ := sendCells_at sends k _ hx
      obtain ⟨g1, rfl, c0, c1⟩ := own_pair (HD1.out w3 B3.out) s0 s1
      obtain ⟨g2, rfl, d0, d1⟩ := own_pair (HD2.out w3 B3.out) s0 s1
      simp only at c0 c1 d0 d1
      have hi : (k : Int) < (m : Int) := by omega
      have h0 : (0 : Int) ≤ (k : Int) := by omega
      have t1 : (x1 == x1) = true := by simp
      have t2 : (x2 == x2) = true := by simp
      clear hx s0 s1
      go_wp2_with fail
      go_quiet (fail)
      go_wp2
      go_roundw
      case rel => exact ⟨k + 1, _, by omega, by go_num, by first | rfl | simp⟩
      case measure => simp [intOf]; omega
    · go_wp2
      go_ret
      exact ⟨rfl, below_drewN B3.out _⟩
end Go.Proofs.Ytfggaacijcggeaa
