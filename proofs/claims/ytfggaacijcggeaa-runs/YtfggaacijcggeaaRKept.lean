/-
  The walk of kept.
-/
import Derived.Test.YtfggaacijcggeaaROutL
import Derived.Test.YtfggaacijcggeaaJShow
namespace Go.Proofs.Ytfggaacijcggeaa
open Go.RowKit
set_option linter.unusedVariables false

set_option maxRecDepth 100000 in
set_option maxHeartbeats 4000000 in
theorem kept_any (base : Nat) (c : Int) (v1 v2 : Value) (w : World) (h : Outs w base c v1 v2) :
    Calls Try.prog 17 #[v1, v2, .int .u16 c] w fun e w' => e = .returned (.bool true) ∧ w = w' := by
  obtain ⟨E1, E2, h1, h2, h3, h4⟩ := h
  obtain ⟨o1, c1, rfl⟩ := own_shape h1
  obtain ⟨o2, c2, rfl⟩ := own_shape h2
  have R1 : Hid (w.ownsRow base 40 1 (.slice o1 4 c1) 4 E1) := h1
  have R2 : Hid (w.ownsRow base 41 1 (.slice o2 4 c2) 4 E2) := h2
  have M1 : Hid (∀ v ∈ E1, ∃ m, m ≤ 200 ∧ MarkAt w 62 (mkS c) v m) := h3
  have M2 : Hid (∀ v ∈ E2, ∃ m, m ≤ 200 ∧ MarkAt w 85 (mkD c) v m) := h4
  clear h1 h2 h3 h4
  obtain ⟨w0, hw0⟩ : ∃ w0, w0 = w := ⟨_, rfl⟩
  subst hw0
  go_enter Try.func17, Try.ntmps17
  go_wp2_with fail
  go_loopw [7] (fun i wr => ∃ k : Nat, k ≤ 4 ∧ i = .int .i64 k ∧ wr = w0) (fun i _ => 4 - (intOf i).toNat)
  case atStart => exact ⟨0, Nat.zero_le _, rfl, rfl⟩
  case round =>
    obtain ⟨k, hk, rfl, rfl⟩ := hrel
    obtain ⟨w0, hw0⟩ : ∃ w0, w0 = wr := ⟨_, rfl⟩
    subst hw0
    by_cases hlt : k < 4
    · obtain ⟨va, hva⟩ : ∃ v, E1[k]? = some v := ⟨E1[k]'(by have := R1.out.1; omega), List.getElem?_eq_getElem (by have := R1.out.1; omega)⟩
      obtain ⟨vb, hvb⟩ : ∃ v, E2[k]? = some v := ⟨E2[k]'(by have := R2.out.1; omega), List.getElem?_eq_getElem (by have := R2.out.1; omega)⟩
      obtain ⟨g1, rfl, cn⟩ := row_cell R1.out hva
      obtain ⟨g2, rfl, cm⟩ := row_cell R2.out hvb
      obtain ⟨m, hm4, ao, cap, rfl, hmk⟩ := M1.out va (List.mem_of_getElem? hva)
      obtain ⟨p, hp4, bo, cap2, rfl, hpk⟩ := M2.out vb (List.mem_of_getElem? hvb)
      have HMk : Hid (m = 0 ∨ ∃ g cur, ao = some ⟨g, 0, none⟩ ∧ Blk w0 g cur 62 ∧ cur.toList.take (m * (mkS c).length) = rep m (mkS c)) := hmk
      have HPk : Hid (p = 0 ∨ ∃ g cur, bo = some ⟨g, 0, none⟩ ∧ Blk w0 g cur 85 ∧ cur.toList.take (p * (mkD c).length) = rep p (mkD c)) := hpk
      have hki : (k : Int) < 4 := by omega
      have hk0 : (0 : Int) ≤ (k : Int) := by omega
      clear hva hvb hmk hpk
      go_wp2_with fail
      go_loopw [8] (fun i wr => ∃ q : Nat, q ≤ m ∧ i = .int .i64 q ∧ wr = w0) (fun i _ => m - (intOf i).toNat)
      case atStart => exact ⟨0, Nat.zero_le _, rfl, rfl⟩
      case round =>
        obtain ⟨q, hq, rfl, rfl⟩ := hrel
        obtain ⟨w0, hw0⟩ : ∃ w0, w0 = wr := ⟨_, rfl⟩
        subst hw0
        by_cases hqm : q < m
        · obtain ⟨g, cur, rfl, hb, hr⟩ : ∃ g cur, ao = some ⟨g, 0, none⟩ ∧ Blk w0 g cur 62 ∧ cur.toList.take (m * (mkS c).length) = rep m (mkS c) := HMk.out.resolve_left (by omega)
          have d0 := mark_cell (k := q) (i := 0) hb hr hqm (by simp [mkS])
          have d1 := mark_cell (k := q) (i := 1) hb hr hqm (by simp [mkS])
          simp [mkS] at d0 d1
          have hqi : (q : Int) < (m : Int) := by omega
          have hq0 : (0 : Int) ≤ (q : Int) := by omega
          clear hb hr HMk HPk
          go_wp2
          go_roundw
          case rel => exact ⟨q + 1, by omega, by go_num, by first | rfl | trivial⟩
          case measure => simp [intOf]; omega
        · have hqn : ¬ (q : Int) < (m : Int) := by omega
          clear HMk
          go_wp2_with fail
          go_loopw [9] (fun i wr => ∃ q : Nat, q ≤ p ∧ i = .int .i64 q ∧ wr = w0) (fun i _ => p - (intOf i).toNat)
          case atStart => exact ⟨0, Nat.zero_le _, rfl, rfl⟩
          case round =>
            obtain ⟨r, hr0, rfl, rfl⟩ := hrel
            by_cases hrp : r < p
            · obtain ⟨g, cur, rfl, hb, hr⟩ : ∃ g cur, bo = some ⟨g, 0, none⟩ ∧ Blk wr g cur 85 ∧ cur.toList.take (p * (mkD c).length) = rep p (mkD c) := HPk.out.resolve_left (by omega)
              have d0 := mark_cell (k := r) (i := 0) hb hr hrp (by simp [mkD])
              have d1 := mark_cell (k := r) (i := 1) hb hr hrp (by simp [mkD])
              simp [mkD] at d0 d1
              have hri : (r : Int) < (p : Int) := by omega
              have hr0' : (0 : Int) ≤ (r : Int) := by omega
              clear hb hr HPk
              go_wp2
              go_roundw
              case rel => exact ⟨r + 1, by omega, by go_num, by first | rfl | trivial⟩
              case measure => simp [intOf]; omega
            · have hrn : ¬ (r : Int) < (p : Int) := by omega
              clear HPk
              go_wp2
              go_roundw
              case rel => exact ⟨k + 1, by omega, by go_num, by first | rfl | trivial⟩
              case measure => simp [intOf]; omega
    · have hkn : ¬ (k : Int) < 4 := by omega
      go_wp2
      go_ret
      exact ⟨rfl, rfl⟩
end Go.Proofs.Ytfggaacijcggeaa
