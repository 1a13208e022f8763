/-
  The walk of isTree.
-/
import Derived.Test.YtcaeeaiodbjacaaTextB
import Derived.Deep.RegionWith
namespace Go.Proofs.Ytcaeeaiodbjacaa
open Go.RowKit
set_option linter.unusedVariables false

/-- Nodes as Go has them. -/
def ndOk (l : List T.Nd) : Prop := ∀ x ∈ l, T.inGo x ∧ x.2.2.size ≤ maxLen

theorem treeFrom_cut {l : List T.Nd} {k : Nat} {y : T.Nd} (hy : l[k]? = some y) :
    T.treeFrom (l.take k) (l.drop k) = (T.okNd y && !T.clash (l.take k) y && T.treeFrom (l.take (k + 1)) (l.drop (k + 1))) := by
  rw [drop_cons l k _ hy, List.take_add_one, hy]
  rfl

set_option maxHeartbeats 2000000 in
theorem tree_any (ao : Option Addr) (cap : Nat) (l : List T.Nd) (w : World) (hl : l.length ≤ maxLen) (hc : l.length ≤ cap) (ha : NodeAt w ao l) (hk : ndOk l) :
    Calls Try.prog 31 #[.slice ao l.length cap] w fun e w' => e = .returned (.bool (T.isTree l)) ∧ Below w.heap.size w w' := by
  unfold maxLen at hl
  obtain ⟨n, hn⟩ : ∃ n, n = l.length := ⟨_, rfl⟩
  have Hn : Hid (l.length = n) := hn.symm
  rw [← hn]
  rw [← hn] at hl hc
  have HA : Hid (NodeAt w ao l) := ha
  have HK : Hid (ndOk l) := hk
  clear hn ha hk
  by_cases h16 : n ≤ 16
  · have HT0 : Hid (T.isTree l = T.treeFrom (l.take 0) (l.drop 0)) := by
      unfold Hid T.isTree
      rw [Hn.out]
      simp [h16]
    have hlt16 : ¬ (16 : Int) < (n : Int) := by omega
    go_enter Try.func31, Try.ntmps31
    go_wp2
    go_loopw [10] (fun i wr => ∃ (k : Nat), k ≤ n ∧ i = .int .i64 k ∧ Below w.heap.size w wr ∧ Hid (T.isTree l = T.treeFrom (l.take k) (l.drop k)))
      (fun i _ => n - (intOf i).toNat)
    case atStart => exact ⟨0, Nat.zero_le _, rfl, Below.refl _ _, HT0⟩
    case round =>
      obtain ⟨k, hk, rfl, hb, HD⟩ := hrel
      have HW : Hid (Below w.heap.size w wr) := hb
      have hsz : w.heap.size ≤ wr.heap.size := hb.size
      clear hb
      by_cases hlt : k < n
      · obtain ⟨y, hy⟩ : ∃ x, l[k]? = some x := ⟨l[k]'(by have := Hn.out; omega), List.getElem?_eq_getElem (by have := Hn.out; omega)⟩
        obtain ⟨b, off, rfl, hbl, hr⟩ : ∃ b off, ao = some ⟨b, off, none⟩ ∧ b < w.heap.size ∧ NodeRow w b off l := HA.out.resolve_left (by rintro rfl; simp at hy)
        have hyk := HK.out y (List.mem_of_getElem? hy)
        obtain ⟨y1, y2, y3⟩ := y
        obtain ⟨c0, c1, c2⟩ := (hr.below HW.out hbl) k _ hy
        simp only at c0 c1 c2
        have HS : Hid (T.isTree l = (T.okNd (y1, y2, y3) && !T.clash (l.take k) (y1, y2, y3) && T.treeFrom (l.take (k + 1)) (l.drop (k + 1)))) := by
          unfold Hid
          rw [HD.out, treeFrom_cut hy]
        have HY : Hid (y3.size ≤ maxLen) := hyk.2
        have HR : Hid (NodeRow w b off l) := hr
        have HC : Hid (∀ u : World, Below w.heap.size w u → Calls Try.prog 48 #[.slice (some ⟨b, off, none⟩) k cap, .agg #[.int .u8 y1, .int .u16 y2, .string y3]] u fun e w' => e = .returned (.bool (T.clash (l.take k) (y1, y2, y3))) ∧ Below u.heap.size u w') := by
          intro u hu
          have hlen : (l.take k).length = k := by rw [List.length_take, Hn.out]; omega
          have := clash_any (some ⟨b, off, none⟩) cap (l.take k) y1 y2 y3 u (by unfold maxLen; omega) (Or.inr ⟨b, off, rfl, by have := hu.size; omega, (HR.out.take k).below hu hbl⟩)
          rwa [hlen] at this
        have hbw : b < wr.heap.size := by omega
        have hbne : ¬ b = wr.heap.size := by omega
        have hkc : (k : Int) ≤ (cap : Int) := by omega
        have hkc2 : k ≤ cap := by omega
        clear hy hr hyk
        by_cases h1 : y1 < 1
        · have HT : Hid (T.isTree l = false) := by unfold Hid; rw [HS.out]; simp [T.okNd]; omega
          go_wp2
          go_ret
          rw [HT.out]
          exact ⟨rfl, by have := HW.out; (repeat (first | exact Below.refl _ _ | assumption | refine Below.setCell ?_ (by first | exact Nat.le_refl _ | omega | (simp; done) | (simp; omega)) _ | refine below_drewN ?_ _ | refine Below.drew ?_ | refine Below.alloc ?_ (by first | exact Nat.le_refl _ | omega | (simp; done) | (simp; omega)) _))⟩
        by_cases h2 : 16 < y1
        · have HT : Hid (T.isTree l = false) := by unfold Hid; rw [HS.out]; simp [T.okNd]; omega
          go_wp2
          go_ret
          rw [HT.out]
          exact ⟨rfl, by have := HW.out; (repeat (first | exact Below.refl _ _ | assumption | refine Below.setCell ?_ (by first | exact Nat.le_refl _ | omega | (simp; done) | (simp; omega)) _ | refine below_drewN ?_ _ | refine Below.drew ?_ | refine Below.alloc ?_ (by first | exact Nat.le_refl _ | omega | (simp; done) | (simp; omega)) _))⟩
        cases ht : T.isText (T.bts y3) with
        | false =>
          have HT : Hid (T.isTree l = false) := by unfold Hid; rw [HS.out]; simp [T.okNd, ht]
          go_wp2_with (go_at_call 47; refine (text_any y3 _ HY.out).mono ?_; rintro e w1 ⟨rfl, hb1⟩)
          go_ret
          rw [HT.out]
          have hs1 := hb1.size
          simp at hs1
          exact ⟨rfl, (HW.out.alloc (by omega) _).trans (hb1.mono (by simp; omega))⟩
        | true =>
          cases hcl : T.clash (l.take k) (y1, y2, y3) with
          | true =>
            have HT : Hid (T.isTree l = false) := by unfold Hid; rw [HS.out]; simp [hcl]
            go_wp2_with ((go_at_call 47; refine (text_any y3 _ HY.out).mono ?_; rintro e w1 ⟨rfl, hb1⟩; have hx1 : Blk w1 wr.heap.size #[.int .u8 y1, .int .u16 y2, .string y3] 60 := (Blk.new wr _ 60).below hb1 (by simp); have d0 := hx1.cell 0; have d1 := hx1.cell 1; have d2 := hx1.cell 2; simp at d0 d1 d2; have HB1 : Hid (Below w.heap.size w w1) := (HW.out.alloc (by omega) _).trans (hb1.mono (by simp; omega)); clear hx1 hb1))
            go_region_with ((go_at_call 48; refine (HC.out _ ?_).mono ?_; exact HB1.out.drew; rintro e w2 ⟨rfl, hb2⟩))
            all_goals
              go_wp2
              go_ret
              rw [HT.out]
              exact ⟨rfl, HB1.out.drew.trans (hb2.mono HB1.out.drew.size)⟩
          | false =>
            have HT : Hid (T.isTree l = T.treeFrom (l.take (k + 1)) (l.drop (k + 1))) := by unfold Hid; rw [HS.out]; simp [T.okNd, hcl, ht]; omega
            go_wp2_with ((go_at_call 47; refine (text_any y3 _ HY.out).mono ?_; rintro e w1 ⟨rfl, hb1⟩; have hx1 : Blk w1 wr.heap.size #[.int .u8 y1, .int .u16 y2, .string y3] 60 := (Blk.new wr _ 60).below hb1 (by simp); have d0 := hx1.cell 0; have d1 := hx1.cell 1; have d2 := hx1.cell 2; simp at d0 d1 d2; have HB1 : Hid (Below w.heap.size w w1) := (HW.out.alloc (by omega) _).trans (hb1.mono (by simp; omega)); clear hx1 hb1))
            go_region_with ((go_at_call 48; refine (HC.out _ ?_).mono ?_; exact HB1.out.drew; rintro e w2 ⟨rfl, hb2⟩))
            all_goals
              go_wp2
              go_roundw
              case rel => exact ⟨k + 1, by omega, by go_num, HB1.out.drew.trans (hb2.mono HB1.out.drew.size), HT⟩
              case measure => simp [intOf]; omega
      · have HT : Hid (T.isTree l = true) := by
          unfold Hid
          rw [HD.out, List.drop_of_length_le (by have := Hn.out; omega)]
          rfl
        go_wp2
        go_ret
        rw [HT.out]
        exact ⟨rfl, HW.out⟩
  · have HT : Hid (T.isTree l = false) := by
      unfold Hid T.isTree
      rw [Hn.out]
      simp [h16]
    have hlt16 : (16 : Int) < (n : Int) := by omega
    go_enter Try.func31, Try.ntmps31
    go_wp2
    go_ret
    rw [HT.out]
    exact ⟨rfl, Below.refl _ _⟩

end Go.Proofs.Ytcaeeaiodbjacaa
