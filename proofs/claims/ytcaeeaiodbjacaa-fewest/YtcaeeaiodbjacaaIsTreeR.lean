/-
  The document's own answer: the walks of fine and IsTree.
-/
import Derived.Test.YtcaeeaiodbjacaaLettR
namespace Go.Proofs.Ytcaeeaiodbjacaa
open Go.RowKit
set_option linter.unusedVariables false

set_option maxHeartbeats 1000000 in
theorem fine_any (s : ByteArray) (w : World) (hs : s.size ≤ 4611686018427387904) :
    Calls Try.prog 43 #[.string s] w fun e w' => e = .returned (.bool (T.isText (T.bts s))) ∧ Below w.heap.size w w' := by
  have HF : Hid (T.isText (T.bts s) = decide (0 ≤ T.lettersOf (T.bts s) ∧ T.lettersOf (T.bts s) ≤ 6)) := T.fine_text _
  have HC : Hid (∀ u : World, Calls Try.prog 56 #[.string s] u fun e w' => e = .returned (.int .i64 (T.lettersOf (T.bts s))) ∧ Below u.heap.size u w') := fun u => refLetters_any s u hs
  generalize T.lettersOf (T.bts s) = n at HF HC
  by_cases h0 : 0 ≤ n
  · by_cases h6 : n ≤ 6
    · have HT : Hid (T.isText (T.bts s) = true) := by unfold Hid; rw [HF.out]; simp [h0, h6]
      go_enter Try.func43, Try.ntmps43
      go_wp2_with (go_at_call 56; refine (HC.out _).mono ?_; rintro e w1 ⟨rfl, hb1⟩)
      go_ret
      rw [HT.out]
      exact ⟨rfl, hb1⟩
    · have HT : Hid (T.isText (T.bts s) = false) := by unfold Hid; rw [HF.out]; simp; omega
      have hd6 : decide (n ≤ 6) = false := by simp; omega
      go_enter Try.func43, Try.ntmps43
      go_wp2_with (go_at_call 56; refine (HC.out _).mono ?_; rintro e w1 ⟨rfl, hb1⟩)
      go_ret
      rw [HT.out]
      exact ⟨rfl, hb1⟩
  · have HT : Hid (T.isText (T.bts s) = false) := by unfold Hid; rw [HF.out]; simp; omega
    go_enter Try.func43, Try.ntmps43
    go_wp2_with (go_at_call 56; refine (HC.out _).mono ?_; rintro e w1 ⟨rfl, hb1⟩)
    go_ret
    rw [HT.out]
    exact ⟨rfl, hb1⟩

def ndSmall (l : List T.Nd) : Prop := ∀ x ∈ l, x.2.2.size ≤ 4611686018427387904

set_option maxRecDepth 100000 in
set_option maxHeartbeats 4000000 in
theorem refTree_any (ao : Option Addr) (cap : Nat) (l : List T.Nd) (w : World) (hl : l.length ≤ maxLen) (ha : NodeAt w ao l) (hk : ndSmall l) :
    Calls Try.prog 21 #[.slice ao l.length cap] w fun e w' => e = .returned (.bool (T.isTree l)) ∧ Below w.heap.size w w' := by
  unfold maxLen at hl
  obtain ⟨n, hn⟩ : ∃ n, n = l.length := ⟨_, rfl⟩
  have Hn : Hid (l.length = n) := hn.symm
  rw [← hn]
  rw [← hn] at hl
  have HA : Hid (NodeAt w ao l) := ha
  have HK : Hid (ndSmall l) := hk
  clear hn ha hk
  by_cases h16 : n ≤ 16
  · have HT0 : Hid (T.isTree l = T.treeFrom (l.take 0) (l.drop 0)) := by
      unfold Hid T.isTree
      rw [Hn.out]
      simp [h16]
    have hlt16 : ¬ (16 : Int) < (n : Int) := by omega
    go_enter Try.func21, Try.ntmps21
    go_wp2
    go_loopw [3] (fun i wr => ∃ (k : Nat), k ≤ n ∧ i = .int .i64 k ∧ Below w.heap.size w wr ∧ Hid (T.isTree l = T.treeFrom (l.take k) (l.drop k)))
      (fun i _ => n - (intOf i).toNat)
    case atStart => exact ⟨0, Nat.zero_le _, rfl, Below.refl _ _, HT0⟩
    case round =>
      obtain ⟨k, hk, rfl, hb, HD⟩ := hrel
      have HW : Hid (Below w.heap.size w wr) := hb
      have hsz : w.heap.size ≤ wr.heap.size := hb.size
      clear hb
      by_cases hlt : k < n
      · obtain ⟨y, hy⟩ : ∃ x, l[k]? = some x := ⟨l[k]'(by have := Hn.out; omega), List.getElem?_eq_getElem (by have := Hn.out; omega)⟩
        obtain ⟨b, off, rfl, hbl, hr⟩ : ∃ b off, ao = some ⟨b, off, none⟩ ∧ b < w.heap.size ∧ NodeRow w b off l := HA.out.resolve_left (by rintro rfl; simp at hy)
        have hyk := HK.out y (List.mem_of_getElem? hy)
        obtain ⟨y1, y2, y3⟩ := y
        obtain ⟨c0, c1, c2⟩ := (hr.below HW.out hbl) k _ hy
        simp only at c0 c1 c2
        have HS : Hid (T.isTree l = (T.okNd (y1, y2, y3) && !T.clash (l.take k) (y1, y2, y3) && T.treeFrom (l.take (k + 1)) (l.drop (k + 1)))) := by
          unfold Hid
          rw [HD.out, treeFrom_cut hy]
        have HY : Hid (y3.size ≤ 4611686018427387904) := hyk
        have HR : Hid (NodeRow w b off l) := hr
        have HYk : Hid (l[k]? = some (y1, y2, y3)) := hy
        have hki : (k : Int) < (n : Int) := by omega
        clear hy hr hyk
        go_wp2_with fail
        refine (fine_any y3 _ HY.out).mono ?_
        rintro e w1 ⟨rfl, hb1⟩
        have hbw1 : Below w.heap.size w w1 := HW.out.trans (hb1.mono hsz)
        have HB1 : Hid (Below w.heap.size w w1) := hbw1
        obtain ⟨d0, d1, d2⟩ := (HR.out.below hbw1 hbl) k _ HYk.out
        simp only at d0 d1 d2
        clear hb1 hbw1 c0 c1 c2 HW
        cases ht : T.isText (T.bts y3) with
        | false =>
          have HT : Hid (T.isTree l = false) := by unfold Hid; rw [HS.out]; simp [T.okNd, ht]
          clear ht
          go_wp2
          go_ret
          rw [HT.out]
          exact ⟨rfl, HB1.out⟩
        | true =>
          by_cases h1 : y1 < 1
          · have HT : Hid (T.isTree l = false) := by unfold Hid; rw [HS.out]; simp [T.okNd]; omega
            clear ht
            go_wp2
            go_ret
            rw [HT.out]
            exact ⟨rfl, HB1.out⟩
          by_cases h2 : 16 < y1
          · have HT : Hid (T.isTree l = false) := by unfold Hid; rw [HS.out]; simp [T.okNd]; omega
            clear ht
            go_wp2
            go_ret
            rw [HT.out]
            exact ⟨rfl, HB1.out⟩
          have HS2 : Hid (T.isTree l = (!T.clash (l.take k) (y1, y2, y3) && T.treeFrom (l.take (k + 1)) (l.drop (k + 1)))) := by
            have hok : T.okNd (y1, y2, y3) = true := by simp [T.okNd, ht]; omega
            unfold Hid
            rw [HS.out, hok]
            rfl
          clear ht HS
          go_wp2_with fail
          go_loopw [5] (fun i wq => ∃ (j q : Nat), j ≤ k ∧ i = .int .i64 j ∧ wq = w1.drewN q ∧ Hid (T.clash (l.take j) (y1, y2, y3) = false))
            (fun i _ => k - (intOf i).toNat)
          case atStart => exact ⟨0, 0, Nat.zero_le _, rfl, rfl, rfl⟩
          case round =>
            obtain ⟨j, q, hj, rfl, rfl, HCL⟩ := hrel
            by_cases hjk : j < k
            · obtain ⟨z, hz⟩ : ∃ x, l[j]? = some x := ⟨l[j]'(by have := Hn.out; omega), List.getElem?_eq_getElem (by have := Hn.out; omega)⟩
              obtain ⟨z1, z2, z3⟩ := z
              obtain ⟨g0, g1, g2⟩ := (HR.out.below HB1.out hbl) j _ hz
              simp only at g0 g1 g2
              have HJ : Hid (T.clash (l.take (j + 1)) (y1, y2, y3) = decide (z1 = y1 ∨ z2 = y2)) := by
                have h := HCL.out
                unfold Hid
                unfold T.clash at *
                rw [List.take_add_one, hz]
                simp only [Option.toList_some, List.any_append, h, List.any_cons, List.any_nil, Bool.or_false, Bool.false_or]
              have HBad : Hid ((z1 = y1 ∨ z2 = y2) → T.isTree l = false) := by
                intro hor
                rw [HS2.out]
                have : T.clash (l.take k) (y1, y2, y3) = true := by
                  unfold T.clash
                  rw [List.any_eq_true]
                  refine ⟨(z1, z2, z3), ?_, by simpa using hor⟩
                  exact List.mem_of_getElem? (i := j) (by rw [List.getElem?_take, if_pos hjk]; exact hz)
                rw [this]
                rfl
              have hjn : (j : Int) < (n : Int) := by omega
              have hj0 : (0 : Int) ≤ (j : Int) := by omega
              have hk0 : (0 : Int) ≤ (k : Int) := by omega
              clear hz
              by_cases e1 : z1 = y1
              · have HT : Hid (T.isTree l = false) := HBad.out (Or.inl e1)
                have t1 : (z1 == y1) = true := by simp [e1]
                clear e1 HBad HJ
                go_wp2_with fail
                go_quiet (fail)
                go_wp2
                go_ret
                rw [HT.out]
                exact ⟨rfl, by have := HB1.out; (repeat (first | exact Below.refl _ _ | assumption | refine Below.setCell ?_ (by first | exact Nat.le_refl _ | omega | (simp; done) | (simp; omega)) _ | refine below_drewN ?_ _ | refine Below.drew ?_ | refine Below.alloc ?_ (by first | exact Nat.le_refl _ | omega | (simp; done) | (simp; omega)) _))⟩
              · have t1 : (z1 == y1) = false := by simp [e1]
                by_cases e2 : z2 = y2
                · have HT : Hid (T.isTree l = false) := HBad.out (Or.inr e2)
                  have t2 : (z2 == y2) = true := by simp [e2]
                  clear e1 e2 HBad HJ
                  go_wp2_with fail
                  go_quiet (fail)
                  go_wp2
                  go_ret
                  rw [HT.out]
                  exact ⟨rfl, by have := HB1.out; (repeat (first | exact Below.refl _ _ | assumption | refine Below.setCell ?_ (by first | exact Nat.le_refl _ | omega | (simp; done) | (simp; omega)) _ | refine below_drewN ?_ _ | refine Below.drew ?_ | refine Below.alloc ?_ (by first | exact Nat.le_refl _ | omega | (simp; done) | (simp; omega)) _))⟩
                · have t2 : (z2 == y2) = false := by simp [e2]
                  have HT : Hid (T.clash (l.take (j + 1)) (y1, y2, y3) = false) := by unfold Hid; rw [HJ.out]; simp [e1, e2]
                  clear e1 e2 HBad HJ
                  go_wp2_with fail
                  go_quiet (fail)
                  go_wp2
                  go_roundw
                  case rel => exact ⟨j + 1, _, by omega, by go_num, by first | rfl | simp, HT⟩
                  case measure => simp [intOf]; omega
            · obtain rfl : j = k := by omega
              have HT : Hid (T.isTree l = T.treeFrom (l.take (j + 1)) (l.drop (j + 1))) := by unfold Hid; rw [HS2.out, HCL.out]; simp
              go_wp2
              go_roundw
              case rel => exact ⟨j + 1, by omega, by go_num, by have := HB1.out; (repeat (first | exact Below.refl _ _ | assumption | refine Below.setCell ?_ (by first | exact Nat.le_refl _ | omega | (simp; done) | (simp; omega)) _ | refine below_drewN ?_ _ | refine Below.drew ?_ | refine Below.alloc ?_ (by first | exact Nat.le_refl _ | omega | (simp; done) | (simp; omega)) _)), HT⟩
              case measure => simp [intOf]; omega
      · have HT : Hid (T.isTree l = true) := by
          unfold Hid
          rw [HD.out, List.drop_of_length_le (by have := Hn.out; omega)]
          rfl
        go_wp2
        go_ret
        rw [HT.out]
        exact ⟨rfl, HW.out⟩
  · have HT : Hid (T.isTree l = false) := by
      unfold Hid T.isTree
      rw [Hn.out]
      simp [h16]
    have hlt16 : (16 : Int) < (n : Int) := by omega
    go_enter Try.func21, Try.ntmps21
    go_wp2
    go_ret
    rw [HT.out]
    exact ⟨rfl, Below.refl _ _⟩

end Go.Proofs.Ytcaeeaiodbjacaa
