/-
  The walks of isText, clashes and isTree.
-/
import Derived.Test.YtcaeeaiodbjacaaTextA
import Derived.Test.YtcaeeaiodbjacaaHeap
import Derived.Test.YtcaeeaiodbjacaaTreeP
namespace Go.Proofs.Ytcaeeaiodbjacaa
open Go.RowKit
set_option linter.unusedVariables false

set_option maxHeartbeats 1000000 in
theorem text_any (s : ByteArray) (w : World) (hs : s.size ≤ maxLen) :
    Calls Try.prog 47 #[.string s] w fun e w' => e = .returned (.bool (T.isText (T.bts s))) ∧ Below w.heap.size w w' := by
  have Hs : Hid (s.size ≤ maxLen) := hs
  unfold maxLen at hs
  have HL : Hid ((T.bts s).length = s.size) := T.bts_length s
  go_enter Try.func47, Try.ntmps47
  go_wp2
  go_loopw [3, 4] (fun p i wr => ∃ (k q : Nat), k ≤ 6 ∧ q ≤ s.size ∧ p = .int .i64 q ∧ i = .int .i64 k ∧ Below w.heap.size w wr ∧ Hid (T.isText (T.bts s) = T.textFrom (T.bts s) (6 - k) q))
    (fun _ i _ => 6 - (intOf i).toNat)
  case atStart => exact ⟨0, 0, by omega, by omega, rfl, rfl, Below.refl _ _, rfl⟩
  case round =>
    obtain ⟨k, q, hk, hq, rfl, rfl, hb, HT⟩ := hrel
    have HB : Hid (Below w.heap.size w wr) := hb
    have hsz : w.heap.size ≤ wr.heap.size := hb.size
    clear hb
    by_cases h6 : k < 6
    · by_cases hlt : q < s.size
      · obtain ⟨c, hc⟩ : ∃ c : Nat, c = T.size (T.bts s) q := ⟨_, rfl⟩
        have hle := T.size_le (T.bts s) q
        have hl4 := T.size_le4 (T.bts s) q
        rw [← hc, HL.out] at hle
        rw [← hc] at hl4
        have HC : Hid (∀ u : World, Calls Try.prog 57 #[.string s, .int .i64 q] u fun e w' => e = .returned (.int .i64 c) ∧ Below u.heap.size u w') := by
          intro u; rw [hc]; exact char_any s q u Hs.out hlt
        by_cases hc0 : c = 0
        · have HF : Hid (T.isText (T.bts s) = false) := by
            unfold Hid
            rw [HT.out, T.textFrom_bad _ _ _ (by omega) (by rw [HL.out]; exact hlt) (by omega)]
          clear hc hle hl4
          subst hc0
          go_wp2_with (go_at_call 57; refine (HC.out _).mono ?_; rintro e w1 ⟨rfl, hb1⟩)
          go_ret
          rw [HF.out]
          exact ⟨rfl, HB.out.trans (hb1.mono hsz)⟩
        · have HT' : Hid (T.isText (T.bts s) = T.textFrom (T.bts s) (6 - (k + 1)) (q + c)) := by
            unfold Hid
            rw [HT.out, show 6 - k = (6 - (k + 1)) + 1 by omega, T.textFrom_next _ _ _ (by rw [HL.out]; exact hlt) (by omega), ← hc]
          have hle2 : q + c ≤ s.size := by omega
          have hb0 : ((c : Int) == 0) = false := by rw [beq_eq_false_iff_ne]; omega
          clear hc hle HT hc0
          go_wp2_with (go_at_call 57; refine (HC.out _).mono ?_; rintro e w1 ⟨rfl, hb1⟩)
          go_roundw
          case rel => exact ⟨k + 1, q + c, by omega, by omega, by go_num, by go_num, HB.out.trans (hb1.mono hsz), HT'⟩
          case measure => simp [intOf]; omega
      · have HF : Hid (T.isText (T.bts s) = true) := by
          unfold Hid
          rw [HT.out, T.textFrom_end _ _ _ (by rw [HL.out]; exact hlt), HL.out]
          simp; omega
        have hq2 : q = s.size := by omega
        clear hlt
        subst hq2
        go_wp2
        go_ret
        rw [HF.out]
        exact ⟨rfl, HB.out⟩
    · have hk6 : k = 6 := by omega
      subst hk6
      have HF : Hid (T.isText (T.bts s) = decide (q = s.size)) := by
        unfold Hid
        rw [HT.out]
        show decide (q = (T.bts s).length) = _
        rw [HL.out]
      clear HT h6
      by_cases hq2 : q = s.size
      · have HG : Hid (T.isText (T.bts s) = true) := by unfold Hid; rw [HF.out]; simp [hq2]
        subst hq2
        go_wp2
        go_ret
        rw [HG.out]
        exact ⟨rfl, HB.out⟩
      · have HG : Hid (T.isText (T.bts s) = false) := by unfold Hid; rw [HF.out]; simp [hq2]
        have hb0 : ((q : Int) == (s.size : Int)) = false := by rw [beq_eq_false_iff_ne]; omega
        clear hq2
        go_wp2
        go_ret
        rw [HG.out]
        exact ⟨rfl, HB.out⟩

/-- Nodes lie in memory from ⟨b, off⟩ on. -/
def NodeRow (w : World) (b off : Nat) (l : List T.Nd) : Prop :=
  ∀ i x, l[i]? = some x → w.cell? ⟨b, off + i * 3, none⟩ = some (.int .u8 x.1) ∧ w.cell? ⟨b, off + i * 3 + 1, none⟩ = some (.int .u16 x.2.1) ∧ w.cell? ⟨b, off + i * 3 + 2, none⟩ = some (.string x.2.2)

theorem NodeRow.below {B : Nat} {w w' : World} {b off : Nat} {l : List T.Nd} (h : NodeRow w b off l) (hb : Below B w w') (hl : b < B) : NodeRow w' b off l := by
  intro i x hx
  obtain ⟨h0, h1, h2⟩ := h i x hx
  exact ⟨(hb.cell hl).trans h0, (hb.cell hl).trans h1, (hb.cell hl).trans h2⟩

theorem NodeRow.lt {w : World} {b off : Nat} {l : List T.Nd} (h : NodeRow w b off l) {i : Nat} {x : T.Nd} (hx : l[i]? = some x) : b < w.heap.size :=
  World.block_lt_of_cell? _ _ (h i x hx).1

theorem NodeRow.take {w : World} {b off : Nat} {l : List T.Nd} (h : NodeRow w b off l) (k : Nat) : NodeRow w b off (l.take k) := by
  intro i x hx
  rw [List.getElem?_take] at hx
  split at hx
  · exact h i x hx
  · cases hx

/-- A slice of nodes, also an empty one. -/
def NodeAt (w : World) (ao : Option Addr) (l : List T.Nd) : Prop :=
  l = [] ∨ ∃ b off, ao = some ⟨b, off, none⟩ ∧ b < w.heap.size ∧ NodeRow w b off l

theorem NodeAt.below {B : Nat} {w w' : World} {ao : Option Addr} {l : List T.Nd} (h : NodeAt w ao l) (hb : Below B w w') (hB : w.heap.size ≤ B) (hs : w.heap.size ≤ w'.heap.size) : NodeAt w' ao l := by
  rcases h with h | ⟨b, off, e, hl, h⟩
  · exact Or.inl h
  · exact Or.inr ⟨b, off, e, by omega, h.below hb (by omega)⟩

theorem drop_cons {α : Type} (l : List α) (k : Nat) (x : α) (h : l[k]? = some x) : l.drop k = x :: l.drop (k + 1) := by
  obtain ⟨hk, rfl⟩ := List.getElem?_eq_some_iff.1 h
  rw [List.drop_eq_getElem_cons hk]

set_option maxHeartbeats 2000000 in
theorem clash_any (ao : Option Addr) (cap : Nat) (l : List T.Nd) (x1 x2 : Int) (x3 : ByteArray) (w : World) (hl : l.length ≤ maxLen) (ha : NodeAt w ao l) :
    Calls Try.prog 48 #[.slice ao l.length cap, .agg #[.int .u8 x1, .int .u16 x2, .string x3]] w fun e w' => e = .returned (.bool (T.clash l (x1, x2, x3))) ∧ Below w.heap.size w w' := by
  unfold maxLen at hl
  obtain ⟨n, hn⟩ : ∃ n, n = l.length := ⟨_, rfl⟩
  have Hn : Hid (l.length = n) := hn.symm
  rw [← hn]
  rw [← hn] at hl
  have HA : Hid (NodeAt w ao l) := ha
  clear hn ha
  go_enter Try.func48, Try.ntmps48
  go_wp2
  go_loopw [9] (fun i wr => ∃ (k : Nat), k ≤ n ∧ i = .int .i64 k ∧ Below (w.heap.size + 1) (w.alloc (.cells #[.int .u8 x1, .int .u16 x2, .string x3] 60)) wr ∧ Hid (T.clash l (x1, x2, x3) = T.clash (l.drop k) (x1, x2, x3)))
    (fun i _ => n - (intOf i).toNat)
  case atStart => exact ⟨0, Nat.zero_le _, rfl, Below.refl _ _, rfl⟩
  case round =>
    obtain ⟨k, hk, rfl, hb, HD⟩ := hrel
    have HB : Hid (Below (w.heap.size + 1) (w.alloc (.cells #[.int .u8 x1, .int .u16 x2, .string x3] 60)) wr) := hb
    have HW : Hid (Below w.heap.size w wr) := (((Below.refl _ _).alloc (Nat.le_refl _) _).trans (hb.mono (by omega)))
    have hsz : w.heap.size + 1 ≤ wr.heap.size := by have := hb.size; simpa using this
    have hx : Blk wr w.heap.size #[.int .u8 x1, .int .u16 x2, .string x3] 60 := (Blk.new w _ 60).below hb (by omega)
    have d0 := hx.cell 0
    have d1 := hx.cell 1
    simp at d0 d1
    clear hx hb
    by_cases hlt : k < n
    · obtain ⟨y, hy⟩ : ∃ x, l[k]? = some x := ⟨l[k]'(by have := Hn.out; omega), List.getElem?_eq_getElem (by have := Hn.out; omega)⟩
      obtain ⟨b, off, rfl, hbl, hr⟩ : ∃ b off, ao = some ⟨b, off, none⟩ ∧ b < w.heap.size ∧ NodeRow w b off l := HA.out.resolve_left (by rintro rfl; simp at hy)
      obtain ⟨y1, y2, y3⟩ := y
      obtain ⟨c0, c1, c2⟩ := (hr.below HW.out hbl) k _ hy
      simp only at c0 c1 c2
      have HS : Hid (T.clash l (x1, x2, x3) = (decide (y1 = x1 ∨ y2 = x2) || T.clash (l.drop (k + 1)) (x1, x2, x3))) := by
        unfold Hid
        rw [HD.out, drop_cons l k _ hy]
        rfl
      have hbw : b < wr.heap.size := by omega
      have hbne : ¬ b = wr.heap.size := by omega
      have hwne : ¬ w.heap.size = wr.heap.size := by omega
      have hww : w.heap.size < wr.heap.size := by omega
      clear hy hr
      by_cases h1 : y1 = x1
      · subst h1
        have HT : Hid (T.clash l (y1, x2, x3) = true) := by unfold Hid; rw [HS.out]; simp
        go_wp2
        go_ret
        rw [HT.out]
        exact ⟨rfl, by have := HW.out; (repeat (first | exact Below.refl _ _ | assumption | refine Below.setCell ?_ (by first | exact Nat.le_refl _ | omega | (simp; done) | (simp; omega)) _ | refine below_drewN ?_ _ | refine Below.drew ?_ | refine Below.alloc ?_ (by first | exact Nat.le_refl _ | omega | (simp; done) | (simp; omega)) _))⟩
      · have hb1 : (y1 == x1) = false := by rw [beq_eq_false_iff_ne]; exact h1
        by_cases h2 : y2 = x2
        · subst h2
          have HT : Hid (T.clash l (x1, y2, x3) = true) := by unfold Hid; rw [HS.out]; simp
          clear h1
          go_wp2
          go_ret
          rw [HT.out]
          exact ⟨rfl, by have := HW.out; (repeat (first | exact Below.refl _ _ | assumption | refine Below.setCell ?_ (by first | exact Nat.le_refl _ | omega | (simp; done) | (simp; omega)) _ | refine below_drewN ?_ _ | refine Below.drew ?_ | refine Below.alloc ?_ (by first | exact Nat.le_refl _ | omega | (simp; done) | (simp; omega)) _))⟩
        · have hb2 : (y2 == x2) = false := by rw [beq_eq_false_iff_ne]; exact h2
          have HT : Hid (T.clash l (x1, x2, x3) = T.clash (l.drop (k + 1)) (x1, x2, x3)) := by unfold Hid; rw [HS.out]; simp [h1, h2]
          clear h1 h2
          go_wp2
          go_roundw
          case rel => exact ⟨k + 1, by omega, by go_num, by have := HB.out; (repeat (first | exact Below.refl _ _ | assumption | refine Below.setCell ?_ (by first | exact Nat.le_refl _ | omega | (simp; done) | (simp; omega)) _ | refine below_drewN ?_ _ | refine Below.drew ?_ | refine Below.alloc ?_ (by first | exact Nat.le_refl _ | omega | (simp; done) | (simp; omega)) _)), HT⟩
          case measure => simp [intOf]; omega
    · have HT : Hid (T.clash l (x1, x2, x3) = false) := by
        unfold Hid
        rw [HD.out, List.drop_of_length_le (by have := Hn.out; omega)]
        rfl
      go_wp2
      go_ret
      rw [HT.out]
      exact ⟨rfl, HW.out⟩

end Go.Proofs.Ytcaeeaiodbjacaa
