/-
  The walks of back and of Marks.
-/
import Derived.Test.YtcaeeaiodbjacaaLentW
import Derived.Test.YtcaeeaiodbjacaaBytesR
import Derived.Test.YtcaeeaiodbjacaaMarkR
namespace Go.Proofs.Ytcaeeaiodbjacaa
open Go.RowKit
set_option linter.unusedVariables false

theorem NodeRow.front {w : World} {b off : Nat} {l m : List T.Nd} (h : NodeRow w b off (l ++ m)) : NodeRow w b off l := by
  intro i x hx
  refine h i x ?_
  rw [List.getElem?_append_left (by exact (List.getElem?_eq_some_iff.1 hx).1)]
  exact hx

set_option maxRecDepth 100000 in
set_option maxHeartbeats 400000 in
theorem back_nil (v : Value) (w : World) : Calls Try.prog 16 #[v, .slice none 0 0] w fun e w' => e = .returned (.bool true) ∧ Below w.heap.size w w' := by
  have hnil : ∀ u : World, (binOp .eql 22 (.slice none 0 0) (.slice none 0 0)).run Try.prog u = .ok (.bool true) u := fun u => eq_nil u none 0 0
  go_enter Try.func16, Try.ntmps16
  go_wp2
  go_ret
  exact ⟨rfl, Below.refl _ _⟩

set_option maxRecDepth 100000 in
set_option maxHeartbeats 2000000 in
theorem back_some (a : Addr) (cap g : Nat) (l : List T.Nd) (w : World) (hl : l.length ≤ 5864062014800) (ha : NodeAt w (some a) l) (hg : g < w.heap.size) (hr : NodeRow w g 0 (l ++ [spareNd])) :
    Calls Try.prog 16 #[.slice (some ⟨g, 0, none⟩) l.length (l.length + 1), .slice (some a) l.length cap] w fun e w' => e = .returned (.bool true) ∧ Below w.heap.size w w' := by
  have HS : Hid (∀ u : World, Below w.heap.size w u → Calls Try.prog 13 #[.slice (some ⟨g, 0, none⟩) l.length (l.length + 1), .slice (some a) l.length cap] u fun e w' => e = .returned (.bool true) ∧ Below u.heap.size u w') := by
    intro u hu
    have := sameN_any (some ⟨g, 0, none⟩) (some a) (l.length + 1) cap l l u (by unfold maxLen; omega) (by unfold maxLen; omega) (Or.inr ⟨g, 0, rfl, by have := hu.size; omega, hr.front.below hu hg⟩) (ha.below hu (Nat.le_refl _) hu.size)
    simpa using this
  have HX : Hid (∀ u : World, Below w.heap.size w u → u.cell? ⟨g, l.length * 3, none⟩ = some (.int .u8 0) ∧ u.cell? ⟨g, l.length * 3 + 1, none⟩ = some (.int .u16 200) ∧ u.cell? ⟨g, l.length * 3 + 2, none⟩ = some (.string ⟨#[]⟩)) := by
    intro u hu
    have h := (hr.below hu hg) l.length spareNd (by simp)
    rw [Nat.zero_add] at h
    exact h
  obtain ⟨n, hn⟩ : ∃ n, n = l.length := ⟨_, rfl⟩
  rw [← hn] at HS HX hl
  rw [← hn]
  have hnil : ∀ u : World, (binOp .eql 22 (.slice (some a) n cap) (.slice none 0 0)).run Try.prog u = .ok (.bool false) u := fun u => eq_nil u (some a) n cap
  clear hn ha hr
  go_enter Try.func16, Try.ntmps16
  go_wp2_with fail
  refine (HS.out _ (Below.refl _ _)).mono ?_
  rintro e w1 ⟨rfl, hb1⟩
  obtain ⟨c0, c1, c2⟩ := HX.out w1 hb1
  have hn0 : (n : Int) < (n : Int) + 1 := by omega
  have HB1 : Hid (Below w.heap.size w w1) := hb1
  clear hb1 HX HS
  go_wp2
  go_ret
  exact ⟨rfl, HB1.out⟩

set_option maxRecDepth 100000 in
set_option maxHeartbeats 2000000 in
theorem marks_walk (vl : Value) (l : List T.Nd) (s : ByteArray) (w : World) (hs : s.size ≤ maxLen)
    (HL : Hid (Calls Try.prog 10 #[vl] w fun e w1 => ∃ vr, e = .returned vr ∧ Below w.heap.size w w1 ∧ Hid (∀ u : World, Below w1.heap.size w1 u → Calls Try.prog 23 #[vr] u fun e w' => e = .returned (.tuple #[.string (bytesS l), .int .i64 (bytesE l)]) ∧ Below u.heap.size u w') ∧ Hid (∀ u : World, Below w1.heap.size w1 u → Calls Try.prog 16 #[vr, vl] u fun e w' => e = .returned (.bool true) ∧ Below u.heap.size u w')))
    (HR : Hid (∀ u : World, Below w.heap.size w u → Calls Try.prog 24 #[vl] u fun e w' => e = .returned (.tuple #[.string (bytesS l), .int .i64 (bytesE l)]) ∧ Below u.heap.size u w')) :
    Calls Try.prog 6 #[vl, .string s] w fun e w' => e = .returned (.bool true) ∧ Below w.heap.size w w' := by
  have M1 : Hid (∀ u : World, Calls Try.prog 25 #[.string s] u fun e w' => e = .returned (.int .u32 (T.markOf s)) ∧ Below u.heap.size u w') := fun u => mark_any s u hs
  have M2 : Hid (∀ u : World, Calls Try.prog 26 #[.string s] u fun e w' => e = .returned (.int .u32 (T.markOf s)) ∧ Below u.heap.size u w') := fun u => refMark_any s u hs
  obtain ⟨mk, hmk⟩ : ∃ mk : Int, mk = (T.markOf s : Int) := ⟨_, rfl⟩
  rw [← hmk] at M1 M2
  generalize bytesS l = bs at HL HR
  generalize bytesE l = be at HL HR
  have t1 : (bs.toList == bs.toList) = true := by simp
  have t2 : (be == be) = true := by simp
  have t3 : (mk == mk) = true := by simp
  clear hmk hs
  go_enter Try.func6, Try.ntmps6
  go_wp2_with fail
  refine HL.out.mono ?_
  rintro e w1 ⟨vr, rfl, hb1, HB, HK⟩
  have B1 : Hid (Below w.heap.size w w1) := hb1
  clear hb1 HL
  go_wp2_with fail
  refine (HB.out w1 (Below.refl _ _)).mono ?_
  rintro e w2 ⟨rfl, hb2⟩
  have C2 : Hid (Below w1.heap.size w1 w2) := hb2
  clear hb2 HB
  go_wp2_with fail
  refine (HR.out w2 (B1.out.trans (C2.out.mono B1.out.size))).mono ?_
  rintro e w3 ⟨rfl, hb3⟩
  have C3 : Hid (Below w1.heap.size w1 w3) := C2.out.trans (hb3.mono C2.out.size)
  clear hb3 HR C2
  go_wp2_with fail
  refine (M1.out w3).mono ?_
  rintro e w4 ⟨rfl, hb4⟩
  have C4 : Hid (Below w1.heap.size w1 w4) := C3.out.trans (hb4.mono C3.out.size)
  clear hb4 C3 M1
  go_wp2_with fail
  refine (M2.out w4).mono ?_
  rintro e w5 ⟨rfl, hb5⟩
  have C5 : Hid (Below w1.heap.size w1 w5) := C4.out.trans (hb5.mono C4.out.size)
  clear hb5 C4 M2
  go_wp2_with fail
  refine (HK.out w5 C5.out).mono ?_
  rintro e w6 ⟨rfl, hb6⟩
  have C6 : Hid (Below w.heap.size w w6) := B1.out.trans ((C5.out.trans (hb6.mono C5.out.size)).mono B1.out.size)
  clear hb6 C5 HK
  go_wp2
  go_ret
  exact ⟨rfl, C6.out⟩

theorem marks_any (ao : Option Addr) (cap : Nat) (l : List T.Nd) (s : ByteArray) (w : World) (hs : s.size ≤ maxLen) (hl : l.length ≤ 5864062014800) (hn : ao = none → l = [] ∧ cap = 0) (ha : NodeAt w ao l) (hk : ndOk l) (hk2 : ndSmall l) (hc : l.length ≤ cap) :
    Calls Try.prog 6 #[.slice ao l.length cap, .string s] w fun e w' => e = .returned (.bool true) ∧ Below w.heap.size w w' := by
  refine marks_walk (.slice ao l.length cap) l s w hs ?_ (fun u hu => refBytes_any ao cap l u (by unfold maxLen; omega) (ha.below hu (Nat.le_refl _) hu.size) hk hk2)
  cases ao with
  | none =>
    obtain ⟨rfl, rfl⟩ := hn rfl
    refine (lent_nil w).mono ?_
    rintro e w1 ⟨rfl, rfl⟩
    exact ⟨_, rfl, Below.refl _ _, fun u hu => bytes_any none 0 [] u (by simp) (by simp) (Or.inl rfl) hk, fun u hu => back_nil _ u⟩
  | some a =>
    refine (lent_some a cap l w hl ha).mono ?_
    rintro e w1 ⟨g, rfl, hg0, hg1, hr, hb1⟩
    refine ⟨_, rfl, hb1, fun u hu => ?_, fun u hu => ?_⟩
    · exact bytes_any (some ⟨g, 0, none⟩) (l.length + 1) l u (by unfold maxLen; omega) (by omega) (Or.inr ⟨g, 0, rfl, by have := hu.size; omega, hr.front.below hu hg1⟩) hk
    · exact back_some a cap g l u hl ((ha.below hb1 (Nat.le_refl _) hb1.size).below hu (Nat.le_refl _) hu.size) (by have := hu.size; omega) (hr.below hu hg1)

end Go.Proofs.Ytcaeeaiodbjacaa
