/-
  The walks of placeOf and idFor.
-/
import Derived.Test.YtcaeeaiodbjacaaNodeC
namespace Go.Proofs.Ytcaeeaiodbjacaa
open Go.RowKit
set_option linter.unusedVariables false

namespace T
def placeFrom : List Nd → Int → Nat → Int
  | [], _, _ => -1
  | x :: r, i, k => if x.1 = i then (k : Int) else placeFrom r i (k + 1)

/-- Where the node with an Id stands; -1: there is none. -/
def place (l : List Nd) (i : Int) : Int := placeFrom l i 0

theorem placeFrom_has : ∀ (l : List Nd) (i : Int) (k : Nat), (has l i = false ∧ placeFrom l i k = -1) ∨ (has l i = true ∧ (k : Int) ≤ placeFrom l i k ∧ placeFrom l i k < k + l.length)
  | [], i, k => Or.inl ⟨rfl, rfl⟩
  | x :: r, i, k => by
      unfold placeFrom
      by_cases h : x.1 = i
      · rw [if_pos h]
        refine Or.inr ⟨by simp [has, h], by omega, ?_⟩
        simp only [List.length_cons]
        omega
      · rw [if_neg h]
        have e : has (x :: r) i = has r i := by simp [has, h]
        rw [e]
        rcases placeFrom_has r i (k + 1) with h1 | ⟨h1, h2, h3⟩
        · exact Or.inl h1
        · refine Or.inr ⟨h1, by omega, ?_⟩
          simp only [List.length_cons]
          omega

theorem place_no {l : List Nd} {i : Int} (h : has l i = false) : place l i = -1 := by
  rcases placeFrom_has l i 0 with ⟨_, h2⟩ | ⟨h2, _⟩
  · exact h2
  · rw [h] at h2; cases h2

theorem place_yes {l : List Nd} {i : Int} (h : has l i = true) : 0 ≤ place l i ∧ place l i < l.length := by
  rcases placeFrom_has l i 0 with ⟨h2, _⟩ | ⟨_, h2, h3⟩
  · rw [h] at h2; cases h2
  · unfold place
    omega

theorem idFor_found {old next : List Nd} {key : Int} {x : Nd} (h : old.find? (fun x => decide (x.2.1 = key)) = some x) : idFor key old next = x.1 := by
  unfold idFor; rw [h]

theorem idFor_none {old next : List Nd} {key : Int} (h : old.find? (fun x => decide (x.2.1 = key)) = none) : idFor key old next = leastFrom old next 16 1 := by
  unfold idFor; rw [h]

theorem leastFrom_take {old next : List Nd} {f : Nat} {i : Int} (h1 : has old i = false) (h2 : has next i = false) : leastFrom old next (f + 1) i = i := by
  unfold leastFrom; rw [if_pos ⟨h1, h2⟩]

theorem leastFrom_skip {old next : List Nd} {f : Nat} {i : Int} (h : ¬ (has old i = false ∧ has next i = false)) : leastFrom old next (f + 1) i = leastFrom old next f (i + 1) := by
  conv => lhs; unfold leastFrom
  rw [if_neg h]
end T

set_option maxHeartbeats 1000000 in
theorem place_any (ao : Option Addr) (cap : Nat) (l : List T.Nd) (id : Int) (w : World) (hl : l.length ≤ maxLen) (ha : NodeAt w ao l) :
    Calls Try.prog 49 #[.slice ao l.length cap, .int .u8 id] w fun e w' => e = .returned (.int .i64 (T.place l id)) ∧ Below w.heap.size w w' := by
  unfold maxLen at hl
  obtain ⟨n, hn⟩ : ∃ n, n = l.length := ⟨_, rfl⟩
  have Hn : Hid (l.length = n) := hn.symm
  rw [← hn]
  rw [← hn] at hl
  have HA : Hid (NodeAt w ao l) := ha
  clear hn ha
  go_enter Try.func49, Try.ntmps49
  go_wp2
  go_loopw [9] (fun i wr => ∃ (k : Nat), k ≤ n ∧ i = .int .i64 k ∧ Below w.heap.size w wr ∧ Hid (T.place l id = T.placeFrom (l.drop k) id k))
    (fun i _ => n - (intOf i).toNat)
  case atStart => exact ⟨0, Nat.zero_le _, rfl, Below.refl _ _, rfl⟩
  case round =>
    obtain ⟨k, hk, rfl, hb, HD⟩ := hrel
    have HW : Hid (Below w.heap.size w wr) := hb
    have hsz : w.heap.size ≤ wr.heap.size := hb.size
    clear hb
    by_cases hlt : k < n
    · obtain ⟨y, hy⟩ : ∃ x, l[k]? = some x := ⟨l[k]'(by have := Hn.out; omega), List.getElem?_eq_getElem (by have := Hn.out; omega)⟩
      obtain ⟨b, off, rfl, hbl, hr⟩ : ∃ b off, ao = some ⟨b, off, none⟩ ∧ b < w.heap.size ∧ NodeRow w b off l := HA.out.resolve_left (by rintro rfl; simp at hy)
      obtain ⟨y1, y2, y3⟩ := y
      obtain ⟨c0, c1, c2⟩ := (hr.below HW.out hbl) k _ hy
      simp only at c0 c1 c2
      have HS : Hid (T.place l id = if y1 = id then (k : Int) else T.placeFrom (l.drop (k + 1)) id (k + 1)) := by
        unfold Hid
        rw [HD.out, drop_cons l k _ hy]
        rfl
      have hbw : b < wr.heap.size := by omega
      have hbne : ¬ b = wr.heap.size := by omega
      clear hy hr
      by_cases h1 : y1 = id
      · subst h1
        have HT : Hid (T.place l y1 = k) := by unfold Hid; rw [HS.out, if_pos rfl]
        go_wp2
        go_ret
        rw [HT.out]
        exact ⟨rfl, by have := HW.out; (repeat (first | exact Below.refl _ _ | assumption | refine Below.setCell ?_ (by first | exact Nat.le_refl _ | omega | (simp; done) | (simp; omega)) _ | refine below_drewN ?_ _ | refine Below.drew ?_ | refine Below.alloc ?_ (by first | exact Nat.le_refl _ | omega | (simp; done) | (simp; omega)) _))⟩
      · have hb1 : (y1 == id) = false := by rw [beq_eq_false_iff_ne]; exact h1
        have HT : Hid (T.place l id = T.placeFrom (l.drop (k + 1)) id (k + 1)) := by unfold Hid; rw [HS.out, if_neg h1]
        clear h1
        go_wp2
        go_roundw
        case rel => exact ⟨k + 1, by omega, by go_num, by have := HW.out; (repeat (first | exact Below.refl _ _ | assumption | refine Below.setCell ?_ (by first | exact Nat.le_refl _ | omega | (simp; done) | (simp; omega)) _ | refine below_drewN ?_ _ | refine Below.drew ?_ | refine Below.alloc ?_ (by first | exact Nat.le_refl _ | omega | (simp; done) | (simp; omega)) _)), HT⟩
        case measure => simp [intOf]; omega
    · have HT : Hid (T.place l id = -1) := by
        unfold Hid
        rw [HD.out, List.drop_of_length_le (by have := Hn.out; omega)]
        rfl
      go_wp2
      go_ret
      rw [HT.out]
      exact ⟨rfl, HW.out⟩

set_option maxRecDepth 100000 in
set_option maxHeartbeats 2000000 in
theorem idFor_any (oo no : Option Addr) (oc nc : Nat) (old next : List T.Nd) (key : Int) (w : World) (hlo : old.length ≤ maxLen) (hln : next.length ≤ maxLen) (hao : NodeAt w oo old) (han : NodeAt w no next) :
    Calls Try.prog 32 #[.int .u16 key, .slice oo old.length oc, .slice no next.length nc] w fun e w' => e = .returned (.int .u8 (T.idFor key old next)) ∧ Below w.heap.size w w' := by
  have P1 : Hid (∀ (i : Int) (u : World), Below w.heap.size w u → Calls Try.prog 49 #[.slice oo old.length oc, .int .u8 i] u fun e w' => e = .returned (.int .i64 (T.place old i)) ∧ Below u.heap.size u w') := fun i u hu => place_any oo oc old i u hlo (hao.below hu (Nat.le_refl _) hu.size)
  have P2 : Hid (∀ (i : Int) (u : World), Below w.heap.size w u → Calls Try.prog 49 #[.slice no next.length nc, .int .u8 i] u fun e w' => e = .returned (.int .i64 (T.place next i)) ∧ Below u.heap.size u w') := fun i u hu => place_any no nc next i u hln (han.below hu (Nat.le_refl _) hu.size)
  unfold maxLen at hlo hln
  obtain ⟨n, hn⟩ : ∃ n, n = old.length := ⟨_, rfl⟩
  have Hn : Hid (old.length = n) := hn.symm
  obtain ⟨m, hm⟩ : ∃ n, n = next.length := ⟨_, rfl⟩
  have Hm : Hid (next.length = m) := hm.symm
  rw [← hn] at P1 hlo
  rw [← hm] at P2 hln
  rw [← hn, ← hm]
  have HA : Hid (NodeAt w oo old) := hao
  clear hn hm hao han
  go_enter Try.func32, Try.ntmps32
  go_wp2
  go_loopw [12] (fun i wr => ∃ (k : Nat), k ≤ n ∧ i = .int .i64 k ∧ Below w.heap.size w wr ∧ Hid (old.find? (fun x => decide (x.2.1 = key)) = (old.drop k).find? (fun x => decide (x.2.1 = key))))
    (fun i _ => n - (intOf i).toNat)
  case atStart => exact ⟨0, Nat.zero_le _, rfl, Below.refl _ _, rfl⟩
  case round =>
    obtain ⟨k, hk, rfl, hb, HD⟩ := hrel
    have HW : Hid (Below w.heap.size w wr) := hb
    have hsz : w.heap.size ≤ wr.heap.size := hb.size
    clear hb
    by_cases hlt : k < n
    · obtain ⟨y, hy⟩ : ∃ x, old[k]? = some x := ⟨old[k]'(by have := Hn.out; omega), List.getElem?_eq_getElem (by have := Hn.out; omega)⟩
      obtain ⟨b, off, rfl, hbl, hr⟩ : ∃ b off, oo = some ⟨b, off, none⟩ ∧ b < w.heap.size ∧ NodeRow w b off old := HA.out.resolve_left (by rintro rfl; simp at hy)
      obtain ⟨y1, y2, y3⟩ := y
      obtain ⟨c0, c1, c2⟩ := (hr.below HW.out hbl) k _ hy
      simp only at c0 c1 c2
      have HS : Hid (old.find? (fun x => decide (x.2.1 = key)) = if y2 = key then some (y1, y2, y3) else (old.drop (k + 1)).find? (fun x => decide (x.2.1 = key))) := by
        unfold Hid
        rw [HD.out, drop_cons old k _ hy, List.find?_cons]
        by_cases h : y2 = key <;> simp [h]
      have hbw : b < wr.heap.size := by omega
      have hbne : ¬ b = wr.heap.size := by omega
      clear hy hr
      by_cases h1 : y2 = key
      · subst h1
        have HT : Hid (T.idFor y2 old next = y1) := T.idFor_found (x := (y1, y2, y3)) (by rw [HS.out, if_pos rfl])
        go_wp2
        go_ret
        rw [HT.out]
        exact ⟨rfl, by have := HW.out; (repeat (first | exact Below.refl _ _ | assumption | refine Below.setCell ?_ (by first | exact Nat.le_refl _ | omega | (simp; done) | (simp; omega)) _ | refine below_drewN ?_ _ | refine Below.drew ?_ | refine Below.alloc ?_ (by first | exact Nat.le_refl _ | omega | (simp; done) | (simp; omega)) _))⟩
      · have hb1 : (y2 == key) = false := by rw [beq_eq_false_iff_ne]; exact h1
        have HT : Hid (old.find? (fun x => decide (x.2.1 = key)) = (old.drop (k + 1)).find? (fun x => decide (x.2.1 = key))) := by unfold Hid; rw [HS.out, if_neg h1]
        clear h1
        go_wp2
        go_roundw
        case rel => exact ⟨k + 1, by omega, by go_num, by have := HW.out; (repeat (first | exact Below.refl _ _ | assumption | refine Below.setCell ?_ (by first | exact Nat.le_refl _ | omega | (simp; done) | (simp; omega)) _ | refine below_drewN ?_ _ | refine Below.drew ?_ | refine Below.alloc ?_ (by first | exact Nat.le_refl _ | omega | (simp; done) | (simp; omega)) _)), HT⟩
        case measure => simp [intOf]; omega
    · have HF : Hid (T.idFor key old next = T.leastFrom old next 16 1) := T.idFor_none (by rw [HD.out, List.drop_of_length_le (by have := Hn.out; omega)]; rfl)
      clear HD
      go_wp2_with fail
      go_loopw [9] (fun i w2 => ∃ (j : Nat), 1 ≤ j ∧ j ≤ 17 ∧ i = .int .u8 j ∧ Below w.heap.size w w2 ∧ Hid (T.idFor key old next = T.leastFrom old next (17 - j) j))
        (fun i _ => 17 - (intOf i).toNat)
      case atStart => exact ⟨1, by omega, by omega, rfl, HW.out, HF⟩
      case round =>
        obtain ⟨j, hj1, hj, rfl, hb, HD⟩ := hrel
        have HW2 : Hid (Below w.heap.size w wr) := hb
        clear hb
        by_cases hj16 : j ≤ 16
        · have hji : (j : Int) ≤ 16 := by omega
          cases h1 : T.has old j with
          | true =>
            have hp := T.place_yes h1
            have HT : Hid (T.idFor key old next = T.leastFrom old next (17 - (j + 1)) ((j + 1 : Nat) : Int)) := by
              unfold Hid
              rw [HD.out, show 17 - j = (17 - (j + 1)) + 1 by omega, T.leastFrom_skip (by rw [h1]; simp)]
              rfl
            obtain ⟨p, hpe⟩ : ∃ p, p = T.place old j := ⟨_, rfl⟩
            have HP : Hid (p = T.place old j) := hpe
            rw [← hpe] at hp
            have hpn : ¬ p < 0 := by omega
            clear hpe h1 HD
            go_wp2_with fail
            refine (P1.out j wr HW2.out).mono ?_
            rintro e w3 ⟨rfl, hb3⟩
            rw [← HP.out]
            have HB3 : Hid (Below w.heap.size w w3) := HW2.out.trans (hb3.mono HW2.out.size)
            clear hb3 HP
            go_wp2
            go_roundw
            case rel => exact ⟨j + 1, by omega, by omega, by go_num, HB3.out, HT⟩
            case measure => simp [intOf]; omega
          | false =>
            have hp1 := T.place_no h1
            cases h2 : T.has next j with
            | true =>
              have hp := T.place_yes h2
              have HT : Hid (T.idFor key old next = T.leastFrom old next (17 - (j + 1)) ((j + 1 : Nat) : Int)) := by
                unfold Hid
                rw [HD.out, show 17 - j = (17 - (j + 1)) + 1 by omega, T.leastFrom_skip (by rw [h2]; simp)]
                rfl
              obtain ⟨p, hpe⟩ : ∃ p, p = T.place next j := ⟨_, rfl⟩
              have HP : Hid (p = T.place next j) := hpe
              rw [← hpe] at hp
              have hpn : ¬ p < 0 := by omega
              have HP1 : Hid (T.place old j = -1) := hp1
              clear hpe h1 h2 HD hp1
              go_wp2_with fail
              refine (P1.out j wr HW2.out).mono ?_
              rintro e w3 ⟨rfl, hb3⟩
              rw [HP1.out]
              have HB3 : Hid (Below w.heap.size w w3) := HW2.out.trans (hb3.mono HW2.out.size)
              clear hb3 HP1
              go_wp2_with fail
              refine (P2.out j w3 HB3.out).mono ?_
              rintro e w4 ⟨rfl, hb4⟩
              rw [← HP.out]
              have HB4 : Hid (Below w.heap.size w w4) := HB3.out.trans (hb4.mono HB3.out.size)
              clear hb4 HP
              go_wp2
              go_roundw
              case rel => exact ⟨j + 1, by omega, by omega, by go_num, HB4.out, HT⟩
              case measure => simp [intOf]; omega
            | false =>
              have HT : Hid (T.idFor key old next = j) := by
                unfold Hid
                rw [HD.out, show 17 - j = (17 - (j + 1)) + 1 by omega, T.leastFrom_take h1 h2]
              have HP1 : Hid (T.place old j = -1) := hp1
              have HP2 : Hid (T.place next j = -1) := T.place_no h2
              clear h1 h2 HD hp1
              go_wp2_with fail
              refine (P1.out j wr HW2.out).mono ?_
              rintro e w3 ⟨rfl, hb3⟩
              rw [HP1.out]
              have HB3 : Hid (Below w.heap.size w w3) := HW2.out.trans (hb3.mono HW2.out.size)
              clear hb3 HP1
              go_wp2_with fail
              refine (P2.out j w3 HB3.out).mono ?_
              rintro e w4 ⟨rfl, hb4⟩
              rw [HP2.out]
              have HB4 : Hid (Below w.heap.size w w4) := HB3.out.trans (hb4.mono HB3.out.size)
              clear hb4 HP2
              go_wp2
              go_ret
              rw [HT.out]
              exact ⟨rfl, HB4.out⟩
        · have hj17 : j = 17 := by omega
          subst hj17
          have HT : Hid (T.idFor key old next = 0) := by unfold Hid; rw [HD.out]; rfl
          go_wp2
          go_ret
          rw [HT.out]
          exact ⟨rfl, HW2.out⟩

end Go.Proofs.Ytcaeeaiodbjacaa
