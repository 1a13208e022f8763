/-
  The walk of counted.
-/
import Derived.Test.YtidaflmmldefcaaJTen
namespace Go.Proofs.Ytidaflmmldefcaa
open Go.RowKit
set_option linter.unusedVariables false

def isEv (what by_ : Int) (e : Ev) : Bool := e.what == what && e.by_ == by_

set_option maxHeartbeats 4000000 in
theorem counted_any {w : World} {ao : Option Addr} {cap : Nat} {l : List Ev} (what by_ : Int) (h : BoxAt w (.slice ao l.length cap) l) (hl : l.length ≤ 100000) :
    Calls Try.prog 27 #[.slice ao l.length cap, .int .u8 what, .int .u8 by_] w fun e w' => e = .returned (.int .i64 (l.countP (isEv what by_) : Int)) ∧ Below w.heap.size w w' := by
  obtain ⟨n, hn⟩ : ∃ n, n = l.length := ⟨_, rfl⟩
  have HBx : Hid (∀ u, Below w.heap.size w u → BoxAt u (.slice ao n cap) l) := by
    intro u hu
    rw [hn]
    refine h.keep fun k hk => ?_
    obtain ⟨cur, q⟩ := h.blk hk
    exact hu.block k q.lt
  have Hn : Hid (l.length = n) := hn.symm
  have HCt : Hid (l.countP (isEv what by_) = (l.take n).countP (isEv what by_)) := by unfold Hid; rw [hn, List.take_length]
  rw [← hn] at hl ⊢
  clear h hn
  go_enter Try.func27, Try.ntmps27
  go_wp2_with fail
  go_loopw [7, 12] (fun c i wr => ∃ k : Nat, k ≤ n ∧ i = .int .i64 k ∧ c = .int .i64 ((l.take k).countP (isEv what by_) : Int) ∧ Hid (Below w.heap.size w wr))
    (fun _ i _ => n - (intOf i).toNat)
  case atStart => exact ⟨0, Nat.zero_le _, rfl, rfl, Below.refl _ _⟩
  case round =>
    obtain ⟨k, hk, rfl, rfl, HB⟩ := hrel
    have hsz := HB.out.size
    by_cases hlt : k < n
    · obtain ⟨y, hy⟩ : ∃ y, l[k]? = some y := ⟨l[k]'(by have := Hn.out; omega), List.getElem?_eq_getElem (by have := Hn.out; omega)⟩
      obtain ⟨g, of, c2, hv, hc⟩ := (HBx.out wr HB.out).at hy
      simp only [Value.slice.injEq] at hv
      obtain ⟨rfl, _, rfl⟩ := hv
      have e0 := hc 0 (by decide)
      have e1 := hc 1 (by decide)
      have e2 := hc 2 (by decide)
      have e3 := hc 3 (by decide)
      simp [Ev.cells] at e0 e1 e2 e3
      have hki : (k : Int) < (n : Int) := by omega
      have hk0 : (0 : Int) ≤ (k : Int) := by omega
      have HC : Hid ((l.take (k + 1)).countP (isEv what by_) = (l.take k).countP (isEv what by_) + (if isEv what by_ y then 1 else 0)) := countP_step hy
      have hcl : (l.take k).countP (isEv what by_) ≤ k := Nat.le_trans List.countP_le_length (by simp; omega)
      generalize (l.take k).countP (isEv what by_) = q at *
      obtain ⟨y0, y1, y2, y3⟩ := y
      simp only at e0 e1 e2 e3
      clear hy hc
      by_cases h2 : y0 = what
      · subst h2
        by_cases h3 : y1 = by_
        · subst h3
          have hm : isEv y0 y1 ⟨y0, y1, y2, y3⟩ = true := by simp [isEv]
          go_wp2
          go_roundw
          case rel => exact ⟨k + 1, by omega, by go_num, by rw [HC.out, hm]; rfl, HB.out.alloc hsz _⟩
          case measure => simp [intOf]; omega
        · have hm : isEv y0 by_ ⟨y0, y1, y2, y3⟩ = false := by simp [isEv, h3]
          have hb3 : (y1 == by_) = false := by rw [beq_eq_false_iff_ne]; exact h3
          go_wp2
          go_roundw
          case rel => exact ⟨k + 1, by omega, by go_num, by rw [HC.out, hm]; rfl, HB.out.alloc hsz _⟩
          case measure => simp [intOf]; omega
      · have hm : isEv what by_ ⟨y0, y1, y2, y3⟩ = false := by simp [isEv, h2]
        have hb2 : (y0 == what) = false := by rw [beq_eq_false_iff_ne]; exact h2
        go_wp2
        go_roundw
        case rel => exact ⟨k + 1, by omega, by go_num, by rw [HC.out, hm]; rfl, HB.out.alloc hsz _⟩
        case measure => simp [intOf]; omega
    · have hkn : k = n := by omega
      subst hkn
      have hki : ¬ (k : Int) < (k : Int) := by omega
      go_wp2
      go_ret
      refine ⟨?_, HB.out⟩
      rw [HCt.out]
      rfl
end Go.Proofs.Ytidaflmmldefcaa
