/-
  The walk of outcome.
-/
import Derived.Test.YtidaflmmldefcaaRunL
namespace Go.Proofs.Ytidaflmmldefcaa
open Go.RowKit
set_option linter.unusedVariables false

theorem eight {l : List Int} (h : l.length = 8) : ∃ a b c d e f g i, l = [a, b, c, d, e, f, g, i] := by
  match l, h with
  | [a, b, c, d, e, f, g, i], _ => exact ⟨a, b, c, d, e, f, g, i, rfl⟩

def outAgg (ft : Int) (st dr : Nat) (c0 c1 c2 c3 c4 c5 c6 c7 : Int) (sv dv : Value) : Value :=
  .agg #[.int .u8 ft, .int .i64 st, .int .i64 dr, .int .u16 c0, .int .u16 c1, .int .u16 c2, .int .u16 c3, .int .u16 c4, .int .u16 c5, .int .u16 c6, .int .u16 c7, sv, dv]

set_option maxRecDepth 100000 in
set_option maxHeartbeats 2000000 in
theorem outc_bad {w : World} {base b : Nat} {pile : List Int} {sv dv : Value} {M : H.Mach} (h : MB w base b pile sv dv M) (hz : M.fault ≠ 0) (k0 k1 k2 k3 k4 k5 k6 k7 : Int) :
    Calls Try.prog 55 #[.pointer (some ⟨b, 0, none⟩), .agg #[.int .u16 k0, .int .u16 k1, .int .u16 k2, .int .u16 k3, .int .u16 k4, .int .u16 k5, .int .u16 k6, .int .u16 k7]] w fun e w' =>
      e = .returned (outAgg M.fault M.steps M.draws k0 k1 k2 k3 k4 k5 k6 k7 (.slice none 0 0) (.slice none 0 0)) ∧ Below w.heap.size w w' := by
  have c25 := h.c25
  have c22 := h.c22
  have c23 := h.c23
  have hbl := h.blk.lt
  have d25 : ∀ o1 o2 o3, (((w.alloc o1).alloc o2).alloc o3).cell? ⟨b, 25, none⟩ = some (.int .u8 M.fault) := fun o1 o2 o3 => (((h.alloc o1).alloc o2).alloc o3).c25
  have d22 : ∀ o1 o2 o3, (((w.alloc o1).alloc o2).alloc o3).cell? ⟨b, 22, none⟩ = some (.int .i64 (M.steps : Int)) := fun o1 o2 o3 => (((h.alloc o1).alloc o2).alloc o3).c22
  have d23 : ∀ o1 o2 o3, (((w.alloc o1).alloc o2).alloc o3).cell? ⟨b, 23, none⟩ = some (.int .i64 (M.draws : Int)) := fun o1 o2 o3 => (((h.alloc o1).alloc o2).alloc o3).c23
  generalize M.fault = ft at *
  generalize M.steps = st at *
  generalize M.draws = dr at *
  have hb1 : ¬ b = w.heap.size := by omega
  have hb2 : ¬ b = w.heap.size + 1 := by omega
  have hb5 : ¬ b = w.heap.size + 2 := by omega
  have hb6 : ¬ b = w.heap.size + 1 + 1 := by omega
  have hb : (ft == 0) = false := by simpa using hz
  unfold outAgg
  clear h hz
  go_enter Try.func55, Try.ntmps55
  go_wp2_with fail
  go_region
  all_goals go_wp2
  all_goals exact bodyPost_ret (v := .agg #[.int .u8 ft, .int .i64 st, .int .i64 dr, .int .u16 k0, .int .u16 k1, .int .u16 k2, .int .u16 k3, .int .u16 k4, .int .u16 k5, .int .u16 k6, .int .u16 k7, .slice none 0 0, .slice none 0 0]) (by simp [results, Try.results55, go_sem]) rfl ⟨rfl, by (repeat (first | exact Below.refl _ _ | assumption | refine Below.setCell ?_ (by first | exact Nat.le_refl _ | (simp; done) | (simp; omega)) _ | refine below_drewN ?_ _ | refine Below.drew ?_ | refine Below.alloc ?_ (by first | exact Nat.le_refl _ | (simp; done) | (simp; omega)) _))⟩

set_option maxRecDepth 100000 in
set_option maxHeartbeats 2000000 in
theorem outc_fine {w : World} {base b : Nat} {pile : List Int} {ao ad : Option Addr} {ns cs nd cd : Nat} {M : H.Mach} (h : MB w base b pile (.slice ao ns cs) (.slice ad nd cd) M) (hz : M.fault = 0) (k0 k1 k2 k3 k4 k5 k6 k7 : Int) (m0 m1 m2 m3 m4 m5 m6 m7 : Int) (hm : M.cells = [m0, m1, m2, m3, m4, m5, m6, m7]) :
    Calls Try.prog 55 #[.pointer (some ⟨b, 0, none⟩), .agg #[.int .u16 k0, .int .u16 k1, .int .u16 k2, .int .u16 k3, .int .u16 k4, .int .u16 k5, .int .u16 k6, .int .u16 k7]] w fun e w' =>
      e = .returned (outAgg 0 M.steps M.draws m0 m1 m2 m3 m4 m5 m6 m7 (.slice ao ns cs) (.slice ad nd cd)) ∧ Below w.heap.size w w' := by
  have c25 := h.c25
  have c22 := h.c22
  have c23 := h.c23
  have hbl := h.blk.lt
  have d25 : ∀ o1 o2 o3, (((w.alloc o1).alloc o2).alloc o3).cell? ⟨b, 25, none⟩ = some (.int .u8 0) := fun o1 o2 o3 => by rw [← hz]; exact (((h.alloc o1).alloc o2).alloc o3).c25
  rw [hz] at c25
  have d22 : ∀ o1 o2 o3, (((w.alloc o1).alloc o2).alloc o3).cell? ⟨b, 22, none⟩ = some (.int .i64 (M.steps : Int)) := fun o1 o2 o3 => (((h.alloc o1).alloc o2).alloc o3).c22
  have d23 : ∀ o1 o2 o3, (((w.alloc o1).alloc o2).alloc o3).cell? ⟨b, 23, none⟩ = some (.int .i64 (M.draws : Int)) := fun o1 o2 o3 => (((h.alloc o1).alloc o2).alloc o3).c23
  have d19 : ∀ o1 o2 o3, (((w.alloc o1).alloc o2).alloc o3).cell? ⟨b, 19, none⟩ = some (.slice ao ns cs) := fun o1 o2 o3 => (((h.alloc o1).alloc o2).alloc o3).c19
  have d20 : ∀ o1 o2 o3, (((w.alloc o1).alloc o2).alloc o3).cell? ⟨b, 20, none⟩ = some (.slice ad nd cd) := fun o1 o2 o3 => (((h.alloc o1).alloc o2).alloc o3).c20
  have hcc : ∀ o1 o2 o3 i m, M.cells[i]? = some m → i < 8 → (((w.alloc o1).alloc o2).alloc o3).cell? ⟨b, 9 + i, none⟩ = some (.int .u16 m) := fun o1 o2 o3 i m hi hl => by
    have := (((h.alloc o1).alloc o2).alloc o3).ccell i hl
    rw [this]; simp [List.getD, hi]
  have g0 : ∀ o1 o2 o3, (((w.alloc o1).alloc o2).alloc o3).cell? ⟨b, 9, none⟩ = some (.int .u16 m0) := fun o1 o2 o3 => hcc o1 o2 o3 0 m0 (by rw [hm]; rfl) (by decide)
  have g1 : ∀ o1 o2 o3, (((w.alloc o1).alloc o2).alloc o3).cell? ⟨b, 10, none⟩ = some (.int .u16 m1) := fun o1 o2 o3 => hcc o1 o2 o3 1 m1 (by rw [hm]; rfl) (by decide)
  have g2 : ∀ o1 o2 o3, (((w.alloc o1).alloc o2).alloc o3).cell? ⟨b, 11, none⟩ = some (.int .u16 m2) := fun o1 o2 o3 => hcc o1 o2 o3 2 m2 (by rw [hm]; rfl) (by decide)
  have g3 : ∀ o1 o2 o3, (((w.alloc o1).alloc o2).alloc o3).cell? ⟨b, 12, none⟩ = some (.int .u16 m3) := fun o1 o2 o3 => hcc o1 o2 o3 3 m3 (by rw [hm]; rfl) (by decide)
  have g4 : ∀ o1 o2 o3, (((w.alloc o1).alloc o2).alloc o3).cell? ⟨b, 13, none⟩ = some (.int .u16 m4) := fun o1 o2 o3 => hcc o1 o2 o3 4 m4 (by rw [hm]; rfl) (by decide)
  have g5 : ∀ o1 o2 o3, (((w.alloc o1).alloc o2).alloc o3).cell? ⟨b, 14, none⟩ = some (.int .u16 m5) := fun o1 o2 o3 => hcc o1 o2 o3 5 m5 (by rw [hm]; rfl) (by decide)
  have g6 : ∀ o1 o2 o3, (((w.alloc o1).alloc o2).alloc o3).cell? ⟨b, 15, none⟩ = some (.int .u16 m6) := fun o1 o2 o3 => hcc o1 o2 o3 6 m6 (by rw [hm]; rfl) (by decide)
  have g7 : ∀ o1 o2 o3, (((w.alloc o1).alloc o2).alloc o3).cell? ⟨b, 16, none⟩ = some (.int .u16 m7) := fun o1 o2 o3 => hcc o1 o2 o3 7 m7 (by rw [hm]; rfl) (by decide)
  generalize M.steps = st at *
  generalize M.draws = dr at *
  have hb1 : ¬ b = w.heap.size := by omega
  have hb2 : ¬ b = w.heap.size + 1 := by omega
  unfold outAgg
  clear h hz hm hcc
  go_enter Try.func55, Try.ntmps55
  go_wp2_with fail
  go_region
  all_goals go_wp2
  all_goals exact bodyPost_ret (v := .agg #[.int .u8 0, .int .i64 st, .int .i64 dr, .int .u16 m0, .int .u16 m1, .int .u16 m2, .int .u16 m3, .int .u16 m4, .int .u16 m5, .int .u16 m6, .int .u16 m7, .slice ao ns cs, .slice ad nd cd]) (by simp [results, Try.results55, go_sem]) rfl ⟨rfl, by (repeat (first | exact Below.refl _ _ | assumption | refine Below.setCell ?_ (by first | exact Nat.le_refl _ | (simp; done) | (simp; omega)) _ | refine below_drewN ?_ _ | refine Below.drew ?_ | refine Below.alloc ?_ (by first | exact Nat.le_refl _ | (simp; done) | (simp; omega)) _))⟩

end Go.Proofs.Ytidaflmmldefcaa
