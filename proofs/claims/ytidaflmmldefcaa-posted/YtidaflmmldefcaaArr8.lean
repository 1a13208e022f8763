/-
  Eight numbers are held against themselves.
-/
import Derived.Test.YtidaflmmldefcaaJMach
import Derived.ChangeKeysEq
namespace Go.Proofs.Ytidaflmmldefcaa
open Go.RowKit
set_option linter.unusedVariables false

theorem part33 (k0 k1 k2 k3 k4 k5 k6 k7 : Int) (w : World) (i : Nat) (k : Int) (h : [k0, k1, k2, k3, k4, k5, k6, k7][i]? = some k) : (part 46 #[.int .u16 k0, .int .u16 k1, .int .u16 k2, .int .u16 k3, .int .u16 k4, .int .u16 k5, .int .u16 k6, .int .u16 k7] (i * Try.prog.cellsOf 46)).run Try.prog w = .ok (.int .u16 k) w := by
  have hi : i < 8 := by have := (List.getElem?_eq_some_iff.1 h).1; simpa using this
  have p0 : (part 46 #[.int .u16 k0, .int .u16 k1, .int .u16 k2, .int .u16 k3, .int .u16 k4, .int .u16 k5, .int .u16 k6, .int .u16 k7] (0 * Try.prog.cellsOf 46)).run Try.prog w = .ok (.int .u16 k0) w := by kernel_rfl
  have p1 : (part 46 #[.int .u16 k0, .int .u16 k1, .int .u16 k2, .int .u16 k3, .int .u16 k4, .int .u16 k5, .int .u16 k6, .int .u16 k7] (1 * Try.prog.cellsOf 46)).run Try.prog w = .ok (.int .u16 k1) w := by kernel_rfl
  have p2 : (part 46 #[.int .u16 k0, .int .u16 k1, .int .u16 k2, .int .u16 k3, .int .u16 k4, .int .u16 k5, .int .u16 k6, .int .u16 k7] (2 * Try.prog.cellsOf 46)).run Try.prog w = .ok (.int .u16 k2) w := by kernel_rfl
  have p3 : (part 46 #[.int .u16 k0, .int .u16 k1, .int .u16 k2, .int .u16 k3, .int .u16 k4, .int .u16 k5, .int .u16 k6, .int .u16 k7] (3 * Try.prog.cellsOf 46)).run Try.prog w = .ok (.int .u16 k3) w := by kernel_rfl
  have p4 : (part 46 #[.int .u16 k0, .int .u16 k1, .int .u16 k2, .int .u16 k3, .int .u16 k4, .int .u16 k5, .int .u16 k6, .int .u16 k7] (4 * Try.prog.cellsOf 46)).run Try.prog w = .ok (.int .u16 k4) w := by kernel_rfl
  have p5 : (part 46 #[.int .u16 k0, .int .u16 k1, .int .u16 k2, .int .u16 k3, .int .u16 k4, .int .u16 k5, .int .u16 k6, .int .u16 k7] (5 * Try.prog.cellsOf 46)).run Try.prog w = .ok (.int .u16 k5) w := by kernel_rfl
  have p6 : (part 46 #[.int .u16 k0, .int .u16 k1, .int .u16 k2, .int .u16 k3, .int .u16 k4, .int .u16 k5, .int .u16 k6, .int .u16 k7] (6 * Try.prog.cellsOf 46)).run Try.prog w = .ok (.int .u16 k6) w := by kernel_rfl
  have p7 : (part 46 #[.int .u16 k0, .int .u16 k1, .int .u16 k2, .int .u16 k3, .int .u16 k4, .int .u16 k5, .int .u16 k6, .int .u16 k7] (7 * Try.prog.cellsOf 46)).run Try.prog w = .ok (.int .u16 k7) w := by kernel_rfl
  rcases (show i = 0 ∨ i = 1 ∨ i = 2 ∨ i = 3 ∨ i = 4 ∨ i = 5 ∨ i = 6 ∨ i = 7 by omega) with rfl | rfl | rfl | rfl | rfl | rfl | rfl | rfl
  · obtain rfl : k0 = k := by simpa using h
    exact p0
  · obtain rfl : k1 = k := by simpa using h
    exact p1
  · obtain rfl : k2 = k := by simpa using h
    exact p2
  · obtain rfl : k3 = k := by simpa using h
    exact p3
  · obtain rfl : k4 = k := by simpa using h
    exact p4
  · obtain rfl : k5 = k := by simpa using h
    exact p5
  · obtain rfl : k6 = k := by simpa using h
    exact p6
  · obtain rfl : k7 = k := by simpa using h
    exact p7

theorem items33 (k0 k1 k2 k3 k4 k5 k6 k7 : Int) (w : World) (d : Nat) : ∀ is : List Nat, (∀ i ∈ is, i < 8) → (Op.eqItems (d + 1) 46 (Try.prog.cellsOf 46) #[.int .u16 k0, .int .u16 k1, .int .u16 k2, .int .u16 k3, .int .u16 k4, .int .u16 k5, .int .u16 k6, .int .u16 k7] #[.int .u16 k0, .int .u16 k1, .int .u16 k2, .int .u16 k3, .int .u16 k4, .int .u16 k5, .int .u16 k6, .int .u16 k7] is).run Try.prog w = .ok true w
  | [], _ => by simp [Op.eqItems]
  | i :: is, h => by
    have hi := h i (by simp)
    obtain ⟨k, hk⟩ : ∃ k, [k0, k1, k2, k3, k4, k5, k6, k7][i]? = some k := ⟨_, List.getElem?_eq_getElem (by simpa using hi)⟩
    have ih := items33 k0 k1 k2 k3 k4 k5 k6 k7 w d is (fun j hj => h j (by simp [hj]))
    simp only [Op.eqItems, Sem.run_bind, part33 k0 k1 k2 k3 k4 k5 k6 k7 w i k hk, Result.andThen_ok, run_equalIn_int w d 46 .u16 .u16 k k Try.underlying46]
    simpa using ih

theorem arr8_eq (k0 k1 k2 k3 k4 k5 k6 k7 : Int) (w : World) : (Op.equalIn 10000 47 (.agg #[.int .u16 k0, .int .u16 k1, .int .u16 k2, .int .u16 k3, .int .u16 k4, .int .u16 k5, .int .u16 k6, .int .u16 k7]) (.agg #[.int .u16 k0, .int .u16 k1, .int .u16 k2, .int .u16 k3, .int .u16 k4, .int .u16 k5, .int .u16 k6, .int .u16 k7])).run Try.prog w = .ok true w := by
  obtain ⟨i, hi⟩ : ∃ i, Try.prog.info? 46 = some i := Option.isSome_iff_exists.1 (by kernel_rfl)
  rw [run_equalIn_array w 9999 _ _ Try.underlying47 hi]
  exact items33 k0 k1 k2 k3 k4 k5 k6 k7 w 9998 _ (fun i hi => by simpa using hi)

end Go.Proofs.Ytidaflmmldefcaa
