/-
  The walks of the small functions of package vm: width, standsAlone.
-/
import Derived.Test.YtfggaacijcggeaaProg
import Derived.Test.YtfggaacijcggeaaJCode
import Derived.WalkKit
import Derived.WalkSpells
import Derived.WalkLawsBesides
namespace Go.Proofs.Ytfggaacijcggeaa
open Go.RowKit

set_option maxHeartbeats 400000 in
theorem width_any (op : Int) (w : World) :
    Calls Try.prog 24 #[.int .u8 op] w fun e w' => e = .returned (.int .i64 (H.wid op)) ∧ w = w' := by
  by_cases h1 : op = 1
  · subst h1
    go_enter Try.func24, Try.ntmps24
    go_wp2
    go_ret
    exact ⟨rfl, rfl⟩
  by_cases h2 : op = 2
  · subst h2
    go_enter Try.func24, Try.ntmps24
    go_wp2
    go_ret
    exact ⟨rfl, rfl⟩
  by_cases h3 : op = 3
  · subst h3
    go_enter Try.func24, Try.ntmps24
    go_wp2
    go_ret
    exact ⟨rfl, rfl⟩
  by_cases h16 : op = 16
  · subst h16
    go_enter Try.func24, Try.ntmps24
    go_wp2
    go_ret
    exact ⟨rfl, rfl⟩
  by_cases h17 : op = 17
  · subst h17
    go_enter Try.func24, Try.ntmps24
    go_wp2
    go_ret
    exact ⟨rfl, rfl⟩
  by_cases h25 : op = 25
  · subst h25
    go_enter Try.func24, Try.ntmps24
    go_wp2
    go_ret
    exact ⟨rfl, rfl⟩
  have e : H.wid op = 0 := by simp [H.wid, h1, h2, h3, h16, h17, h25]
  rw [e]
  have b1 : (op == 1) = false := by simpa using h1
  have b2 : (op == 2) = false := by simpa using h2
  have b3 : (op == 3) = false := by simpa using h3
  have b16 : (op == 16) = false := by simpa using h16
  have b17 : (op == 17) = false := by simpa using h17
  have b25 : (op == 25) = false := by simpa using h25
  clear e h1 h2 h3 h16 h17 h25
  go_enter Try.func24, Try.ntmps24
  go_wp2
  go_ret
  exact ⟨rfl, rfl⟩

end Go.Proofs.Ytfggaacijcggeaa
