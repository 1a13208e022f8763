/-
  Run, of any bytes and any input.
-/
import Derived.Test.YtidaflmmldefcaaRunY
import Derived.Test.YtidaflmmldefcaaRunZ
namespace Go.Proofs.Ytidaflmmldefcaa
open Go.RowKit
set_option linter.unusedVariables false

theorem runW_any (code : ByteArray) (v : InV) (ds : List Int) (w : World) (hc : code.size ≤ maxLen) (hv : v.ok) (hd : Drawn w v ds w.heap.size) :
    Calls Try.prog 48 #[.string code, .agg v.arr] w fun e w' => runEnd (H.run (H.bts code) v.cells (v.inp ds)) w.heap.size w e w' := by
  rcases H.decode_cases (H.bts code) (H.at0_bts_range code) with ⟨p, hp, h⟩ | ⟨l, h, hl1, hl64, hlok, hle⟩
  · exact runW_bad code v ds w hc hv hd p h
  · by_cases hf : v.fuel < 0 ∨ 1000 < v.fuel
    · exact runW_fuel code v ds w hc hv hd l h hl1 hl64 hlok hf
    · exact runW_main code v ds w hc hv hd l h hl1 hl64 hlok (by omega) (by omega)

end Go.Proofs.Ytidaflmmldefcaa
