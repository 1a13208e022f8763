/-
  The document's own answer: an outcome in memory, its cells copied out.
-/
import Derived.Test.YtfggaacijcggeaaSpotK
import Derived.Test.YtfggaacijcggeaaRunX
namespace Go.Proofs.Ytfggaacijcggeaa
open Go.RowKit
set_option linter.unusedVariables false

theorem SB.side {w : World} {base b : Nat} {pv sv dv : Value} {M : H.Mach} (h : SB w base b pv sv dv M) {q : Nat} {cs : Array Value} (hq : Blk w q cs 43) (i : Nat) (u : Value) : SB (w.setCell ⟨q, i, none⟩ u) base b pv sv dv M := by
  refine ⟨h.hb, h.hc, h.hst, h.blk.other ⟨q, i, none⟩ u ?_, h.pile.other (p := ⟨q, i, none⟩) hq (by decide) u, ownsRow_setCell_other h.shows (fun e' => hq.ne_own h.shows (by decide) e'.symm) u, ownsRow_setCell_other h.sends (fun e' => hq.ne_own h.sends (by decide) e'.symm) u⟩
  intro e
  have hb := h.blk
  rw [show b = q from e] at hb
  unfold Blk at hb hq
  rw [hb] at hq
  simp at hq

/-- An outcome without a fault, in cells. -/
def outRow (sp dr : Nat) (cs : List Int) (sv dv : Value) : Array Value :=
  #[.int .u8 0, .int .i64 (sp : Int), .int .i64 (dr : Int), .int .u16 (cs.getD 0 0), .int .u16 (cs.getD 1 0), .int .u16 (cs.getD 2 0), .int .u16 (cs.getD 3 0), .int .u16 (cs.getD 4 0), .int .u16 (cs.getD 5 0), .int .u16 (cs.getD 6 0), .int .u16 (cs.getD 7 0), sv, dv]

theorem outRow_copy (sp dr : Nat) {now first : List Int} (h : now.length = 8) (h2 : first.length = 8) (sv dv : Value) {k : Nat} (hk : k < 8) : (outRow sp dr (H.cellsOut now first k) sv dv).setIfInBounds (3 + k) (.int .u16 (now.getD k 0)) = outRow sp dr (H.cellsOut now first (k + 1)) sv dv := by
  obtain ⟨a, b, c, d, e, f, g, j, rfl⟩ := eight h
  obtain ⟨a', b', c', d', e', f', g', j', rfl⟩ := eight h2
  rcases (show k = 0 ∨ k = 1 ∨ k = 2 ∨ k = 3 ∨ k = 4 ∨ k = 5 ∨ k = 6 ∨ k = 7 by omega) with rfl | rfl | rfl | rfl | rfl | rfl | rfl | rfl <;> rfl
theorem outRow_at (sp dr : Nat) (cs : List Int) (sv dv : Value) {k : Nat} (hk : k < 8) : (outRow sp dr cs sv dv)[3 + k]? = some (.int .u16 (cs.getD k 0)) := by
  rcases (show k = 0 ∨ k = 1 ∨ k = 2 ∨ k = 3 ∨ k = 4 ∨ k = 5 ∨ k = 6 ∨ k = 7 by omega) with rfl | rfl | rfl | rfl | rfl | rfl | rfl | rfl <;> rfl
end Go.Proofs.Ytfggaacijcggeaa
