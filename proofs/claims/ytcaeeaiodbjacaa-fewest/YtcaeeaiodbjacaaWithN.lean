/-
  The walk of with, of any list.
-/
import Derived.Test.YtcaeeaiodbjacaaWithW
namespace Go.Proofs.Ytcaeeaiodbjacaa
open Go.RowKit
set_option linter.unusedVariables false

set_option maxRecDepth 100000 in
set_option maxHeartbeats 4000000 in
theorem with_nil (x1 x2 : Int) (x3 : ByteArray) (w : World) (hx : T.inGo (x1, x2, x3)) (hx3 : x3.size ≤ maxLen) :
    Calls Try.prog 50 #[.slice none 0 0, .int .i64 0, .agg #[.int .u8 x1, .int .u16 x2, .string x3]] w fun e w' => withEnd [] 0 (x1, x2, x3) w e w' := by
  obtain ⟨i0, hi, hz0, hz1, hz2⟩ := info_parts info60
  have hx' : T.inGo (x1, x2, x3) ∧ x3.size ≤ maxLen := ⟨hx, hx3⟩
  have HX : Hid (T.inGo (x1, x2, x3) ∧ x3.size ≤ maxLen) := hx'
  clear hx hx3 hx'
  go_enter Try.func50, Try.ntmps50
  go_wp2_with (at_builtin; refine wpList_append_own _ rfl (.tmp 22) (.tmp 24) 22 rfl w.heap.size 60 i0 (.agg #[.int .u8 0, .int .u16 0, .string ⟨#[]⟩]) 3 24 Try.underlying22 hi hz0 hz1 hz2 rfl (by decide) _ _ _ rfl (World.ownsRow_nil _ _ _ _) ⟨w.heap.size + 1, 0, none⟩ 1 1 [.int .u8 x1, .int .u16 x2, .string x3] rfl rfl (new_three1 _ _ _ _ _ _) (by intro u hu; simp at hu; rcases hu with rfl | rfl | rfl <;> rfl) (by unfold maxLen; omega) (by omega) (by simp; omega) ?_)
  intro v2 w2 ho2 hg2 _
  have hb2 : Below w.heap.size w w2 := (((Below.refl _ _).alloc (Nat.le_refl _) _).alloc (by simp; try omega) _).grown hg2 (by simp; omega) (by intro k hk; simp [Value.ownBlock] at hk)
  have ho2' : w2.ownsRow w.heap.size 60 3 v2 (T.put [] 0 (x1, x2, x3)).length (ndCells (T.put [] 0 (x1, x2, x3))) := by simpa [T.put, ndCells] using ho2
  obtain ⟨ao3, c3, hv3, h3, h4, h5⟩ := own_node ho2'
  have hcall := tree_any ao3 c3 (T.put [] 0 (x1, x2, x3)) w2 h4 h3 h5 (by intro y hy; simp [T.put] at hy; subst hy; exact HX.out)
  have hlen : (T.put [] 0 (x1, x2, x3)).length = 1 := rfl
  rw [hlen] at hv3 hcall
  subst hv3
  have HB2 : Hid (Below w.heap.size w w2) := hb2
  have HO2 : Hid (w2.ownsRow w.heap.size 60 3 (.slice ao3 1 c3) (T.put [] 0 (x1, x2, x3)).length (ndCells (T.put [] 0 (x1, x2, x3)))) := ho2'
  have HCall : Hid (Calls Try.prog 31 #[.slice ao3 1 c3] w2 fun e w' => e = .returned (.bool (T.isTree (T.put [] 0 (x1, x2, x3)))) ∧ Below w2.heap.size w2 w') := hcall
  have HO2' : Hid (w2.ownsRow w.heap.size 60 3 (.slice ao3 1 c3) 1 (ndCells (T.put [] 0 (x1, x2, x3)))) := ho2'
  clear ho2 hg2 hb2 ho2' h3 h4 h5 hcall hlen
  cases hit : T.isTree (T.put [] 0 (x1, x2, x3)) with
  | false =>
    have HV : Hid (T.withOk [] 0 (x1, x2, x3) = false) := by unfold Hid T.withOk; rw [show ((0 : Int)).toNat = 0 from rfl, hit]; simp
    rw [hit] at HCall
    clear hit
    go_wp2_with (at_builtin; refine wpList_append_own_none rfl (.tmp 26) (.tmp 29) 22 rfl w.heap.size 60 i0 3 Try.underlying22 hi _ _ _ rfl HO2'.out rfl ?_)
    go_wp2_with fail
    refine HCall.out.mono ?_
    rintro e w4 ⟨rfl, hb4⟩
    have HB4 : Hid (Below w.heap.size w w4) := HB2.out.trans (hb4.mono HB2.out.size)
    clear hb4 HCall
    go_wp2
    go_ret2
    exact withEnd_bad HV.out HB4.out
  | true =>
    have HV : Hid (T.withOk [] 0 (x1, x2, x3) = true) := by unfold Hid T.withOk; rw [show ((0 : Int)).toNat = 0 from rfl, hit]; simp
    rw [hit] at HCall
    clear hit
    go_wp2_with (at_builtin; refine wpList_append_own_none rfl (.tmp 26) (.tmp 29) 22 rfl w.heap.size 60 i0 3 Try.underlying22 hi _ _ _ rfl HO2'.out rfl ?_)
    go_wp2_with fail
    refine HCall.out.mono ?_
    rintro e w4 ⟨rfl, hb4⟩
    have HB4 : Hid (Below w.heap.size w w4) := HB2.out.trans (hb4.mono HB2.out.size)
    have HO4 : Hid (w4.ownsRow w.heap.size 60 3 (.slice ao3 1 c3) (T.put [] 0 (x1, x2, x3)).length (ndCells (T.put [] 0 (x1, x2, x3)))) := own_below' HO2.out hb4 (Nat.le_refl _)
    clear hb4 HCall HO2 HO2'
    go_wp2
    go_ret2
    exact withEnd_good HV.out HO4.out HB4.out

theorem with_any (ao : Option Addr) (cap : Nat) (l : List T.Nd) (at_ : Int) (x1 x2 : Int) (x3 : ByteArray) (w : World) (hl : l.length ≤ 64) (hc : l.length ≤ cap) (hnone : ao = none → l = [] ∧ cap = 0) (ha : NodeAt w ao l) (hk : ndOk l) (hx : T.inGo (x1, x2, x3)) (hx3 : x3.size ≤ maxLen) :
    Calls Try.prog 50 #[.slice ao l.length cap, .int .i64 at_, .agg #[.int .u8 x1, .int .u16 x2, .string x3]] w fun e w' => withEnd l at_ (x1, x2, x3) w e w' := by
  by_cases hat : 0 ≤ at_ ∧ at_ ≤ l.length
  · obtain ⟨k, rfl⟩ : ∃ k : Nat, at_ = k := ⟨at_.toNat, by omega⟩
    cases ao with
    | none =>
      obtain ⟨rfl, rfl⟩ := hnone rfl
      obtain rfl : k = 0 := by simp at hat; omega
      exact with_nil x1 x2 x3 w hx hx3
    | some a => exact with_in a cap l k x1 x2 x3 w hl hc ha hk hx hx3 (by omega)
  · exact with_out ao cap l at_ x1 x2 x3 w (by omega) hat

end Go.Proofs.Ytcaeeaiodbjacaa
