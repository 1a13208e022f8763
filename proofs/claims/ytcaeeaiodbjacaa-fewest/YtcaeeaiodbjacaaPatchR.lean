/-
  The document's own answer: the walk of patch.
-/
import Derived.Test.YtcaeeaiodbjacaaPatchM
import Derived.Test.YtcaeeaiodbjacaaIsTreeR
import Derived.Test.YtcaeeaiodbjacaaBookP
import Derived.BigQuiet
namespace Go.Proofs.Ytcaeeaiodbjacaa
open Go.RowKit
set_option linter.unusedVariables false

/-- What the document's patch hands back: beside false the list is any. -/
def refEnd (o : Option (List T.Nd)) (base : Nat) (w : World) (e : Ending) (w' : World) : Prop :=
  ∃ v, e = .returned (.tuple #[v, .bool o.isSome]) ∧ (∀ r, o = some r → w'.ownsRow base 60 3 v r.length (ndCells r)) ∧ Below base w w'

theorem refEnd_none {o : Option (List T.Nd)} {base : Nat} {w w' : World} {v : Value} (h : o = none) (hb : Below base w w') : refEnd o base w (.returned (.tuple #[v, .bool false])) w' := by
  subst h
  exact ⟨_, rfl, (by intro r h; cases h), hb⟩

theorem refEnd_some {o : Option (List T.Nd)} {r : List T.Nd} {base : Nat} {w w' : World} {v : Value} (h : o = some r) (ho : w'.ownsRow base 60 3 v r.length (ndCells r)) (hb : Below base w w') : refEnd o base w (.returned (.tuple #[v, .bool true])) w' := by
  subst h
  exact ⟨_, rfl, (by intro r h; cases h; exact ho), hb⟩

theorem refEnd_tree {l : List T.Nd} {k : Nat} {x : T.Nd} {base : Nat} {w w' : World} {v : Value} {o : Option (List T.Nd)} (h : o = T.withO l k x) (hk : k ≤ l.length) (ho : w'.ownsRow base 60 3 v (T.put l k x).length (ndCells (T.put l k x))) (hb : Below base w w') : refEnd o base w (.returned (.tuple #[v, .bool (T.isTree (T.put l k x))])) w' := by
  have e : o = if T.isTree (T.put l k x) then some (T.put l k x) else none := by
    rw [h]
    unfold T.withO T.withOk
    rw [show ((k : Int)).toNat = k by omega]
    have : decide ((0 : Int) ≤ (k : Int) ∧ (k : Int) ≤ (l.length : Int)) = true := by simp; omega
    rw [this]
    simp
  cases hit : T.isTree (T.put l k x) with
  | false =>
    rw [hit] at e
    exact refEnd_none (by simpa using e) hb
  | true =>
    rw [hit] at e
    exact refEnd_some (by simpa using e) ho hb

set_option maxRecDepth 100000 in
set_option maxHeartbeats 1000000 in
/-- A patch that cannot be done, by its Kind and Id. -/
theorem refPatch_out (ao : Option Addr) (cap : Nat) (l : List T.Nd) (kind id at_ key : Int) (text : ByteArray) (w : World) (hl : l.length ≤ 64) (ha : NodeAt w ao l) (hk : ndOk l) (hid : 0 ≤ id ∧ id ≤ 255)
    (hbad : kind < 1 ∨ 4 < kind ∨ (T.has l id = decide (kind = 2))) :
    Calls Try.prog 39 #[.slice ao l.length cap, .agg #[.int .u8 kind, .int .u8 id, .int .i64 at_, .int .u16 key, .string text]] w fun e w' => refEnd (T.patchO l kind id at_ key text) w.heap.size w e w' := by
  have HO : Hid (T.patchO l kind id at_ key text = none) := T.refPatch_bad hbad
  have HU : Hid (∀ u : World, Below w.heap.size w u → Calls Try.prog 33 #[.slice ao l.length cap, .int .i64 id] u fun e w' => e = .returned (.bool (T.has l id)) ∧ u = w') := fun u hu => used_any ao cap l id u (by unfold maxLen; omega) (ha.below hu (Nat.le_refl _) hu.size) hk
  have hw : wrap64 id = id := by unfold wrap64; omega
  generalize T.has l id = hb at HU hbad
  generalize l.length = n at HU hl ⊢
  clear ha hk
  by_cases h1 : kind < 1
  · go_enter Try.func39, Try.ntmps39
    go_wp2_with fail
    refine (HU.out _ ((Below.refl _ _).alloc (Nat.le_refl _) _)).mono ?_
    rintro e w1 ⟨rfl, rfl⟩
    go_wp2
    go_ret2
    exact refEnd_none HO.out ((Below.refl _ _).alloc (Nat.le_refl _) _)
  · by_cases h4 : 4 < kind
    · go_enter Try.func39, Try.ntmps39
      go_wp2_with fail
      refine (HU.out _ ((Below.refl _ _).alloc (Nat.le_refl _) _)).mono ?_
      rintro e w1 ⟨rfl, rfl⟩
      go_wp2
      go_ret2
      exact refEnd_none HO.out ((Below.refl _ _).alloc (Nat.le_refl _) _)
    · have hb2 : hb = decide (kind = 2) := by
        rcases hbad with h | h | h
        · omega
        · omega
        · exact h
      clear hbad
      by_cases h2 : kind = 2
      · subst h2
        subst hb2
        go_enter Try.func39, Try.ntmps39
        go_wp2_with fail
        refine (HU.out _ ((Below.refl _ _).alloc (Nat.le_refl _) _)).mono ?_
        rintro e w1 ⟨rfl, rfl⟩
        go_wp2
        go_ret2
        exact refEnd_none HO.out ((Below.refl _ _).alloc (Nat.le_refl _) _)
      · have hb3 : hb = false := by rw [hb2]; simp [h2]
        have hk2 : (kind == 2) = false := by rw [beq_eq_false_iff_ne]; exact h2
        subst hb3
        clear hb2 h2
        go_enter Try.func39, Try.ntmps39
        go_wp2_with fail
        refine (HU.out _ ((Below.refl _ _).alloc (Nat.le_refl _) _)).mono ?_
        rintro e w1 ⟨rfl, rfl⟩
        go_wp2
        go_ret2
        exact refEnd_none HO.out ((Below.refl _ _).alloc (Nat.le_refl _) _)

end Go.Proofs.Ytcaeeaiodbjacaa
