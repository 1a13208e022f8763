/-
  The walk of with.
-/
import Derived.Test.YtcaeeaiodbjacaaUsedR
import Derived.Test.YtcaeeaiodbjacaaLentW
import Derived.Laws.AppendOwnNone
namespace Go.Proofs.Ytcaeeaiodbjacaa
open Go.RowKit
set_option linter.unusedVariables false

namespace T
/-- The list with a node put in at a place. -/
def put (l : List Nd) (k : Nat) (x : Nd) : List Nd := l.take k ++ [x] ++ l.drop k

def withOk (l : List Nd) (at_ : Int) (x : Nd) : Bool := decide (0 ≤ at_ ∧ at_ ≤ l.length) && isTree (put l at_.toNat x)
end T

/-- What with hands back. -/
def withEnd (l : List T.Nd) (at_ : Int) (x : T.Nd) (w : World) (e : Ending) (w' : World) : Prop :=
  ∃ v, e = .returned (.tuple #[v, .bool (T.withOk l at_ x)]) ∧ w'.ownsRow w.heap.size 60 3 v (if T.withOk l at_ x then T.put l at_.toNat x else []).length (ndCells (if T.withOk l at_ x then T.put l at_.toNat x else [])) ∧ Below w.heap.size w w'

theorem withEnd_bad {l : List T.Nd} {at_ : Int} {x : T.Nd} {w w' : World} (h : T.withOk l at_ x = false) (hb : Below w.heap.size w w') : withEnd l at_ x w (.returned (.tuple #[.slice none 0 0, .bool false])) w' := by
  refine ⟨.slice none 0 0, by rw [h], ?_, hb⟩
  rw [h]
  exact World.ownsRow_nil _ _ _ _

theorem withEnd_good {l : List T.Nd} {at_ : Int} {x : T.Nd} {w w' : World} {v : Value} (h : T.withOk l at_ x = true) (ho : w'.ownsRow w.heap.size 60 3 v (T.put l at_.toNat x).length (ndCells (T.put l at_.toNat x))) (hb : Below w.heap.size w w') : withEnd l at_ x w (.returned (.tuple #[v, .bool true])) w' := by
  refine ⟨v, by rw [h], ?_, hb⟩
  rw [h]
  exact ho

set_option maxRecDepth 100000 in
set_option maxHeartbeats 1000000 in
theorem with_out (ao : Option Addr) (cap : Nat) (l : List T.Nd) (at_ : Int) (x1 x2 : Int) (x3 : ByteArray) (w : World) (hl : l.length ≤ 5864062014800) (hat : ¬ (0 ≤ at_ ∧ at_ ≤ l.length)) :
    Calls Try.prog 50 #[.slice ao l.length cap, .int .i64 at_, .agg #[.int .u8 x1, .int .u16 x2, .string x3]] w fun e w' => withEnd l at_ (x1, x2, x3) w e w' := by
  have HV : Hid (T.withOk l at_ (x1, x2, x3) = false) := by unfold Hid T.withOk; simp; intro h1 h2; exact absurd ⟨h1, h2⟩ hat
  generalize hn : l.length = n at hl hat ⊢
  by_cases h0 : at_ < 0
  · go_enter Try.func50, Try.ntmps50
    go_wp2
    go_ret2
    exact withEnd_bad HV.out ((Below.refl _ _).alloc (Nat.le_refl _) _)
  · have h1 : (n : Int) < at_ := by omega
    go_enter Try.func50, Try.ntmps50
    go_wp2
    go_ret2
    exact withEnd_bad HV.out ((Below.refl _ _).alloc (Nat.le_refl _) _)

set_option maxRecDepth 100000 in
set_option maxHeartbeats 4000000 in
theorem with_in (a : Addr) (cap : Nat) (l : List T.Nd) (k : Nat) (x1 x2 : Int) (x3 : ByteArray) (w : World) (hl : l.length ≤ 64) (hc : l.length ≤ cap) (ha : NodeAt w (some a) l) (hk : ndOk l) (hx : T.inGo (x1, x2, x3)) (hx3 : x3.size ≤ maxLen) (hat : k ≤ l.length) :
    Calls Try.prog 50 #[.slice (some a) l.length cap, .int .i64 k, .agg #[.int .u8 x1, .int .u16 x2, .string x3]] w fun e w' => withEnd l k (x1, x2, x3) w e w' := by
  obtain ⟨i0, hi, hz0, hz1, hz2⟩ := info_parts info60
  obtain ⟨n, hn⟩ : ∃ n, n = l.length := ⟨_, rfl⟩
  have Hn : Hid (l.length = n) := hn.symm
  have HA : Hid (NodeAt w (some a) l) := ha
  have HK : Hid (ndOk l) := hk
  rw [← hn] at hl hc hat ⊢
  have hat1 : ¬ (k : Int) < 0 := by omega
  have hat2 : ¬ (n : Int) < (k : Int) := by omega
  have hkc : k ≤ cap := by omega
  have hkn : (k : Int) ≤ (n : Int) := by omega
  have hkc2 : (k : Int) ≤ (cap : Int) := by omega
  have HT1 : Hid ((ndCells (l.take k)).length = k * 3) := by unfold Hid; rw [ndCells_length, List.length_take, Hn.out]; congr 1; omega
  have HC1 : Hid (∀ u : World, Below w.heap.size w u → ∀ j v, (ndCells (l.take k))[j]? = some v → u.cell? (a.add j) = some v) := by
    intro u hu j v hj
    rcases HA.out with h | ⟨b, off, e, hb, hr⟩
    · subst h; simp [ndCells] at hj
    · simp only [Option.some.injEq] at e
      subst e
      exact nodeRow_cells ((hr.take k).below hu hb) j v hj
  clear hn ha hk
  go_enter Try.func50, Try.ntmps50
  go_wp2_with (at_builtin; refine wpList_append_own _ rfl (.tmp 17) (.tmp 20) 22 rfl w.heap.size 60 i0 (.agg #[.int .u8 0, .int .u16 0, .string ⟨#[]⟩]) 3 24 Try.underlying22 hi hz0 hz1 hz2 rfl (by decide) _ _ _ rfl (World.ownsRow_nil _ _ _ _) a k cap (ndCells (l.take k)) rfl HT1.out (HC1.out _ ((Below.refl _ _).alloc (Nat.le_refl _) _)) (ndCells_one _) (by unfold maxLen; omega) (by omega) (by simp) ?_)
  intro v1 w1 ho1 hg1 _
  have hx1 : Blk w1 w.heap.size #[.int .u8 x1, .int .u16 x2, .string x3] 60 := (Blk.new w _ 60).grown hg1 (by simp [Value.ownBlock])
  have c0 := hx1.cell 0
  have c1 := hx1.cell 1
  have c2 := hx1.cell 2
  simp at c0 c1 c2
  have hb1 : Below w.heap.size w w1 := ((Below.refl _ _).alloc (Nat.le_refl _) _).grown hg1 (by simp) (by intro k hk; simp [Value.ownBlock] at hk)
  have HB1 : Hid (Below w.heap.size w w1) := hb1
  have hs1 := hb1.size
  have HO1 : Hid (w1.ownsRow w.heap.size 60 3 v1 k (ndCells (l.take k))) := by unfold Hid; simpa using ho1
  clear ho1 hg1 hx1 hb1
  go_wp2_with (at_builtin; refine wpList_append_own _ rfl (.tmp 22) (.tmp 24) 22 rfl w.heap.size 60 i0 (.agg #[.int .u8 0, .int .u16 0, .string ⟨#[]⟩]) 3 24 Try.underlying22 hi hz0 hz1 hz2 rfl (by decide) _ _ _ rfl (HO1.out.alloc _) ⟨w1.heap.size, 0, none⟩ 1 1 [.int .u8 x1, .int .u16 x2, .string x3] rfl rfl (new_three _ _ _ _ _) (by intro u hu; simp at hu; rcases hu with rfl | rfl | rfl <;> rfl) (by unfold maxLen; omega) (by omega) (by simp; omega) ?_)
  intro v2 w2 ho2 hg2 _
  have hb2 : Below w.heap.size w w2 := below_app (HB1.out.alloc hs1 _) hg2 (HO1.out.alloc _) (Nat.le_refl _) (by simp; omega)
  have HB2 : Hid (Below w.heap.size w w2) := hb2
  have hs2 := hb2.size
  have HO2 : Hid (w2.ownsRow w.heap.size 60 3 v2 (k + 1) (ndCells (l.take k ++ [(x1, x2, x3)]))) := by unfold Hid; rw [ndCells_snoc]; exact ho2
  have HT2 : Hid ((ndCells (l.drop k)).length = (n - k) * 3) := by unfold Hid; rw [ndCells_length, List.length_drop, Hn.out]
  have HFin : Hid (∀ (v3 : Value) (w3 : World), w3.ownsRow w.heap.size 60 3 v3 (k + 1 + (n - k)) (ndCells (l.take k ++ [(x1, x2, x3)]) ++ ndCells (l.drop k)) → ∃ ao3 c3, v3 = .slice ao3 (n + 1) c3 ∧ (Calls Try.prog 31 #[.slice ao3 (n + 1) c3] w3 fun e w' => e = .returned (.bool (T.isTree (T.put l k (x1, x2, x3)))) ∧ Below w3.heap.size w3 w') ∧ w3.ownsRow w.heap.size 60 3 v3 (T.put l k (x1, x2, x3)).length (ndCells (T.put l k (x1, x2, x3)))) := by
    intro v3 w3 h
    have hlen : (T.put l k (x1, x2, x3)).length = n + 1 := by
      unfold T.put
      simp [List.length_take, List.length_drop, Hn.out]
      omega
    have hcell : ndCells (l.take k ++ [(x1, x2, x3)]) ++ ndCells (l.drop k) = ndCells (T.put l k (x1, x2, x3)) := by unfold T.put ndCells; simp
    rw [hcell, show k + 1 + (n - k) = n + 1 by omega, ← hlen] at h
    obtain ⟨ao3, c3, e3, h3, h4, h5⟩ := own_node h
    rw [hlen] at e3
    refine ⟨ao3, c3, e3, ?_, h⟩
    have := tree_any ao3 c3 (T.put l k (x1, x2, x3)) w3 h4 h3 h5 (by
      intro y hy
      unfold T.put at hy
      simp only [List.mem_append, List.mem_singleton] at hy
      rcases hy with (hy | hy) | hy
      · exact HK.out y (List.mem_of_mem_take hy)
      · subst hy; exact ⟨hx, hx3⟩
      · exact HK.out y (List.mem_of_mem_drop hy))
    rw [hlen] at this
    exact this
  clear ho2 hg2 hb2 HO1 HB1 c0 c1 c2 HT1 HC1 hx hx3
  by_cases hck : cap = k
  · have hnk : n - k = 0 := by omega
    have hckI : (cap : Int) = (k : Int) := by omega
    have HN : Hid (ndCells (l.drop k) = []) := List.eq_nil_of_length_eq_zero (by rw [HT2.out, hnk])
    obtain rfl : n = k := by omega
    subst hck
    have HE3 : Hid ((0 : Nat) = ([] : List Value).length) := rfl
    go_wp2_with (at_builtin; refine wpList_append_own _ rfl (.tmp 26) (.tmp 29) 22 rfl w.heap.size 60 i0 (.agg #[.int .u8 0, .int .u16 0, .string ⟨#[]⟩]) 3 24 Try.underlying22 hi hz0 hz1 hz2 rfl (by decide) _ _ _ rfl HO2.out a 0 0 [] rfl rfl (by intro j v hj; simp at hj) (by intro v hv; simp at hv) (by unfold maxLen; omega) (by omega) hs2 ?_)
    intro v3 w3 ho3 hg3 _
    have hb3 : Below w.heap.size w w3 := below_app HB2.out hg3 HO2.out (Nat.le_refl _) hs2
    have HB3 : Hid (Below w.heap.size w w3) := hb3
    obtain ⟨ao3, c3, hv3, hcall, hown⟩ := HFin.out v3 w3 (by rw [HN.out, List.append_nil, show cap + 1 + (cap - cap) = cap + 1 by omega]; exact ho3)
    subst hv3
    have HCall : Hid (Calls Try.prog 31 #[.slice ao3 (cap + 1) c3] w3 fun e w' => e = .returned (.bool (T.isTree (T.put l cap (x1, x2, x3)))) ∧ Below w3.heap.size w3 w') := hcall
    have HOwn : Hid (w3.ownsRow w.heap.size 60 3 (.slice ao3 (cap + 1) c3) (T.put l cap (x1, x2, x3)).length (ndCells (T.put l cap (x1, x2, x3)))) := hown
    clear ho3 hg3 hb3 hcall hown HO2 HB2 HFin HT2 HN HE3
    cases hit : T.isTree (T.put l cap (x1, x2, x3)) with
    | false =>
      have HV : Hid (T.withOk l cap (x1, x2, x3) = false) := by unfold Hid T.withOk; rw [show ((cap : Int)).toNat = cap by omega, hit]; simp
      rw [hit] at HCall
      clear hit
      go_wp2_with fail
      refine HCall.out.mono ?_
      rintro e w4 ⟨rfl, hb4⟩
      have HB4 : Hid (Below w.heap.size w w4) := HB3.out.trans (hb4.mono HB3.out.size)
      clear hb4 HCall
      go_wp2
      go_ret2
      exact withEnd_bad HV.out HB4.out
    | true =>
      have HV : Hid (T.withOk l cap (x1, x2, x3) = true) := by unfold Hid T.withOk; rw [show ((cap : Int)).toNat = cap by omega, hit, Hn.out]; simp
      rw [hit] at HCall
      clear hit
      go_wp2_with fail
      refine HCall.out.mono ?_
      rintro e w4 ⟨rfl, hb4⟩
      have HB4 : Hid (Below w.heap.size w w4) := HB3.out.trans (hb4.mono HB3.out.size)
      have HO4 : Hid (w4.ownsRow w.heap.size 60 3 (.slice ao3 (cap + 1) c3) (T.put l cap (x1, x2, x3)).length (ndCells (T.put l cap (x1, x2, x3)))) := own_below' HOwn.out hb4 (Nat.le_refl _)
      clear hb4 HCall HOwn
      go_wp2
      go_ret2
      exact withEnd_good HV.out (by rw [show ((cap : Int)).toNat = cap by omega]; exact HO4.out) HB4.out
  · obtain ⟨p, hp⟩ : ∃ p : Addr, p = a.add (k * 3) := ⟨_, rfl⟩
    have HC3 : Hid (∀ u : World, Below w.heap.size w u → ∀ j v, (ndCells (l.drop k))[j]? = some v → u.cell? ((a.add (k * 3)).add j) = some v) := by
      intro u hu j v hj
      rcases HA.out with h | ⟨b, off, e, hb, hr⟩
      · subst h; simp [ndCells] at hj
      · simp only [Option.some.injEq] at e
        subst e
        have hj2 : (ndCells l)[k * 3 + j]? = some v := by
          have e4 : ndCells (l.take k ++ l.drop k) = ndCells (l.take k) ++ ndCells (l.drop k) := by simp only [ndCells, List.flatMap_append]
          rw [List.take_append_drop] at e4
          have e5 : (ndCells (l.take k)).length = k * 3 := by rw [ndCells_length, List.length_take, Hn.out]; congr 1; omega
          rw [e4, List.getElem?_append_right (by omega), e5]
          simpa using hj
        have h6 := nodeRow_cells (hr.below hu hb) _ v hj2
        rw [Addr.add_lit] at h6
        rw [Addr.add_lit, Addr.add_lit, Nat.add_assoc]
        exact h6
    have hckI : ¬ (cap : Int) = (k : Int) := by omega
    clear hp
    go_wp2_with (at_builtin; refine wpList_append_own _ rfl (.tmp 26) (.tmp 29) 22 rfl w.heap.size 60 i0 (.agg #[.int .u8 0, .int .u16 0, .string ⟨#[]⟩]) 3 24 Try.underlying22 hi hz0 hz1 hz2 rfl (by decide) _ _ _ rfl HO2.out (a.add (k * 3)) (n - k) (cap - k) (ndCells (l.drop k)) rfl HT2.out (HC3.out _ HB2.out) (ndCells_one _) (by unfold maxLen; omega) (by omega) hs2 ?_)
    intro v3 w3 ho3 hg3 _
    have hb3 : Below w.heap.size w w3 := below_app HB2.out hg3 HO2.out (Nat.le_refl _) hs2
    have HB3 : Hid (Below w.heap.size w w3) := hb3
    obtain ⟨ao3, c3, hv3, hcall, hown⟩ := HFin.out v3 w3 ho3
    subst hv3
    have HCall : Hid (Calls Try.prog 31 #[.slice ao3 (n + 1) c3] w3 fun e w' => e = .returned (.bool (T.isTree (T.put l k (x1, x2, x3)))) ∧ Below w3.heap.size w3 w') := hcall
    have HOwn : Hid (w3.ownsRow w.heap.size 60 3 (.slice ao3 (n + 1) c3) (T.put l k (x1, x2, x3)).length (ndCells (T.put l k (x1, x2, x3)))) := hown
    clear ho3 hg3 hb3 hcall hown HO2 HB2 HFin HC3 HT2
    cases hit : T.isTree (T.put l k (x1, x2, x3)) with
    | false =>
      have HV : Hid (T.withOk l k (x1, x2, x3) = false) := by unfold Hid T.withOk; rw [show ((k : Int)).toNat = k by omega, hit]; simp
      rw [hit] at HCall
      clear hit
      go_wp2_with fail
      refine HCall.out.mono ?_
      rintro e w4 ⟨rfl, hb4⟩
      have HB4 : Hid (Below w.heap.size w w4) := HB3.out.trans (hb4.mono HB3.out.size)
      clear hb4 HCall
      go_wp2
      go_ret2
      exact withEnd_bad HV.out HB4.out
    | true =>
      have HV : Hid (T.withOk l k (x1, x2, x3) = true) := by unfold Hid T.withOk; rw [show ((k : Int)).toNat = k by omega, hit, Hn.out]; simp; omega
      rw [hit] at HCall
      clear hit
      go_wp2_with fail
      refine HCall.out.mono ?_
      rintro e w4 ⟨rfl, hb4⟩
      have HB4 : Hid (Below w.heap.size w w4) := HB3.out.trans (hb4.mono HB3.out.size)
      have HO4 : Hid (w4.ownsRow w.heap.size 60 3 (.slice ao3 (n + 1) c3) (T.put l k (x1, x2, x3)).length (ndCells (T.put l k (x1, x2, x3)))) := own_below' HOwn.out hb4 (Nat.le_refl _)
      clear hb4 HCall HOwn
      go_wp2
      go_ret2
      exact withEnd_good HV.out (by rw [show ((k : Int)).toNat = k by omega]; exact HO4.out) HB4.out

end Go.Proofs.Ytcaeeaiodbjacaa
