/-
  The walk of patched.
-/
import Derived.Test.YtcaeeaiodbjacaaWithN
namespace Go.Proofs.Ytcaeeaiodbjacaa
open Go.RowKit
set_option linter.unusedVariables false

namespace T
def withO (l : List Nd) (at_ : Int) (x : Nd) : Option (List Nd) := if withOk l at_ x then some (put l at_.toNat x) else none

/-- What a patch makes of a list; none: it cannot be done. -/
def patchO (l : List Nd) (kind id at_ key : Int) (text : ByteArray) : Option (List Nd) :=
  if kind = 2 then withO l at_ (id, key, text)
  else if place l id < 0 then none
  else if kind = 1 then some (l.eraseIdx (place l id).toNat)
  else if kind = 3 then withO (l.eraseIdx (place l id).toNat) at_ (l.getD (place l id).toNat (0, 0, ⟨#[]⟩))
  else if kind = 4 then withO (l.eraseIdx (place l id).toNat) (place l id) ((l.getD (place l id).toNat (0, 0, ⟨#[]⟩)).1, (l.getD (place l id).toNat (0, 0, ⟨#[]⟩)).2.1, text)
  else none
end T

def optEnd (o : Option (List T.Nd)) (base : Nat) (w : World) (e : Ending) (w' : World) : Prop :=
  ∃ v, e = .returned (.tuple #[v, .bool o.isSome]) ∧ w'.ownsRow base 60 3 v (o.getD []).length (ndCells (o.getD [])) ∧ Below base w w'

theorem optEnd_none {o : Option (List T.Nd)} {base : Nat} {w w' : World} (h : o = none) (hb : Below base w w') : optEnd o base w (.returned (.tuple #[.slice none 0 0, .bool false])) w' := by
  subst h
  exact ⟨_, rfl, World.ownsRow_nil _ _ _ _, hb⟩

theorem withO_any (ao : Option Addr) (cap : Nat) (l : List T.Nd) (at_ : Int) (x1 x2 : Int) (x3 : ByteArray) (w : World) (hl : l.length ≤ 64) (hc : l.length ≤ cap) (hnone : ao = none → l = [] ∧ cap = 0) (ha : NodeAt w ao l) (hk : ndOk l) (hx : T.inGo (x1, x2, x3)) (hx3 : x3.size ≤ maxLen) :
    Calls Try.prog 50 #[.slice ao l.length cap, .int .i64 at_, .agg #[.int .u8 x1, .int .u16 x2, .string x3]] w fun e w' => optEnd (T.withO l at_ (x1, x2, x3)) w.heap.size w e w' := by
  refine (with_any ao cap l at_ x1 x2 x3 w hl hc hnone ha hk hx hx3).mono ?_
  rintro e w' ⟨v, rfl, ho, hb⟩
  unfold T.withO
  cases hok : T.withOk l at_ (x1, x2, x3) with
  | false => rw [hok] at ho; exact ⟨v, rfl, ho, hb⟩
  | true => rw [hok] at ho; exact ⟨v, rfl, ho, hb⟩

theorem own_slice_none {w : World} {base : Nat} {v : Value} {l : List T.Nd} (h : w.ownsRow base 60 3 v l.length (ndCells l)) :
    ∃ ao cap, v = .slice ao l.length cap ∧ l.length ≤ cap ∧ NodeAt w ao l ∧ (ao = none → l = [] ∧ cap = 0) := by
  rcases h.2 with ⟨hv, h0⟩ | ⟨g, cap, cur, hv, hb, hh, h1, h2, h3⟩
  · have : l = [] := List.eq_nil_of_length_eq_zero h0
    subst this
    exact ⟨none, 0, hv, by simp, Or.inl rfl, fun _ => ⟨rfl, rfl⟩⟩
  · subst hv
    exact ⟨some ⟨g, 0, none⟩, cap, rfl, h1, Or.inr ⟨g, 0, rfl, lt_of_block hh, own_nodeRow h rfl⟩, by intro h; cases h⟩

theorem ndOk_erase {l : List T.Nd} (h : ndOk l) (k : Nat) : ndOk (l.eraseIdx k) := fun x hx => h x (List.mem_of_mem_eraseIdx hx)

set_option maxRecDepth 100000 in
set_option maxHeartbeats 4000000 in
theorem patched_any (ao : Option Addr) (cap : Nat) (l : List T.Nd) (kind id at_ key : Int) (text : ByteArray) (w : World) (hl : l.length ≤ 64) (hc : l.length ≤ cap) (hnone : ao = none → l = [] ∧ cap = 0) (ha : NodeAt w ao l) (hk : ndOk l)
    (hid : 0 ≤ id ∧ id ≤ 255) (hkey : 0 ≤ key ∧ key ≤ 65535) (htx : text.size ≤ maxLen) :
    Calls Try.prog 38 #[.slice ao l.length cap, .agg #[.int .u8 kind, .int .u8 id, .int .i64 at_, .int .u16 key, .string text]] w fun e w' => optEnd (T.patchO l kind id at_ key text) w.heap.size w e w' := by
  by_cases h2 : kind = 2
  · subst h2
    have HO : Hid (T.patchO l 2 id at_ key text = T.withO l at_ (id, key, text)) := by unfold Hid T.patchO; rw [if_pos rfl]
    have HW : Hid (∀ u : World, Below w.heap.size w u → Calls Try.prog 50 #[.slice ao l.length cap, .int .i64 at_, .agg #[.int .u8 id, .int .u16 key, .string text]] u fun e w' => optEnd (T.withO l at_ (id, key, text)) u.heap.size u e w') :=
      fun u hu => withO_any ao cap l at_ id key text u hl hc hnone (ha.below hu (Nat.le_refl _) hu.size) hk ⟨hid.1, hid.2, hkey.1, hkey.2⟩ htx
    generalize l.length = n at HW ⊢
    generalize T.withO l at_ (id, key, text) = o at HW HO
    clear ha hk
    go_enter Try.func38, Try.ntmps38
    go_wp2_with fail
    refine (HW.out _ ((Below.refl _ _).alloc (Nat.le_refl _) _)).mono ?_
    rintro e w1 ⟨v, rfl, ho, hb⟩
    have HB : Hid (Below w.heap.size w w1) := ((Below.refl _ _).alloc (Nat.le_refl _) _).trans (hb.mono (by simp))
    have HOw : Hid (w1.ownsRow w.heap.size 60 3 v (o.getD []).length (ndCells (o.getD []))) := by
      obtain ⟨q1, q2⟩ := ho
      refine ⟨q1, ?_⟩
      rcases q2 with q2 | ⟨g, cp, cur, hv, hg, r⟩
      · exact Or.inl q2
      · exact Or.inr ⟨g, cp, cur, hv, by simp at hg; omega, r⟩
    clear ho hb HW
    go_wp2
    go_ret2
    rw [HO.out]
    exact ⟨v, rfl, HOw.out, HB.out⟩
  · have hk2 : (kind == 2) = false := by rw [beq_eq_false_iff_ne]; exact h2
    have HP : Hid (∀ u : World, Below w.heap.size w u → Calls Try.prog 49 #[.slice ao l.length cap, .int .u8 id] u fun e w' => e = .returned (.int .i64 (T.place l id)) ∧ Below u.heap.size u w') := fun u hu => place_any ao cap l id u (by unfold maxLen; omega) (ha.below hu (Nat.le_refl _) hu.size)
    cases hh : T.has l id with
    | false =>
      have hp := T.place_no hh
      have HO : Hid (T.patchO l kind id at_ key text = none) := by unfold Hid T.patchO; rw [if_neg h2, if_pos (by omega)]
      rw [hp] at HP
      generalize l.length = n at HP ⊢
      clear ha hk h2
      go_enter Try.func38, Try.ntmps38
      go_wp2_with fail
      refine (HP.out _ ((Below.refl _ _).alloc (Nat.le_refl _) _)).mono ?_
      rintro e w1 ⟨rfl, hb⟩
      have HB : Hid (Below w.heap.size w w1) := ((Below.refl _ _).alloc (Nat.le_refl _) _).trans (hb.mono (by simp))
      clear hb HP
      go_wp2
      go_ret2
      exact optEnd_none HO.out HB.out
    | true =>
      obtain ⟨hp0, hp1⟩ := T.place_yes hh
      obtain ⟨k, hpk⟩ : ∃ k : Nat, T.place l id = k := ⟨(T.place l id).toNat, by omega⟩
      have hkn : k < l.length := by omega
      obtain ⟨y, hy⟩ : ∃ x, l[k]? = some x := ⟨l[k]'hkn, List.getElem?_eq_getElem hkn⟩
      obtain ⟨b, off, rfl, hbl, hr⟩ : ∃ b off, ao = some ⟨b, off, none⟩ ∧ b < w.heap.size ∧ NodeRow w b off l := ha.resolve_left (by rintro rfl; simp at hy)
      have hyd : l.getD k (0, 0, ⟨#[]⟩) = y := by rw [List.getD, hy]; rfl
      have hyk := hk y (List.mem_of_getElem? hy)
      have HR : Hid (NodeRow w b off l) := hr
      have HY : Hid (l[k]? = some y) := hy
      have HPO : Hid (T.patchO l kind id at_ key text = if kind = 1 then some (l.eraseIdx k) else if kind = 3 then T.withO (l.eraseIdx k) at_ y else if kind = 4 then T.withO (l.eraseIdx k) k (y.1, y.2.1, text) else none) := by
        unfold Hid T.patchO
        rw [if_neg h2, hpk, if_neg (by omega), show ((k : Int)).toNat = k by omega, hyd]
      have HWo : Hid (∀ u : World, Below w.heap.size w u → Calls Try.prog 51 #[.slice (some ⟨b, off, none⟩) l.length cap, .int .i64 k] u fun e w' => withoutEnd l k u e w') := fun u hu => without_any _ cap l k u (by omega) (Or.inr ⟨b, off, rfl, by have := hu.size; omega, hr.below hu hbl⟩) hkn
      rw [hpk] at HP
      have hel : (l.eraseIdx k).length = l.length - 1 := List.length_eraseIdx_of_lt hkn
      obtain ⟨y1, y2, y3⟩ := y
      have HW3 : Hid (∀ (u : World) (ro : Option Addr) (rc : Nat), NodeAt u ro (l.eraseIdx k) → (l.eraseIdx k).length ≤ rc → (ro = none → l.eraseIdx k = [] ∧ rc = 0) → Calls Try.prog 50 #[.slice ro (l.eraseIdx k).length rc, .int .i64 at_, .agg #[.int .u8 y1, .int .u16 y2, .string y3]] u fun e w' => optEnd (T.withO (l.eraseIdx k) at_ (y1, y2, y3)) u.heap.size u e w') :=
        fun u ro rc h1 h3 h4 => withO_any ro rc (l.eraseIdx k) at_ y1 y2 y3 u (by omega) h3 h4 h1 (ndOk_erase hk k) hyk.1 hyk.2
      have HW4 : Hid (∀ (u : World) (ro : Option Addr) (rc : Nat), NodeAt u ro (l.eraseIdx k) → (l.eraseIdx k).length ≤ rc → (ro = none → l.eraseIdx k = [] ∧ rc = 0) → Calls Try.prog 50 #[.slice ro (l.eraseIdx k).length rc, .int .i64 k, .agg #[.int .u8 y1, .int .u16 y2, .string text]] u fun e w' => optEnd (T.withO (l.eraseIdx k) k (y1, y2, text)) u.heap.size u e w') :=
        fun u ro rc h1 h3 h4 => withO_any ro rc (l.eraseIdx k) k y1 y2 text u (by omega) h3 h4 h1 (ndOk_erase hk k) ⟨hyk.1.1, hyk.1.2.1, hyk.1.2.2.1, hyk.1.2.2.2⟩ htx
      generalize l.length = n at HP HWo hkn hc ⊢
      have hki : (k : Int) < (n : Int) := by omega
      have hk0 : ¬ (k : Int) < 0 := by omega
      have hk00 : (0 : Int) ≤ (k : Int) := by omega
      clear ha hy hr hyd hyk hp0 hp1 hpk hk hh hel h2 hl
      go_enter Try.func38, Try.ntmps38
      go_wp2_with fail
      refine (HP.out _ ((Below.refl _ _).alloc (Nat.le_refl _) _)).mono ?_
      rintro e w1 ⟨rfl, hb1⟩
      have hP1 : Blk w1 w.heap.size #[.int .u8 kind, .int .u8 id, .int .i64 at_, .int .u16 key, .string text] 46 := (Blk.new w _ 46).below hb1 (by simp)
      have hbw1 : Below w.heap.size w w1 := ((Below.refl _ _).alloc (Nat.le_refl _) _).trans (hb1.mono (by simp))
      have HB1 : Hid (Below w.heap.size w w1) := hbw1
      have HP1 : Hid (Blk w1 w.heap.size #[.int .u8 kind, .int .u8 id, .int .i64 at_, .int .u16 key, .string text] 46) := hP1
      obtain ⟨c0, c1, c2⟩ := (HR.out.below hbw1 hbl) k _ HY.out
      simp only at c0 c1 c2
      have hs1 := hP1.lt
      have hbw : b < w1.heap.size := by omega
      have hbne : ¬ b = w1.heap.size := by omega
      clear hb1 hP1 hbw1 HP
      go_wp2_with fail
      refine (HWo.out _ (HB1.out.alloc (by omega) _)).mono ?_
      rintro e w2 ⟨v2, rfl, ho2, hb2⟩
      have hP2 : Blk w2 w.heap.size #[.int .u8 kind, .int .u8 id, .int .i64 at_, .int .u16 key, .string text] 46 := (HP1.out.alloc _).below hb2 (by simp; omega)
      have hX2 : Blk w2 w1.heap.size #[.int .u8 y1, .int .u16 y2, .string y3] 60 := (Blk.new w1 _ 60).below hb2 (by simp)
      have p0 := hP2.cell 0
      have p2 := hP2.cell 2
      have p4 := hP2.cell 4
      have q0 := hX2.cell 0
      have q1 := hX2.cell 1
      have q2 := hX2.cell 2
      simp at p0 p2 p4 q0 q1 q2
      have HB2 : Hid (Below w.heap.size w w2) := (HB1.out.alloc (by omega) _).trans (hb2.mono (by simp; omega))
      obtain ⟨ro, rc, rfl, hrc, hra, hrn⟩ := own_slice_none ho2
      have HO2 : Hid (w2.ownsRow w.heap.size 60 3 (.slice ro (l.eraseIdx k).length rc) (l.eraseIdx k).length (ndCells (l.eraseIdx k))) := by
        obtain ⟨z1, z2⟩ := ho2
        refine ⟨z1, ?_⟩
        rcases z2 with z2 | ⟨g, cp, cur, hv, hg, r⟩
        · exact Or.inl z2
        · exact Or.inr ⟨g, cp, cur, hv, by simp at hg; omega, r⟩
      have HC3 := HW3.out w2 ro rc hra hrc hrn
      have HC4 := HW4.out w2 ro rc hra hrc hrn
      have HC3' : Hid (Calls Try.prog 50 #[.slice ro (l.eraseIdx k).length rc, .int .i64 at_, .agg #[.int .u8 y1, .int .u16 y2, .string y3]] w2 fun e w' => optEnd (T.withO (l.eraseIdx k) at_ (y1, y2, y3)) w2.heap.size w2 e w') := HC3
      have HC4' : Hid (Calls Try.prog 50 #[.slice ro (l.eraseIdx k).length rc, .int .i64 k, .agg #[.int .u8 y1, .int .u16 y2, .string text]] w2 fun e w' => optEnd (T.withO (l.eraseIdx k) k (y1, y2, text)) w2.heap.size w2 e w') := HC4
      generalize hrl : (l.eraseIdx k).length = rn at HC3' HC4' ⊢
      have HRn : Hid ((l.eraseIdx k).length = rn) := hrl
      clear hb2 hP2 hX2 ho2 hra hrc hrn HW3 HW4 HC3 HC4 HP1 HB1 HWo c0 c1 c2 hrl
      by_cases k1 : kind = 1
      · subst k1
        have HO : Hid (T.patchO l 1 id at_ key text = some (l.eraseIdx k)) := by unfold Hid; rw [HPO.out, if_pos rfl]
        go_wp2
        go_ret2
        rw [HO.out]
        exact ⟨_, rfl, by have := HO2.out; rw [HRn.out] at this; show w2.ownsRow _ _ _ _ (l.eraseIdx k).length _; rw [HRn.out]; exact this, HB2.out⟩
      · have hk1 : (kind == 1) = false := by rw [beq_eq_false_iff_ne]; exact k1
        by_cases k3 : kind = 3
        · subst k3
          have HO : Hid (T.patchO l 3 id at_ key text = T.withO (l.eraseIdx k) at_ (y1, y2, y3)) := by unfold Hid; rw [HPO.out, if_neg k1, if_pos rfl]
          clear k1
          go_wp2_with fail
          refine HC3'.out.mono ?_
          rintro e w3 ⟨v3, rfl, ho3, hb3⟩
          have HB3 : Hid (Below w.heap.size w w3) := HB2.out.trans (hb3.mono HB2.out.size)
          have HO3 : Hid (w3.ownsRow w.heap.size 60 3 v3 ((T.withO (l.eraseIdx k) at_ (y1, y2, y3)).getD []).length (ndCells ((T.withO (l.eraseIdx k) at_ (y1, y2, y3)).getD []))) := by
            obtain ⟨z1, z2⟩ := ho3
            refine ⟨z1, ?_⟩
            rcases z2 with z2 | ⟨g, cp, cur, hv, hg, r⟩
            · exact Or.inl z2
            · exact Or.inr ⟨g, cp, cur, hv, by have := HB2.out.size; omega, r⟩
          clear ho3 hb3
          go_wp2
          go_ret2
          rw [HO.out]
          exact ⟨v3, rfl, HO3.out, HB3.out⟩
        · have hk3 : (kind == 3) = false := by rw [beq_eq_false_iff_ne]; exact k3
          by_cases k4 : kind = 4
          · subst k4
            have HO : Hid (T.patchO l 4 id at_ key text = T.withO (l.eraseIdx k) k (y1, y2, text)) := by unfold Hid; rw [HPO.out, if_neg k1, if_neg k3, if_pos rfl]
            clear k1 k3
            go_wp2_with fail
            refine HC4'.out.mono ?_
            rintro e w3 ⟨v3, rfl, ho3, hb3⟩
            have HB3 : Hid (Below w.heap.size w w3) := HB2.out.trans (hb3.mono HB2.out.size)
            have HO3 : Hid (w3.ownsRow w.heap.size 60 3 v3 ((T.withO (l.eraseIdx k) k (y1, y2, text)).getD []).length (ndCells ((T.withO (l.eraseIdx k) k (y1, y2, text)).getD []))) := by
              obtain ⟨z1, z2⟩ := ho3
              refine ⟨z1, ?_⟩
              rcases z2 with z2 | ⟨g, cp, cur, hv, hg, r⟩
              · exact Or.inl z2
              · exact Or.inr ⟨g, cp, cur, hv, by have := HB2.out.size; omega, r⟩
            clear ho3 hb3
            go_wp2
            go_ret2
            rw [HO.out]
            exact ⟨v3, rfl, HO3.out, HB3.out⟩
          · have hk4 : (kind == 4) = false := by rw [beq_eq_false_iff_ne]; exact k4
            have HO : Hid (T.patchO l kind id at_ key text = none) := by unfold Hid; rw [HPO.out, if_neg k1, if_neg k3, if_neg k4]
            clear k1 k3 k4
            go_wp2
            go_ret2
            exact optEnd_none HO.out HB2.out

end Go.Proofs.Ytcaeeaiodbjacaa
