/-
  The walk of Plan.
-/
import Derived.Test.YtcaeeaiodbjacaaIdFor
namespace Go.Proofs.Ytcaeeaiodbjacaa
open Go.RowKit
set_option linter.unusedVariables false

/-- Shows lie in memory from ⟨b, off⟩ on. -/
def ShRow (w : World) (b off : Nat) (l : List T.Sh) : Prop :=
  ∀ i x, l[i]? = some x → w.cell? ⟨b, off + i * 2, none⟩ = some (.int .u16 x.1) ∧ w.cell? ⟨b, off + i * 2 + 1, none⟩ = some (.string x.2)

theorem ShRow.below {B : Nat} {w w' : World} {b off : Nat} {l : List T.Sh} (h : ShRow w b off l) (hb : Below B w w') (hl : b < B) : ShRow w' b off l := by
  intro i x hx
  obtain ⟨h0, h1⟩ := h i x hx
  exact ⟨(hb.cell hl).trans h0, (hb.cell hl).trans h1⟩

def ShAt (w : World) (ao : Option Addr) (l : List T.Sh) : Prop :=
  l = [] ∨ ∃ b off, ao = some ⟨b, off, none⟩ ∧ b < w.heap.size ∧ ShRow w b off l

theorem ShAt.below {B : Nat} {w w' : World} {ao : Option Addr} {l : List T.Sh} (h : ShAt w ao l) (hb : Below B w w') (hB : w.heap.size ≤ B) (hs : w.heap.size ≤ w'.heap.size) : ShAt w' ao l := by
  rcases h with h | ⟨b, off, e, hl, h⟩
  · exact Or.inl h
  · exact Or.inr ⟨b, off, e, by omega, h.below hb (by omega)⟩

/-- Shows as Go has them. -/
def shOk (l : List T.Sh) : Prop := ∀ x ∈ l, (0 ≤ x.1 ∧ x.1 ≤ 65535) ∧ x.2.size ≤ maxLen

namespace T
def planOk (old : List Nd) (shows : List Sh) : Bool := isTree old && decide (shows.length ≤ 8) && isTree (plan old shows)
def planO (old : List Nd) (shows : List Sh) : List Nd := if planOk old shows then plan old shows else []
def planE (old : List Nd) (shows : List Sh) : Int := if planOk old shows then 0 else 3

theorem idFor_range {old next : List Nd} (h : ∀ x ∈ old, inGo x) (key : Int) : 0 ≤ idFor key old next ∧ idFor key old next ≤ 255 := by
  cases hf : old.find? (fun x => decide (x.2.1 = key)) with
  | some x =>
    rw [idFor_found hf]
    have := h x (List.mem_of_find?_eq_some hf)
    exact ⟨this.1, this.2.1⟩
  | none =>
    rw [idFor_none hf]
    rcases leastFrom_spec old next 16 1 with ⟨h1, _⟩ | ⟨h1, h2, _⟩
    · omega
    · omega

theorem planFrom_snoc (old : List Nd) : ∀ (l : List Sh) (next : List Nd) (s : Sh), planFrom old next (l ++ [s]) = planFrom old next l ++ [mkN old (planFrom old next l) s]
  | [], next, s => rfl
  | x :: r, next, s => by
      show planFrom old (next ++ [mkN old next x]) (r ++ [s]) = planFrom old (next ++ [mkN old next x]) r ++ [mkN old (planFrom old (next ++ [mkN old next x]) r) s]
      exact planFrom_snoc old r _ s
end T

theorem planFrom_ok {old : List T.Nd} (ho : ndOk old) : ∀ (l : List T.Sh) (next : List T.Nd), shOk l → ndOk next → ndOk (T.planFrom old next l)
  | [], next, _, h => h
  | s :: r, next, hs, h => by
      unfold T.planFrom
      refine planFrom_ok ho r _ (fun x hx => hs x (by simp [hx])) ?_
      intro x hx
      rcases List.mem_append.1 hx with hx | hx
      · exact h x hx
      · rw [List.mem_singleton] at hx
        subst hx
        obtain ⟨h1, h2⟩ := hs s (by simp)
        have h3 := T.idFor_range (next := next) (fun x hx => (ho x hx).1) s.1
        exact ⟨⟨h3.1, h3.2, h1.1, h1.2⟩, h2⟩

theorem plan_ok {old : List T.Nd} {l : List T.Sh} (ho : ndOk old) (hs : shOk l) : ndOk (T.plan old l) := planFrom_ok ho l [] hs (fun x hx => by simp at hx)

/-- What Plan hands back. -/
def planEnd (old : List T.Nd) (shows : List T.Sh) (w : World) (e : Ending) (w' : World) : Prop :=
  ∃ v, e = .returned (.tuple #[v, .int .i64 (T.planE old shows)]) ∧ w'.ownsRow w.heap.size 60 3 v (T.planO old shows).length (ndCells (T.planO old shows)) ∧ Below w.heap.size w w'

theorem planEnd_bad {old : List T.Nd} {shows : List T.Sh} {w w' : World} (h : T.planOk old shows = false) (hb : Below w.heap.size w w') : planEnd old shows w (.returned (.tuple #[.slice none 0 0, .int .i64 3])) w' := by
  refine ⟨.slice none 0 0, by simp [T.planE, h], ?_, hb⟩
  have : T.planO old shows = [] := by simp [T.planO, h]
  rw [this]
  exact World.ownsRow_nil _ _ _ _

theorem planEnd_good {old : List T.Nd} {shows : List T.Sh} {w w' : World} {v : Value} (h : T.planOk old shows = true) (ho : w'.ownsRow w.heap.size 60 3 v (T.plan old shows).length (ndCells (T.plan old shows))) (hb : Below w.heap.size w w') :
    planEnd old shows w (.returned (.tuple #[v, .int .i64 0])) w' := by
  refine ⟨v, by simp [T.planE, h], ?_, hb⟩
  have : T.planO old shows = T.plan old shows := by simp [T.planO, h]
  rw [this]
  exact ho

set_option maxRecDepth 100000 in
set_option maxHeartbeats 4000000 in
theorem plan_any (oo so : Option Addr) (oc sc : Nat) (old : List T.Nd) (shows : List T.Sh) (w : World) (hlo : old.length ≤ maxLen) (hco : old.length ≤ oc) (hls : shows.length ≤ maxLen) (hao : NodeAt w oo old) (hko : ndOk old) (has : ShAt w so shows) (hks : shOk shows) :
    Calls Try.prog 11 #[.slice oo old.length oc, .slice so shows.length sc] w fun e w' => planEnd old shows w e w' := by
  obtain ⟨i0, hi, hz0, hz1, hz2⟩ := info_parts info60
  have HT : Hid (∀ u : World, Below w.heap.size w u → Calls Try.prog 31 #[.slice oo old.length oc] u fun e w' => e = .returned (.bool (T.isTree old)) ∧ Below u.heap.size u w') := fun u hu => tree_any oo oc old u hlo hco (hao.below hu (Nat.le_refl _) hu.size) hko
  have HF : Hid (∀ (no : Option Addr) (nc : Nat) (next : List T.Nd) (key : Int) (u : World), Below w.heap.size w u → next.length ≤ maxLen → NodeAt u no next → Calls Try.prog 32 #[.int .u16 key, .slice oo old.length oc, .slice no next.length nc] u fun e w' => e = .returned (.int .u8 (T.idFor key old next)) ∧ Below u.heap.size u w') :=
    fun no nc next key u hu hn ha => idFor_any oo no oc nc old next key u hlo hn (hao.below hu (Nat.le_refl _) hu.size) ha
  unfold maxLen at hls
  generalize old.length = on at HT HF hco ⊢
  obtain ⟨n, hn⟩ : ∃ n, n = shows.length := ⟨_, rfl⟩
  have Hn : Hid (shows.length = n) := hn.symm
  rw [← hn]
  rw [← hn] at hls
  have HA : Hid (ShAt w so shows) := has
  have HK : Hid (shOk shows) := hks
  have HO : Hid (ndOk old) := hko
  clear hn hao hko has hks hlo
  cases hit : T.isTree old with
  | false =>
    have HV : Hid (T.planOk old shows = false) := by unfold Hid T.planOk; rw [hit]; rfl
    rw [hit] at HT
    clear hit
    go_enter Try.func11, Try.ntmps11
    go_wp2_with (go_at_call 31; refine (HT.out _ (Below.refl _ _)).mono ?_; rintro e w1 ⟨rfl, hb1⟩)
    go_ret2
    exact planEnd_bad HV.out hb1
  | true =>
    have HI : Hid (T.isTree old = true) := hit
    rw [hit] at HT
    clear hit
    by_cases h8 : n ≤ 8
    · have h8i : ¬ (8 : Int) < (n : Int) := by omega
      go_enter Try.func11, Try.ntmps11
      go_wp2_with (go_at_call 31; refine (HT.out _ (Below.refl _ _)).mono ?_; rintro e w1 ⟨rfl, hb1⟩)
      go_loopw [6, 18] (fun v i wr => ∃ (k cv : Nat) (bo : Option Addr) (acc : List T.Nd), v = .slice bo k cv ∧ k ≤ n ∧ i = .int .i64 k ∧ wr.ownsRow w.heap.size 60 3 (.slice bo k cv) k (ndCells acc) ∧ Below w.heap.size w wr ∧ Hid (acc = T.plan old (shows.take k)) ∧ Hid (acc.length = k))
        (fun _ i _ => n - (intOf i).toNat)
      case atStart => exact ⟨0, 0, none, [], rfl, Nat.zero_le _, rfl, World.ownsRow_nil _ _ _ _, hb1, rfl, rfl⟩
      case round =>
        obtain ⟨k, cv, bo, acc, rfl, hk, rfl, hown, hbel, HP, HL⟩ := hrel
        have HOw : Hid (wr.ownsRow w.heap.size 60 3 (.slice bo k cv) k (ndCells acc)) := hown
        have HB : Hid (Below w.heap.size w wr) := hbel
        have hsz := hbel.size
        have HNA : Hid (NodeAt wr bo acc ∧ k ≤ cv) := by
          have h1 : wr.ownsRow w.heap.size 60 3 (.slice bo acc.length cv) acc.length (ndCells acc) := by rw [HL.out]; exact hown
          obtain ⟨ao', cap', e1, h2, _, h3⟩ := own_node h1
          simp only [Value.slice.injEq] at e1
          obtain ⟨rfl, _, rfl⟩ := e1
          exact ⟨h3, by have := HL.out; omega⟩
        clear hown hbel hb1
        by_cases hlt : k < n
        · obtain ⟨y, hy⟩ : ∃ x, shows[k]? = some x := ⟨shows[k]'(by have := Hn.out; omega), List.getElem?_eq_getElem (by have := Hn.out; omega)⟩
          obtain ⟨b, off, rfl, hbl, hr⟩ : ∃ b off, so = some ⟨b, off, none⟩ ∧ b < w.heap.size ∧ ShRow w b off shows := HA.out.resolve_left (by rintro rfl; simp at hy)
          obtain ⟨y1, y2⟩ := y
          obtain ⟨c0, c1⟩ := (hr.below HB.out hbl) k _ hy
          simp only at c0 c1
          have HS : Hid (acc ++ [T.mkN old acc (y1, y2)] = T.plan old (shows.take (k + 1))) := by
            unfold Hid T.plan
            rw [List.take_add_one, hy]
            show _ = T.planFrom old [] (shows.take k ++ [(y1, y2)])
            rw [T.planFrom_snoc, HP.out]
            rfl
          have hir := T.idFor_range (next := acc) (fun x hx => (HO.out x hx).1) y1
          obtain ⟨id, hid⟩ : ∃ id, id = T.idFor y1 old acc := ⟨_, rfl⟩
          have HID : Hid (id = T.idFor y1 old acc) := hid
          have HC : Hid (∀ u : World, Below wr.heap.size wr u → Calls Try.prog 32 #[.int .u16 y1, .slice oo on oc, .slice bo k cv] u fun e w' => e = .returned (.int .u8 id) ∧ Below u.heap.size u w') := by
            intro u hu
            have := HF.out bo cv acc y1 u (HB.out.trans (hu.mono hsz)) (by rw [HL.out]; unfold maxLen; omega) (HNA.out.1.below hu (Nat.le_refl _) hu.size)
            rw [HL.out, ← hid] at this
            exact this
          rw [← hid] at hir
          have hbw : b < wr.heap.size := by omega
          have hbne : ¬ b = wr.heap.size := by omega
          clear hy hr hid
          go_wp2_with fail
          refine (HC.out _ ((Below.refl _ _).alloc (Nat.le_refl _) _)).mono ?_
          rintro e w2 ⟨rfl, hb2⟩
          have hx2 : Blk w2 wr.heap.size #[.int .u16 y1, .string y2] 27 := (Blk.new wr _ 27).below hb2 (by simp)
          have d0 := hx2.cell 0
          have d1 := hx2.cell 1
          simp at d0 d1
          have hx2l := hx2.lt
          have hbw2 : Below w.heap.size w w2 := (HB.out.alloc hsz _).trans (hb2.mono (by simp; omega))
          have HB2 : Hid (Below w.heap.size w w2) := hbw2
          have hs2 := hbw2.size
          have HO2 : Hid (w2.ownsRow w.heap.size 60 3 (.slice bo k cv) k (ndCells acc)) := own_below' (HOw.out.alloc _) hb2 (by simp)
          clear hx2 hb2 hbw2 HOw HB HNA c0 c1 HC
          go_wp2_with (at_builtin; refine wpList_append_own _ rfl (.tmp 27) (.tmp 34) 22 rfl w.heap.size 60 i0 (.agg #[.int .u8 0, .int .u16 0, .string ⟨#[]⟩]) 3 24 Try.underlying22 hi hz0 hz1 hz2 rfl (by decide) _ _ _ rfl (HO2.out.alloc _) ⟨w2.heap.size, 0, none⟩ 1 1 [.int .u8 id, .int .u16 y1, .string y2] rfl rfl (new_three _ _ _ _ _) (by intro u hu; simp at hu; rcases hu with rfl | rfl | rfl <;> rfl) (by unfold maxLen; omega) (by omega) (by simp; omega) ?_)
          intro v3 w3 hown3 hg3 _
          have hb3 : Below w.heap.size w w3 := below_app (HB2.out.alloc hs2 _) hg3 (HO2.out.alloc _) (Nat.le_refl _) (by simp; omega)
          obtain ⟨g3, cap3, hv3⟩ : ∃ g3 cap3, v3 = .slice (some ⟨g3, 0, none⟩) (k + 1) cap3 := by
            rcases hown3.2 with ⟨_, h⟩ | ⟨g3, cap3, _, h, _⟩
            · omega
            · exact ⟨g3, cap3, h⟩
          have HV : Hid (v3 = .slice (some ⟨g3, 0, none⟩) (k + 1) cap3) := hv3
          have HB3 : Hid (Below w.heap.size w w3) := hb3
          have HO3 : Hid (w3.ownsRow w.heap.size 60 3 v3 (k + 1) (ndCells acc ++ [.int .u8 id, .int .u16 y1, .string y2])) := hown3
          clear hown3 hg3 hb3 HO2 HB2 hv3 d0 d1
          go_wp2
          go_roundw
          case rel =>
            refine ⟨k + 1, cap3, some ⟨g3, 0, none⟩, acc ++ [T.mkN old acc (y1, y2)], HV.out, by omega, by go_num, ?_, HB3.out, HS, by unfold Hid; simp [HL.out]⟩
            rw [ndCells_snoc, ← HV.out]
            have h := HO3.out
            rw [HID.out] at h
            exact h
          case measure => simp [intOf]; omega
        · have hkn : k = n := by omega
          subst hkn
          have HPL : Hid (acc = T.plan old shows) := by unfold Hid; rw [HP.out, List.take_of_length_le (by have := Hn.out; omega)]
          have HC : Hid (Calls Try.prog 31 #[.slice bo k cv] wr fun e w' => e = .returned (.bool (T.isTree acc)) ∧ Below wr.heap.size wr w') := by
            have := tree_any bo cv acc wr (by rw [HL.out]; unfold maxLen; omega) (by rw [HL.out]; exact HNA.out.2) HNA.out.1 (by rw [HPL.out]; exact plan_ok HO.out HK.out)
            rw [HL.out] at this
            exact this
          clear hlt
          cases hit : T.isTree acc with
          | false =>
            have HV : Hid (T.planOk old shows = false) := by unfold Hid T.planOk; rw [← HPL.out, hit]; simp
            rw [hit] at HC
            clear hit
            go_wp2_with fail
            refine HC.out.mono ?_
            rintro e w2 ⟨rfl, hb2⟩
            have HB2 : Hid (Below w.heap.size w w2) := HB.out.trans (hb2.mono hsz)
            clear hb2 HC
            go_wp2
            go_ret2
            exact planEnd_bad HV.out HB2.out
          | true =>
            have HV : Hid (T.planOk old shows = true) := by unfold Hid T.planOk; rw [← HPL.out, hit, HI.out, Hn.out]; simp [h8]
            rw [hit] at HC
            clear hit
            go_wp2_with fail
            refine HC.out.mono ?_
            rintro e w2 ⟨rfl, hb2⟩
            have HB2 : Hid (Below w.heap.size w w2) := HB.out.trans (hb2.mono hsz)
            have HO2 : Hid (w2.ownsRow w.heap.size 60 3 (.slice bo k cv) k (ndCells acc)) := own_below' HOw.out hb2 (Nat.le_refl _)
            clear hb2 HC
            go_wp2
            go_ret2
            refine planEnd_good HV.out ?_ HB2.out
            rw [← HPL.out, HL.out]
            exact HO2.out
    · have h8i : (8 : Int) < (n : Int) := by omega
      have HV : Hid (T.planOk old shows = false) := by unfold Hid T.planOk; rw [Hn.out]; simp [h8]
      go_enter Try.func11, Try.ntmps11
      go_wp2_with (go_at_call 31; refine (HT.out _ (Below.refl _ _)).mono ?_; rintro e w1 ⟨rfl, hb1⟩)
      go_ret2
      exact planEnd_bad HV.out hb1

end Go.Proofs.Ytcaeeaiodbjacaa
