/-
  The walk of Apply.
-/
import Derived.Test.YtcaeeaiodbjacaaPatchW
import Derived.Deep.DeepCutAuto
namespace Go.Proofs.Ytcaeeaiodbjacaa
open Go.RowKit
set_option linter.unusedVariables false

namespace T
/-- A patch: its Kind, Id, At, Key, Text. -/
abbrev Pt := Int × Int × Int × Int × ByteArray

def patchP (l : List Nd) (p : Pt) : Option (List Nd) := patchO l p.1 p.2.1 p.2.2.1 p.2.2.2.1 p.2.2.2.2

def applyFrom (now : List Nd) : List Pt → Option (List Nd)
  | [] => some now
  | p :: r => match patchP now p with
    | none => none
    | some l => applyFrom l r

def applyO (old : List Nd) (ps : List Pt) : List Nd := if isTree old then (applyFrom old ps).getD [] else []
def applyE (old : List Nd) (ps : List Pt) : Int := if isTree old then (if (applyFrom old ps).isSome then 0 else 4) else 3
end T

def ptOk (ps : List T.Pt) : Prop := ∀ p ∈ ps, (0 ≤ p.2.1 ∧ p.2.1 ≤ 255) ∧ (0 ≤ p.2.2.2.1 ∧ p.2.2.2.1 ≤ 65535) ∧ p.2.2.2.2.size ≤ maxLen

theorem withO_ok {l r : List T.Nd} {at_ : Int} {x : T.Nd} (hl : ndOk l) (hx : T.inGo x ∧ x.2.2.size ≤ maxLen) (h : T.withO l at_ x = some r) : r.length ≤ 16 ∧ ndOk r := by
  unfold T.withO at h
  split at h
  · rename_i hok
    obtain rfl := Option.some.inj h
    unfold T.withOk at hok
    simp only [Bool.and_eq_true] at hok
    refine ⟨((T.isTree_iff _).1 hok.2).1, ?_⟩
    intro y hy
    unfold T.put at hy
    simp only [List.mem_append, List.mem_singleton] at hy
    rcases hy with (hy | hy) | hy
    · exact hl y (List.mem_of_mem_take hy)
    · subst hy; exact hx
    · exact hl y (List.mem_of_mem_drop hy)
  · cases h

theorem patchP_ok {l r : List T.Nd} {p : T.Pt} (hl : l.length ≤ 16) (hk : ndOk l) (hp : (0 ≤ p.2.1 ∧ p.2.1 ≤ 255) ∧ (0 ≤ p.2.2.2.1 ∧ p.2.2.2.1 ≤ 65535) ∧ p.2.2.2.2.size ≤ maxLen) (h : T.patchP l p = some r) : r.length ≤ 16 ∧ ndOk r := by
  obtain ⟨kind, id, at_, key, text⟩ := p
  simp only at hp
  unfold T.patchP T.patchO at h
  simp only at h
  have herase : ∀ k, (l.eraseIdx k).length ≤ 16 := fun k => by
    have := List.length_eraseIdx_le l k
    omega
  have hget : ∀ k, T.inGo (l.getD k (0, 0, ⟨#[]⟩)) ∧ (l.getD k (0, 0, ⟨#[]⟩)).2.2.size ≤ maxLen := by
    intro k
    by_cases hk' : k < l.length
    · have hm : l.getD k (0, 0, ⟨#[]⟩) ∈ l := by
        rw [List.getD, List.getElem?_eq_getElem hk']
        exact List.getElem_mem hk'
      exact hk _ hm
    · rw [List.getD, List.getElem?_eq_none (by omega)]
      exact ⟨⟨by decide, by decide, by decide, by decide⟩, by unfold maxLen; decide⟩
  split at h
  · exact withO_ok hk ⟨⟨hp.1.1, hp.1.2, hp.2.1.1, hp.2.1.2⟩, hp.2.2⟩ h
  · split at h
    · cases h
    · split at h
      · obtain rfl := Option.some.inj h
        exact ⟨herase _, ndOk_erase hk _⟩
      · split at h
        · exact withO_ok (ndOk_erase hk _) (hget _) h
        · split at h
          · have g := (hget (T.place l id).toNat).1
            generalize l.getD (T.place l id).toNat (0, 0, ⟨#[]⟩) = y at g h
            obtain ⟨y1, y2, y3⟩ := y
            exact withO_ok (x := (y1, y2, text)) (ndOk_erase hk _) ⟨⟨g.1, g.2.1, g.2.2.1, g.2.2.2⟩, hp.2.2⟩ h
          · cases h

/-- Patches lie in memory from ⟨b, off⟩ on. -/
def PtRow (w : World) (b off : Nat) (l : List T.Pt) : Prop :=
  ∀ i x, l[i]? = some x → w.cell? ⟨b, off + i * 5, none⟩ = some (.int .u8 x.1) ∧ w.cell? ⟨b, off + i * 5 + 1, none⟩ = some (.int .u8 x.2.1) ∧ w.cell? ⟨b, off + i * 5 + 2, none⟩ = some (.int .i64 x.2.2.1) ∧ w.cell? ⟨b, off + i * 5 + 3, none⟩ = some (.int .u16 x.2.2.2.1) ∧ w.cell? ⟨b, off + i * 5 + 4, none⟩ = some (.string x.2.2.2.2)

theorem PtRow.below {B : Nat} {w w' : World} {b off : Nat} {l : List T.Pt} (h : PtRow w b off l) (hb : Below B w w') (hl : b < B) : PtRow w' b off l := by
  intro i x hx
  obtain ⟨h0, h1, h2, h3, h4⟩ := h i x hx
  exact ⟨(hb.cell hl).trans h0, (hb.cell hl).trans h1, (hb.cell hl).trans h2, (hb.cell hl).trans h3, (hb.cell hl).trans h4⟩

def PtAt (w : World) (ao : Option Addr) (l : List T.Pt) : Prop := l = [] ∨ ∃ b off, ao = some ⟨b, off, none⟩ ∧ b < w.heap.size ∧ PtRow w b off l

/-- What Apply hands back. -/
def applyEnd (old : List T.Nd) (ps : List T.Pt) (w : World) (e : Ending) (w' : World) : Prop :=
  ∃ v, e = .returned (.tuple #[v, .int .i64 (T.applyE old ps)]) ∧ w'.ownsRow w.heap.size 60 3 v (T.applyO old ps).length (ndCells (T.applyO old ps)) ∧ Below w.heap.size w w'

theorem applyEnd_tree {old : List T.Nd} {ps : List T.Pt} {w w' : World} (h : T.isTree old = false) (hb : Below w.heap.size w w') : applyEnd old ps w (.returned (.tuple #[.slice none 0 0, .int .i64 3])) w' := by
  refine ⟨.slice none 0 0, by simp [T.applyE, h], ?_, hb⟩
  rw [show T.applyO old ps = [] by simp [T.applyO, h]]
  exact World.ownsRow_nil _ _ _ _

theorem applyEnd_patch {old : List T.Nd} {ps : List T.Pt} {w w' : World} (h : T.isTree old = true) (hn : T.applyFrom old ps = none) (hb : Below w.heap.size w w') : applyEnd old ps w (.returned (.tuple #[.slice none 0 0, .int .i64 4])) w' := by
  refine ⟨.slice none 0 0, by simp [T.applyE, h, hn], ?_, hb⟩
  rw [show T.applyO old ps = [] by simp [T.applyO, h, hn]]
  exact World.ownsRow_nil _ _ _ _

theorem applyEnd_good {old r : List T.Nd} {ps : List T.Pt} {w w' : World} {v : Value} (h : T.isTree old = true) (hn : T.applyFrom old ps = some r) (ho : w'.ownsRow w.heap.size 60 3 v r.length (ndCells r)) (hb : Below w.heap.size w w') : applyEnd old ps w (.returned (.tuple #[v, .int .i64 0])) w' := by
  refine ⟨v, by simp [T.applyE, h, hn], ?_, hb⟩
  rw [show T.applyO old ps = r by simp [T.applyO, h, hn]]
  exact ho

set_option maxRecDepth 100000 in
set_option maxHeartbeats 4000000 in
theorem apply_any (oo po : Option Addr) (oc pc : Nat) (old : List T.Nd) (ps : List T.Pt) (w : World) (hlo : old.length ≤ 5864062014800) (hco : old.length ≤ oc) (hnone : oo = none → old = [] ∧ oc = 0) (hlp : ps.length ≤ 5864062014800) (hao : NodeAt w oo old) (hko : ndOk old) (hap : PtAt w po ps) (hkp : ptOk ps) :
    Calls Try.prog 18 #[.slice oo old.length oc, .slice po ps.length pc] w fun e w' => applyEnd old ps w e w' := by
  obtain ⟨i0, hi, hz0, hz1, hz2⟩ := info_parts info60
  have HT : Hid (∀ u : World, Below w.heap.size w u → Calls Try.prog 31 #[.slice oo old.length oc] u fun e w' => e = .returned (.bool (T.isTree old)) ∧ Below u.heap.size u w') := fun u hu => tree_any oo oc old u (by unfold maxLen; omega) hco (hao.below hu (Nat.le_refl _) hu.size) hko
  obtain ⟨n, hn⟩ : ∃ n, n = ps.length := ⟨_, rfl⟩
  have Hn : Hid (ps.length = n) := hn.symm
  rw [← hn] at hlp ⊢
  obtain ⟨on, hon⟩ : ∃ n, n = old.length := ⟨_, rfl⟩
  have HOn : Hid (old.length = on) := hon.symm
  rw [← hon] at hlo hco HT ⊢
  have HA : Hid (PtAt w po ps) := hap
  have HK : Hid (ptOk ps) := hkp
  have HAo : Hid (NodeAt w oo old) := hao
  have HKo : Hid (ndOk old) := hko
  have HNone : Hid (oo = none → old = [] ∧ oc = 0) := hnone
  clear hn hon hao hko hap hkp hnone
  cases hit : T.isTree old with
  | false =>
    have HI : Hid (T.isTree old = false) := hit
    rw [hit] at HT
    clear hit
    go_enter Try.func18, Try.ntmps18
    go_wp2_with (go_at_call 31; refine (HT.out _ (Below.refl _ _)).mono ?_; rintro e w1 ⟨rfl, hb1⟩)
    go_ret2
    exact applyEnd_tree HI.out hb1
  | true =>
    have HI : Hid (T.isTree old = true) := hit
    have h16 : on ≤ 16 := by have := (T.isTree_iff old).1 hit; have := HOn.out; omega
    rw [hit] at HT
    clear hit
    go_enter Try.func18, Try.ntmps18
    go_wp2_with fail
    refine (HT.out _ (Below.refl _ _)).mono ?_
    rintro e w1 ⟨rfl, hb1⟩
    have B1 : Hid (Below w.heap.size w w1) := hb1
    have hs1 := hb1.size
    have HA1 : Hid (NodeAt w1 oo old) := HAo.out.below hb1 (Nat.le_refl _) hb1.size
    clear hb1 HT
    go_upto_region 4 with fail
    go_cut [6] from 11 to 33 (fun v wx => ∃ (bo : Option Addr) (cv : Nat), v = .slice bo on cv ∧ wx.ownsRow w.heap.size 60 3 (.slice bo on cv) on (ndCells old) ∧ Below w.heap.size w wx)
    case first =>
      cases oo with
      | none =>
        obtain ⟨rfl, rfl⟩ := HNone.out rfl
        have h0 : on = 0 := by have := HOn.out; simpa using this.symm
        subst h0
        go_wp2_with fail
        go_meet
        exact ⟨none, 0, rfl, World.ownsRow_nil _ _ _ _, B1.out⟩
      | some a =>
        have HN3 : Hid ((ndCells old).length = on * 3) := by unfold Hid; rw [ndCells_length, HOn.out]
        have HC3 : Hid (∀ j v, (ndCells old)[j]? = some v → w1.cell? (a.add j) = some v) := by
          intro j v hj
          rcases HA1.out with h | ⟨b, off, e, hb, hr⟩
          · subst h; simp [ndCells] at hj
          · simp only [Option.some.injEq] at e
            subst e
            exact nodeRow_cells hr j v hj
        go_wp2_with (at_builtin; refine wpList_append_own _ rfl (.tmp 14) (.tmp 15) 22 rfl w.heap.size 60 i0 (.agg #[.int .u8 0, .int .u16 0, .string ⟨#[]⟩]) 3 24 Try.underlying22 hi hz0 hz1 hz2 rfl (by decide) _ _ _ rfl (World.ownsRow_nil _ _ _ _) a on oc (ndCells old) rfl HN3.out HC3.out (ndCells_one _) (by unfold maxLen; omega) (by omega) hs1 ?_)
        intro v2 w2 ho2 hg2 _
        have ho2' : w2.ownsRow w.heap.size 60 3 v2 on (ndCells old) := by simpa using ho2
        have hb2 : Below w.heap.size w w2 := B1.out.grown hg2 hs1 (by intro k hk; simp [Value.ownBlock] at hk)
        have ho3 := ho2'
        rw [← HOn.out] at ho3
        obtain ⟨bo, cv, hv, _, _, _⟩ := own_node ho3
        rw [HOn.out] at hv
        subst hv
        have HO2 : Hid (w2.ownsRow w.heap.size 60 3 (.slice bo on cv) on (ndCells old)) := ho2'
        have HB2 : Hid (Below w.heap.size w w2) := hb2
        clear ho2 ho2' ho3 hg2 hb2
        go_wp2_with fail
        go_meet
        exact ⟨bo, cv, rfl, HO2.out, HB2.out⟩
    case rest =>
      obtain ⟨bo, cv, rfl, hown, hbel⟩ := hcut
      have HO2 : Hid (wc.ownsRow w.heap.size 60 3 (.slice bo on cv) on (ndCells old)) := hown
      have HB2 : Hid (Below w.heap.size w wc) := hbel
      clear hown hbel B1 hs1 HA1
      go_wp2_with fail
      go_loopw [6, 19] (fun v i wr => ∃ (k cn : Nat) (no : Option Addr) (now : List T.Nd), v = .slice no now.length cn ∧ k ≤ n ∧ i = .int .i64 k ∧ wr.ownsRow w.heap.size 60 3 (.slice no now.length cn) now.length (ndCells now) ∧ Below w.heap.size w wr ∧ Hid (T.applyFrom old ps = T.applyFrom now (ps.drop k)) ∧ Hid (now.length ≤ 16 ∧ ndOk now))
        (fun _ i _ => n - (intOf i).toNat)
      case atStart => exact ⟨0, cv, bo, old, by rw [HOn.out], Nat.zero_le _, rfl, by rw [HOn.out]; exact HO2.out, HB2.out, rfl, by rw [HOn.out]; exact h16, HKo.out⟩
      case round =>
        obtain ⟨k, cn, no, now, rfl, hk, rfl, hown, hbel, HF, HN⟩ := hrel
        have HOw : Hid (wr.ownsRow w.heap.size 60 3 (.slice no now.length cn) now.length (ndCells now)) := hown
        have HB : Hid (Below w.heap.size w wr) := hbel
        have hsz := hbel.size
        clear hown hbel HO2 HB2
        by_cases hlt : k < n
        · obtain ⟨p, hp⟩ : ∃ x, ps[k]? = some x := ⟨ps[k]'(by have := Hn.out; omega), List.getElem?_eq_getElem (by have := Hn.out; omega)⟩
          obtain ⟨b, off, rfl, hbl, hr⟩ : ∃ b off, po = some ⟨b, off, none⟩ ∧ b < w.heap.size ∧ PtRow w b off ps := HA.out.resolve_left (by rintro rfl; simp at hp)
          have hpk := HK.out p (List.mem_of_getElem? hp)
          have HS : Hid (T.applyFrom old ps = match T.patchP now p with | none => none | some l => T.applyFrom l (ps.drop (k + 1))) := by
            unfold Hid
            rw [HF.out, drop_cons ps k _ hp]
            rfl
          have HOK : Hid (∀ r, T.patchP now p = some r → r.length ≤ 16 ∧ ndOk r) := fun r h => patchP_ok HN.out.1 HN.out.2 hpk h
          obtain ⟨p1, p2, p3, p4, p5⟩ := p
          obtain ⟨c0, c1, c2, c3, c4⟩ := (hr.below HB.out hbl) k _ hp
          simp only at c0 c1 c2 c3 c4 hpk
          have HC : Hid (∀ u : World, Below wr.heap.size wr u → Calls Try.prog 38 #[.slice no now.length cn, .agg #[.int .u8 p1, .int .u8 p2, .int .i64 p3, .int .u16 p4, .string p5]] u fun e w' => optEnd (T.patchP now (p1, p2, p3, p4, p5)) u.heap.size u e w') := by
            intro u hu
            obtain ⟨ao', cap', e1, h2, h3, h4⟩ := own_slice_none HOw.out
            simp only [Value.slice.injEq] at e1
            obtain ⟨rfl, _, rfl⟩ := e1
            exact patched_any no cn now p1 p2 p3 p4 p5 u (by have := HN.out.1; omega) h2 h4 (h3.below hu (Nat.le_refl _) hu.size) HN.out.2 hpk.1 hpk.2.1 hpk.2.2
          generalize now.length = nn at HC ⊢
          have hbw : b < wr.heap.size := by omega
          have hbne : ¬ b = wr.heap.size := by omega
          clear hp hr hpk
          go_wp2_with fail
          refine (HC.out _ ((Below.refl _ _).alloc (Nat.le_refl _) _)).mono ?_
          rintro e w3 ⟨v3, rfl, ho3, hb3⟩
          have HB3 : Hid (Below w.heap.size w w3) := (HB.out.alloc hsz _).trans (hb3.mono (by simp; omega))
          cases hpp : T.patchP now (p1, p2, p3, p4, p5) with
          | none =>
            have HV : Hid (T.applyFrom old ps = none) := by unfold Hid; rw [HS.out, hpp]
            simp only [Option.isSome_none]
            clear ho3 hb3 HC hpp
            go_wp2
            go_ret2
            exact applyEnd_patch HI.out HV.out HB3.out
          | some r =>
            have HV : Hid (T.applyFrom old ps = T.applyFrom r (ps.drop (k + 1))) := by unfold Hid; rw [HS.out, hpp]
            rw [hpp] at ho3
            simp only [Option.isSome_some, Option.getD_some] at ho3 ⊢
            have ho3' : w3.ownsRow w.heap.size 60 3 v3 r.length (ndCells r) := by
              obtain ⟨z1, z2⟩ := ho3
              refine ⟨z1, ?_⟩
              rcases z2 with z2 | ⟨g, cp, cur, hv, hg, rest⟩
              · exact Or.inl z2
              · exact Or.inr ⟨g, cp, cur, hv, by simp at hg; omega, rest⟩
            obtain ⟨ro, rc, rfl, _, _, _⟩ := own_slice_none ho3'
            have HO3 : Hid (w3.ownsRow w.heap.size 60 3 (.slice ro r.length rc) r.length (ndCells r)) := ho3'
            have HR : Hid (r.length ≤ 16 ∧ ndOk r) := HOK.out r hpp
            clear ho3 ho3' hb3 HC hpp
            go_wp2
            go_roundw
            case rel => exact ⟨k + 1, rc, ro, r, rfl, by omega, by go_num, HO3.out, HB3.out, HV, HR⟩
            case measure => simp [intOf]; omega
        · have HV : Hid (T.applyFrom old ps = some now) := by
            unfold Hid
            rw [HF.out, List.drop_of_length_le (by have := Hn.out; omega)]
            rfl
          go_wp2
          go_ret2
          exact applyEnd_good HI.out HV.out HOw.out HB.out

end Go.Proofs.Ytcaeeaiodbjacaa
