/-
  The document's own answer: the walk of Apply.
-/
import Derived.Test.YtcaeeaiodbjacaaPatchS
namespace Go.Proofs.Ytcaeeaiodbjacaa
open Go.RowKit
set_option linter.unusedVariables false

theorem isTree_small {l : List T.Nd} (h : T.isTree l = true) : ndSmall l := fun x hx => by
  have h24 := T.okNd_size (T.isTree_ok h x hx)
  show x.2.2.size ≤ 4611686018427387904
  omega

theorem refPatch_any (ao : Option Addr) (cap : Nat) (l : List T.Nd) (kind id at_ key : Int) (text : ByteArray) (w : World) (ha : NodeAt w ao l) (hk : ndOk l) (ht : T.isTree l = true) (hid : 0 ≤ id ∧ id ≤ 255) (htx : text.size ≤ 4611686018427387904) :
    Calls Try.prog 39 #[.slice ao l.length cap, .agg #[.int .u8 kind, .int .u8 id, .int .i64 at_, .int .u16 key, .string text]] w fun e w' => refEnd (T.patchO l kind id at_ key text) w.heap.size w e w' := by
  have hl := ((T.isTree_iff l).1 ht)
  by_cases hbad : kind < 1 ∨ 4 < kind ∨ (T.has l id = decide (kind = 2))
  · exact refPatch_out ao cap l kind id at_ key text w (by omega) ha hk hid hbad
  · have h1 : 1 ≤ kind := by by_cases h : 1 ≤ kind; exact h; exact absurd (Or.inl (by omega)) hbad
    have h4 : kind ≤ 4 := by by_cases h : kind ≤ 4; exact h; exact absurd (Or.inr (Or.inl (by omega))) hbad
    have hh : T.has l id = !decide (kind = 2) := by
      cases hc : T.has l id with
      | true =>
        cases hd : decide (kind = 2) with
        | true => exact absurd (Or.inr (Or.inr (by rw [hc, hd]))) hbad
        | false => rfl
      | false =>
        cases hd : decide (kind = 2) with
        | true => rfl
        | false => exact absurd (Or.inr (Or.inr (by rw [hc, hd]))) hbad
    by_cases h2 : kind = 2
    · subst h2
      have hno : T.has l id = false := by rw [hh]; rfl
      rw [T.refPatch_ins]
      refine refPatch_in ao cap l 2 id at_ key text l.length w (by omega) ha hk (isTree_small ht) hid htx h1 h4 hh (Nat.le_refl _) ?_
      intro i x hx
      constructor
      · intro he; exact absurd he (T.has_not hno hx)
      · intro he; have := (List.getElem?_eq_some_iff.1 hx).1; omega
    · have hyes : T.has l id = true := by rw [hh]; simp [h2]
      obtain ⟨j, y, hy, rfl⟩ := T.has_at hyes
      rw [T.refPatch_old hl.2.2 hy (by omega)]
      refine refPatch_in ao cap l kind y.1 at_ key text j w (by omega) ha hk (isTree_small ht) hid htx h1 h4 hh (Nat.le_of_lt (List.getElem?_eq_some_iff.1 hy).1) ?_
      intro i x hx
      constructor
      · intro he; exact T.apart_at hl.2.2 hx hy he
      · rintro rfl; rw [hx] at hy; rw [Option.some.inj hy]

theorem patchP_tree {l r : List T.Nd} {p : T.Pt} (h : T.isTree l = true) (hp : T.patchP l p = some r) : T.isTree r = true := by
  obtain ⟨kind, id, at_, key, text⟩ := p
  have hwith : ∀ (m : List T.Nd) (a : Int) (x : T.Nd), T.withO m a x = some r → T.isTree r = true := by
    intro m a x hm
    unfold T.withO at hm
    split at hm
    · rename_i hok
      obtain rfl := Option.some.inj hm
      unfold T.withOk at hok
      simp only [Bool.and_eq_true] at hok
      exact hok.2
    · cases hm
  unfold T.patchP T.patchO at hp
  simp only at hp
  split at hp
  · exact hwith _ _ _ hp
  · split at hp
    · cases hp
    · split at hp
      · obtain rfl := Option.some.inj hp
        rw [T.isTree_iff] at h ⊢
        refine ⟨by have := List.length_eraseIdx_le l (T.place l id).toNat; omega, fun x hx => h.2.1 x (List.mem_of_mem_eraseIdx hx), h.2.2.sublist (List.eraseIdx_sublist _ _)⟩
      · split at hp
        · exact hwith _ _ _ hp
        · split at hp
          · exact hwith _ _ _ hp
          · cases hp

theorem applyFrom_tree : ∀ (ps : List T.Pt) (l r : List T.Nd), T.isTree l = true → T.applyFrom l ps = some r → T.isTree r = true
  | [], l, r, h, hp => by
      obtain rfl := Option.some.inj hp
      exact h
  | p :: ps, l, r, h, hp => by
      unfold T.applyFrom at hp
      cases hq : T.patchP l p with
      | none => rw [hq] at hp; cases hp
      | some m =>
        rw [hq] at hp
        exact applyFrom_tree ps m r (patchP_tree h hq) hp

theorem applyO_len (old : List T.Nd) (ps : List T.Pt) : (T.applyO old ps).length ≤ 16 := by
  unfold T.applyO
  split
  · rename_i h
    cases hq : T.applyFrom old ps with
    | none => simp
    | some r => exact ((T.isTree_iff _).1 (applyFrom_tree ps old r h hq)).1
  · simp

/-- What the document's Apply hands back. -/
def refApplyEnd (old : List T.Nd) (ps : List T.Pt) (w : World) (e : Ending) (w' : World) : Prop :=
  ∃ ao cap, e = .returned (.tuple #[.slice ao (T.applyO old ps).length cap, .int .i64 (T.applyE old ps)]) ∧ NodeAt w' ao (T.applyO old ps) ∧ Below w.heap.size w w'

theorem refApplyEnd_tree {old : List T.Nd} {ps : List T.Pt} {w w' : World} (h : T.isTree old = false) (hb : Below w.heap.size w w') : refApplyEnd old ps w (.returned (.tuple #[.slice none 0 0, .int .i64 3])) w' := by
  have e : T.applyO old ps = [] := by simp [T.applyO, h]
  exact ⟨none, 0, by rw [e]; simp [T.applyE, h], by rw [e]; exact Or.inl rfl, hb⟩

theorem refApplyEnd_patch {old : List T.Nd} {ps : List T.Pt} {w w' : World} (h : T.isTree old = true) (hn : T.applyFrom old ps = none) (hb : Below w.heap.size w w') : refApplyEnd old ps w (.returned (.tuple #[.slice none 0 0, .int .i64 4])) w' := by
  have e : T.applyO old ps = [] := by simp [T.applyO, h, hn]
  exact ⟨none, 0, by rw [e]; simp [T.applyE, h, hn], by rw [e]; exact Or.inl rfl, hb⟩

theorem refApplyEnd_good {old r : List T.Nd} {ps : List T.Pt} {w w' : World} {ao : Option Addr} {cap : Nat} (h : T.isTree old = true) (hn : T.applyFrom old ps = some r) (ho : NodeAt w' ao r) (hb : Below w.heap.size w w') : refApplyEnd old ps w (.returned (.tuple #[.slice ao r.length cap, .int .i64 0])) w' := by
  have e : T.applyO old ps = r := by simp [T.applyO, h, hn]
  exact ⟨ao, cap, by rw [e]; simp [T.applyE, h, hn], by rw [e]; exact ho, hb⟩

set_option maxRecDepth 100000 in
set_option maxHeartbeats 4000000 in
theorem refApply_any (oo po : Option Addr) (oc pc : Nat) (old : List T.Nd) (ps : List T.Pt) (w : World) (hlo : old.length ≤ maxLen) (hlp : ps.length ≤ 5864062014800) (hao : NodeAt w oo old) (hko : ndOk old) (hso : ndSmall old) (hap : PtAt w po ps) (hkp : ptOk ps) (hsp : ∀ p ∈ ps, p.2.2.2.2.size ≤ 4611686018427387904) :
    Calls Try.prog 19 #[.slice oo old.length oc, .slice po ps.length pc] w fun e w' => refApplyEnd old ps w e w' := by
  have HT : Hid (∀ u : World, Below w.heap.size w u → Calls Try.prog 21 #[.slice oo old.length oc] u fun e w' => e = .returned (.bool (T.isTree old)) ∧ Below u.heap.size u w') := fun u hu => refTree_any oo oc old u hlo (hao.below hu (Nat.le_refl _) hu.size) hso
  obtain ⟨n, hn⟩ : ∃ n, n = ps.length := ⟨_, rfl⟩
  have Hn : Hid (ps.length = n) := hn.symm
  rw [← hn] at hlp ⊢
  have HA : Hid (PtAt w po ps) := hap
  have HK : Hid (ptOk ps) := hkp
  have HSp : Hid (∀ p ∈ ps, p.2.2.2.2.size ≤ 4611686018427387904) := hsp
  have HAo : Hid (NodeAt w oo old) := hao
  have HKo : Hid (ndOk old) := hko
  obtain ⟨on, hon⟩ : ∃ n, n = old.length := ⟨_, rfl⟩
  have HOn : Hid (old.length = on) := hon.symm
  rw [← hon] at HT ⊢
  clear hn hao hko hap hkp hsp hso hlo hon
  cases hit : T.isTree old with
  | false =>
    have HI : Hid (T.isTree old = false) := hit
    rw [hit] at HT
    clear hit
    go_enter Try.func19, Try.ntmps19
    go_wp2_with fail
    refine (HT.out _ (Below.refl _ _)).mono ?_
    rintro e w1 ⟨rfl, hb1⟩
    go_wp2
    go_ret2
    exact refApplyEnd_tree HI.out hb1
  | true =>
    have HI : Hid (T.isTree old = true) := hit
    rw [hit] at HT
    clear hit
    go_enter Try.func19, Try.ntmps19
    go_wp2_with fail
    refine (HT.out _ (Below.refl _ _)).mono ?_
    rintro e w1 ⟨rfl, hb1⟩
    have B1 : Hid (Below w.heap.size w w1) := hb1
    clear hb1 HT
    go_wp2_with fail
    go_loopw [7, 8] (fun v i wr => ∃ (k cn : Nat) (no : Option Addr) (now : List T.Nd), v = .slice no now.length cn ∧ k ≤ n ∧ i = .int .i64 k ∧ Hid (NodeAt wr no now ∧ Below w.heap.size w wr) ∧ Hid (T.applyFrom old ps = T.applyFrom now (ps.drop k)) ∧ Hid (T.isTree now = true ∧ ndOk now))
      (fun _ i _ => n - (intOf i).toNat)
    case atStart => exact ⟨0, oc, oo, old, by rw [HOn.out], Nat.zero_le _, rfl, ⟨HAo.out.below B1.out (Nat.le_refl _) B1.out.size, B1.out⟩, rfl, HI.out, HKo.out⟩
    case round =>
      obtain ⟨k, cn, no, now, rfl, hk, rfl, HM, HF, HN⟩ := hrel
      clear B1
      have hsz := HM.out.2.size
      by_cases hlt : k < n
      · obtain ⟨p, hp⟩ : ∃ x, ps[k]? = some x := ⟨ps[k]'(by have := Hn.out; omega), List.getElem?_eq_getElem (by have := Hn.out; omega)⟩
        obtain ⟨b, off, rfl, hbl, hr⟩ : ∃ b off, po = some ⟨b, off, none⟩ ∧ b < w.heap.size ∧ PtRow w b off ps := HA.out.resolve_left (by rintro rfl; simp at hp)
        have hpk := HK.out p (List.mem_of_getElem? hp)
        have hps := HSp.out p (List.mem_of_getElem? hp)
        have HS : Hid (T.applyFrom old ps = match T.patchP now p with | none => none | some l => T.applyFrom l (ps.drop (k + 1))) := by
          unfold Hid
          rw [HF.out, drop_cons ps k _ hp]
          rfl
        have HOK : Hid (∀ r, T.patchP now p = some r → T.isTree r = true ∧ ndOk r) := fun r h => ⟨patchP_tree HN.out.1 h, (patchP_ok ((T.isTree_iff now).1 HN.out.1).1 HN.out.2 hpk h).2⟩
        obtain ⟨p1, p2, p3, p4, p5⟩ := p
        obtain ⟨c0, c1, c2, c3, c4⟩ := (hr.below HM.out.2 hbl) k _ hp
        simp only at c0 c1 c2 c3 c4 hpk hps
        have HC : Hid (Calls Try.prog 39 #[.slice no now.length cn, .agg #[.int .u8 p1, .int .u8 p2, .int .i64 p3, .int .u16 p4, .string p5]] wr fun e w' => refEnd (T.patchP now (p1, p2, p3, p4, p5)) wr.heap.size wr e w') :=
          refPatch_any no cn now p1 p2 p3 p4 p5 wr HM.out.1 HN.out.2 HN.out.1 hpk.1 hps
        generalize now.length = nn at HC ⊢
        have hki : (k : Int) < (n : Int) := by omega
        have hk0 : (0 : Int) ≤ (k : Int) := by omega
        clear hp hr hpk hps
        go_wp2_with fail
        refine HC.out.mono ?_
        rintro e w3 ⟨v3, rfl, ho3, hb3⟩
        have HB3 : Hid (Below w.heap.size w w3) := HM.out.2.trans (hb3.mono hsz)
        cases hpp : T.patchP now (p1, p2, p3, p4, p5) with
        | none =>
          have HV : Hid (T.applyFrom old ps = none) := by unfold Hid; rw [HS.out, hpp]
          simp only [Option.isSome_none]
          clear ho3 hb3 HC hpp
          go_wp2
          go_ret2
          exact refApplyEnd_patch HI.out HV.out HB3.out
        | some r =>
          have HV : Hid (T.applyFrom old ps = T.applyFrom r (ps.drop (k + 1))) := by unfold Hid; rw [HS.out, hpp]
          have ho3' := ho3 r hpp
          simp only [Option.isSome_some]
          obtain ⟨ro, rc, rfl, _, hro, _⟩ := own_slice_none ho3'
          have HM3 : Hid (NodeAt w3 ro r ∧ Below w.heap.size w w3) := ⟨hro, HB3.out⟩
          have HR : Hid (T.isTree r = true ∧ ndOk r) := HOK.out r hpp
          clear ho3 ho3' hb3 HC hpp hro
          go_wp2
          go_roundw
          case rel => exact ⟨k + 1, rc, ro, r, rfl, by omega, by go_num, HM3, HV, HR⟩
          case measure => simp [intOf]; omega
      · have HV : Hid (T.applyFrom old ps = some now) := by
          unfold Hid
          rw [HF.out, List.drop_of_length_le (by have := Hn.out; omega)]
          rfl
        have hki : ¬ (k : Int) < (n : Int) := by omega
        go_wp2
        go_ret2
        exact refApplyEnd_good HI.out HV.out HM.out.1 HM.out.2

end Go.Proofs.Ytcaeeaiodbjacaa
