/-
  Diff: it makes the one tree of the other, by as many patches as the document says.
-/
import Derived.Test.YtcaeeaiodbjacaaDiffD
namespace Go.Proofs.Ytcaeeaiodbjacaa
set_option linter.unusedVariables false
namespace T

theorem was_at {now0 next : List Nd} {j : Nat} {x : Nd} (h : next[j]? = some x) : (wasOf now0 next)[j]? = some (place now0 x.1) := by
  unfold wasOf
  rw [List.getElem?_map, h]
  rfl

theorem has_place {l : List Nd} {i : Int} (h : 0 ≤ place l i) : has l i = true := by
  cases hh : has l i with
  | true => rfl
  | false => rw [place_no hh] at h; omega

theorem marks_has {now0 next : List Nd} {j : Nat} {z : Nd} (hz : next[j]? = some z) (h : (marksOf (wasOf now0 next))[j]? = some true) : has now0 z.1 = true := by
  obtain ⟨u, hu, h0⟩ := marks_pos h
  rw [was_at hz] at hu
  cases hu
  exact has_place h0

theorem rest_sub (now0 next : List Nd) : (restL (ids next) (marksOf (wasOf now0 next))).Sublist (ids now0) := by
  have key : ∀ (j : Nat) (z : Int), (ids next)[j]? = some z → ∃ x, next[j]? = some x ∧ x.1 = z := by
    intro j z h
    unfold ids at h
    rw [List.getElem?_map] at h
    cases hx : next[j]? with
    | none => rw [hx] at h; simp at h
    | some x =>
      rw [hx] at h
      simp at h
      exact ⟨x, rfl, h⟩
  refine sub_of_rise (ids now0) _ 0 ?_ ?_
  · intro z hz
    obtain ⟨j, h1, h2⟩ := restL_mem _ _ z hz
    obtain ⟨x, hx, rfl⟩ := key j z h1
    exact mem_ids.2 (marks_has hx h2)
  · refine restL_rise _ _ _ ?_
    intro i j x y hij hi hj hx hy
    obtain ⟨x', hx', rfl⟩ := key i x hx
    obtain ⟨y', hy', rfl⟩ := key j y hy
    rw [← place_ix, ← place_ix]
    exact marks_rise hij hi hj (was_at hx') (was_at hy')

theorem isTree_sub {l m : List Nd} (h : isTree l = true) (hs : m.Sublist l) : isTree m = true := by
  rw [isTree_iff] at h ⊢
  exact ⟨Nat.le_trans hs.length_le h.1, fun x hx => h.2.1 x (hs.subset hx), h.2.2.sublist hs⟩

theorem J_start {now0 next : List Nd} (h0 : isTree now0 = true) (hk : ∀ y ∈ now0, ∃ x ∈ next, x.1 = y.1 ∧ x.2.1 = y.2.1) : J next now0 (marksOf (wasOf now0 next)) 0 now0 := by
  refine ⟨h0, hk, ?_, ?_, fun y hy => Or.inl hy⟩
  · intro j x hx
    simp
  · simp only [List.take_zero, List.drop_zero, List.nil_append]
    have := filter_sub (ids now0) _ (ids_nodup ((isTree_iff _).1 h0).2.2) (rest_sub now0 next)
    conv => rhs; rw [← this]
    apply List.filter_congr
    intro z _
    simp

theorem J_end {now0 next now : List Nd} {M : List Bool} (hM : M.length = next.length) (h : J next now0 M next.length now) : ids now = ids next := by
  have ho := h.ord
  have hl : (ids next).length = next.length := by simp [ids]
  rw [← hl, List.take_length, List.drop_length] at ho
  have e : restL [] (M.drop (ids next).length) = [] := by
    cases M.drop (ids next).length <;> rfl
  rw [e, List.append_nil] at ho
  rw [← ho]
  symm
  rw [List.filter_eq_self]
  intro z hz
  obtain ⟨y, hy, rfl⟩ := List.mem_map.1 hz
  obtain ⟨x, hx, e1, _⟩ := h.keys y hy
  simp
  rw [← e1]
  exact List.mem_map.2 ⟨x, hx, rfl⟩

def rtCount : List Nd → List Nd → Nat
  | y :: nr, x :: r => (if y.2.2 = x.2.2 then 0 else 1) + rtCount nr r
  | _, _ => 0

def idkey (l : List Nd) : List (Int × Int) := l.map fun x => (x.1, x.2.1)

theorem apart_idkey {l m : List Nd} (h : idkey l = idkey m) (hl : l.Pairwise apart) : m.Pairwise apart := by
  have e : ∀ t : List Nd, t.Pairwise apart ↔ (idkey t).Pairwise (fun a b => a.1 ≠ b.1 ∧ a.2 ≠ b.2) := by
    intro t
    unfold idkey
    rw [List.pairwise_map]
    exact Iff.rfl
  rw [e] at hl ⊢
  rw [← h]
  exact hl

theorem rt_spec {old0 : List Nd} : ∀ (suf pre nsuf : List Nd) (ps : List Pt), Good old0 (pre ++ nsuf, ps) → idkey nsuf = idkey suf → (∀ x ∈ suf, okNd x = true) →
    (rtAll suf (pre ++ nsuf, ps)).1 = pre ++ suf ∧ Good old0 (rtAll suf (pre ++ nsuf, ps)) ∧ (rtAll suf (pre ++ nsuf, ps)).2.length = ps.length + rtCount nsuf suf
  | [], pre, nsuf, ps, h, he, _ => by
      have : nsuf = [] := by simpa [idkey] using he
      subst this
      exact ⟨rfl, h, by simp [rtAll, rtCount]⟩
  | x :: r, pre, nsuf, ps, h, he, hok => by
      match nsuf, he with
      | [], he => simp [idkey] at he
      | y :: nr, he =>
        simp only [idkey, List.map_cons, List.cons.injEq, Prod.mk.injEq] at he
        obtain ⟨⟨e1, e2⟩, he2⟩ := he
        have hat : (pre ++ y :: nr)[pre.length]? = some y := by simp
        have hap := ((isTree_iff _).1 h.2).2.2
        have hpl : place (pre ++ y :: nr) x.1 = pre.length := by rw [← e1]; exact place_at hap hat
        have hgd : (pre ++ y :: nr).getD pre.length nd0 = y := by rw [List.getD, hat]; rfl
        unfold rtAll rtOne
        simp only
        rw [hpl, show ((pre.length : Int)).toNat = pre.length by omega, hgd]
        by_cases ht : y.2.2 = x.2.2
        · have hyx : y = x := by
            obtain ⟨y1, y2, y3⟩ := y
            obtain ⟨x1, x2, x3⟩ := x
            simp only at e1 e2 ht
            rw [e1, e2, ht]
          subst hyx
          rw [if_neg (by simp)]
          have e : pre ++ y :: nr = (pre ++ [y]) ++ nr := by simp
          rw [e] at h ⊢
          obtain ⟨h1, h2, h3⟩ := rt_spec r (pre ++ [y]) nr ps h he2 (fun z hz => hok z (by simp [hz]))
          refine ⟨by rw [h1]; simp, h2, ?_⟩
          rw [h3]
          simp [rtCount]
        · rw [if_pos ⟨by omega, ht⟩]
          have her : (pre ++ y :: nr).eraseIdx pre.length = pre ++ nr := by
            rw [List.eraseIdx_append_of_length_le (Nat.le_refl _)]
            simp
          have hput : put (pre ++ nr) pre.length (y.1, y.2.1, x.2.2) = (pre ++ [x]) ++ nr := by
            unfold put
            have : (y.1, y.2.1, x.2.2) = x := by rw [e1, e2]
            rw [this]
            simp
          have htree : isTree ((pre ++ [x]) ++ nr) = true := by
            have ho := (isTree_iff _).1 h.2
            rw [isTree_iff]
            refine ⟨by have := ho.1; simpa using this, ?_, apart_idkey (l := pre ++ y :: nr) (by simp [idkey, e1, e2]) hap⟩
            intro z hz
            simp only [List.mem_append, List.mem_singleton] at hz
            rcases hz with (hz | hz) | hz
            · exact ho.2.1 z (by simp [hz])
            · subst hz; exact hok z (by simp)
            · exact ho.2.1 z (by simp [hz])
          have hp : patchP (pre ++ y :: nr) (4, x.1, 0, 0, x.2.2) = some ((pre ++ [x]) ++ nr) := by
            unfold patchP patchO
            simp only
            rw [if_neg (by decide), hpl, if_neg (by omega), if_neg (by decide), if_neg (by decide), if_pos trivial, show ((pre.length : Int)).toNat = pre.length by omega, her]
            have hgd' : (pre ++ y :: nr).getD pre.length (0, 0, ⟨#[]⟩) = y := hgd
            rw [hgd']
            unfold withO withOk
            rw [show ((pre.length : Int)).toNat = pre.length by omega, hput, htree]
            have : decide ((0 : Int) ≤ (pre.length : Int) ∧ (pre.length : Int) ≤ ((pre ++ nr).length : Int)) = true := by simp; omega
            rw [this]
            rfl
          obtain ⟨e, hg'⟩ := good_do h hp
          rw [e] at hg' ⊢
          obtain ⟨h1, h2, h3⟩ := rt_spec r (pre ++ [x]) nr _ hg' he2 (fun z hz => hok z (by simp [hz]))
          refine ⟨by rw [h1]; simp, h2, ?_⟩
          rw [h3]
          simp [rtCount, ht]
          omega

/-- The nodes of old that stay. -/
def stayN (old next : List Nd) : List Nd := old.filter (stays next)

/-- What Diff comes to. -/
theorem diff_spec {old next : List Nd} (ho : isTree old = true) (hn : isTree next = true) : ∃ now1 : List Nd, applyFrom old (diff old next) = some next ∧
    J next (stayN old next) (marksOf (wasOf (stayN old next) next)) next.length now1 ∧ (diff old next).length = (old.filter fun x => !stays next x).length + costsAll (stayN old next) next (marksOf (wasOf (stayN old next) next)) + rtCount now1 next := by
  have hNt := (isTree_iff next).1 hn
  obtain ⟨r1, r2⟩ := rm_spec (old0 := old) (next := next) old [] [] ⟨rfl, ho⟩
  simp only [List.nil_append] at r1 r2
  have h0 : isTree (stayN old next) = true := isTree_sub ho List.filter_sublist
  have hk : ∀ y ∈ stayN old next, ∃ x ∈ next, x.1 = y.1 ∧ x.2.1 = y.2.1 := by
    intro y hy
    unfold stayN at hy
    rw [List.mem_filter] at hy
    exact (stays_iff hNt.2.2 y).1 hy.2
  have hM : (marksOf (wasOf (stayN old next) next)).length = next.length := by rw [marks_length]; simp [wasOf]
  have r3 : rmAll next old (old, []) = (stayN old next, (old.filter fun x => !stays next x).map fun x => (1, x.1, 0, 0, ⟨#[]⟩)) := r1
  rw [r3] at r2
  obtain ⟨a1, a2, a3⟩ := arr_spec (old := old) hn hM (fun j z hz h => marks_has hz h) next 0 _ rfl (Nat.zero_le _) r2 (J_start h0 hk)
  have e : arrange next (rmAll next old (old, [])) = arrFrom next (wasOf (stayN old next) next) (marksOf (wasOf (stayN old next) next)) 0 next (stayN old next, (old.filter fun x => !stays next x).map fun x => (1, x.1, 0, 0, ⟨#[]⟩)) := by rw [r3]; rfl
  unfold diff
  rw [e]
  generalize arrFrom next (wasOf (stayN old next) next) (marksOf (wasOf (stayN old next) next)) 0 next (stayN old next, (old.filter fun x => !stays next x).map fun x => (1, x.1, 0, 0, ⟨#[]⟩)) = c at a1 a2 a3
  have hids := J_end hM a2
  have hik : idkey c.1 = idkey next := by
    apply List.ext_getElem?
    intro i
    have hl : c.1.length = next.length := by
      have := congrArg List.length hids
      simpa [ids] using this
    unfold idkey
    rw [List.getElem?_map, List.getElem?_map]
    by_cases hi : i < next.length
    · have hx : next[i]? = some next[i] := List.getElem?_eq_getElem hi
      have hy : c.1[i]? = some (c.1[i]'(by omega)) := List.getElem?_eq_getElem (by omega)
      have e1 := ids_at hx
      have e2 := ids_at hy
      rw [hids, e1] at e2
      have e3 : next[i].1 = (c.1[i]'(by omega)).1 := by simpa using e2
      obtain ⟨x, hx', q1, q2⟩ := a2.keys _ (List.mem_of_getElem? hy)
      have := apart_mem hNt.2.2 hx' (List.mem_of_getElem? hx) (Or.inl (by omega))
      subst this
      rw [hx, hy]
      simp [q1, q2]
    · rw [List.getElem?_eq_none (by omega), List.getElem?_eq_none (by omega)]
  have hrt := rt_spec (old0 := old) next [] c.1 c.2 a1 hik hNt.2.1
  simp only [List.nil_append] at hrt
  obtain ⟨t1, t2, t3⟩ := hrt
  refine ⟨c.1, ?_, a2, ?_⟩
  · have := t2.1
    rw [t1] at this
    exact this
  · rw [t3, a3]
    simp

end T
end Go.Proofs.Ytcaeeaiodbjacaa
