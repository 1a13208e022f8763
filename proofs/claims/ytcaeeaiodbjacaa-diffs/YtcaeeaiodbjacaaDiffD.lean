/-
  Diff: bringing into the order of next.
-/
import Derived.Test.YtcaeeaiodbjacaaDiffC
namespace Go.Proofs.Ytcaeeaiodbjacaa
set_option linter.unusedVariables false
namespace T

/-- i nodes of next are in their order. -/
structure J (next now0 : List Nd) (M : List Bool) (i : Nat) (now : List Nd) : Prop where
  tree : isTree now = true
  keys : ∀ y ∈ now, ∃ x ∈ next, x.1 = y.1 ∧ x.2.1 = y.2.1
  mem : ∀ (j : Nat) (x : Nd), next[j]? = some x → (has now x.1 = true ↔ (j < i ∨ has now0 x.1 = true))
  ord : (ids now).filter (fun z => decide (z ∈ (ids next).take i ∨ z ∈ restL ((ids next).drop i) (M.drop i))) = (ids next).take i ++ restL ((ids next).drop i) (M.drop i)
  txt : ∀ y ∈ now, y ∈ now0 ∨ (y ∈ next ∧ has now0 y.1 = false)

theorem ids_at {l : List Nd} {i : Nat} {x : Nd} (h : l[i]? = some x) : (ids l)[i]? = some x.1 := by
  unfold ids
  rw [List.getElem?_map, h]
  rfl

theorem ids_put (E : List Nd) (k : Nat) (y : Nd) : ids (put E k y) = (ids E).take k ++ [y.1] ++ (ids E).drop k := by
  unfold ids put
  simp [List.map_take, List.map_drop]

theorem drop_at {α : Type} {l : List α} {i : Nat} {x : α} (h : l[i]? = some x) : l.drop i = x :: l.drop (i + 1) := by
  obtain ⟨h1, rfl⟩ := List.getElem?_eq_some_iff.1 h
  exact List.drop_eq_getElem_cons h1

theorem take_at {α : Type} {l : List α} {i : Nat} {x : α} (h : l[i]? = some x) : l.take (i + 1) = l.take i ++ [x] := by
  rw [List.take_add_one, h]
  rfl

theorem not_take {l : List Int} {i : Nat} {x : Int} (hn : l.Nodup) (h : l[i]? = some x) : x ∉ l.take i ∧ x ∉ l.drop (i + 1) := by
  have e : l = l.take i ++ x :: l.drop (i + 1) := by
    rw [← drop_at h, List.take_append_drop]
  rw [e, List.nodup_append, List.nodup_cons] at hn
  obtain ⟨_, ⟨h1, _⟩, h2⟩ := hn
  exact ⟨fun q => h2 x q x (by simp) rfl, h1⟩

theorem pairwise_put {E : List Nd} {k : Nat} {y : Nd} (h : E.Pairwise apart) (hy : ∀ z ∈ E, apart z y) : (put E k y).Pairwise apart := by
  unfold put
  rw [← List.take_append_drop k E, List.pairwise_append] at h
  rw [List.pairwise_append, List.pairwise_append]
  refine ⟨⟨h.1, by simp, ?_⟩, h.2.1, ?_⟩
  · intro a ha b hb
    rw [List.mem_singleton] at hb
    subst hb
    exact hy a (List.mem_of_mem_take ha)
  · intro a ha b hb
    rcases List.mem_append.1 ha with ha | ha
    · exact h.2.2 a ha b hb
    · rw [List.mem_singleton] at ha
      subst ha
      have := hy b (List.mem_of_mem_drop hb)
      exact ⟨fun e => this.1 e.symm, fun e => this.2 e.symm⟩

theorem has_put (E : List Nd) (k : Nat) (y : Nd) (t : Int) : has (put E k y) t = true ↔ (has E t = true ∨ t = y.1) := by
  simp only [← mem_ids]
  rw [ids_put]
  simp only [List.mem_append, List.mem_singleton]
  have e : t ∈ ids E ↔ (t ∈ (ids E).take k ∨ t ∈ (ids E).drop k) := by
    conv => lhs; rw [← List.take_append_drop k (ids E)]
    rw [List.mem_append]
  rw [e]
  constructor
  · rintro ((h | h) | h)
    · exact Or.inl (Or.inl h)
    · exact Or.inr h
    · exact Or.inl (Or.inr h)
  · rintro ((h | h) | h)
    · exact Or.inl (Or.inl h)
    · exact Or.inr h
    · exact Or.inl (Or.inr h)

/-- A node comes to stand behind those that are in their order. -/
theorem J_put {next now0 now E : List Nd} {M : List Bool} {i k : Nat} {x y : Nd} (hN : isTree next = true) (hJ : J next now0 M i now) (hx : next[i]? = some x) (hm : M[i]? = some false) (hy1 : y.1 = x.1) (hy2 : y.2.1 = x.2.1) (hok : okNd y = true) (hty : y ∈ now0 ∨ (y ∈ next ∧ has now0 y.1 = false))
    (hE : (E = now ∧ has now x.1 = false) ∨ ∃ (p : Nat) (u : Nd), now[p]? = some u ∧ u.1 = x.1 ∧ E = now.eraseIdx p)
    (hk : (i = 0 ∧ k = 0) ∨ ∃ z, 0 < i ∧ next[i - 1]? = some z ∧ place E z.1 + 1 = k) :
    withO E k y = some (put E k y) ∧ J next now0 M (i + 1) (put E k y) := by
  have hNt := (isTree_iff next).1 hN
  have hNn := ids_nodup hNt.2.2
  have hnt := (isTree_iff now).1 hJ.tree
  have hxi := ids_at hx
  obtain ⟨hx1, hx2⟩ := not_take hNn hxi
  have hrest : restL ((ids next).drop i) (M.drop i) = restL ((ids next).drop (i + 1)) (M.drop (i + 1)) := by
    rw [drop_at hxi, drop_at hm]
    rfl
  have hxr : x.1 ∉ restL ((ids next).drop i) (M.drop i) := by
    rw [hrest]
    intro h
    exact hx2 ((restL_sub _ _).subset h)
  have hsub : E.Sublist now := by
    rcases hE with ⟨rfl, _⟩ | ⟨p, u, _, _, rfl⟩
    · exact List.Sublist.refl _
    · exact List.eraseIdx_sublist _ _
  have hxE : x.1 ∉ ids E := by
    rcases hE with ⟨rfl, h⟩ | ⟨p, u, hu, hux, rfl⟩
    · rw [mem_ids, h]; simp
    · intro h
      obtain ⟨q, v, hv, hvx⟩ := has_at (mem_ids.1 h)
      rw [List.getElem?_eraseIdx] at hv
      split at hv
      · rename_i hqp
        have := apart_at hnt.2.2 hv hu (by omega)
        omega
      · rename_i hqp
        have := apart_at hnt.2.2 hv hu (by omega)
        omega
  have hfilt : (ids E).filter (fun z => decide (z ∈ (ids next).take i ∨ z ∈ restL ((ids next).drop i) (M.drop i))) = (ids next).take i ++ restL ((ids next).drop i) (M.drop i) := by
    rw [← hJ.ord]
    rcases hE with ⟨rfl, _⟩ | ⟨p, u, hu, hux, rfl⟩
    · rfl
    · have e : now = now.take p ++ u :: now.drop (p + 1) := by rw [← drop_at hu, List.take_append_drop]
      have e2 : now.eraseIdx p = now.take p ++ now.drop (p + 1) := List.eraseIdx_eq_take_drop_succ now p
      rw [e2]
      conv => rhs; rw [e]
      unfold ids
      rw [List.map_append, List.map_append, List.filter_append, List.filter_append, List.map_cons, List.filter_cons, if_neg]
      simp only [hux, decide_eq_true_eq]
      rintro (h | h)
      · exact hx1 h
      · exact hxr h
  have hEp : E.Pairwise apart := hnt.2.2.sublist hsub
  have hmain := put_filter (E := ids E) (P := (ids next).take i) (Q := restL ((ids next).drop i) (M.drop i)) (x := x.1) (R := fun z => decide (z ∈ (ids next).take i ∨ z ∈ restL ((ids next).drop i) (M.drop i))) (R' := fun z => decide (z ∈ (ids next).take (i + 1) ∨ z ∈ restL ((ids next).drop (i + 1)) (M.drop (i + 1)))) (k := k) (ids_nodup hEp) hxE
    (by
      intro z hz
      rw [hrest, take_at hxi]
      simp [hz])
    (by rw [take_at hxi]; simp) hfilt
    (by
      rcases hk with ⟨rfl, rfl⟩ | ⟨z, hi0, hz, hk⟩
      · exact Or.inl ⟨rfl, rfl⟩
      · right
        refine ⟨(ids next).take (i - 1), z.1, ?_, ?_⟩
        · have := take_at (ids_at hz)
          rwa [show i - 1 + 1 = i by omega] at this
        · rw [← place_ix]
          exact hk)
  obtain ⟨hord, hkE⟩ := hmain
  have hap : ∀ z ∈ E, apart z y := by
    intro z hz
    have h1 : z.1 ≠ x.1 := by
      intro h
      exact hxE (by rw [← h]; exact List.mem_map.2 ⟨z, hz, rfl⟩)
    refine ⟨by omega, ?_⟩
    obtain ⟨x', hx', e1, e2⟩ := hJ.keys z (hsub.subset hz)
    intro h
    have := apart_mem hNt.2.2 hx' (List.mem_of_getElem? hx) (Or.inr (by omega))
    subst this
    omega
  have hpw := pairwise_put (k := k) hEp hap
  have hkeys : ∀ z ∈ put E k y, ∃ x ∈ next, x.1 = z.1 ∧ x.2.1 = z.2.1 := by
    intro z hz
    unfold put at hz
    simp only [List.mem_append, List.mem_singleton] at hz
    rcases hz with (hz | hz) | hz
    · exact hJ.keys z (hsub.subset (List.mem_of_mem_take hz))
    · subst hz
      exact ⟨x, List.mem_of_getElem? hx, hy1.symm, hy2.symm⟩
    · exact hJ.keys z (hsub.subset (List.mem_of_mem_drop hz))
  have htree : isTree (put E k y) = true := by
    rw [isTree_iff]
    refine ⟨?_, ?_, hpw⟩
    · have := nodup_le (ids (put E k y)) (ids next) (ids_nodup hpw) (by
        intro t ht
        obtain ⟨z, hz, rfl⟩ := List.mem_map.1 ht
        obtain ⟨x', hx', e1, _⟩ := hkeys z hz
        exact List.mem_map.2 ⟨x', hx', e1⟩)
      simp only [ids, List.length_map] at this
      omega
    · intro z hz
      unfold put at hz
      simp only [List.mem_append, List.mem_singleton] at hz
      rcases hz with (hz | hz) | hz
      · exact hnt.2.1 z (hsub.subset (List.mem_of_mem_take hz))
      · subst hz; exact hok
      · exact hnt.2.1 z (hsub.subset (List.mem_of_mem_drop hz))
  refine ⟨?_, ⟨htree, hkeys, ?_, ?_, ?_⟩⟩
  · unfold withO withOk
    rw [show ((k : Int)).toNat = k by omega, htree]
    have hkl : k ≤ E.length := by simpa [ids] using hkE
    have : decide ((0 : Int) ≤ (k : Int) ∧ (k : Int) ≤ (E.length : Int)) = true := by simp; omega
    rw [this]
    rfl
  · intro j x' hx'
    rw [has_put, hy1]
    by_cases hji : j = i
    · subst hji
      rw [hx] at hx'
      cases hx'
      constructor
      · intro _; exact Or.inl (by omega)
      · intro _; exact Or.inr rfl
    · have hne : x'.1 ≠ x.1 := fun h => hji (apart_at hNt.2.2 hx' hx h)
      have hEn : has E x'.1 = true ↔ has now x'.1 = true := by
        rcases hE with ⟨rfl, _⟩ | ⟨p, u, hu, hux, rfl⟩
        · exact Iff.rfl
        · constructor
          · intro h
            obtain ⟨q, v, hv, hvx⟩ := has_at h
            have hm := List.mem_of_mem_eraseIdx (List.mem_of_getElem? hv)
            simp only [has, List.any_eq_true, decide_eq_true_eq]
            exact ⟨v, hm, hvx⟩
          · intro h
            obtain ⟨q, v, hv, hvx⟩ := has_at h
            have hqp : q ≠ p := by
              rintro rfl
              rw [hu] at hv
              cases hv
              exact hne (by omega)
            simp only [has, List.any_eq_true, decide_eq_true_eq]
            refine ⟨v, ?_, hvx⟩
            rw [List.mem_iff_getElem?]
            by_cases hlt : q < p
            · exact ⟨q, by rw [List.getElem?_eraseIdx, if_pos hlt]; exact hv⟩
            · refine ⟨q - 1, ?_⟩
              rw [List.getElem?_eraseIdx, if_neg (by omega), show q - 1 + 1 = q by omega]
              exact hv
      rw [hEn, hJ.mem j x' hx']
      constructor
      · rintro ((h | h) | h)
        · exact Or.inl (by omega)
        · exact Or.inr h
        · exact absurd h hne
      · rintro (h | h)
        · exact Or.inl (Or.inl (by omega))
        · exact Or.inl (Or.inr h)
  · rw [ids_put, hy1, hord, hrest, take_at hxi]
  · intro z hz
    unfold put at hz
    simp only [List.mem_append, List.mem_singleton] at hz
    rcases hz with (hz | hz) | hz
    · exact hJ.txt z (hsub.subset (List.mem_of_mem_take hz))
    · subst hz; exact hty
    · exact hJ.txt z (hsub.subset (List.mem_of_mem_drop hz))

theorem take_last {l : List Nd} {i : Nat} (hi : i ≤ l.length) : (l.take i).getLast? = if i = 0 then none else l[i - 1]? := by
  cases i with
  | zero => simp
  | succ i =>
    have hlt : i < l.length := by omega
    rw [if_neg (by omega), take_at (List.getElem?_eq_getElem hlt), List.getLast?_concat, Nat.add_sub_cancel]
    exact (List.getElem?_eq_getElem hlt).symm

theorem place_erase {l : List Nd} {p q : Nat} {z : Nd} (h : l.Pairwise apart) (hz : l[q]? = some z) (hne : p ≠ q) : place (l.eraseIdx p) z.1 = if p < q then (q : Int) - 1 else q := by
  have hp : (l.eraseIdx p).Pairwise apart := h.sublist (List.eraseIdx_sublist _ _)
  by_cases hlt : p < q
  · rw [if_pos hlt, place_at (j := q - 1) hp (by rw [List.getElem?_eraseIdx, if_neg (by omega), show q - 1 + 1 = q by omega]; exact hz)]
    omega
  · rw [if_neg hlt, place_at (j := q) hp (by rw [List.getElem?_eraseIdx, if_pos (by omega)]; exact hz)]

/-- How many patches a node of next costs here. -/
def costs (now0 : List Nd) (x : Nd) (m : Bool) : Nat := if has now0 x.1 then (if m then 0 else 1) else 1

theorem arrOne_spec {old next now0 : List Nd} {M : List Bool} {i : Nat} {x : Nd} {c : Ch} (hN : isTree next = true) (hM : M.length = next.length) (hM0 : ∀ (j : Nat) (z : Nd), next[j]? = some z → M[j]? = some true → has now0 z.1 = true)
    (hg : Good old c) (hJ : J next now0 M i c.1) (hx : next[i]? = some x) (m : Bool) (hm : M[i]? = some m) :
    Good old (arrOne next (wasOf now0 next) M i x c) ∧ J next now0 M (i + 1) (arrOne next (wasOf now0 next) M i x c).1 ∧ (arrOne next (wasOf now0 next) M i x c).2.length = c.2.length + costs now0 x m := by
  have hNt := (isTree_iff next).1 hN
  have hnt := (isTree_iff c.1).1 hJ.tree
  have hil : i < next.length := (List.getElem?_eq_some_iff.1 hx).1
  have hw : (wasOf now0 next).getD i 0 = place now0 x.1 := by
    unfold wasOf
    rw [List.getD, List.getElem?_map, hx]
    rfl
  have hmd : M.getD i true = m := by rw [List.getD, hm]; rfl
  have hbeh : ∃ k : Nat, behind c.1 (next.take i) = k ∧ ((i = 0 ∧ k = 0) ∨ ∃ (z : Nd) (q : Nat), 0 < i ∧ next[i - 1]? = some z ∧ (∃ v, c.1[q]? = some v ∧ v.1 = z.1) ∧ k = q + 1) := by
    unfold behind
    rw [take_last (by omega)]
    by_cases h0 : i = 0
    · rw [if_pos h0]
      exact ⟨0, rfl, Or.inl ⟨h0, rfl⟩⟩
    · rw [if_neg h0]
      have hz : next[i - 1]? = some next[i - 1] := List.getElem?_eq_getElem (by omega)
      rw [hz]
      have hh := (hJ.mem (i - 1) _ hz).2 (Or.inl (by omega))
      obtain ⟨q, v, hv, hvz⟩ := has_at hh
      have hp : place c.1 next[i - 1].1 = q := by rw [← hvz]; exact place_at hnt.2.2 hv
      refine ⟨q + 1, by simp only; rw [hp]; rfl, Or.inr ⟨next[i - 1], q, by omega, rfl, ⟨v, hv, hvz⟩, rfl⟩⟩
  obtain ⟨k, hbk, hkk⟩ := hbeh
  unfold arrOne
  rw [hw, hmd, hbk]
  cases hh : has now0 x.1 with
  | false =>
    rw [place_no hh, if_pos (by omega)]
    have hmf : m = false := by
      cases m with
      | false => rfl
      | true => rw [hM0 i x hx hm] at hh; cases hh
    subst hmf
    have hno : has c.1 x.1 = false := by
      cases hc : has c.1 x.1 with
      | false => rfl
      | true =>
        rcases (hJ.mem i x hx).1 hc with q | q
        · omega
        · rw [hh] at q; cases q
    have hput := J_put (E := c.1) (k := k) (y := x) hN hJ hx hm rfl rfl (hNt.2.1 x (List.mem_of_getElem? hx)) (Or.inr ⟨List.mem_of_getElem? hx, hh⟩) (Or.inl ⟨rfl, hno⟩) (by
      rcases hkk with q | ⟨z, q, h0, hz, ⟨v, hv, hvz⟩, rfl⟩
      · exact Or.inl q
      · refine Or.inr ⟨z, h0, hz, ?_⟩
        rw [← hvz, place_at hnt.2.2 hv]
        rfl)
    have hp : patchP c.1 (2, x.1, (k : Int), x.2.1, x.2.2) = some (put c.1 k x) := by
      unfold patchP patchO
      simp only
      rw [if_pos trivial]
      exact hput.1
    obtain ⟨e, hg'⟩ := good_do hg hp
    rw [e] at hg' ⊢
    refine ⟨hg', hput.2, ?_⟩
    simp [costs, hh]
  | true =>
    have hpy := place_yes hh
    rw [if_neg (by omega)]
    cases m with
    | true =>
      rw [if_pos rfl]
      refine ⟨hg, ⟨hJ.tree, hJ.keys, ?_, ?_, hJ.txt⟩, by simp [costs, hh]⟩
      · intro j x' hx'
        rw [hJ.mem j x' hx']
        by_cases hji : j = i
        · subst hji
          rw [hx] at hx'
          cases hx'
          rw [hh]
          simp
        · constructor
          · rintro (h | h)
            · exact Or.inl (by omega)
            · exact Or.inr h
          · rintro (h | h)
            · exact Or.inl (by omega)
            · exact Or.inr h
      · have hxi := ids_at hx
        have hr : restL ((ids next).drop i) (M.drop i) = x.1 :: restL ((ids next).drop (i + 1)) (M.drop (i + 1)) := by
          rw [drop_at hxi, drop_at hm]
          rfl
        have ho := hJ.ord
        rw [hr] at ho
        rw [take_at hxi, List.append_assoc, List.singleton_append, ← ho]
        apply List.filter_congr
        intro z _
        simp only [List.mem_append, List.mem_cons, List.not_mem_nil, or_false]
        congr 1
        apply propext
        constructor
        · rintro ((h | h) | h)
          · exact Or.inl h
          · exact Or.inr (Or.inl h)
          · exact Or.inr (Or.inr h)
        · rintro (h | h | h)
          · exact Or.inl (Or.inl h)
          · exact Or.inl (Or.inr h)
          · exact Or.inr h
    | false =>
      rw [if_neg (by simp)]
      have hyes : has c.1 x.1 = true := (hJ.mem i x hx).2 (Or.inr hh)
      obtain ⟨p, u, hu, hux⟩ := has_at hyes
      have hpl : place c.1 x.1 = p := by rw [← hux]; exact place_at hnt.2.2 hu
      have hukey : u.2.1 = x.2.1 := by
        obtain ⟨x', hx', e1, e2⟩ := hJ.keys u (List.mem_of_getElem? hu)
        have := apart_mem hNt.2.2 hx' (List.mem_of_getElem? hx) (Or.inl (by omega))
        subst this
        exact e2.symm
      obtain ⟨k', hk'1, hk'2⟩ : ∃ k' : Nat, (if place c.1 x.1 < (k : Int) then (k : Int) - 1 else k) = k' ∧ ((i = 0 ∧ k' = 0) ∨ ∃ z, 0 < i ∧ next[i - 1]? = some z ∧ place (c.1.eraseIdx p) z.1 + 1 = k') := by
        rw [hpl]
        rcases hkk with ⟨h0, rfl⟩ | ⟨z, q, h0, hz, ⟨v, hv, hvz⟩, rfl⟩
        · exact ⟨0, by rw [if_neg (by omega)], Or.inl ⟨h0, rfl⟩⟩
        · have hpq : p ≠ q := by
            rintro rfl
            rw [hu] at hv
            cases hv
            have := apart_at hNt.2.2 hz hx (by omega)
            omega
          have hpe := place_erase hnt.2.2 hv hpq
          rw [hvz] at hpe
          by_cases hlt : p < q
          · rw [if_pos hlt] at hpe
            exact ⟨q, by rw [if_pos (by omega)]; simp, Or.inr ⟨z, h0, hz, by rw [hpe]; omega⟩⟩
          · rw [if_neg hlt] at hpe
            exact ⟨q + 1, by rw [if_neg (by omega)], Or.inr ⟨z, h0, hz, by rw [hpe]; rfl⟩⟩
      have hput := J_put (E := c.1.eraseIdx p) (k := k') (y := u) hN hJ hx hm hux hukey (hnt.2.1 u (List.mem_of_getElem? hu)) (hJ.txt u (List.mem_of_getElem? hu)) (Or.inr ⟨p, u, hu, hux, rfl⟩) hk'2
      have hp : patchP c.1 (3, x.1, (k' : Int), 0, ⟨#[]⟩) = some (put (c.1.eraseIdx p) k' u) := by
        unfold patchP patchO
        simp only
        rw [if_neg (by decide), hpl, if_neg (by omega), if_neg (by decide), if_pos trivial, show ((p : Int)).toNat = p by omega]
        have : c.1.getD p (0, 0, ⟨#[]⟩) = u := by rw [List.getD, hu]; rfl
        rw [this]
        exact hput.1
      unfold moveP
      rw [hk'1]
      obtain ⟨e, hg'⟩ := good_do hg hp
      rw [e] at hg' ⊢
      refine ⟨hg', hput.2, ?_⟩
      simp [costs, hh]

/-- How many patches the order costs. -/
def costsAll (now0 : List Nd) : List Nd → List Bool → Nat
  | x :: r, m :: ms => costs now0 x m + costsAll now0 r ms
  | _, _ => 0

theorem arr_spec {old next now0 : List Nd} {M : List Bool} (hN : isTree next = true) (hM : M.length = next.length) (hM0 : ∀ (j : Nat) (z : Nd), next[j]? = some z → M[j]? = some true → has now0 z.1 = true) :
    ∀ (r : List Nd) (i : Nat) (c : Ch), next.drop i = r → i ≤ next.length → Good old c → J next now0 M i c.1 →
      Good old (arrFrom next (wasOf now0 next) M i r c) ∧ J next now0 M next.length (arrFrom next (wasOf now0 next) M i r c).1 ∧ (arrFrom next (wasOf now0 next) M i r c).2.length = c.2.length + costsAll now0 r (M.drop i)
  | [], i, c, hr, hi, hg, hJ => by
      have : i = next.length := by
        have := congrArg List.length hr
        simp at this
        omega
      subst this
      refine ⟨hg, hJ, ?_⟩
      simp [arrFrom, costsAll]
  | x :: r, i, c, hr, hi, hg, hJ => by
      have hil : i < next.length := by
        have := congrArg List.length hr
        simp at this
        omega
      have hx : next[i]? = some x := by
        have := congrArg (fun l => l[0]?) hr
        simpa using this
      have hm : M[i]? = some M[i] := List.getElem?_eq_getElem (by omega)
      obtain ⟨h1, h2, h3⟩ := arrOne_spec hN hM hM0 hg hJ hx _ hm
      have hr' : next.drop (i + 1) = r := by
        rw [drop_at hx] at hr
        simpa using hr
      obtain ⟨h4, h5, h6⟩ := arr_spec hN hM hM0 r (i + 1) _ hr' (by omega) h1 h2
      refine ⟨h4, h5, ?_⟩
      show (arrFrom next (wasOf now0 next) M (i + 1) r _).2.length = _
      rw [h6, h3, drop_at hm]
      show _ = c.2.length + (costs now0 x _ + costsAll now0 r _)
      omega

end T
end Go.Proofs.Ytcaeeaiodbjacaa
