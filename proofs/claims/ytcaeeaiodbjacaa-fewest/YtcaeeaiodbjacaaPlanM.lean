/-
  Plans: the document's own way to an Id.
-/
import Derived.Test.YtcaeeaiodbjacaaPlanW
namespace Go.Proofs.Ytcaeeaiodbjacaa
set_option linter.unusedVariables false
namespace T

theorem leastFrom_add (old next : List Nd) (g : Nat) : ∀ (f : Nat) (i : Int), 1 ≤ i → leastFrom old next (f + g) i = if leastFrom old next f i = 0 then leastFrom old next g (i + f) else leastFrom old next f i
  | 0, i, _ => by simp [leastFrom]
  | f + 1, i, hi => by
      rw [show f + 1 + g = (f + g) + 1 by omega]
      by_cases h : has old i = false ∧ has next i = false
      · rw [leastFrom_take h.1 h.2, leastFrom_take h.1 h.2, if_neg (by omega)]
      · rw [leastFrom_skip h, leastFrom_skip h, leastFrom_add old next g f (i + 1) (by omega), show i + 1 + (f : Int) = i + ((f + 1 : Nat) : Int) by omega]

theorem least25 (old next : List Nd) (hl : old.length + next.length < 25) : 1 ≤ leastFrom old next 25 1 ∧ leastFrom old next 25 1 ≤ 25 := by
  rcases leastFrom_spec old next 25 1 with ⟨_, h⟩ | ⟨h1, h2, _⟩
  · exfalso
    have := pigeon 25 ((old ++ next).map (fun x => x.1)) (by
      intro j j1 j2
      have hj := h j j1 j2
      simp only [has, List.any_eq_true, decide_eq_true_eq] at hj
      rw [List.mem_map]
      rcases hj with ⟨x, hx, he⟩ | ⟨x, hx, he⟩
      · exact ⟨x, by simp [hx], he⟩
      · exact ⟨x, by simp [hx], he⟩)
    simp at this
    omega
  · exact ⟨h1, by omega⟩

theorem least_far (old next : List Nd) (hl : old.length + next.length < 25) (h : 16 < leastFrom old next 25 1) : leastFrom old next 16 1 = 0 := by
  have h1 : leastFrom old next 25 1 = if leastFrom old next 16 1 = 0 then leastFrom old next 9 17 else leastFrom old next 16 1 := leastFrom_add old next 9 16 1 (by omega)
  by_cases h0 : leastFrom old next 16 1 = 0
  · exact h0
  · rw [if_neg h0] at h1
    rcases leastFrom_spec old next 16 1 with ⟨h2, _⟩ | ⟨_, h2, _⟩
    · exact h2
    · omega

theorem least_near (old next : List Nd) (hl : old.length + next.length < 25) (h : ¬ 16 < leastFrom old next 25 1) : leastFrom old next 16 1 = leastFrom old next 25 1 := by
  have h1 : leastFrom old next 25 1 = if leastFrom old next 16 1 = 0 then leastFrom old next 9 17 else leastFrom old next 16 1 := leastFrom_add old next 9 16 1 (by omega)
  by_cases h0 : leastFrom old next 16 1 = 0
  · rw [if_pos h0] at h1
    have h3 := least25 old next hl
    rcases leastFrom_spec old next 9 17 with ⟨h2, _⟩ | ⟨h2, _⟩
    · omega
    · omega
  · rw [if_neg h0] at h1
    exact h1.symm

/-- The Id of the last of these with this Key; else a. -/
def lastId (key a : Int) : List Nd → Int
  | [] => a
  | x :: r => lastId key (if x.2.1 = key then x.1 else a) r

theorem lastId_snoc (key : Int) (x : Nd) : ∀ (l : List Nd) (a : Int), lastId key a (l ++ [x]) = if x.2.1 = key then x.1 else lastId key a l
  | [], a => rfl
  | y :: r, a => by
      show lastId key _ (r ++ [x]) = _
      rw [lastId_snoc key x r]
      rfl

theorem lastId_none (key : Int) : ∀ (l : List Nd) (a : Int), (∀ x ∈ l, x.2.1 ≠ key) → lastId key a l = a
  | [], a, _ => rfl
  | y :: r, a, h => by
      show lastId key _ r = a
      rw [if_neg (h y (by simp))]
      exact lastId_none key r a fun x hx => h x (by simp [hx])

theorem lastId_tree (key : Int) : ∀ (l : List Nd), l.Pairwise apart → (l.find? (fun x => decide (x.2.1 = key)) = none ∧ lastId key 0 l = 0) ∨ (∃ x, l.find? (fun x => decide (x.2.1 = key)) = some x ∧ x ∈ l ∧ lastId key 0 l = x.1)
  | [], _ => Or.inl ⟨rfl, rfl⟩
  | y :: r, h => by
      rw [List.pairwise_cons] at h
      by_cases hk : y.2.1 = key
      · refine Or.inr ⟨y, by simp [hk], by simp, ?_⟩
        show lastId key (if y.2.1 = key then y.1 else 0) r = _
        rw [if_pos hk]
        refine lastId_none key r _ fun x hx => ?_
        have := (h.1 x hx).2
        omega
      · have e : lastId key 0 (y :: r) = lastId key 0 r := by
          show lastId key (if y.2.1 = key then y.1 else 0) r = _
          rw [if_neg hk]
        rw [e]
        rcases lastId_tree key r h.2 with ⟨h1, h2⟩ | ⟨x, h1, h2, h3⟩
        · exact Or.inl ⟨by simp [hk, h1], h2⟩
        · exact Or.inr ⟨x, by simp [hk, h1], by simp [h2], h3⟩

/-- The document's Id of a show. -/
def refId (key : Int) (old next : List Nd) : Int := if lastId key 0 old = 0 then leastFrom old next 25 1 else lastId key 0 old

theorem refId_range {key : Int} {old next : List Nd} (ho : isTree old = true) (hl : next.length ≤ 8) : 1 ≤ refId key old next ∧ refId key old next ≤ 25 ∧ 0 ≤ lastId key 0 old ∧ lastId key 0 old ≤ 16 ∧ 1 ≤ leastFrom old next 25 1 := by
  rw [isTree_iff] at ho
  have h25 := least25 old next (by omega)
  unfold refId
  rcases lastId_tree key old ho.2.2 with ⟨_, h2⟩ | ⟨x, _, h2, h3⟩
  · rw [if_pos h2]
    omega
  · have := ho.2.1 x h2
    simp only [okNd, Bool.and_eq_true, decide_eq_true_eq] at this
    rw [if_neg (by omega)]
    omega

theorem refId_far {key : Int} {old next : List Nd} (ho : isTree old = true) (hl : next.length ≤ 8) (h : 16 < refId key old next) : idFor key old next = 0 := by
  have hr := refId_range (key := key) ho hl
  rw [isTree_iff] at ho
  unfold refId at h
  rcases lastId_tree key old ho.2.2 with ⟨h1, h2⟩ | ⟨x, _, h2, h3⟩
  · rw [if_pos h2] at h
    rw [idFor_none h1]
    exact least_far old next (by omega) h
  · have := ho.2.1 x h2
    simp only [okNd, Bool.and_eq_true, decide_eq_true_eq] at this
    rw [if_neg (by omega)] at h
    omega

theorem refId_near {key : Int} {old next : List Nd} (ho : isTree old = true) (hl : next.length ≤ 8) (h : ¬ 16 < refId key old next) : idFor key old next = refId key old next := by
  have hr := refId_range (key := key) ho hl
  rw [isTree_iff] at ho
  unfold refId at h ⊢
  rcases lastId_tree key old ho.2.2 with ⟨h1, h2⟩ | ⟨x, h1, h2, h3⟩
  · rw [if_pos h2] at h ⊢
    rw [idFor_none h1]
    exact least_near old next (by omega) h
  · have := ho.2.1 x h2
    simp only [okNd, Bool.and_eq_true, decide_eq_true_eq] at this
    rw [idFor_found h1, if_neg (by omega), h3]

theorem planFrom_pre (old : List Nd) : ∀ (l : List Sh) (next : List Nd), ∃ t, planFrom old next l = next ++ t
  | [], next => ⟨[], by simp [planFrom]⟩
  | s :: r, next => by
      obtain ⟨t, ht⟩ := planFrom_pre old r (next ++ [mkN old next s])
      exact ⟨mkN old next s :: t, by unfold planFrom; rw [ht]; simp⟩

theorem planFrom_append (old : List Nd) : ∀ (l r : List Sh) (next : List Nd), planFrom old next (l ++ r) = planFrom old (planFrom old next l) r
  | [], r, next => rfl
  | s :: l, r, next => planFrom_append old l r _

/-- An Id that cannot be had: no plan. -/
theorem planOk_far {old : List Nd} {shows : List Sh} {k : Nat} {s : Sh} (hs : shows[k]? = some s) (h : idFor s.1 old (plan old (shows.take k)) = 0) : planOk old shows = false := by
  have e : shows = shows.take k ++ (s :: shows.drop (k + 1)) := by
    have := List.take_append_drop k shows
    rw [List.drop_eq_getElem_cons (List.getElem?_eq_some_iff.1 hs).1, (List.getElem?_eq_some_iff.1 hs).2] at this
    exact this.symm
  have hm : mkN old (plan old (shows.take k)) s ∈ plan old shows := by
    obtain ⟨t, ht⟩ := planFrom_pre old (shows.drop (k + 1)) (plan old (shows.take k) ++ [mkN old (plan old (shows.take k)) s])
    have e2 : plan old shows = plan old (shows.take k) ++ [mkN old (plan old (shows.take k)) s] ++ t := by
      rw [← ht]
      conv => lhs; rw [e]
      unfold plan
      rw [planFrom_append]
      rfl
    rw [e2]
    simp
  have hf : isTree (plan old shows) = false := by
    cases hc : isTree (plan old shows) with
    | false => rfl
    | true =>
      have := isTree_ok hc _ hm
      simp only [okNd, mkN, h, Bool.and_eq_true, decide_eq_true_eq] at this
      omega
  unfold planOk
  rw [hf]
  simp

end T
end Go.Proofs.Ytcaeeaiodbjacaa
