/-
  Diff: how many patches there are, by the document's own count.
-/
import Derived.Test.YtcaeeaiodbjacaaDiffE
namespace Go.Proofs.Ytcaeeaiodbjacaa
set_option linter.unusedVariables false
namespace T

def sameN (x y : Nd) : Bool := decide (x.1 = y.1 ∧ x.2.1 = y.2.1)
def otherText (x y : Nd) : Bool := decide (x.1 = y.1 ∧ x.2.1 = y.2.1 ∧ x.2.2 ≠ y.2.2)

/-- The document's list of Ids that stay. -/
def stayL (a b : List Nd) : List Int := a.flatMap fun x => (b.filter (sameN x)).map fun _ => x.1

/-- The document's number of other texts. -/
def textsN (a b : List Nd) : Nat := (a.map fun x => b.countP (otherText x)).sum

/-- The document's number of patches. -/
def fewN (old next : List Nd) : Int := ((old.length : Int) - (stayL old next).length) + ((next.length : Int) - (stayL next old).length) + textsN old next + ((stayL old next).length - shared (stayL old next) (stayL next old))

theorem same_one {b : List Nd} (h : b.Pairwise apart) (x : Nd) : (stays b x = true ∧ ∃ y, b.filter (sameN x) = [y]) ∨ (stays b x = false ∧ b.filter (sameN x) = []) := by
  cases hs : stays b x with
  | true =>
    left
    refine ⟨rfl, ?_⟩
    obtain ⟨y, hy, e1, e2⟩ := (stays_iff h x).1 hs
    obtain ⟨j, hj⟩ := List.mem_iff_getElem?.1 hy
    have e : b = b.take j ++ y :: b.drop (j + 1) := by rw [← drop_at hj, List.take_append_drop]
    refine ⟨y, ?_⟩
    have hf1 : (b.take j).filter (sameN x) = [] := by
      rw [List.filter_eq_nil_iff]
      intro z hz hq
      simp only [sameN, decide_eq_true_eq] at hq
      rw [e, List.pairwise_append] at h
      exact (h.2.2 z hz y (by simp)).1 (by omega)
    have hf2 : (b.drop (j + 1)).filter (sameN x) = [] := by
      rw [List.filter_eq_nil_iff]
      intro z hz hq
      simp only [sameN, decide_eq_true_eq] at hq
      rw [e, List.pairwise_append, List.pairwise_cons] at h
      exact (h.2.1.1 z hz).1 (by omega)
    rw [e, List.filter_append, List.filter_cons, hf1, hf2, if_pos (by simp [sameN, e1, e2])]
    rfl
  | false =>
    right
    refine ⟨rfl, ?_⟩
    rw [List.filter_eq_nil_iff]
    intro y hy hq
    simp only [sameN, decide_eq_true_eq] at hq
    have := (stays_iff h x).2 ⟨y, hy, hq.1.symm, hq.2.symm⟩
    rw [hs] at this
    cases this

theorem stayL_eq {b : List Nd} (h : b.Pairwise apart) : ∀ a : List Nd, stayL a b = ids (a.filter (stays b))
  | [] => rfl
  | x :: a => by
      have ih := stayL_eq h a
      unfold stayL at ih ⊢
      rw [List.flatMap_cons, ih]
      rcases same_one h x with ⟨h1, y, h2⟩ | ⟨h1, h2⟩
      · rw [h2, List.filter_cons, if_pos h1]
        rfl
      · rw [h2, List.filter_cons, if_neg (by rw [h1]; simp)]
        rfl

theorem stays_swap {old next : List Nd} (ho : old.Pairwise apart) (hn : next.Pairwise apart) {x : Nd} (hx : x ∈ next) : stays old x = has (stayN old next) x.1 := by
  cases hh : has (stayN old next) x.1 with
  | true =>
    obtain ⟨j, y, hy, he⟩ := has_at hh
    have hm := List.mem_of_getElem? hy
    unfold stayN at hm
    rw [List.mem_filter] at hm
    obtain ⟨z, hz, e1, e2⟩ := (stays_iff hn y).1 hm.2
    have := apart_mem hn hz hx (Or.inl (by omega))
    subst this
    exact (stays_iff ho z).2 ⟨y, hm.1, e1.symm, e2.symm⟩
  | false =>
    cases hs : stays old x with
    | false => rfl
    | true =>
      obtain ⟨y, hy, e1, e2⟩ := (stays_iff ho x).1 hs
      have hm : y ∈ stayN old next := by
        unfold stayN
        rw [List.mem_filter]
        exact ⟨hy, (stays_iff hn y).2 ⟨x, hx, e1.symm, e2.symm⟩⟩
      have := (has_false _ _).1 hh y hm
      exact absurd e1 this

theorem costs_count {now0 : List Nd} : ∀ (r : List Nd) (ms : List Bool), ms.length = r.length → (∀ (j : Nat) (z : Nd), r[j]? = some z → ms[j]? = some true → has now0 z.1 = true) → costsAll now0 r ms + ms.count true = r.length
  | [], ms, h, _ => by
      obtain rfl : ms = [] := List.eq_nil_of_length_eq_zero h
      rfl
  | x :: r, [], h, _ => by simp at h
  | x :: r, m :: ms, h, hm => by
      have ih := costs_count r ms (by simpa using h) (fun j z h1 h2 => hm (j + 1) z (by simpa using h1) (by simpa using h2))
      show costs now0 x m + costsAll now0 r ms + _ = _
      cases m with
      | true =>
        have := hm 0 x rfl rfl
        simp [costs, this]
        omega
      | false =>
        have : costs now0 x false = 1 := by
          unfold costs
          split <;> simp
        rw [this]
        simp
        omega

theorem count_shared {old next : List Nd} (ho : isTree old = true) (hn : isTree next = true) : (marksOf (wasOf (stayN old next) next)).count true = shared (stayL old next) (stayL next old) := by
  have hot := (isTree_iff old).1 ho
  have hnt := (isTree_iff next).1 hn
  rw [stayL_eq hnt.2.2, stayL_eq hot.2.2]
  have hA : ids (old.filter (stays next)) = ids (stayN old next) := rfl
  rw [hA]
  have hAn : (ids (stayN old next)).Nodup := ids_nodup (hot.2.2.sublist List.filter_sublist)
  have hB : ids (next.filter (stays old)) = (ids next).filter (fun z => decide (z ∈ ids (stayN old next))) := by
    unfold ids
    rw [List.filter_map]
    congr 1
    apply List.filter_congr
    intro x hx
    rw [stays_swap hot.2.2 hnt.2.2 hx]
    show _ = decide (x.1 ∈ ids (stayN old next))
    cases hh : has (stayN old next) x.1 with
    | true => exact (decide_eq_true (mem_ids.2 hh)).symm
    | false =>
      refine (decide_eq_false ?_).symm
      intro h
      rw [mem_ids.1 h] at hh
      cases hh
  have hM : (marksOf (wasOf (stayN old next) next)).length = (ids next).length := by rw [marks_length]; simp [wasOf, ids]
  apply Nat.le_antisymm
  · rw [← restL_length (ids next) _ hM]
    refine shared_le (rest_sub _ _) ?_
    rw [hB]
    have h1 := (restL_sub (ids next) (marksOf (wasOf (stayN old next) next))).filter (fun z => decide (z ∈ ids (stayN old next)))
    have h2 : (restL (ids next) (marksOf (wasOf (stayN old next) next))).filter (fun z => decide (z ∈ ids (stayN old next))) = restL (ids next) (marksOf (wasOf (stayN old next) next)) := by
      rw [List.filter_eq_self]
      intro z hz
      simpa using (rest_sub (stayN old next) next).subset hz
    rw [h2] at h1
    exact h1
  · obtain ⟨c, h1, h2, h3⟩ := shared_ge (ids (stayN old next)) (ids (next.filter (stays old)))
    rw [← h3]
    have hr := ix_rise (ids (stayN old next)) c 0 hAn h1
    have hs : (c.map fun z => ixFrom (ids (stayN old next)) z 0).Sublist (wasOf (stayN old next) next) := by
      have h4 : c.Sublist (ids next) := by
        rw [hB] at h2
        exact h2.trans List.filter_sublist
      have h5 := h4.map (fun z => ixFrom (ids (stayN old next)) z 0)
      have h6 : (ids next).map (fun z => ixFrom (ids (stayN old next)) z 0) = wasOf (stayN old next) next := by
        unfold wasOf
        unfold ids
        rw [List.map_map]
        apply List.map_congr_left
        intro x _
        exact (place_ix _ _).symm
      rw [h6] at h5
      exact h5
    have := marks_max hs hr (by
      intro v hv
      obtain ⟨z, hz, rfl⟩ := List.mem_map.1 hv
      have := ix_mem _ z 0 (h1.subset hz)
      simpa using this)
    simpa using this

theorem stay_len {old next : List Nd} (ho : isTree old = true) (hn : isTree next = true) : (stayL old next).length = (stayL next old).length := by
  have hot := (isTree_iff old).1 ho
  have hnt := (isTree_iff next).1 hn
  rw [stayL_eq hnt.2.2, stayL_eq hot.2.2]
  have one : ∀ (a b : List Nd), a.Pairwise apart → b.Pairwise apart → (ids (a.filter (stays b))).length ≤ (ids (b.filter (stays a))).length := by
    intro a b ha hb
    refine nodup_le _ _ (ids_nodup (ha.sublist List.filter_sublist)) ?_
    intro z hz
    obtain ⟨x, hx, rfl⟩ := List.mem_map.1 hz
    rw [List.mem_filter] at hx
    obtain ⟨y, hy, e1, e2⟩ := (stays_iff hb x).1 hx.2
    refine List.mem_map.2 ⟨y, ?_, e1⟩
    rw [List.mem_filter]
    exact ⟨hy, (stays_iff ha y).2 ⟨x, hx.1, e1.symm, e2.symm⟩⟩
  exact Nat.le_antisymm (one old next hot.2.2 hnt.2.2) (one next old hnt.2.2 hot.2.2)

theorem sum_add (f g : Nd → Nat) : ∀ l : List Nd, (l.map fun x => f x + g x).sum = (l.map f).sum + (l.map g).sum
  | [] => rfl
  | x :: l => by
      simp only [List.map_cons, List.sum_cons]
      rw [sum_add f g l]
      omega

theorem sum_countP (p : Nd → Bool) : ∀ l : List Nd, (l.map fun x => if p x then 1 else 0).sum = l.countP p
  | [] => rfl
  | x :: l => by
      simp only [List.map_cons, List.sum_cons, List.countP_cons]
      rw [sum_countP p l]
      omega

theorem texts_swap (p : Nd → Nd → Bool) (b : List Nd) : ∀ a : List Nd, (a.map fun y => b.countP (p y)).sum = (b.map fun x => a.countP (fun y => p y x)).sum
  | [] => by
      simp only [List.map_nil, List.countP_nil, List.sum_nil]
      induction b with
      | nil => rfl
      | cons x b ih => simpa using ih
  | y :: a => by
      simp only [List.map_cons, List.sum_cons]
      rw [texts_swap p b a]
      have e : (b.map fun x => (y :: a).countP (fun y => p y x)) = b.map fun x => (if p y x then 1 else 0) + a.countP (fun y => p y x) := by
        apply List.map_congr_left
        intro x _
        rw [List.countP_cons]
        omega
      rw [e, sum_add (fun x => if p y x then 1 else 0) (fun x => a.countP (fun y => p y x)), sum_countP]

theorem rt_sum (g : Nd → Nat) : ∀ (ys xs : List Nd), ids ys = ids xs → (∀ y ∈ ys, ∀ x ∈ xs, y.1 = x.1 → (if y.2.2 = x.2.2 then 0 else 1) = g x) → rtCount ys xs = (xs.map g).sum
  | [], [], _, _ => rfl
  | [], x :: xs, h, _ => by simp [ids] at h
  | y :: ys, [], h, _ => by simp [ids] at h
  | y :: ys, x :: xs, h, hg => by
      simp only [ids, List.map_cons, List.cons.injEq] at h
      show (if y.2.2 = x.2.2 then 0 else 1) + rtCount ys xs = _
      rw [rt_sum g ys xs h.2 (fun a ha b hb => hg a (by simp [ha]) b (by simp [hb])), hg y (by simp) x (by simp) h.1]
      rfl

theorem countP_none {p : Nd → Bool} {l : List Nd} (h : ∀ y ∈ l, p y = false) : l.countP p = 0 := by
  rw [List.countP_eq_zero]
  intro y hy
  rw [h y hy]
  simp

/-- The text of a node in old with this Id and Key. -/
theorem texts_one {old : List Nd} (ho : old.Pairwise apart) {y x : Nd} (hy : y ∈ old) (e1 : y.1 = x.1) (e2 : y.2.1 = x.2.1) : old.countP (fun z => otherText z x) = if y.2.2 = x.2.2 then 0 else 1 := by
  obtain ⟨j, hj⟩ := List.mem_iff_getElem?.1 hy
  have e : old = old.take j ++ y :: old.drop (j + 1) := by rw [← drop_at hj, List.take_append_drop]
  have hf1 : (old.take j).countP (fun z => otherText z x) = 0 := countP_none (by
    intro z hz
    rw [e, List.pairwise_append] at ho
    have := (ho.2.2 z hz y (by simp)).1
    simp only [otherText, decide_eq_false_iff_not]
    intro q
    exact this (by omega))
  have hf2 : (old.drop (j + 1)).countP (fun z => otherText z x) = 0 := countP_none (by
    intro z hz
    rw [e, List.pairwise_append, List.pairwise_cons] at ho
    have := (ho.2.1.1 z hz).1
    simp only [otherText, decide_eq_false_iff_not]
    intro q
    exact this (by omega))
  rw [e, List.countP_append, List.countP_cons, hf1, hf2]
  by_cases ht : y.2.2 = x.2.2
  · simp [otherText, ht]
  · simp [otherText, ht, e1, e2]

theorem rt_texts {old next now1 : List Nd} {M : List Bool} (ho : isTree old = true) (hn : isTree next = true) (hM : M.length = next.length) (hJ : J next (stayN old next) M next.length now1) : rtCount now1 next = textsN old next := by
  have hot := (isTree_iff old).1 ho
  have hnt := (isTree_iff next).1 hn
  unfold textsN
  rw [texts_swap otherText next old]
  refine rt_sum _ now1 next (J_end hM hJ) ?_
  intro y hy x hx he
  obtain ⟨x', hx', q1, q2⟩ := hJ.keys y hy
  have := apart_mem hnt.2.2 hx' hx (Or.inl (by omega))
  subst this
  rcases hJ.txt y hy with h | ⟨h, hh⟩
  · have hyo : y ∈ old := by
      unfold stayN at h
      exact (List.mem_filter.1 h).1
    exact (texts_one hot.2.2 hyo he q2.symm).symm
  · have hyx : y = x' := apart_mem hnt.2.2 h hx (Or.inl he)
    subst hyx
    rw [if_pos rfl]
    symm
    refine countP_none ?_
    intro z hz
    simp only [otherText, decide_eq_false_iff_not]
    rintro ⟨e1, e2, _⟩
    have hm : z ∈ stayN old next := by
      unfold stayN
      rw [List.mem_filter]
      exact ⟨hz, (stays_iff hnt.2.2 z).2 ⟨y, h, e1.symm, e2.symm⟩⟩
    exact (has_false _ _).1 hh z hm e1

/-- Diff makes the one tree of the other, with as few patches as the document counts. -/
theorem diff_few {old next : List Nd} (ho : isTree old = true) (hn : isTree next = true) : applyFrom old (diff old next) = some next ∧ ((diff old next).length : Int) = fewN old next := by
  have hot := (isTree_iff old).1 ho
  have hnt := (isTree_iff next).1 hn
  obtain ⟨now1, h1, h2, h3⟩ := diff_spec ho hn
  have hM : (marksOf (wasOf (stayN old next) next)).length = next.length := by rw [marks_length]; simp [wasOf]
  refine ⟨h1, ?_⟩
  have c1 := costs_count (now0 := stayN old next) next _ hM (fun j z hz h => marks_has hz h)
  have c2 := count_shared ho hn
  have c3 := rt_texts ho hn hM h2
  have c4 := stay_len ho hn
  have c5 : (old.filter fun x => !stays next x).length + (stayL old next).length = old.length := by
    rw [stayL_eq hnt.2.2]
    have : (ids (old.filter (stays next))).length = (old.filter (stays next)).length := by simp [ids]
    rw [this]
    have h := List.length_eq_countP_add_countP (stays next) (l := old)
    rw [List.countP_eq_length_filter, List.countP_eq_length_filter] at h
    have e : (old.filter fun x => !stays next x) = old.filter (fun a => decide (¬ stays next a = true)) := by
      apply List.filter_congr
      intro x _
      cases stays next x <;> rfl
    rw [e]
    omega
  unfold fewN
  rw [h3]
  omega

end T
end Go.Proofs.Ytcaeeaiodbjacaa
