/-
  The number of patches from tree to tree: none to itself; as many back as forth; not fewer by way of a third.
-/
import Derived.Test.YtcaeeaiodbjacaaDiffC
namespace Go.Proofs.Ytcaeeaiodbjacaa
set_option linter.unusedVariables false
namespace T

theorem shared_comm (a b : List Int) : shared a b = shared b a := by
  apply Nat.le_antisymm
  · obtain ⟨c, h1, h2, h3⟩ := shared_ge a b
    rw [← h3]
    exact shared_le h2 h1
  · obtain ⟨c, h1, h2, h3⟩ := shared_ge b a
    rw [← h3]
    exact shared_le h2 h1

theorem other_comm (x y : Nd) : otherText x y = otherText y x := by
  unfold otherText
  congr 1
  apply propext
  constructor
  · rintro ⟨h1, h2, h3⟩; exact ⟨h1.symm, h2.symm, fun e => h3 e.symm⟩
  · rintro ⟨h1, h2, h3⟩; exact ⟨h1.symm, h2.symm, fun e => h3 e.symm⟩

theorem texts_comm (a b : List Nd) : textsN a b = textsN b a := by
  unfold textsN
  rw [texts_swap otherText b a]
  congr 1
  apply List.map_congr_left
  intro x _
  congr 1
  funext y
  exact other_comm y x

theorem few_sym {a b : List Nd} (ha : isTree a = true) (hb : isTree b = true) : fewN a b = fewN b a := by
  unfold fewN
  rw [shared_comm, texts_comm a b]
  have := stay_len ha hb
  omega

theorem stays_self {a : List Nd} (h : a.Pairwise apart) {x : Nd} (hx : x ∈ a) : stays a x = true := (stays_iff h x).2 ⟨x, hx, rfl, rfl⟩

theorem few_self {a : List Nd} (ha : isTree a = true) : fewN a a = 0 := by
  have hat := (isTree_iff a).1 ha
  have e : stayL a a = ids a := by
    rw [stayL_eq hat.2.2]
    congr 1
    rw [List.filter_eq_self]
    intro x hx
    exact stays_self hat.2.2 hx
  have hs : shared (ids a) (ids a) = (ids a).length := by
    apply Nat.le_antisymm
    · obtain ⟨c, h1, _, h3⟩ := shared_ge (ids a) (ids a)
      rw [← h3]
      exact h1.length_le
    · exact shared_le (List.Sublist.refl _) (List.Sublist.refl _)
  have hl : (ids a).length = a.length := by simp [ids]
  have ht : textsN a a = 0 := by
    unfold textsN
    have : (a.map fun x => a.countP (otherText x)) = a.map fun _ => 0 := by
      apply List.map_congr_left
      intro x hx
      refine countP_none ?_
      intro y hy
      simp only [otherText, decide_eq_false_iff_not]
      rintro ⟨h1, _, h3⟩
      exact h3 (by rw [apart_mem hat.2.2 hx hy (Or.inl h1)])
    rw [this]
    clear this e hs hl hat ha
    induction a with
    | nil => rfl
    | cons x r ih => simpa using ih
  unfold fewN
  rw [e, hs, ht, hl]
  omega

/-- Does b have this node with another text? -/
def turned (b : List Nd) (x : Nd) : Bool := b.any (otherText x)

theorem turned_one {b : List Nd} (h : b.Pairwise apart) (x : Nd) : b.countP (otherText x) = if turned b x then 1 else 0 := by
  cases ht : turned b x with
  | false =>
    rw [if_neg (by simp)]
    refine countP_none ?_
    intro y hy
    have := List.any_eq_false.1 ht y hy
    simpa using this
  | true =>
    rw [if_pos rfl]
    simp only [turned, List.any_eq_true] at ht
    obtain ⟨y, hy, hxy⟩ := ht
    obtain ⟨j, hj⟩ := List.mem_iff_getElem?.1 hy
    have e : b = b.take j ++ y :: b.drop (j + 1) := by rw [← drop_at hj, List.take_append_drop]
    have hxy' := hxy
    simp only [otherText, decide_eq_true_eq] at hxy'
    have hf1 : (b.take j).countP (otherText x) = 0 := countP_none (by
      intro z hz
      rw [e, List.pairwise_append] at h
      have := (h.2.2 z hz y (by simp)).1
      simp only [otherText, decide_eq_false_iff_not]
      intro q
      exact this (by omega))
    have hf2 : (b.drop (j + 1)).countP (otherText x) = 0 := countP_none (by
      intro z hz
      rw [e, List.pairwise_append, List.pairwise_cons] at h
      have := (h.2.1.1 z hz).1
      simp only [otherText, decide_eq_false_iff_not]
      intro q
      exact this (by omega))
    rw [e, List.countP_append, List.countP_cons, hf1, hf2, hxy]
    rfl

theorem texts_count {a b : List Nd} (hb : b.Pairwise apart) : textsN a b = a.countP (turned b) := by
  unfold textsN
  have : (a.map fun x => b.countP (otherText x)) = a.map fun x => if turned b x then 1 else 0 := by
    apply List.map_congr_left
    intro x _
    exact turned_one hb x
  rw [this, sum_countP]

theorem count_two (p q : Nd → Bool) : ∀ l : List Nd, l.countP p + l.countP q ≤ l.length + l.countP (fun x => p x && q x)
  | [] => by simp
  | x :: l => by
      have := count_two p q l
      simp only [List.countP_cons, List.length_cons]
      cases p x <;> cases q x <;> simp <;> omega

theorem count_three (p q r s : Nd → Bool) : ∀ l : List Nd, (∀ x ∈ l, p x = true → q x = true ∨ r x = true ∨ s x = true) → l.countP p ≤ l.countP q + l.countP r + l.countP s
  | [], _ => by simp
  | x :: l, h => by
      have ih := count_three p q r s l (fun y hy => h y (by simp [hy]))
      have hx := h x (by simp)
      simp only [List.countP_cons]
      cases hp : p x with
      | false => simp; omega
      | true =>
        rcases hx hp with e | e | e <;> rw [e] <;> simp <;> omega

theorem count_inj {a b : List Nd} (p q : Nd → Bool) (ha : a.Pairwise apart) (h : ∀ x ∈ a, p x = true → ∃ y ∈ b, y.1 = x.1 ∧ q y = true) : a.countP p ≤ b.countP q := by
  rw [List.countP_eq_length_filter, List.countP_eq_length_filter]
  have h1 := nodup_le (ids (a.filter p)) (ids (b.filter q)) (ids_nodup (ha.sublist List.filter_sublist)) (by
    intro z hz
    obtain ⟨x, hx, rfl⟩ := List.mem_map.1 hz
    rw [List.mem_filter] at hx
    obtain ⟨y, hy, e, hq⟩ := h x hx.1 hx.2
    exact List.mem_map.2 ⟨y, List.mem_filter.2 ⟨hy, hq⟩, e⟩)
  simpa [ids] using h1

theorem stay_count {a b : List Nd} (hb : b.Pairwise apart) : (stayL a b).length = a.countP (stays b) := by
  rw [stayL_eq hb, List.countP_eq_length_filter]
  simp [ids]

theorem mem_stay {a b : List Nd} (hb : b.Pairwise apart) {z : Int} : z ∈ stayL a b ↔ ∃ x ∈ a, x.1 = z ∧ ∃ y ∈ b, y.1 = x.1 ∧ y.2.1 = x.2.1 := by
  rw [stayL_eq hb]
  unfold ids
  rw [List.mem_map]
  constructor
  · rintro ⟨x, hx, rfl⟩
    rw [List.mem_filter] at hx
    exact ⟨x, hx.1, rfl, (stays_iff hb x).1 hx.2⟩
  · rintro ⟨x, hx, rfl, h⟩
    exact ⟨x, List.mem_filter.2 ⟨hx, (stays_iff hb x).2 h⟩, rfl⟩

theorem stay_sub {a b : List Nd} (hb : b.Pairwise apart) : (stayL a b).Sublist (ids a) := by
  rw [stayL_eq hb]
  exact List.Sublist.map _ List.filter_sublist

theorem sub_stay {a b : List Nd} (ha : a.Pairwise apart) (hb : b.Pairwise apart) {Z : List Int} (h : Z.Sublist (ids a)) (hm : ∀ z ∈ Z, z ∈ stayL a b) : Z.Sublist (stayL a b) := by
  have h1 := filter_sub (ids a) (stayL a b) (ids_nodup ha) (stay_sub hb)
  have h2 := h.filter (fun z => decide (z ∈ stayL a b))
  rw [h1] at h2
  have h3 : Z.filter (fun z => decide (z ∈ stayL a b)) = Z := by
    rw [List.filter_eq_self]
    intro z hz
    simpa using hm z hz
  rw [h3] at h2
  exact h2

theorem shared_tri {a b c : List Nd} (ha : a.Pairwise apart) (hb : b.Pairwise apart) (hc : c.Pairwise apart) : shared (stayL a c) (stayL c a) + shared (stayL c b) (stayL b c) ≤ c.length + shared (stayL a b) (stayL b a) := by
  obtain ⟨X, x1, x2, x3⟩ := shared_ge (stayL a c) (stayL c a)
  obtain ⟨Y, y1, y2, y3⟩ := shared_ge (stayL c b) (stayL b c)
  have hcn := ids_nodup hc
  have xc : X.Sublist (ids c) := x2.trans (stay_sub ha)
  have yc : Y.Sublist (ids c) := y1.trans (stay_sub hb)
  have eX := filter_sub (ids c) X hcn xc
  have eY := filter_sub (ids c) Y hcn yc
  have eZ : X.filter (fun z => decide (z ∈ Y)) = Y.filter (fun z => decide (z ∈ X)) := by
    conv => lhs; rw [← eX]
    conv => rhs; rw [← eY]
    rw [List.filter_filter, List.filter_filter]
    apply List.filter_congr
    intro z _
    rw [Bool.and_comm]
  have memZ : ∀ z, z ∈ X → z ∈ Y → z ∈ stayL a b ∧ z ∈ stayL b a := by
    intro z hx hy
    obtain ⟨p, hp, e1, q, hq, e2, e3⟩ := (mem_stay hc).1 (x1.subset hx)
    obtain ⟨q', hq', e4, r, hr, e5, e6⟩ := (mem_stay hb).1 (y1.subset hy)
    have := apart_mem hc hq hq' (Or.inl (by omega))
    subst this
    exact ⟨(mem_stay hb).2 ⟨p, hp, e1, r, hr, by omega, by omega⟩, (mem_stay ha).2 ⟨r, hr, by omega, p, hp, by omega, by omega⟩⟩
  have z1 : (X.filter (fun z => decide (z ∈ Y))).Sublist (stayL a b) := by
    refine sub_stay ha hb ((List.filter_sublist.trans x1).trans (stay_sub hc)) ?_
    intro z hz
    rw [List.mem_filter] at hz
    exact (memZ z hz.1 (by simpa using hz.2)).1
  have z2 : (X.filter (fun z => decide (z ∈ Y))).Sublist (stayL b a) := by
    rw [eZ]
    refine sub_stay hb ha ((List.filter_sublist.trans y2).trans (stay_sub hc)) ?_
    intro z hz
    rw [List.mem_filter] at hz
    exact (memZ z (by simpa using hz.2) hz.1).2
  have hZ := shared_le z1 z2
  have hn : (X.filter (fun z => !decide (z ∈ Y)) ++ Y).length ≤ (ids c).length := by
    refine nodup_le _ _ ?_ ?_
    · rw [List.nodup_append]
      refine ⟨List.Nodup.sublist (List.filter_sublist.trans xc) hcn, List.Nodup.sublist yc hcn, ?_⟩
      intro x hx y hy e
      subst e
      rw [List.mem_filter] at hx
      simp at hx
      exact hx.2 hy
    · intro z hz
      rcases List.mem_append.1 hz with hz | hz
      · exact xc.subset (List.mem_filter.1 hz).1
      · exact yc.subset hz
  have hsp : X.length = (X.filter (fun z => decide (z ∈ Y))).length + (X.filter (fun z => !decide (z ∈ Y))).length := by
    have h := List.length_eq_countP_add_countP (fun z => decide (z ∈ Y)) (l := X)
    rw [List.countP_eq_length_filter, List.countP_eq_length_filter] at h
    have e : (X.filter fun z => !decide (z ∈ Y)) = X.filter (fun a => decide (¬ decide (a ∈ Y) = true)) := by
      apply List.filter_congr
      intro x _
      cases decide (x ∈ Y) <;> rfl
    rw [e]
    exact h
  have hl : (ids c).length = c.length := by simp [ids]
  rw [List.length_append, hl] at hn
  omega

/-- Not fewer by way of a third. -/
theorem few_tri {a b c : List Nd} (ha : isTree a = true) (hb : isTree b = true) (hc : isTree c = true) : fewN a b ≤ fewN a c + fewN c b := by
  have hat := ((isTree_iff a).1 ha).2.2
  have hbt := ((isTree_iff b).1 hb).2.2
  have hct := ((isTree_iff c).1 hc).2.2
  have hL := shared_tri hat hbt hct
  have s1 := stay_len ha hb
  have s2 := stay_len ha hc
  have s3 := stay_len hc hb
  have n1 := stay_count (a := a) hbt
  have n2 := stay_count (a := c) hat
  have n3 := stay_count (a := c) hbt
  have t1 := texts_count (a := a) hbt
  have t2 := texts_count (a := a) hct
  have t3 := texts_count (a := c) hbt
  have m1 := count_two (stays a) (stays b) c
  -- the common ones of c are common ones of a
  have m2 : c.countP (fun x => stays a x && stays b x) ≤ a.countP (fun x => stays b x && stays c x) := by
    refine count_inj _ _ hct ?_
    intro x hx hp
    rw [Bool.and_eq_true] at hp
    obtain ⟨y, hy, e1, e2⟩ := (stays_iff hat x).1 hp.1
    obtain ⟨z, hz, e3, e4⟩ := (stays_iff hbt x).1 hp.2
    refine ⟨y, hy, e1, ?_⟩
    rw [Bool.and_eq_true]
    exact ⟨(stays_iff hbt y).2 ⟨z, hz, by omega, by omega⟩, (stays_iff hct y).2 ⟨x, hx, e1.symm, e2.symm⟩⟩
  have m3 : a.countP (stays b) = a.countP (fun x => stays b x && stays c x) + a.countP (fun x => stays b x && !stays c x) := by
    clear m2 m1 t1 t2 t3 n1 n2 n3 s1 s2 s3 hL hat ha
    induction a with
    | nil => rfl
    | cons x r ih =>
      simp only [List.countP_cons]
      rw [ih]
      cases stays b x <;> cases stays c x <;> simp <;> omega
  have m4 : a.countP (turned b) ≤ a.countP (fun x => stays b x && !stays c x) + a.countP (turned c) + a.countP (fun x => c.any fun y => decide (y.1 = x.1) && turned b y) := by
    refine count_three _ _ _ _ a ?_
    intro x hx ht
    simp only [turned, List.any_eq_true, otherText, decide_eq_true_eq] at ht
    obtain ⟨y, hy, e1, e2, e3⟩ := ht
    have hs : stays b x = true := (stays_iff hbt x).2 ⟨y, hy, e1.symm, e2.symm⟩
    cases hcx : stays c x with
    | false => exact Or.inl (by rw [hs]; rfl)
    | true =>
      right
      obtain ⟨z, hz, q1, q2⟩ := (stays_iff hct x).1 hcx
      by_cases hxz : x.2.2 = z.2.2
      · right
        rw [List.any_eq_true]
        refine ⟨z, hz, ?_⟩
        rw [Bool.and_eq_true, decide_eq_true_eq]
        refine ⟨q1, ?_⟩
        simp only [turned, List.any_eq_true, otherText, decide_eq_true_eq]
        exact ⟨y, hy, by omega, by omega, by rw [← hxz]; exact e3⟩
      · left
        simp only [turned, List.any_eq_true, otherText, decide_eq_true_eq]
        exact ⟨z, hz, q1.symm, q2.symm, hxz⟩
  have m5 : a.countP (fun x => c.any fun y => decide (y.1 = x.1) && turned b y) ≤ c.countP (turned b) := by
    refine count_inj _ _ hat ?_
    intro x hx hp
    rw [List.any_eq_true] at hp
    obtain ⟨y, hy, h⟩ := hp
    rw [Bool.and_eq_true, decide_eq_true_eq] at h
    exact ⟨y, hy, h.1, h.2⟩
  unfold fewN
  omega

end T
end Go.Proofs.Ytcaeeaiodbjacaa
