/-
  Plans: which Id a show gets, and what of it lasts.
-/
import Derived.Test.YtcaeeaiodbjacaaTreeM
namespace Go.Proofs.Ytcaeeaiodbjacaa
namespace T

/-- A show: its Key and its Text. -/
abbrev Sh := Int × ByteArray

def apart (x y : Nd) : Prop := x.1 ≠ y.1 ∧ x.2.1 ≠ y.2.1

theorem clash_iff (l : List Nd) (x : Nd) : clash l x = false ↔ ∀ y ∈ l, apart y x := by
  simp only [clash, List.any_eq_false, decide_eq_true_eq, apart]
  constructor
  · intro h y hy; have := h y hy; omega
  · intro h y hy; have := h y hy; omega

theorem treeFrom_iff (pre l : List Nd) : treeFrom pre l = true ↔ (∀ x ∈ l, okNd x = true) ∧ (∀ x ∈ l, ∀ y ∈ pre, apart y x) ∧ l.Pairwise apart := by
  induction l generalizing pre with
  | nil => simp [treeFrom]
  | cons a r ih =>
    simp only [treeFrom, Bool.and_eq_true, Bool.not_eq_true', clash_iff, ih, List.mem_cons, List.mem_append, List.not_mem_nil, or_false, List.pairwise_cons]
    constructor
    · rintro ⟨⟨h1, h2⟩, h3, h4, h5⟩
      refine ⟨?_, ?_, ?_, h5⟩
      · rintro x (rfl | hx)
        · exact h1
        · exact h3 x hx
      · rintro x (rfl | hx) y hy
        · exact h2 y hy
        · exact h4 x hx y (Or.inl hy)
      · intro x hx; exact h4 x hx a (Or.inr rfl)
    · rintro ⟨h1, h2, h3, h4⟩
      refine ⟨⟨h1 a (Or.inl rfl), h2 a (Or.inl rfl)⟩, fun x hx => h1 x (Or.inr hx), ?_, h4⟩
      rintro x hx y (hy | rfl)
      · exact h2 x (Or.inr hx) y hy
      · exact h3 x hx

theorem isTree_iff (l : List Nd) : isTree l = true ↔ l.length ≤ 16 ∧ (∀ x ∈ l, okNd x = true) ∧ l.Pairwise apart := by
  simp only [isTree, Bool.and_eq_true, decide_eq_true_eq, treeFrom_iff, List.not_mem_nil]
  constructor
  · rintro ⟨h1, h2, _, h3⟩; exact ⟨h1, h2, h3⟩
  · rintro ⟨h1, h2, h3⟩; exact ⟨h1, h2, by intro x _ y hy; exact absurd hy (by simp), h3⟩

theorem apart_mem {l : List Nd} (h : l.Pairwise apart) {x y : Nd} (hx : x ∈ l) (hy : y ∈ l) (he : x.1 = y.1 ∨ x.2.1 = y.2.1) : x = y := by
  induction l with
  | nil => simp at hx
  | cons a r ih =>
    rw [List.pairwise_cons] at h
    rcases List.mem_cons.1 hx with rfl | hx'
    · rcases List.mem_cons.1 hy with rfl | hy'
      · rfl
      · have h1 := h.1 y hy'
        unfold apart at h1
        omega
    · rcases List.mem_cons.1 hy with rfl | hy'
      · have h1 := h.1 x hx'
        unfold apart at h1
        omega
      · exact ih h.2 hx' hy'

/-- Has one of these this Id? -/
def has (l : List Nd) (i : Int) : Bool := l.any fun y => decide (y.1 = i)

theorem has_false (l : List Nd) (i : Int) : has l i = false ↔ ∀ y ∈ l, y.1 ≠ i := by
  simp only [has, List.any_eq_false, decide_eq_true_eq]

/-- The least of f numbers from i on that none of these has; 0: there is none. -/
def leastFrom (old next : List Nd) : Nat → Int → Int
  | 0, _ => 0
  | f + 1, i => if has old i = false ∧ has next i = false then i else leastFrom old next f (i + 1)

def idFor (key : Int) (old next : List Nd) : Int :=
  match old.find? (fun x => decide (x.2.1 = key)) with
  | some x => x.1
  | none => leastFrom old next 16 1

def mkN (old next : List Nd) (s : Sh) : Nd := (idFor s.1 old next, s.1, s.2)

def planFrom (old next : List Nd) : List Sh → List Nd
  | [] => next
  | s :: r => planFrom old (next ++ [mkN old next s]) r

def plan (old : List Nd) (shows : List Sh) : List Nd := planFrom old [] shows

theorem leastFrom_spec (old next : List Nd) : ∀ (f : Nat) (i : Int),
    (leastFrom old next f i = 0 ∧ ∀ j, i ≤ j → j < i + f → has old j = true ∨ has next j = true) ∨ (i ≤ leastFrom old next f i ∧ leastFrom old next f i < i + f ∧ has old (leastFrom old next f i) = false ∧ has next (leastFrom old next f i) = false)
  | 0, i => Or.inl ⟨rfl, by intro j h1 h2; omega⟩
  | f + 1, i => by
      unfold leastFrom
      by_cases h : has old i = false ∧ has next i = false
      · rw [if_pos h]; exact Or.inr ⟨by omega, by omega, h.1, h.2⟩
      · rw [if_neg h]
        rcases leastFrom_spec old next f (i + 1) with ⟨h1, h2⟩ | ⟨h1, h2, h3⟩
        · refine Or.inl ⟨h1, ?_⟩
          intro j j1 j2
          by_cases hj : j = i
          · subst hj
            cases ha : has old j with
            | true => exact Or.inl rfl
            | false =>
              cases hb : has next j with
              | true => exact Or.inr rfl
              | false => exact absurd ⟨ha, hb⟩ h
          · exact h2 j (by omega) (by omega)
        · exact Or.inr ⟨by omega, by omega, h3⟩

theorem pigeon : ∀ (n : Nat) (L : List Int), (∀ j : Int, 1 ≤ j → j < 1 + n → j ∈ L) → n ≤ L.length
  | 0, L, _ => Nat.zero_le _
  | n + 1, L, h => by
      have hm : ((n : Int) + 1) ∈ L := h _ (by omega) (by omega)
      have := pigeon n (L.erase ((n : Int) + 1)) (by
        intro j j1 j2
        exact (List.mem_erase_of_ne (by omega)).2 (h j j1 (by omega)))
      rw [List.length_erase_of_mem hm] at this
      have := List.length_pos_of_mem hm
      omega

theorem leastFrom_free (old next : List Nd) (hl : old.length + next.length < 16) :
    1 ≤ leastFrom old next 16 1 ∧ leastFrom old next 16 1 ≤ 16 ∧ has old (leastFrom old next 16 1) = false ∧ has next (leastFrom old next 16 1) = false := by
  rcases leastFrom_spec old next 16 1 with ⟨_, h⟩ | ⟨h1, h2, h3, h4⟩
  · exfalso
    have := pigeon 16 ((old ++ next).map (fun x => x.1)) (by
      intro j j1 j2
      have hj := h j j1 j2
      simp only [has, List.any_eq_true, decide_eq_true_eq] at hj
      rw [List.mem_map]
      rcases hj with ⟨x, hx, he⟩ | ⟨x, hx, he⟩
      · exact ⟨x, by simp [hx], he⟩
      · exact ⟨x, by simp [hx], he⟩)
    simp at this
    omega
  · exact ⟨h1, by omega, h3, h4⟩

/-- What stands of a plan that is on its way. -/
structure Way (old next : List Nd) : Prop where
  far : next.Pairwise apart
  right : ∀ x ∈ next, okNd x = true
  same : ∀ y ∈ next, ∀ o ∈ old, o.1 = y.1 ↔ o.2.1 = y.2.1

theorem Way.nil (old : List Nd) : Way old [] := ⟨List.Pairwise.nil, by simp, by simp⟩

theorem Way.step {old next : List Nd} (h : Way old next) (ho : old.Pairwise apart) (hk : ∀ x ∈ old, okNd x = true) (s : Sh) (ht : isText (bts s.2) = true) (hn : ∀ x ∈ next, x.2.1 ≠ s.1) (hl : old.length + next.length < 16) :
    Way old (next ++ [mkN old next s]) := by
  have key : (1 ≤ (mkN old next s).1 ∧ (mkN old next s).1 ≤ 16) ∧ (∀ z ∈ next, z.1 ≠ (mkN old next s).1) ∧ (∀ o ∈ old, o.1 = (mkN old next s).1 ↔ o.2.1 = s.1) := by
    cases hf : old.find? (fun x => decide (x.2.1 = s.1)) with
    | some o =>
      have e : (mkN old next s).1 = o.1 := by simp [mkN, idFor, hf]
      have hm : o ∈ old := List.mem_of_find?_eq_some hf
      have hs : o.2.1 = s.1 := by simpa using List.find?_some hf
      rw [e]
      refine ⟨?_, ?_, ?_⟩
      · have := hk o hm
        simp only [okNd, Bool.and_eq_true, decide_eq_true_eq] at this
        exact this.1
      · intro z hz he
        exact hn z hz (((h.same z hz o hm).1 he.symm) ▸ hs)
      · intro o' ho'
        constructor
        · intro he; rw [apart_mem ho ho' hm (Or.inl he)]; exact hs
        · intro he; rw [apart_mem ho ho' hm (Or.inr (by omega))]
    | none =>
      have e : (mkN old next s).1 = leastFrom old next 16 1 := by simp [mkN, idFor, hf]
      obtain ⟨h1, h2, h3, h4⟩ := leastFrom_free old next hl
      rw [e]
      rw [has_false] at h3 h4
      refine ⟨⟨h1, h2⟩, h4, ?_⟩
      intro o ho'
      have hno : o.2.1 ≠ s.1 := by
        have := List.find?_eq_none.1 hf o ho'
        simpa using this
      constructor
      · intro he; exact absurd he (h3 o ho')
      · intro he; exact absurd he hno
  obtain ⟨k1, k2, k3⟩ := key
  refine ⟨?_, ?_, ?_⟩
  · rw [List.pairwise_append]
    refine ⟨h.far, by simp, ?_⟩
    intro z hz y hy
    rw [List.mem_singleton] at hy
    subst hy
    exact ⟨k2 z hz, hn z hz⟩
  · intro x hx
    rcases List.mem_append.1 hx with hx | hx
    · exact h.right x hx
    · rw [List.mem_singleton] at hx
      subst hx
      simp only [okNd, Bool.and_eq_true, decide_eq_true_eq]
      exact ⟨k1, ht⟩
  · intro y hy o ho'
    rcases List.mem_append.1 hy with hy | hy
    · exact h.same y hy o ho'
    · rw [List.mem_singleton] at hy
      subst hy
      exact k3 o ho'

/-- Shows of which a plan can be made. -/
def okSh (l : List Sh) : Prop := l.length ≤ 8 ∧ (∀ s ∈ l, isText (bts s.2) = true) ∧ l.Pairwise (fun x y => x.1 ≠ y.1)

theorem planFrom_map (old : List Nd) : ∀ (l : List Sh) (next : List Nd), (planFrom old next l).map (fun x => ((x.2.1, x.2.2) : Sh)) = next.map (fun x => ((x.2.1, x.2.2) : Sh)) ++ l
  | [], next => by simp [planFrom]
  | s :: r, next => by
      unfold planFrom
      rw [planFrom_map old r]
      simp [mkN]

theorem planFrom_length (old : List Nd) (l : List Sh) (next : List Nd) : (planFrom old next l).length = next.length + l.length := by
  have := congrArg List.length (planFrom_map old l next)
  simpa using this

theorem planFrom_way {old : List Nd} (ho : old.Pairwise apart) (hk : ∀ x ∈ old, okNd x = true) (hl : old.length ≤ 8) : ∀ (l : List Sh) (next : List Nd), Way old next → next.length + l.length ≤ 8 →
    (∀ s ∈ l, isText (bts s.2) = true) → l.Pairwise (fun x y => x.1 ≠ y.1) → (∀ x ∈ next, ∀ s ∈ l, x.2.1 ≠ s.1) → Way old (planFrom old next l)
  | [], next, h, _, _, _, _ => h
  | s :: r, next, h, h8, ht, hp, hn => by
      rw [List.pairwise_cons] at hp
      simp only [List.length_cons] at h8
      unfold planFrom
      refine planFrom_way ho hk hl r _ (h.step ho hk s (ht s (by simp)) (fun x hx => hn x hx s (by simp)) (by omega)) (by simp; omega) (fun z hz => ht z (by simp [hz])) hp.2 ?_
      intro x hx z hz
      rcases List.mem_append.1 hx with hx | hx
      · exact hn x hx z (by simp [hz])
      · rw [List.mem_singleton] at hx
        subst hx
        exact hp.1 z hz

theorem plan_way {old : List Nd} {l : List Sh} (ho : isTree old = true) (hl : old.length ≤ 8) (h : okSh l) : Way old (plan old l) := by
  rw [isTree_iff] at ho
  exact planFrom_way ho.2.2 ho.2.1 hl l [] (Way.nil old) (by simpa using h.1) h.2.1 h.2.2 (by simp)

theorem plan_length (old : List Nd) (l : List Sh) : (plan old l).length = l.length := by
  have := planFrom_length old l []
  simpa [plan] using this

theorem plan_map (old : List Nd) (l : List Sh) : (plan old l).map (fun x => ((x.2.1, x.2.2) : Sh)) = l := by
  have := planFrom_map old l []
  simpa [plan] using this

theorem plan_tree {old : List Nd} {l : List Sh} (ho : isTree old = true) (hl : old.length ≤ 8) (h : okSh l) : isTree (plan old l) = true := by
  have hw := plan_way ho hl h
  rw [isTree_iff]
  have := plan_length old l
  exact ⟨by have := h.1; omega, hw.right, hw.far⟩

theorem find_mem {N : List Nd} (h : N.Pairwise apart) {x : Nd} (hx : x ∈ N) : N.find? (fun y => decide (y.2.1 = x.2.1)) = some x := by
  cases hf : N.find? (fun y => decide (y.2.1 = x.2.1)) with
  | none =>
    have := List.find?_eq_none.1 hf x hx
    simp at this
  | some y =>
    have hm : y ∈ N := List.mem_of_find?_eq_some hf
    have hs : y.2.1 = x.2.1 := by simpa using List.find?_some hf
    rw [apart_mem h hm hx (Or.inr hs)]

theorem planFrom_again {N : List Nd} (h : N.Pairwise apart) : ∀ (t acc : List Nd), (∀ x ∈ t, x ∈ N) → planFrom N acc (t.map (fun x => ((x.2.1, x.2.2) : Sh))) = acc ++ t
  | [], acc, _ => by simp [planFrom]
  | x :: t, acc, hm => by
      have e : mkN N acc (x.2.1, x.2.2) = x := by
        unfold mkN idFor
        rw [find_mem h (hm x (by simp))]
      rw [List.map_cons]
      unfold planFrom
      rw [e, planFrom_again h t (acc ++ [x]) (fun y hy => hm y (by simp [hy]))]
      simp

/-- Shown once more, all is as it was. -/
theorem plan_again {old : List Nd} {l : List Sh} (ho : isTree old = true) (hl : old.length ≤ 8) (h : okSh l) : plan (plan old l) l = plan old l := by
  have hw := plan_way ho hl h
  have := planFrom_again hw.far (plan old l) [] (fun x hx => hx)
  rw [plan_map] at this
  simpa [plan] using this

end T
end Go.Proofs.Ytcaeeaiodbjacaa
