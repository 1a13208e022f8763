/-
  Diff: what it does, by lists; taking out what does not stay; bringing into order.
  Diff: bringing into the order of next.
  Diff: it makes the one tree of the other, by as many patches as the document says.
  Diff: how many patches there are, by the document's own count.
-/
import Derived.Test.YtcaeeaiodbjacaaDiffA
import Derived.Test.YtcaeeaiodbjacaaPatchM
import Derived.Test.YtcaeeaiodbjacaaApplyR
namespace Go.Proofs.Ytcaeeaiodbjacaa
set_option linter.unusedVariables false
namespace T

/-- A tree on its way: as it is now, and the patches so far. -/
abbrev Ch := List Nd × List Pt

def doP (c : Ch) (p : Pt) : Ch := ((patchP c.1 p).getD [], c.2 ++ [p])

def nd0 : Nd := (0, 0, ⟨#[]⟩)

/-- Does a node stay in next? -/
def stays (next : List Nd) (x : Nd) : Bool := decide (0 ≤ place next x.1) && decide ((next.getD (place next x.1).toNat nd0).2.1 = x.2.1)

def rmAll (next : List Nd) : List Nd → Ch → Ch
  | [], c => c
  | x :: r, c => rmAll next r (if stays next x then c else doP c (1, x.1, 0, 0, ⟨#[]⟩))

/-- The place just behind the last of these. -/
def behind (now ahead : List Nd) : Int := match ahead.getLast? with
  | none => 0
  | some z => place now z.1 + 1

def moveP (c : Ch) (id at_ : Int) : Ch := doP c (3, id, (if place c.1 id < at_ then at_ - 1 else at_), 0, ⟨#[]⟩)

def arrOne (next : List Nd) (was : List Int) (rests : List Bool) (i : Nat) (x : Nd) (c : Ch) : Ch :=
  if was.getD i 0 < 0 then doP c (2, x.1, behind c.1 (next.take i), x.2.1, x.2.2)
  else if rests.getD i true then c else moveP c x.1 (behind c.1 (next.take i))

def arrFrom (next : List Nd) (was : List Int) (rests : List Bool) : Nat → List Nd → Ch → Ch
  | _, [], c => c
  | i, x :: r, c => arrFrom next was rests (i + 1) r (arrOne next was rests i x c)

def wasOf (now next : List Nd) : List Int := next.map fun x => place now x.1

def arrange (next : List Nd) (c : Ch) : Ch := arrFrom next (wasOf c.1 next) (marksOf (wasOf c.1 next)) 0 next c

def rtOne (x : Nd) (c : Ch) : Ch := if 0 ≤ place c.1 x.1 ∧ (c.1.getD (place c.1 x.1).toNat nd0).2.2 ≠ x.2.2 then doP c (4, x.1, 0, 0, x.2.2) else c

def rtAll : List Nd → Ch → Ch
  | [], c => c
  | x :: r, c => rtAll r (rtOne x c)

def diff (old next : List Nd) : List Pt := (rtAll next (arrange next (rmAll next old (old, [])))).2

/-- The patches so far make it so. -/
def Good (old : List Nd) (c : Ch) : Prop := applyFrom old c.2 = some c.1 ∧ isTree c.1 = true

theorem applyFrom_snoc (p : Pt) : ∀ (ps : List Pt) (l m r : List Nd), applyFrom l ps = some m → patchP m p = some r → applyFrom l (ps ++ [p]) = some r
  | [], l, m, r, h, hp => by
      obtain rfl := Option.some.inj h
      show (match patchP l p with | none => none | some x => applyFrom x []) = _
      rw [hp]
      rfl
  | q :: ps, l, m, r, h, hp => by
      show (match patchP l q with | none => none | some x => applyFrom x (ps ++ [p])) = _
      unfold applyFrom at h
      cases hq : patchP l q with
      | none => rw [hq] at h; cases h
      | some x =>
        rw [hq] at h
        exact applyFrom_snoc p ps x m r h hp

theorem good_do {old : List Nd} {c : Ch} {p : Pt} {r : List Nd} (h : Good old c) (hp : patchP c.1 p = some r) : doP c p = (r, c.2 ++ [p]) ∧ Good old (doP c p) := by
  have e : doP c p = (r, c.2 ++ [p]) := by unfold doP; rw [hp]; rfl
  refine ⟨e, ?_⟩
  rw [e]
  exact ⟨applyFrom_snoc p c.2 old c.1 r h.1 hp, patchP_tree h.2 hp⟩

def ids (l : List Nd) : List Int := l.map fun x => x.1

theorem placeFrom_ix : ∀ (l : List Nd) (i : Int) (k : Nat), placeFrom l i k = ixFrom (ids l) i k
  | [], i, k => rfl
  | x :: r, i, k => by
      show (if x.1 = i then _ else _) = (if x.1 = i then _ else _)
      rw [placeFrom_ix r i (k + 1)]
      rfl

theorem place_ix (l : List Nd) (i : Int) : place l i = ixFrom (ids l) i 0 := placeFrom_ix l i 0

theorem ids_nodup {l : List Nd} (h : l.Pairwise apart) : (ids l).Nodup := by
  unfold ids
  rw [List.nodup_iff_pairwise_ne, List.pairwise_map]
  exact h.imp fun h => h.1

theorem mem_ids {l : List Nd} {i : Int} : i ∈ ids l ↔ has l i = true := by
  simp only [ids, List.mem_map, has, List.any_eq_true, decide_eq_true_eq]

theorem stays_iff {next : List Nd} (h : next.Pairwise apart) (x : Nd) : stays next x = true ↔ ∃ y ∈ next, y.1 = x.1 ∧ y.2.1 = x.2.1 := by
  unfold stays
  cases hh : has next x.1 with
  | false =>
    rw [place_no hh]
    constructor
    · intro q; simp at q
    · rintro ⟨y, hy, he, _⟩
      exact absurd he ((has_false next x.1).1 hh y hy)
  | true =>
    obtain ⟨j, y, hy, he⟩ := has_at hh
    have hp : place next x.1 = j := by rw [← he]; exact place_at h hy
    rw [hp]
    have hg : next.getD ((j : Int)).toNat nd0 = y := by rw [show ((j : Int)).toNat = j by omega, List.getD, hy]; rfl
    rw [hg]
    constructor
    · intro q
      simp at q
      exact ⟨y, List.mem_of_getElem? hy, he, q⟩
    · rintro ⟨z, hz, e1, e2⟩
      have := apart_mem h hz (List.mem_of_getElem? hy) (Or.inl (by omega))
      subst this
      simp
      exact e2

theorem rm_spec {old0 next : List Nd} : ∀ (suf pre : List Nd) (ps : List Pt), Good old0 (pre ++ suf, ps) →
    rmAll next suf (pre ++ suf, ps) = (pre ++ suf.filter (stays next), ps ++ (suf.filter fun x => !stays next x).map fun x => (1, x.1, 0, 0, ⟨#[]⟩)) ∧ Good old0 (rmAll next suf (pre ++ suf, ps))
  | [], pre, ps, h => ⟨by simp [rmAll], h⟩
  | x :: r, pre, ps, h => by
      unfold rmAll
      cases hs : stays next x with
      | true =>
        rw [if_pos rfl]
        have e : pre ++ x :: r = (pre ++ [x]) ++ r := by simp
        rw [e] at h ⊢
        obtain ⟨h1, h2⟩ := rm_spec (next := next) r (pre ++ [x]) ps h
        refine ⟨?_, h2⟩
        rw [h1]
        simp [hs]
      | false =>
        rw [if_neg (by simp)]
        have hat : (pre ++ x :: r)[pre.length]? = some x := by simp
        have hp : patchP (pre ++ x :: r) (1, x.1, 0, 0, ⟨#[]⟩) = some (pre ++ r) := by
          unfold patchP patchO
          simp only
          rw [if_neg (by decide), place_at ((isTree_iff _).1 h.2).2.2 hat, if_neg (by omega), if_pos trivial, show ((pre.length : Int)).toNat = pre.length by omega]
          rw [List.eraseIdx_append_of_length_le (Nat.le_refl _)]
          simp
        obtain ⟨e, hg⟩ := good_do h hp
        rw [e] at hg ⊢
        obtain ⟨h1, h2⟩ := rm_spec (next := next) r pre (ps ++ [(1, x.1, 0, 0, ⟨#[]⟩)]) hg
        refine ⟨?_, h2⟩
        rw [h1]
        simp [hs]

/-- Of the marked ones. -/
def restL : List Int → List Bool → List Int
  | x :: r, true :: m => x :: restL r m
  | _ :: r, false :: m => restL r m
  | _, _ => []

theorem restL_sub : ∀ (l : List Int) (m : List Bool), (restL l m).Sublist l
  | [], m => by cases m <;> simp [restL]
  | x :: r, [] => by simp [restL]
  | x :: r, true :: m => (restL_sub r m).cons_cons x
  | x :: r, false :: m => (restL_sub r m).cons x

theorem restL_length : ∀ (l : List Int) (m : List Bool), m.length = l.length → (restL l m).length = m.count true
  | [], m, h => by
      obtain rfl : m = [] := List.eq_nil_of_length_eq_zero h
      rfl
  | x :: r, [], h => by simp at h
  | x :: r, true :: m, h => by
      have := restL_length r m (by simpa using h)
      simp [restL, this]
  | x :: r, false :: m, h => by
      have := restL_length r m (by simpa using h)
      simp [restL, this]

theorem restL_mem : ∀ (l : List Int) (m : List Bool) (z : Int), z ∈ restL l m → ∃ j : Nat, l[j]? = some z ∧ m[j]? = some true
  | [], m, z, h => by cases m <;> simp [restL] at h
  | x :: r, [], z, h => by simp [restL] at h
  | x :: r, true :: m, z, h => by
      rcases List.mem_cons.1 h with rfl | h
      · exact ⟨0, rfl, rfl⟩
      · obtain ⟨j, h1, h2⟩ := restL_mem r m z h
        exact ⟨j + 1, by simpa using h1, by simpa using h2⟩
  | x :: r, false :: m, z, h => by
      obtain ⟨j, h1, h2⟩ := restL_mem r m z h
      exact ⟨j + 1, by simpa using h1, by simpa using h2⟩

/-- Marks that rise: what is marked rises. -/
theorem restL_rise (f : Int → Int) : ∀ (l : List Int) (m : List Bool), (∀ (i j : Nat) (x y : Int), i < j → m[i]? = some true → m[j]? = some true → l[i]? = some x → l[j]? = some y → f x < f y) → ((restL l m).map f).Pairwise (· < ·)
  | [], m, _ => by cases m <;> simp [restL]
  | x :: r, [], _ => by simp [restL]
  | x :: r, true :: m, h => by
      have ih := restL_rise f r m (fun i j a b hij h1 h2 h3 h4 => h (i + 1) (j + 1) a b (by omega) (by simpa using h1) (by simpa using h2) (by simpa using h3) (by simpa using h4))
      show ((x :: restL r m).map f).Pairwise _
      rw [List.map_cons, List.pairwise_cons]
      refine ⟨?_, ih⟩
      intro y hy
      obtain ⟨z, hz, rfl⟩ := List.mem_map.1 hy
      obtain ⟨j, h1, h2⟩ := restL_mem r m z hz
      exact h 0 (j + 1) x z (by omega) rfl (by simpa using h2) rfl (by simpa using h1)
  | x :: r, false :: m, h => restL_rise f r m (fun i j a b hij h1 h2 h3 h4 => h (i + 1) (j + 1) a b (by omega) (by simpa using h1) (by simpa using h2) (by simpa using h3) (by simpa using h4))

theorem filter_sub : ∀ (a c : List Int), a.Nodup → c.Sublist a → a.filter (fun z => decide (z ∈ c)) = c
  | [], c, _, hc => by
      rw [List.sublist_nil] at hc
      subst hc
      rfl
  | x :: r, c, hn, hc => by
      rw [List.nodup_cons] at hn
      rcases List.sublist_cons_iff.1 hc with q | ⟨t, rfl, q⟩
      · have hx : x ∉ c := fun h => hn.1 (q.subset h)
        rw [List.filter_cons, if_neg (by simpa using hx)]
        exact filter_sub r c hn.2 q
      · rw [List.filter_cons, if_pos (by simp)]
        congr 1
        have e : r.filter (fun z => decide (z ∈ x :: t)) = r.filter (fun z => decide (z ∈ t)) := by
          apply List.filter_congr
          intro z hz
          have : z ≠ x := by rintro rfl; exact hn.1 hz
          simp [this]
        rw [e]
        exact filter_sub r t hn.2 q

/-- Around a number that stands in both just once. -/
theorem split_at {z : Int} : ∀ (a b c d : List Int), z ∉ a → z ∉ c → a ++ z :: b = c ++ z :: d → a = c ∧ b = d
  | [], b, [], d, _, _, h => by simpa using h
  | [], b, y :: c, d, _, hc, h => by
      simp at h
      exact absurd h.1 (by rintro rfl; simp at hc)
  | x :: a, b, [], d, ha, _, h => by
      simp at h
      exact absurd h.1 (by rintro rfl; simp at ha)
  | x :: a, b, y :: c, d, ha, hc, h => by
      simp at h
      obtain ⟨rfl, h⟩ := h
      obtain ⟨h1, h2⟩ := split_at a b c d (fun q => ha (by simp [q])) (fun q => hc (by simp [q])) h
      exact ⟨by rw [h1], h2⟩

theorem ix_split : ∀ (e : List Int) (z : Int) (k : Nat), z ∈ e → ∃ a b : List Int, e = a ++ z :: b ∧ z ∉ a ∧ ixFrom e z k = ((k + a.length : Nat) : Int)
  | [], z, k, h => by simp at h
  | x :: r, z, k, h => by
      by_cases hx : x = z
      · subst hx
        exact ⟨[], r, rfl, by simp, by show (if x = x then _ else _) = _; rw [if_pos rfl]; simp⟩
      · obtain ⟨a, b, rfl, h2, h3⟩ := ix_split r z (k + 1) ((List.mem_cons.1 h).resolve_left (fun q => hx q.symm))
        refine ⟨x :: a, b, rfl, ?_, ?_⟩
        · intro q
          rcases List.mem_cons.1 q with q | q
          · exact hx q.symm
          · exact h2 q
        · rw [ix_skip hx, h3]
          simp
          omega

/-- x comes to stand just behind the last of P. -/
theorem put_filter {E P Q : List Int} {x : Int} {R R' : Int → Bool} {k : Nat} (hn : E.Nodup) (hx : x ∉ E) (hR : ∀ z, z ≠ x → R' z = R z) (hRx : R' x = true) (hf : E.filter R = P ++ Q)
    (hk : (P = [] ∧ k = 0) ∨ ∃ P0 z, P = P0 ++ [z] ∧ ixFrom E z 0 + 1 = k) : (E.take k ++ [x] ++ E.drop k).filter R' = P ++ [x] ++ Q ∧ k ≤ E.length := by
  have cong : ∀ t : List Int, (∀ y ∈ t, y ∈ E) → t.filter R' = t.filter R := by
    intro t ht
    apply List.filter_congr
    intro y hy
    exact hR y (by rintro rfl; exact hx (ht y hy))
  rcases hk with ⟨rfl, rfl⟩ | ⟨P0, z, rfl, hk⟩
  · refine ⟨?_, Nat.zero_le _⟩
    simp only [List.take_zero, List.nil_append, List.drop_zero, List.filter_append]
    rw [cong E (fun y h => h), hf, List.filter_cons, if_pos hRx]
    rfl
  · have hz : z ∈ E.filter R := by rw [hf]; simp
    rw [List.mem_filter] at hz
    obtain ⟨A, B, hE, hA, hi⟩ := ix_split E z 0 hz.1
    have hkA : k = A.length + 1 := by omega
    have hnf : (E.filter R).Nodup := List.Nodup.sublist List.filter_sublist hn
    rw [hf] at hnf
    have hzP : z ∉ P0 := by
      rw [List.append_assoc, List.nodup_append] at hnf
      intro h
      exact hnf.2.2 z h z (by simp) rfl
    have hs : A.filter R ++ z :: B.filter R = P0 ++ z :: Q := by
      have : E.filter R = A.filter R ++ z :: B.filter R := by rw [hE, List.filter_append, List.filter_cons, if_pos hz.2]
      rw [← this, hf]
      simp
    obtain ⟨h1, h2⟩ := split_at _ _ _ _ (fun h => hA (List.mem_filter.1 h).1) hzP hs
    have ht : E.take k = A ++ [z] := by rw [hE, hkA, List.take_append, List.take_of_length_le (by omega)]; simp
    have hd : E.drop k = B := by rw [hE, hkA, List.drop_append, List.drop_of_length_le (by omega)]; simp
    refine ⟨?_, by rw [hE, hkA]; simp⟩
    rw [ht, hd, List.filter_append, List.filter_append, List.filter_append, cong A (by intro y hy; rw [hE]; simp [hy]), cong B (by intro y hy; rw [hE]; simp [hy]), cong [z] (by intro y hy; simp at hy; subst hy; rw [hE]; simp), h1, h2]
    simp [hz.2, hRx]

end T
end Go.Proofs.Ytcaeeaiodbjacaa

namespace Go.Proofs.Ytcaeeaiodbjacaa
set_option linter.unusedVariables false
namespace T

/-- i nodes of next are in their order. -/
structure J (next now0 : List Nd) (M : List Bool) (i : Nat) (now : List Nd) : Prop where
  tree : isTree now = true
  keys : ∀ y ∈ now, ∃ x ∈ next, x.1 = y.1 ∧ x.2.1 = y.2.1
  mem : ∀ (j : Nat) (x : Nd), next[j]? = some x → (has now x.1 = true ↔ (j < i ∨ has now0 x.1 = true))
  ord : (ids now).filter (fun z => decide (z ∈ (ids next).take i ∨ z ∈ restL ((ids next).drop i) (M.drop i))) = (ids next).take i ++ restL ((ids next).drop i) (M.drop i)
  txt : ∀ y ∈ now, y ∈ now0 ∨ (y ∈ next ∧ has now0 y.1 = false)

theorem ids_at {l : List Nd} {i : Nat} {x : Nd} (h : l[i]? = some x) : (ids l)[i]? = some x.1 := by
  unfold ids
  rw [List.getElem?_map, h]
  rfl

theorem ids_put (E : List Nd) (k : Nat) (y : Nd) : ids (put E k y) = (ids E).take k ++ [y.1] ++ (ids E).drop k := by
  unfold ids put
  simp [List.map_take, List.map_drop]

theorem drop_at {α : Type} {l : List α} {i : Nat} {x : α} (h : l[i]? = some x) : l.drop i = x :: l.drop (i + 1) := by
  obtain ⟨h1, rfl⟩ := List.getElem?_eq_some_iff.1 h
  exact List.drop_eq_getElem_cons h1

theorem take_at {α : Type} {l : List α} {i : Nat} {x : α} (h : l[i]? = some x) : l.take (i + 1) = l.take i ++ [x] := by
  rw [List.take_add_one, h]
  rfl

theorem not_take {l : List Int} {i : Nat} {x : Int} (hn : l.Nodup) (h : l[i]? = some x) : x ∉ l.take i ∧ x ∉ l.drop (i + 1) := by
  have e : l = l.take i ++ x :: l.drop (i + 1) := by
    rw [← drop_at h, List.take_append_drop]
  rw [e, List.nodup_append, List.nodup_cons] at hn
  obtain ⟨_, ⟨h1, _⟩, h2⟩ := hn
  exact ⟨fun q => h2 x q x (by simp) rfl, h1⟩

theorem pairwise_put {E : List Nd} {k : Nat} {y : Nd} (h : E.Pairwise apart) (hy : ∀ z ∈ E, apart z y) : (put E k y).Pairwise apart := by
  unfold put
  rw [← List.take_append_drop k E, List.pairwise_append] at h
  rw [List.pairwise_append, List.pairwise_append]
  refine ⟨⟨h.1, by simp, ?_⟩, h.2.1, ?_⟩
  · intro a ha b hb
    rw [List.mem_singleton] at hb
    subst hb
    exact hy a (List.mem_of_mem_take ha)
  · intro a ha b hb
    rcases List.mem_append.1 ha with ha | ha
    · exact h.2.2 a ha b hb
    · rw [List.mem_singleton] at ha
      subst ha
      have := hy b (List.mem_of_mem_drop hb)
      exact ⟨fun e => this.1 e.symm, fun e => this.2 e.symm⟩

theorem has_put (E : List Nd) (k : Nat) (y : Nd) (t : Int) : has (put E k y) t = true ↔ (has E t = true ∨ t = y.1) := by
  simp only [← mem_ids]
  rw [ids_put]
  simp only [List.mem_append, List.mem_singleton]
  have e : t ∈ ids E ↔ (t ∈ (ids E).take k ∨ t ∈ (ids E).drop k) := by
    conv => lhs; rw [← List.take_append_drop k (ids E)]
    rw [List.mem_append]
  rw [e]
  constructor
  · rintro ((h | h) | h)
    · exact Or.inl (Or.inl h)
    · exact Or.inr h
    · exact Or.inl (Or.inr h)
  · rintro ((h | h) | h)
    · exact Or.inl (Or.inl h)
    · exact Or.inr h
    · exact Or.inl (Or.inr h)

/-- A node comes to stand behind those that are in their order. -/
theorem J_put {next now0 now E : List Nd} {M : List Bool} {i k : Nat} {x y : Nd} (hN : isTree next = true) (hJ : J next now0 M i now) (hx : next[i]? = some x) (hm : M[i]? = some false) (hy1 : y.1 = x.1) (hy2 : y.2.1 = x.2.1) (hok : okNd y = true) (hty : y ∈ now0 ∨ (y ∈ next ∧ has now0 y.1 = false))
    (hE : (E = now ∧ has now x.1 = false) ∨ ∃ (p : Nat) (u : Nd), now[p]? = some u ∧ u.1 = x.1 ∧ E = now.eraseIdx p)
    (hk : (i = 0 ∧ k = 0) ∨ ∃ z, 0 < i ∧ next[i - 1]? = some z ∧ place E z.1 + 1 = k) :
    withO E k y = some (put E k y) ∧ J next now0 M (i + 1) (put E k y) := by
  have hNt := (isTree_iff next).1 hN
  have hNn := ids_nodup hNt.2.2
  have hnt := (isTree_iff now).1 hJ.tree
  have hxi := ids_at hx
  obtain ⟨hx1, hx2⟩ := not_take hNn hxi
  have hrest : restL ((ids next).drop i) (M.drop i) = restL ((ids next).drop (i + 1)) (M.drop (i + 1)) := by
    rw [drop_at hxi, drop_at hm]
    rfl
  have hxr : x.1 ∉ restL ((ids next).drop i) (M.drop i) := by
    rw [hrest]
    intro h
    exact hx2 ((restL_sub _ _).subset h)
  have hsub : E.Sublist now := by
    rcases hE with ⟨rfl, _⟩ | ⟨p, u, _, _, rfl⟩
    · exact List.Sublist.refl _
    · exact List.eraseIdx_sublist _ _
  have hxE : x.1 ∉ ids E := by
    rcases hE with ⟨rfl, h⟩ | ⟨p, u, hu, hux, rfl⟩
    · rw [mem_ids, h]; simp
    · intro h
      obtain ⟨q, v, hv, hvx⟩ := has_at (mem_ids.1 h)
      rw [List.getElem?_eraseIdx] at hv
      split at hv
      · rename_i hqp
        have := apart_at hnt.2.2 hv hu (by omega)
        omega
      · rename_i hqp
        have := apart_at hnt.2.2 hv hu (by omega)
        omega
  have hfilt : (ids E).filter (fun z => decide (z ∈ (ids next).take i ∨ z ∈ restL ((ids next).drop i) (M.drop i))) = (ids next).take i ++ restL ((ids next).drop i) (M.drop i) := by
    rw [← hJ.ord]
    rcases hE with ⟨rfl, _⟩ | ⟨p, u, hu, hux, rfl⟩
    · rfl
    · have e : now = now.take p ++ u :: now.drop (p + 1) := by rw [← drop_at hu, List.take_append_drop]
      have e2 : now.eraseIdx p = now.take p ++ now.drop (p + 1) := List.eraseIdx_eq_take_drop_succ now p
      rw [e2]
      conv => rhs; rw [e]
      unfold ids
      rw [List.map_append, List.map_append, List.filter_append, List.filter_append, List.map_cons, List.filter_cons, if_neg]
      simp only [hux, decide_eq_true_eq]
      rintro (h | h)
      · exact hx1 h
      · exact hxr h
  have hEp : E.Pairwise apart := hnt.2.2.sublist hsub
  have hmain := put_filter (E := ids E) (P := (ids next).take i) (Q := restL ((ids next).drop i) (M.drop i)) (x := x.1) (R := fun z => decide (z ∈ (ids next).take i ∨ z ∈ restL ((ids next).drop i) (M.drop i))) (R' := fun z => decide (z ∈ (ids next).take (i + 1) ∨ z ∈ restL ((ids next).drop (i + 1)) (M.drop (i + 1)))) (k := k) (ids_nodup hEp) hxE
    (by
      intro z hz
      rw [hrest, take_at hxi]
      simp [hz])
    (by rw [take_at hxi]; simp) hfilt
    (by
      rcases hk with ⟨rfl, rfl⟩ | ⟨z, hi0, hz, hk⟩
      · exact Or.inl ⟨rfl, rfl⟩
      · right
        refine ⟨(ids next).take (i - 1), z.1, ?_, ?_⟩
        · have := take_at (ids_at hz)
          rwa [show i - 1 + 1 = i by omega] at this
        · rw [← place_ix]
          exact hk)
  obtain ⟨hord, hkE⟩ := hmain
  have hap : ∀ z ∈ E, apart z y := by
    intro z hz
    have h1 : z.1 ≠ x.1 := by
      intro h
      exact hxE (by rw [← h]; exact List.mem_map.2 ⟨z, hz, rfl⟩)
    refine ⟨by omega, ?_⟩
    obtain ⟨x', hx', e1, e2⟩ := hJ.keys z (hsub.subset hz)
    intro h
    have := apart_mem hNt.2.2 hx' (List.mem_of_getElem? hx) (Or.inr (by omega))
    subst this
    omega
  have hpw := pairwise_put (k := k) hEp hap
  have hkeys : ∀ z ∈ put E k y, ∃ x ∈ next, x.1 = z.1 ∧ x.2.1 = z.2.1 := by
    intro z hz
    unfold put at hz
    simp only [List.mem_append, List.mem_singleton] at hz
    rcases hz with (hz | hz) | hz
    · exact hJ.keys z (hsub.subset (List.mem_of_mem_take hz))
    · subst hz
      exact ⟨x, List.mem_of_getElem? hx, hy1.symm, hy2.symm⟩
    · exact hJ.keys z (hsub.subset (List.mem_of_mem_drop hz))
  have htree : isTree (put E k y) = true := by
    rw [isTree_iff]
    refine ⟨?_, ?_, hpw⟩
    · have := nodup_le (ids (put E k y)) (ids next) (ids_nodup hpw) (by
        intro t ht
        obtain ⟨z, hz, rfl⟩ := List.mem_map.1 ht
        obtain ⟨x', hx', e1, _⟩ := hkeys z hz
        exact List.mem_map.2 ⟨x', hx', e1⟩)
      simp only [ids, List.length_map] at this
      omega
    · intro z hz
      unfold put at hz
      simp only [List.mem_append, List.mem_singleton] at hz
      rcases hz with (hz | hz) | hz
      · exact hnt.2.1 z (hsub.subset (List.mem_of_mem_take hz))
      · subst hz; exact hok
      · exact hnt.2.1 z (hsub.subset (List.mem_of_mem_drop hz))
  refine ⟨?_, ⟨htree, hkeys, ?_, ?_, ?_⟩⟩
  · unfold withO withOk
    rw [show ((k : Int)).toNat = k by omega, htree]
    have hkl : k ≤ E.length := by simpa [ids] using hkE
    have : decide ((0 : Int) ≤ (k : Int) ∧ (k : Int) ≤ (E.length : Int)) = true := by simp; omega
    rw [this]
    rfl
  · intro j x' hx'
    rw [has_put, hy1]
    by_cases hji : j = i
    · subst hji
      rw [hx] at hx'
      cases hx'
      constructor
      · intro _; exact Or.inl (by omega)
      · intro _; exact Or.inr rfl
    · have hne : x'.1 ≠ x.1 := fun h => hji (apart_at hNt.2.2 hx' hx h)
      have hEn : has E x'.1 = true ↔ has now x'.1 = true := by
        rcases hE with ⟨rfl, _⟩ | ⟨p, u, hu, hux, rfl⟩
        · exact Iff.rfl
        · constructor
          · intro h
            obtain ⟨q, v, hv, hvx⟩ := has_at h
            have hm := List.mem_of_mem_eraseIdx (List.mem_of_getElem? hv)
            simp only [has, List.any_eq_true, decide_eq_true_eq]
            exact ⟨v, hm, hvx⟩
          · intro h
            obtain ⟨q, v, hv, hvx⟩ := has_at h
            have hqp : q ≠ p := by
              rintro rfl
              rw [hu] at hv
              cases hv
              exact hne (by omega)
            simp only [has, List.any_eq_true, decide_eq_true_eq]
            refine ⟨v, ?_, hvx⟩
            rw [List.mem_iff_getElem?]
            by_cases hlt : q < p
            · exact ⟨q, by rw [List.getElem?_eraseIdx, if_pos hlt]; exact hv⟩
            · refine ⟨q - 1, ?_⟩
              rw [List.getElem?_eraseIdx, if_neg (by omega), show q - 1 + 1 = q by omega]
              exact hv
      rw [hEn, hJ.mem j x' hx']
      constructor
      · rintro ((h | h) | h)
        · exact Or.inl (by omega)
        · exact Or.inr h
        · exact absurd h hne
      · rintro (h | h)
        · exact Or.inl (Or.inl (by omega))
        · exact Or.inl (Or.inr h)
  · rw [ids_put, hy1, hord, hrest, take_at hxi]
  · intro z hz
    unfold put at hz
    simp only [List.mem_append, List.mem_singleton] at hz
    rcases hz with (hz | hz) | hz
    · exact hJ.txt z (hsub.subset (List.mem_of_mem_take hz))
    · subst hz; exact hty
    · exact hJ.txt z (hsub.subset (List.mem_of_mem_drop hz))

theorem take_last {l : List Nd} {i : Nat} (hi : i ≤ l.length) : (l.take i).getLast? = if i = 0 then none else l[i - 1]? := by
  cases i with
  | zero => simp
  | succ i =>
    have hlt : i < l.length := by omega
    rw [if_neg (by omega), take_at (List.getElem?_eq_getElem hlt), List.getLast?_concat, Nat.add_sub_cancel]
    exact (List.getElem?_eq_getElem hlt).symm

theorem place_erase {l : List Nd} {p q : Nat} {z : Nd} (h : l.Pairwise apart) (hz : l[q]? = some z) (hne : p ≠ q) : place (l.eraseIdx p) z.1 = if p < q then (q : Int) - 1 else q := by
  have hp : (l.eraseIdx p).Pairwise apart := h.sublist (List.eraseIdx_sublist _ _)
  by_cases hlt : p < q
  · rw [if_pos hlt, place_at (j := q - 1) hp (by rw [List.getElem?_eraseIdx, if_neg (by omega), show q - 1 + 1 = q by omega]; exact hz)]
    omega
  · rw [if_neg hlt, place_at (j := q) hp (by rw [List.getElem?_eraseIdx, if_pos (by omega)]; exact hz)]

/-- How many patches a node of next costs here. -/
def costs (now0 : List Nd) (x : Nd) (m : Bool) : Nat := if has now0 x.1 then (if m then 0 else 1) else 1

theorem arrOne_spec {old next now0 : List Nd} {M : List Bool} {i : Nat} {x : Nd} {c : Ch} (hN : isTree next = true) (hM : M.length = next.length) (hM0 : ∀ (j : Nat) (z : Nd), next[j]? = some z → M[j]? = some true → has now0 z.1 = true)
    (hg : Good old c) (hJ : J next now0 M i c.1) (hx : next[i]? = some x) (m : Bool) (hm : M[i]? = some m) :
    Good old (arrOne next (wasOf now0 next) M i x c) ∧ J next now0 M (i + 1) (arrOne next (wasOf now0 next) M i x c).1 ∧ (arrOne next (wasOf now0 next) M i x c).2.length = c.2.length + costs now0 x m := by
  have hNt := (isTree_iff next).1 hN
  have hnt := (isTree_iff c.1).1 hJ.tree
  have hil : i < next.length := (List.getElem?_eq_some_iff.1 hx).1
  have hw : (wasOf now0 next).getD i 0 = place now0 x.1 := by
    unfold wasOf
    rw [List.getD, List.getElem?_map, hx]
    rfl
  have hmd : M.getD i true = m := by rw [List.getD, hm]; rfl
  have hbeh : ∃ k : Nat, behind c.1 (next.take i) = k ∧ ((i = 0 ∧ k = 0) ∨ ∃ (z : Nd) (q : Nat), 0 < i ∧ next[i - 1]? = some z ∧ (∃ v, c.1[q]? = some v ∧ v.1 = z.1) ∧ k = q + 1) := by
    unfold behind
    rw [take_last (by omega)]
    by_cases h0 : i = 0
    · rw [if_pos h0]
      exact ⟨0, rfl, Or.inl ⟨h0, rfl⟩⟩
    · rw [if_neg h0]
      have hz : next[i - 1]? = some next[i - 1] := List.getElem?_eq_getElem (by omega)
      rw [hz]
      have hh := (hJ.mem (i - 1) _ hz).2 (Or.inl (by omega))
      obtain ⟨q, v, hv, hvz⟩ := has_at hh
      have hp : place c.1 next[i - 1].1 = q := by rw [← hvz]; exact place_at hnt.2.2 hv
      refine ⟨q + 1, by simp only; rw [hp]; rfl, Or.inr ⟨next[i - 1], q, by omega, rfl, ⟨v, hv, hvz⟩, rfl⟩⟩
  obtain ⟨k, hbk, hkk⟩ := hbeh
  unfold arrOne
  rw [hw, hmd, hbk]
  cases hh : has now0 x.1 with
  | false =>
    rw [place_no hh, if_pos (by omega)]
    have hmf : m = false := by
      cases m with
      | false => rfl
      | true => rw [hM0 i x hx hm] at hh; cases hh
    subst hmf
    have hno : has c.1 x.1 = false := by
      cases hc : has c.1 x.1 with
      | false => rfl
      | true =>
        rcases (hJ.mem i x hx).1 hc with q | q
        · omega
        · rw [hh] at q; cases q
    have hput := J_put (E := c.1) (k := k) (y := x) hN hJ hx hm rfl rfl (hNt.2.1 x (List.mem_of_getElem? hx)) (Or.inr ⟨List.mem_of_getElem? hx, hh⟩) (Or.inl ⟨rfl, hno⟩) (by
      rcases hkk with q | ⟨z, q, h0, hz, ⟨v, hv, hvz⟩, rfl⟩
      · exact Or.inl q
      · refine Or.inr ⟨z, h0, hz, ?_⟩
        rw [← hvz, place_at hnt.2.2 hv]
        rfl)
    have hp : patchP c.1 (2, x.1, (k : Int), x.2.1, x.2.2) = some (put c.1 k x) := by
      unfold patchP patchO
      simp only
      rw [if_pos trivial]
      exact hput.1
    obtain ⟨e, hg'⟩ := good_do hg hp
    rw [e] at hg' ⊢
    refine ⟨hg', hput.2, ?_⟩
    simp [costs, hh]
  | true =>
    have hpy := place_yes hh
    rw [if_neg (by omega)]
    cases m with
    | true =>
      rw [if_pos rfl]
      refine ⟨hg, ⟨hJ.tree, hJ.keys, ?_, ?_, hJ.txt⟩, by simp [costs, hh]⟩
      · intro j x' hx'
        rw [hJ.mem j x' hx']
        by_cases hji : j = i
        · subst hji
          rw [hx] at hx'
          cases hx'
          rw [hh]
          simp
        · constructor
          · rintro (h | h)
            · exact Or.inl (by omega)
            · exact Or.inr h
          · rintro (h | h)
            · exact Or.inl (by omega)
            · exact Or.inr h
      · have hxi := ids_at hx
        have hr : restL ((ids next).drop i) (M.drop i) = x.1 :: restL ((ids next).drop (i + 1)) (M.drop (i + 1)) := by
          rw [drop_at hxi, drop_at hm]
          rfl
        have ho := hJ.ord
        rw [hr] at ho
        rw [take_at hxi, List.append_assoc, List.singleton_append, ← ho]
        apply List.filter_congr
        intro z _
        simp only [List.mem_append, List.mem_cons, List.not_mem_nil, or_false]
        congr 1
        apply propext
        constructor
        · rintro ((h | h) | h)
          · exact Or.inl h
          · exact Or.inr (Or.inl h)
          · exact Or.inr (Or.inr h)
        · rintro (h | h | h)
          · exact Or.inl (Or.inl h)
          · exact Or.inl (Or.inr h)
          · exact Or.inr h
    | false =>
      rw [if_neg (by simp)]
      have hyes : has c.1 x.1 = true := (hJ.mem i x hx).2 (Or.inr hh)
      obtain ⟨p, u, hu, hux⟩ := has_at hyes
      have hpl : place c.1 x.1 = p := by rw [← hux]; exact place_at hnt.2.2 hu
      have hukey : u.2.1 = x.2.1 := by
        obtain ⟨x', hx', e1, e2⟩ := hJ.keys u (List.mem_of_getElem? hu)
        have := apart_mem hNt.2.2 hx' (List.mem_of_getElem? hx) (Or.inl (by omega))
        subst this
        exact e2.symm
      obtain ⟨k', hk'1, hk'2⟩ : ∃ k' : Nat, (if place c.1 x.1 < (k : Int) then (k : Int) - 1 else k) = k' ∧ ((i = 0 ∧ k' = 0) ∨ ∃ z, 0 < i ∧ next[i - 1]? = some z ∧ place (c.1.eraseIdx p) z.1 + 1 = k') := by
        rw [hpl]
        rcases hkk with ⟨h0, rfl⟩ | ⟨z, q, h0, hz, ⟨v, hv, hvz⟩, rfl⟩
        · exact ⟨0, by rw [if_neg (by omega)], Or.inl ⟨h0, rfl⟩⟩
        · have hpq : p ≠ q := by
            rintro rfl
            rw [hu] at hv
            cases hv
            have := apart_at hNt.2.2 hz hx (by omega)
            omega
          have hpe := place_erase hnt.2.2 hv hpq
          rw [hvz] at hpe
          by_cases hlt : p < q
          · rw [if_pos hlt] at hpe
            exact ⟨q, by rw [if_pos (by omega)]; simp, Or.inr ⟨z, h0, hz, by rw [hpe]; omega⟩⟩
          · rw [if_neg hlt] at hpe
            exact ⟨q + 1, by rw [if_neg (by omega)], Or.inr ⟨z, h0, hz, by rw [hpe]; rfl⟩⟩
      have hput := J_put (E := c.1.eraseIdx p) (k := k') (y := u) hN hJ hx hm hux hukey (hnt.2.1 u (List.mem_of_getElem? hu)) (hJ.txt u (List.mem_of_getElem? hu)) (Or.inr ⟨p, u, hu, hux, rfl⟩) hk'2
      have hp : patchP c.1 (3, x.1, (k' : Int), 0, ⟨#[]⟩) = some (put (c.1.eraseIdx p) k' u) := by
        unfold patchP patchO
        simp only
        rw [if_neg (by decide), hpl, if_neg (by omega), if_neg (by decide), if_pos trivial, show ((p : Int)).toNat = p by omega]
        have : c.1.getD p (0, 0, ⟨#[]⟩) = u := by rw [List.getD, hu]; rfl
        rw [this]
        exact hput.1
      unfold moveP
      rw [hk'1]
      obtain ⟨e, hg'⟩ := good_do hg hp
      rw [e] at hg' ⊢
      refine ⟨hg', hput.2, ?_⟩
      simp [costs, hh]

/-- How many patches the order costs. -/
def costsAll (now0 : List Nd) : List Nd → List Bool → Nat
  | x :: r, m :: ms => costs now0 x m + costsAll now0 r ms
  | _, _ => 0

theorem arr_spec {old next now0 : List Nd} {M : List Bool} (hN : isTree next = true) (hM : M.length = next.length) (hM0 : ∀ (j : Nat) (z : Nd), next[j]? = some z → M[j]? = some true → has now0 z.1 = true) :
    ∀ (r : List Nd) (i : Nat) (c : Ch), next.drop i = r → i ≤ next.length → Good old c → J next now0 M i c.1 →
      Good old (arrFrom next (wasOf now0 next) M i r c) ∧ J next now0 M next.length (arrFrom next (wasOf now0 next) M i r c).1 ∧ (arrFrom next (wasOf now0 next) M i r c).2.length = c.2.length + costsAll now0 r (M.drop i)
  | [], i, c, hr, hi, hg, hJ => by
      have : i = next.length := by
        have := congrArg List.length hr
        simp at this
        omega
      subst this
      refine ⟨hg, hJ, ?_⟩
      simp [arrFrom, costsAll]
  | x :: r, i, c, hr, hi, hg, hJ => by
      have hil : i < next.length := by
        have := congrArg List.length hr
        simp at this
        omega
      have hx : next[i]? = some x := by
        have := congrArg (fun l => l[0]?) hr
        simpa using this
      have hm : M[i]? = some M[i] := List.getElem?_eq_getElem (by omega)
      obtain ⟨h1, h2, h3⟩ := arrOne_spec hN hM hM0 hg hJ hx _ hm
      have hr' : next.drop (i + 1) = r := by
        rw [drop_at hx] at hr
        simpa using hr
      obtain ⟨h4, h5, h6⟩ := arr_spec hN hM hM0 r (i + 1) _ hr' (by omega) h1 h2
      refine ⟨h4, h5, ?_⟩
      show (arrFrom next (wasOf now0 next) M (i + 1) r _).2.length = _
      rw [h6, h3, drop_at hm]
      show _ = c.2.length + (costs now0 x _ + costsAll now0 r _)
      omega

end T
end Go.Proofs.Ytcaeeaiodbjacaa

namespace Go.Proofs.Ytcaeeaiodbjacaa
set_option linter.unusedVariables false
namespace T

theorem was_at {now0 next : List Nd} {j : Nat} {x : Nd} (h : next[j]? = some x) : (wasOf now0 next)[j]? = some (place now0 x.1) := by
  unfold wasOf
  rw [List.getElem?_map, h]
  rfl

theorem has_place {l : List Nd} {i : Int} (h : 0 ≤ place l i) : has l i = true := by
  cases hh : has l i with
  | true => rfl
  | false => rw [place_no hh] at h; omega

theorem marks_has {now0 next : List Nd} {j : Nat} {z : Nd} (hz : next[j]? = some z) (h : (marksOf (wasOf now0 next))[j]? = some true) : has now0 z.1 = true := by
  obtain ⟨u, hu, h0⟩ := marks_pos h
  rw [was_at hz] at hu
  cases hu
  exact has_place h0

theorem rest_sub (now0 next : List Nd) : (restL (ids next) (marksOf (wasOf now0 next))).Sublist (ids now0) := by
  have key : ∀ (j : Nat) (z : Int), (ids next)[j]? = some z → ∃ x, next[j]? = some x ∧ x.1 = z := by
    intro j z h
    unfold ids at h
    rw [List.getElem?_map] at h
    cases hx : next[j]? with
    | none => rw [hx] at h; simp at h
    | some x =>
      rw [hx] at h
      simp at h
      exact ⟨x, rfl, h⟩
  refine sub_of_rise (ids now0) _ 0 ?_ ?_
  · intro z hz
    obtain ⟨j, h1, h2⟩ := restL_mem _ _ z hz
    obtain ⟨x, hx, rfl⟩ := key j z h1
    exact mem_ids.2 (marks_has hx h2)
  · refine restL_rise _ _ _ ?_
    intro i j x y hij hi hj hx hy
    obtain ⟨x', hx', rfl⟩ := key i x hx
    obtain ⟨y', hy', rfl⟩ := key j y hy
    rw [← place_ix, ← place_ix]
    exact marks_rise hij hi hj (was_at hx') (was_at hy')

theorem isTree_sub {l m : List Nd} (h : isTree l = true) (hs : m.Sublist l) : isTree m = true := by
  rw [isTree_iff] at h ⊢
  exact ⟨Nat.le_trans hs.length_le h.1, fun x hx => h.2.1 x (hs.subset hx), h.2.2.sublist hs⟩

theorem J_start {now0 next : List Nd} (h0 : isTree now0 = true) (hk : ∀ y ∈ now0, ∃ x ∈ next, x.1 = y.1 ∧ x.2.1 = y.2.1) : J next now0 (marksOf (wasOf now0 next)) 0 now0 := by
  refine ⟨h0, hk, ?_, ?_, fun y hy => Or.inl hy⟩
  · intro j x hx
    simp
  · simp only [List.take_zero, List.drop_zero, List.nil_append]
    have := filter_sub (ids now0) _ (ids_nodup ((isTree_iff _).1 h0).2.2) (rest_sub now0 next)
    conv => rhs; rw [← this]
    apply List.filter_congr
    intro z _
    simp

theorem J_end {now0 next now : List Nd} {M : List Bool} (hM : M.length = next.length) (h : J next now0 M next.length now) : ids now = ids next := by
  have ho := h.ord
  have hl : (ids next).length = next.length := by simp [ids]
  rw [← hl, List.take_length, List.drop_length] at ho
  have e : restL [] (M.drop (ids next).length) = [] := by
    cases M.drop (ids next).length <;> rfl
  rw [e, List.append_nil] at ho
  rw [← ho]
  symm
  rw [List.filter_eq_self]
  intro z hz
  obtain ⟨y, hy, rfl⟩ := List.mem_map.1 hz
  obtain ⟨x, hx, e1, _⟩ := h.keys y hy
  simp
  rw [← e1]
  exact List.mem_map.2 ⟨x, hx, rfl⟩

def rtCount : List Nd → List Nd → Nat
  | y :: nr, x :: r => (if y.2.2 = x.2.2 then 0 else 1) + rtCount nr r
  | _, _ => 0

def idkey (l : List Nd) : List (Int × Int) := l.map fun x => (x.1, x.2.1)

theorem apart_idkey {l m : List Nd} (h : idkey l = idkey m) (hl : l.Pairwise apart) : m.Pairwise apart := by
  have e : ∀ t : List Nd, t.Pairwise apart ↔ (idkey t).Pairwise (fun a b => a.1 ≠ b.1 ∧ a.2 ≠ b.2) := by
    intro t
    unfold idkey
    rw [List.pairwise_map]
    exact Iff.rfl
  rw [e] at hl ⊢
  rw [← h]
  exact hl

theorem rt_spec {old0 : List Nd} : ∀ (suf pre nsuf : List Nd) (ps : List Pt), Good old0 (pre ++ nsuf, ps) → idkey nsuf = idkey suf → (∀ x ∈ suf, okNd x = true) →
    (rtAll suf (pre ++ nsuf, ps)).1 = pre ++ suf ∧ Good old0 (rtAll suf (pre ++ nsuf, ps)) ∧ (rtAll suf (pre ++ nsuf, ps)).2.length = ps.length + rtCount nsuf suf
  | [], pre, nsuf, ps, h, he, _ => by
      have : nsuf = [] := by simpa [idkey] using he
      subst this
      exact ⟨rfl, h, by simp [rtAll, rtCount]⟩
  | x :: r, pre, nsuf, ps, h, he, hok => by
      match nsuf, he with
      | [], he => simp [idkey] at he
      | y :: nr, he =>
        simp only [idkey, List.map_cons, List.cons.injEq, Prod.mk.injEq] at he
        obtain ⟨⟨e1, e2⟩, he2⟩ := he
        have hat : (pre ++ y :: nr)[pre.length]? = some y := by simp
        have hap := ((isTree_iff _).1 h.2).2.2
        have hpl : place (pre ++ y :: nr) x.1 = pre.length := by rw [← e1]; exact place_at hap hat
        have hgd : (pre ++ y :: nr).getD pre.length nd0 = y := by rw [List.getD, hat]; rfl
        unfold rtAll rtOne
        simp only
        rw [hpl, show ((pre.length : Int)).toNat = pre.length by omega, hgd]
        by_cases ht : y.2.2 = x.2.2
        · have hyx : y = x := by
            obtain ⟨y1, y2, y3⟩ := y
            obtain ⟨x1, x2, x3⟩ := x
            simp only at e1 e2 ht
            rw [e1, e2, ht]
          subst hyx
          rw [if_neg (by simp)]
          have e : pre ++ y :: nr = (pre ++ [y]) ++ nr := by simp
          rw [e] at h ⊢
          obtain ⟨h1, h2, h3⟩ := rt_spec r (pre ++ [y]) nr ps h he2 (fun z hz => hok z (by simp [hz]))
          refine ⟨by rw [h1]; simp, h2, ?_⟩
          rw [h3]
          simp [rtCount]
        · rw [if_pos ⟨by omega, ht⟩]
          have her : (pre ++ y :: nr).eraseIdx pre.length = pre ++ nr := by
            rw [List.eraseIdx_append_of_length_le (Nat.le_refl _)]
            simp
          have hput : put (pre ++ nr) pre.length (y.1, y.2.1, x.2.2) = (pre ++ [x]) ++ nr := by
            unfold put
            have : (y.1, y.2.1, x.2.2) = x := by rw [e1, e2]
            rw [this]
            simp
          have htree : isTree ((pre ++ [x]) ++ nr) = true := by
            have ho := (isTree_iff _).1 h.2
            rw [isTree_iff]
            refine ⟨by have := ho.1; simpa using this, ?_, apart_idkey (l := pre ++ y :: nr) (by simp [idkey, e1, e2]) hap⟩
            intro z hz
            simp only [List.mem_append, List.mem_singleton] at hz
            rcases hz with (hz | hz) | hz
            · exact ho.2.1 z (by simp [hz])
            · subst hz; exact hok z (by simp)
            · exact ho.2.1 z (by simp [hz])
          have hp : patchP (pre ++ y :: nr) (4, x.1, 0, 0, x.2.2) = some ((pre ++ [x]) ++ nr) := by
            unfold patchP patchO
            simp only
            rw [if_neg (by decide), hpl, if_neg (by omega), if_neg (by decide), if_neg (by decide), if_pos trivial, show ((pre.length : Int)).toNat = pre.length by omega, her]
            have hgd' : (pre ++ y :: nr).getD pre.length (0, 0, ⟨#[]⟩) = y := hgd
            rw [hgd']
            unfold withO withOk
            rw [show ((pre.length : Int)).toNat = pre.length by omega, hput, htree]
            have : decide ((0 : Int) ≤ (pre.length : Int) ∧ (pre.length : Int) ≤ ((pre ++ nr).length : Int)) = true := by simp; omega
            rw [this]
            rfl
          obtain ⟨e, hg'⟩ := good_do h hp
          rw [e] at hg' ⊢
          obtain ⟨h1, h2, h3⟩ := rt_spec r (pre ++ [x]) nr _ hg' he2 (fun z hz => hok z (by simp [hz]))
          refine ⟨by rw [h1]; simp, h2, ?_⟩
          rw [h3]
          simp [rtCount, ht]
          omega

/-- The nodes of old that stay. -/
def stayN (old next : List Nd) : List Nd := old.filter (stays next)

/-- What Diff comes to. -/
theorem diff_spec {old next : List Nd} (ho : isTree old = true) (hn : isTree next = true) : ∃ now1 : List Nd, applyFrom old (diff old next) = some next ∧
    J next (stayN old next) (marksOf (wasOf (stayN old next) next)) next.length now1 ∧ (diff old next).length = (old.filter fun x => !stays next x).length + costsAll (stayN old next) next (marksOf (wasOf (stayN old next) next)) + rtCount now1 next := by
  have hNt := (isTree_iff next).1 hn
  obtain ⟨r1, r2⟩ := rm_spec (old0 := old) (next := next) old [] [] ⟨rfl, ho⟩
  simp only [List.nil_append] at r1 r2
  have h0 : isTree (stayN old next) = true := isTree_sub ho List.filter_sublist
  have hk : ∀ y ∈ stayN old next, ∃ x ∈ next, x.1 = y.1 ∧ x.2.1 = y.2.1 := by
    intro y hy
    unfold stayN at hy
    rw [List.mem_filter] at hy
    exact (stays_iff hNt.2.2 y).1 hy.2
  have hM : (marksOf (wasOf (stayN old next) next)).length = next.length := by rw [marks_length]; simp [wasOf]
  have r3 : rmAll next old (old, []) = (stayN old next, (old.filter fun x => !stays next x).map fun x => (1, x.1, 0, 0, ⟨#[]⟩)) := r1
  rw [r3] at r2
  obtain ⟨a1, a2, a3⟩ := arr_spec (old := old) hn hM (fun j z hz h => marks_has hz h) next 0 _ rfl (Nat.zero_le _) r2 (J_start h0 hk)
  have e : arrange next (rmAll next old (old, [])) = arrFrom next (wasOf (stayN old next) next) (marksOf (wasOf (stayN old next) next)) 0 next (stayN old next, (old.filter fun x => !stays next x).map fun x => (1, x.1, 0, 0, ⟨#[]⟩)) := by rw [r3]; rfl
  unfold diff
  rw [e]
  generalize arrFrom next (wasOf (stayN old next) next) (marksOf (wasOf (stayN old next) next)) 0 next (stayN old next, (old.filter fun x => !stays next x).map fun x => (1, x.1, 0, 0, ⟨#[]⟩)) = c at a1 a2 a3
  have hids := J_end hM a2
  have hik : idkey c.1 = idkey next := by
    apply List.ext_getElem?
    intro i
    have hl : c.1.length = next.length := by
      have := congrArg List.length hids
      simpa [ids] using this
    unfold idkey
    rw [List.getElem?_map, List.getElem?_map]
    by_cases hi : i < next.length
    · have hx : next[i]? = some next[i] := List.getElem?_eq_getElem hi
      have hy : c.1[i]? = some (c.1[i]'(by omega)) := List.getElem?_eq_getElem (by omega)
      have e1 := ids_at hx
      have e2 := ids_at hy
      rw [hids, e1] at e2
      have e3 : next[i].1 = (c.1[i]'(by omega)).1 := by simpa using e2
      obtain ⟨x, hx', q1, q2⟩ := a2.keys _ (List.mem_of_getElem? hy)
      have := apart_mem hNt.2.2 hx' (List.mem_of_getElem? hx) (Or.inl (by omega))
      subst this
      rw [hx, hy]
      simp [q1, q2]
    · rw [List.getElem?_eq_none (by omega), List.getElem?_eq_none (by omega)]
  have hrt := rt_spec (old0 := old) next [] c.1 c.2 a1 hik hNt.2.1
  simp only [List.nil_append] at hrt
  obtain ⟨t1, t2, t3⟩ := hrt
  refine ⟨c.1, ?_, a2, ?_⟩
  · have := t2.1
    rw [t1] at this
    exact this
  · rw [t3, a3]
    simp

end T
end Go.Proofs.Ytcaeeaiodbjacaa

namespace Go.Proofs.Ytcaeeaiodbjacaa
set_option linter.unusedVariables false
namespace T

def sameN (x y : Nd) : Bool := decide (x.1 = y.1 ∧ x.2.1 = y.2.1)
def otherText (x y : Nd) : Bool := decide (x.1 = y.1 ∧ x.2.1 = y.2.1 ∧ x.2.2 ≠ y.2.2)

/-- The document's list of Ids that stay. -/
def stayL (a b : List Nd) : List Int := a.flatMap fun x => (b.filter (sameN x)).map fun _ => x.1

/-- The document's number of other texts. -/
def textsN (a b : List Nd) : Nat := (a.map fun x => b.countP (otherText x)).sum

/-- The document's number of patches. -/
def fewN (old next : List Nd) : Int := ((old.length : Int) - (stayL old next).length) + ((next.length : Int) - (stayL next old).length) + textsN old next + ((stayL old next).length - shared (stayL old next) (stayL next old))

theorem same_one {b : List Nd} (h : b.Pairwise apart) (x : Nd) : (stays b x = true ∧ ∃ y, b.filter (sameN x) = [y]) ∨ (stays b x = false ∧ b.filter (sameN x) = []) := by
  cases hs : stays b x with
  | true =>
    left
    refine ⟨rfl, ?_⟩
    obtain ⟨y, hy, e1, e2⟩ := (stays_iff h x).1 hs
    obtain ⟨j, hj⟩ := List.mem_iff_getElem?.1 hy
    have e : b = b.take j ++ y :: b.drop (j + 1) := by rw [← drop_at hj, List.take_append_drop]
    refine ⟨y, ?_⟩
    have hf1 : (b.take j).filter (sameN x) = [] := by
      rw [List.filter_eq_nil_iff]
      intro z hz hq
      simp only [sameN, decide_eq_true_eq] at hq
      rw [e, List.pairwise_append] at h
      exact (h.2.2 z hz y (by simp)).1 (by omega)
    have hf2 : (b.drop (j + 1)).filter (sameN x) = [] := by
      rw [List.filter_eq_nil_iff]
      intro z hz hq
      simp only [sameN, decide_eq_true_eq] at hq
      rw [e, List.pairwise_append, List.pairwise_cons] at h
      exact (h.2.1.1 z hz).1 (by omega)
    rw [e, List.filter_append, List.filter_cons, hf1, hf2, if_pos (by simp [sameN, e1, e2])]
    rfl
  | false =>
    right
    refine ⟨rfl, ?_⟩
    rw [List.filter_eq_nil_iff]
    intro y hy hq
    simp only [sameN, decide_eq_true_eq] at hq
    have := (stays_iff h x).2 ⟨y, hy, hq.1.symm, hq.2.symm⟩
    rw [hs] at this
    cases this

theorem stayL_eq {b : List Nd} (h : b.Pairwise apart) : ∀ a : List Nd, stayL a b = ids (a.filter (stays b))
  | [] => rfl
  | x :: a => by
      have ih := stayL_eq h a
      unfold stayL at ih ⊢
      rw [List.flatMap_cons, ih]
      rcases same_one h x with ⟨h1, y, h2⟩ | ⟨h1, h2⟩
      · rw [h2, List.filter_cons, if_pos h1]
        rfl
      · rw [h2, List.filter_cons, if_neg (by rw [h1]; simp)]
        rfl

theorem stays_swap {old next : List Nd} (ho : old.Pairwise apart) (hn : next.Pairwise apart) {x : Nd} (hx : x ∈ next) : stays old x = has (stayN old next) x.1 := by
  cases hh : has (stayN old next) x.1 with
  | true =>
    obtain ⟨j, y, hy, he⟩ := has_at hh
    have hm := List.mem_of_getElem? hy
    unfold stayN at hm
    rw [List.mem_filter] at hm
    obtain ⟨z, hz, e1, e2⟩ := (stays_iff hn y).1 hm.2
    have := apart_mem hn hz hx (Or.inl (by omega))
    subst this
    exact (stays_iff ho z).2 ⟨y, hm.1, e1.symm, e2.symm⟩
  | false =>
    cases hs : stays old x with
    | false => rfl
    | true =>
      obtain ⟨y, hy, e1, e2⟩ := (stays_iff ho x).1 hs
      have hm : y ∈ stayN old next := by
        unfold stayN
        rw [List.mem_filter]
        exact ⟨hy, (stays_iff hn y).2 ⟨x, hx, e1.symm, e2.symm⟩⟩
      have := (has_false _ _).1 hh y hm
      exact absurd e1 this

theorem costs_count {now0 : List Nd} : ∀ (r : List Nd) (ms : List Bool), ms.length = r.length → (∀ (j : Nat) (z : Nd), r[j]? = some z → ms[j]? = some true → has now0 z.1 = true) → costsAll now0 r ms + ms.count true = r.length
  | [], ms, h, _ => by
      obtain rfl : ms = [] := List.eq_nil_of_length_eq_zero h
      rfl
  | x :: r, [], h, _ => by simp at h
  | x :: r, m :: ms, h, hm => by
      have ih := costs_count r ms (by simpa using h) (fun j z h1 h2 => hm (j + 1) z (by simpa using h1) (by simpa using h2))
      show costs now0 x m + costsAll now0 r ms + _ = _
      cases m with
      | true =>
        have := hm 0 x rfl rfl
        simp [costs, this]
        omega
      | false =>
        have : costs now0 x false = 1 := by
          unfold costs
          split <;> simp
        rw [this]
        simp
        omega

theorem count_shared {old next : List Nd} (ho : isTree old = true) (hn : isTree next = true) : (marksOf (wasOf (stayN old next) next)).count true = shared (stayL old next) (stayL next old) := by
  have hot := (isTree_iff old).1 ho
  have hnt := (isTree_iff next).1 hn
  rw [stayL_eq hnt.2.2, stayL_eq hot.2.2]
  have hA : ids (old.filter (stays next)) = ids (stayN old next) := rfl
  rw [hA]
  have hAn : (ids (stayN old next)).Nodup := ids_nodup (hot.2.2.sublist List.filter_sublist)
  have hB : ids (next.filter (stays old)) = (ids next).filter (fun z => decide (z ∈ ids (stayN old next))) := by
    unfold ids
    rw [List.filter_map]
    congr 1
    apply List.filter_congr
    intro x hx
    rw [stays_swap hot.2.2 hnt.2.2 hx]
    show _ = decide (x.1 ∈ ids (stayN old next))
    cases hh : has (stayN old next) x.1 with
    | true => exact (decide_eq_true (mem_ids.2 hh)).symm
    | false =>
      refine (decide_eq_false ?_).symm
      intro h
      rw [mem_ids.1 h] at hh
      cases hh
  have hM : (marksOf (wasOf (stayN old next) next)).length = (ids next).length := by rw [marks_length]; simp [wasOf, ids]
  apply Nat.le_antisymm
  · rw [← restL_length (ids next) _ hM]
    refine shared_le (rest_sub _ _) ?_
    rw [hB]
    have h1 := (restL_sub (ids next) (marksOf (wasOf (stayN old next) next))).filter (fun z => decide (z ∈ ids (stayN old next)))
    have h2 : (restL (ids next) (marksOf (wasOf (stayN old next) next))).filter (fun z => decide (z ∈ ids (stayN old next))) = restL (ids next) (marksOf (wasOf (stayN old next) next)) := by
      rw [List.filter_eq_self]
      intro z hz
      simpa using (rest_sub (stayN old next) next).subset hz
    rw [h2] at h1
    exact h1
  · obtain ⟨c, h1, h2, h3⟩ := shared_ge (ids (stayN old next)) (ids (next.filter (stays old)))
    rw [← h3]
    have hr := ix_rise (ids (stayN old next)) c 0 hAn h1
    have hs : (c.map fun z => ixFrom (ids (stayN old next)) z 0).Sublist (wasOf (stayN old next) next) := by
      have h4 : c.Sublist (ids next) := by
        rw [hB] at h2
        exact h2.trans List.filter_sublist
      have h5 := h4.map (fun z => ixFrom (ids (stayN old next)) z 0)
      have h6 : (ids next).map (fun z => ixFrom (ids (stayN old next)) z 0) = wasOf (stayN old next) next := by
        unfold wasOf
        unfold ids
        rw [List.map_map]
        apply List.map_congr_left
        intro x _
        exact (place_ix _ _).symm
      rw [h6] at h5
      exact h5
    have := marks_max hs hr (by
      intro v hv
      obtain ⟨z, hz, rfl⟩ := List.mem_map.1 hv
      have := ix_mem _ z 0 (h1.subset hz)
      simpa using this)
    simpa using this

theorem stay_len {old next : List Nd} (ho : isTree old = true) (hn : isTree next = true) : (stayL old next).length = (stayL next old).length := by
  have hot := (isTree_iff old).1 ho
  have hnt := (isTree_iff next).1 hn
  rw [stayL_eq hnt.2.2, stayL_eq hot.2.2]
  have one : ∀ (a b : List Nd), a.Pairwise apart → b.Pairwise apart → (ids (a.filter (stays b))).length ≤ (ids (b.filter (stays a))).length := by
    intro a b ha hb
    refine nodup_le _ _ (ids_nodup (ha.sublist List.filter_sublist)) ?_
    intro z hz
    obtain ⟨x, hx, rfl⟩ := List.mem_map.1 hz
    rw [List.mem_filter] at hx
    obtain ⟨y, hy, e1, e2⟩ := (stays_iff hb x).1 hx.2
    refine List.mem_map.2 ⟨y, ?_, e1⟩
    rw [List.mem_filter]
    exact ⟨hy, (stays_iff ha y).2 ⟨x, hx.1, e1.symm, e2.symm⟩⟩
  exact Nat.le_antisymm (one old next hot.2.2 hnt.2.2) (one next old hnt.2.2 hot.2.2)

theorem sum_add (f g : Nd → Nat) : ∀ l : List Nd, (l.map fun x => f x + g x).sum = (l.map f).sum + (l.map g).sum
  | [] => rfl
  | x :: l => by
      simp only [List.map_cons, List.sum_cons]
      rw [sum_add f g l]
      omega

theorem sum_countP (p : Nd → Bool) : ∀ l : List Nd, (l.map fun x => if p x then 1 else 0).sum = l.countP p
  | [] => rfl
  | x :: l => by
      simp only [List.map_cons, List.sum_cons, List.countP_cons]
      rw [sum_countP p l]
      omega

theorem texts_swap (p : Nd → Nd → Bool) (b : List Nd) : ∀ a : List Nd, (a.map fun y => b.countP (p y)).sum = (b.map fun x => a.countP (fun y => p y x)).sum
  | [] => by
      simp only [List.map_nil, List.countP_nil, List.sum_nil]
      induction b with
      | nil => rfl
      | cons x b ih => simpa using ih
  | y :: a => by
      simp only [List.map_cons, List.sum_cons]
      rw [texts_swap p b a]
      have e : (b.map fun x => (y :: a).countP (fun y => p y x)) = b.map fun x => (if p y x then 1 else 0) + a.countP (fun y => p y x) := by
        apply List.map_congr_left
        intro x _
        rw [List.countP_cons]
        omega
      rw [e, sum_add (fun x => if p y x then 1 else 0) (fun x => a.countP (fun y => p y x)), sum_countP]

theorem rt_sum (g : Nd → Nat) : ∀ (ys xs : List Nd), ids ys = ids xs → (∀ y ∈ ys, ∀ x ∈ xs, y.1 = x.1 → (if y.2.2 = x.2.2 then 0 else 1) = g x) → rtCount ys xs = (xs.map g).sum
  | [], [], _, _ => rfl
  | [], x :: xs, h, _ => by simp [ids] at h
  | y :: ys, [], h, _ => by simp [ids] at h
  | y :: ys, x :: xs, h, hg => by
      simp only [ids, List.map_cons, List.cons.injEq] at h
      show (if y.2.2 = x.2.2 then 0 else 1) + rtCount ys xs = _
      rw [rt_sum g ys xs h.2 (fun a ha b hb => hg a (by simp [ha]) b (by simp [hb])), hg y (by simp) x (by simp) h.1]
      rfl

theorem countP_none {p : Nd → Bool} {l : List Nd} (h : ∀ y ∈ l, p y = false) : l.countP p = 0 := by
  rw [List.countP_eq_zero]
  intro y hy
  rw [h y hy]
  simp

/-- The text of a node in old with this Id and Key. -/
theorem texts_one {old : List Nd} (ho : old.Pairwise apart) {y x : Nd} (hy : y ∈ old) (e1 : y.1 = x.1) (e2 : y.2.1 = x.2.1) : old.countP (fun z => otherText z x) = if y.2.2 = x.2.2 then 0 else 1 := by
  obtain ⟨j, hj⟩ := List.mem_iff_getElem?.1 hy
  have e : old = old.take j ++ y :: old.drop (j + 1) := by rw [← drop_at hj, List.take_append_drop]
  have hf1 : (old.take j).countP (fun z => otherText z x) = 0 := countP_none (by
    intro z hz
    rw [e, List.pairwise_append] at ho
    have := (ho.2.2 z hz y (by simp)).1
    simp only [otherText, decide_eq_false_iff_not]
    intro q
    exact this (by omega))
  have hf2 : (old.drop (j + 1)).countP (fun z => otherText z x) = 0 := countP_none (by
    intro z hz
    rw [e, List.pairwise_append, List.pairwise_cons] at ho
    have := (ho.2.1.1 z hz).1
    simp only [otherText, decide_eq_false_iff_not]
    intro q
    exact this (by omega))
  rw [e, List.countP_append, List.countP_cons, hf1, hf2]
  by_cases ht : y.2.2 = x.2.2
  · simp [otherText, ht]
  · simp [otherText, ht, e1, e2]

theorem rt_texts {old next now1 : List Nd} {M : List Bool} (ho : isTree old = true) (hn : isTree next = true) (hM : M.length = next.length) (hJ : J next (stayN old next) M next.length now1) : rtCount now1 next = textsN old next := by
  have hot := (isTree_iff old).1 ho
  have hnt := (isTree_iff next).1 hn
  unfold textsN
  rw [texts_swap otherText next old]
  refine rt_sum _ now1 next (J_end hM hJ) ?_
  intro y hy x hx he
  obtain ⟨x', hx', q1, q2⟩ := hJ.keys y hy
  have := apart_mem hnt.2.2 hx' hx (Or.inl (by omega))
  subst this
  rcases hJ.txt y hy with h | ⟨h, hh⟩
  · have hyo : y ∈ old := by
      unfold stayN at h
      exact (List.mem_filter.1 h).1
    exact (texts_one hot.2.2 hyo he q2.symm).symm
  · have hyx : y = x' := apart_mem hnt.2.2 h hx (Or.inl he)
    subst hyx
    rw [if_pos rfl]
    symm
    refine countP_none ?_
    intro z hz
    simp only [otherText, decide_eq_false_iff_not]
    rintro ⟨e1, e2, _⟩
    have hm : z ∈ stayN old next := by
      unfold stayN
      rw [List.mem_filter]
      exact ⟨hz, (stays_iff hnt.2.2 z).2 ⟨y, h, e1.symm, e2.symm⟩⟩
    exact (has_false _ _).1 hh z hm e1

/-- Diff makes the one tree of the other, with as few patches as the document counts. -/
theorem diff_few {old next : List Nd} (ho : isTree old = true) (hn : isTree next = true) : applyFrom old (diff old next) = some next ∧ ((diff old next).length : Int) = fewN old next := by
  have hot := (isTree_iff old).1 ho
  have hnt := (isTree_iff next).1 hn
  obtain ⟨now1, h1, h2, h3⟩ := diff_spec ho hn
  have hM : (marksOf (wasOf (stayN old next) next)).length = next.length := by rw [marks_length]; simp [wasOf]
  refine ⟨h1, ?_⟩
  have c1 := costs_count (now0 := stayN old next) next _ hM (fun j z hz h => marks_has hz h)
  have c2 := count_shared ho hn
  have c3 := rt_texts ho hn hM h2
  have c4 := stay_len ho hn
  have c5 : (old.filter fun x => !stays next x).length + (stayL old next).length = old.length := by
    rw [stayL_eq hnt.2.2]
    have : (ids (old.filter (stays next))).length = (old.filter (stays next)).length := by simp [ids]
    rw [this]
    have h := List.length_eq_countP_add_countP (stays next) (l := old)
    rw [List.countP_eq_length_filter, List.countP_eq_length_filter] at h
    have e : (old.filter fun x => !stays next x) = old.filter (fun a => decide (¬ stays next a = true)) := by
      apply List.filter_congr
      intro x _
      cases stays next x <;> rfl
    rw [e]
    omega
  unfold fewN
  rw [h3]
  omega

end T
end Go.Proofs.Ytcaeeaiodbjacaa
