/-
  Diff: what it does, by lists; taking out what does not stay; bringing into order.
-/
import Derived.Test.YtcaeeaiodbjacaaDiffB
import Derived.Test.YtcaeeaiodbjacaaPatchM
import Derived.Test.YtcaeeaiodbjacaaApplyR
namespace Go.Proofs.Ytcaeeaiodbjacaa
set_option linter.unusedVariables false
namespace T

/-- A tree on its way: as it is now, and the patches so far. -/
abbrev Ch := List Nd × List Pt

def doP (c : Ch) (p : Pt) : Ch := ((patchP c.1 p).getD [], c.2 ++ [p])

def nd0 : Nd := (0, 0, ⟨#[]⟩)

/-- Does a node stay in next? -/
def stays (next : List Nd) (x : Nd) : Bool := decide (0 ≤ place next x.1) && decide ((next.getD (place next x.1).toNat nd0).2.1 = x.2.1)

def rmAll (next : List Nd) : List Nd → Ch → Ch
  | [], c => c
  | x :: r, c => rmAll next r (if stays next x then c else doP c (1, x.1, 0, 0, ⟨#[]⟩))

/-- The place just behind the last of these. -/
def behind (now ahead : List Nd) : Int := match ahead.getLast? with
  | none => 0
  | some z => place now z.1 + 1

def moveP (c : Ch) (id at_ : Int) : Ch := doP c (3, id, (if place c.1 id < at_ then at_ - 1 else at_), 0, ⟨#[]⟩)

def arrOne (next : List Nd) (was : List Int) (rests : List Bool) (i : Nat) (x : Nd) (c : Ch) : Ch :=
  if was.getD i 0 < 0 then doP c (2, x.1, behind c.1 (next.take i), x.2.1, x.2.2)
  else if rests.getD i true then c else moveP c x.1 (behind c.1 (next.take i))

def arrFrom (next : List Nd) (was : List Int) (rests : List Bool) : Nat → List Nd → Ch → Ch
  | _, [], c => c
  | i, x :: r, c => arrFrom next was rests (i + 1) r (arrOne next was rests i x c)

def wasOf (now next : List Nd) : List Int := next.map fun x => place now x.1

def arrange (next : List Nd) (c : Ch) : Ch := arrFrom next (wasOf c.1 next) (marksOf (wasOf c.1 next)) 0 next c

def rtOne (x : Nd) (c : Ch) : Ch := if 0 ≤ place c.1 x.1 ∧ (c.1.getD (place c.1 x.1).toNat nd0).2.2 ≠ x.2.2 then doP c (4, x.1, 0, 0, x.2.2) else c

def rtAll : List Nd → Ch → Ch
  | [], c => c
  | x :: r, c => rtAll r (rtOne x c)

def diff (old next : List Nd) : List Pt := (rtAll next (arrange next (rmAll next old (old, [])))).2

/-- The patches so far make it so. -/
def Good (old : List Nd) (c : Ch) : Prop := applyFrom old c.2 = some c.1 ∧ isTree c.1 = true

theorem applyFrom_snoc (p : Pt) : ∀ (ps : List Pt) (l m r : List Nd), applyFrom l ps = some m → patchP m p = some r → applyFrom l (ps ++ [p]) = some r
  | [], l, m, r, h, hp => by
      obtain rfl := Option.some.inj h
      show (match patchP l p with | none => none | some x => applyFrom x []) = _
      rw [hp]
      rfl
  | q :: ps, l, m, r, h, hp => by
      show (match patchP l q with | none => none | some x => applyFrom x (ps ++ [p])) = _
      unfold applyFrom at h
      cases hq : patchP l q with
      | none => rw [hq] at h; cases h
      | some x =>
        rw [hq] at h
        exact applyFrom_snoc p ps x m r h hp

theorem good_do {old : List Nd} {c : Ch} {p : Pt} {r : List Nd} (h : Good old c) (hp : patchP c.1 p = some r) : doP c p = (r, c.2 ++ [p]) ∧ Good old (doP c p) := by
  have e : doP c p = (r, c.2 ++ [p]) := by unfold doP; rw [hp]; rfl
  refine ⟨e, ?_⟩
  rw [e]
  exact ⟨applyFrom_snoc p c.2 old c.1 r h.1 hp, patchP_tree h.2 hp⟩

def ids (l : List Nd) : List Int := l.map fun x => x.1

theorem placeFrom_ix : ∀ (l : List Nd) (i : Int) (k : Nat), placeFrom l i k = ixFrom (ids l) i k
  | [], i, k => rfl
  | x :: r, i, k => by
      show (if x.1 = i then _ else _) = (if x.1 = i then _ else _)
      rw [placeFrom_ix r i (k + 1)]
      rfl

theorem place_ix (l : List Nd) (i : Int) : place l i = ixFrom (ids l) i 0 := placeFrom_ix l i 0

theorem ids_nodup {l : List Nd} (h : l.Pairwise apart) : (ids l).Nodup := by
  unfold ids
  rw [List.nodup_iff_pairwise_ne, List.pairwise_map]
  exact h.imp fun h => h.1

theorem mem_ids {l : List Nd} {i : Int} : i ∈ ids l ↔ has l i = true := by
  simp only [ids, List.mem_map, has, List.any_eq_true, decide_eq_true_eq]

theorem stays_iff {next : List Nd} (h : next.Pairwise apart) (x : Nd) : stays next x = true ↔ ∃ y ∈ next, y.1 = x.1 ∧ y.2.1 = x.2.1 := by
  unfold stays
  cases hh : has next x.1 with
  | false =>
    rw [place_no hh]
    constructor
    · intro q; simp at q
    · rintro ⟨y, hy, he, _⟩
      exact absurd he ((has_false next x.1).1 hh y hy)
  | true =>
    obtain ⟨j, y, hy, he⟩ := has_at hh
    have hp : place next x.1 = j := by rw [← he]; exact place_at h hy
    rw [hp]
    have hg : next.getD ((j : Int)).toNat nd0 = y := by rw [show ((j : Int)).toNat = j by omega, List.getD, hy]; rfl
    rw [hg]
    constructor
    · intro q
      simp at q
      exact ⟨y, List.mem_of_getElem? hy, he, q⟩
    · rintro ⟨z, hz, e1, e2⟩
      have := apart_mem h hz (List.mem_of_getElem? hy) (Or.inl (by omega))
      subst this
      simp
      exact e2

theorem rm_spec {old0 next : List Nd} : ∀ (suf pre : List Nd) (ps : List Pt), Good old0 (pre ++ suf, ps) →
    rmAll next suf (pre ++ suf, ps) = (pre ++ suf.filter (stays next), ps ++ (suf.filter fun x => !stays next x).map fun x => (1, x.1, 0, 0, ⟨#[]⟩)) ∧ Good old0 (rmAll next suf (pre ++ suf, ps))
  | [], pre, ps, h => ⟨by simp [rmAll], h⟩
  | x :: r, pre, ps, h => by
      unfold rmAll
      cases hs : stays next x with
      | true =>
        rw [if_pos rfl]
        have e : pre ++ x :: r = (pre ++ [x]) ++ r := by simp
        rw [e] at h ⊢
        obtain ⟨h1, h2⟩ := rm_spec (next := next) r (pre ++ [x]) ps h
        refine ⟨?_, h2⟩
        rw [h1]
        simp [hs]
      | false =>
        rw [if_neg (by simp)]
        have hat : (pre ++ x :: r)[pre.length]? = some x := by simp
        have hp : patchP (pre ++ x :: r) (1, x.1, 0, 0, ⟨#[]⟩) = some (pre ++ r) := by
          unfold patchP patchO
          simp only
          rw [if_neg (by decide), place_at ((isTree_iff _).1 h.2).2.2 hat, if_neg (by omega), if_pos trivial, show ((pre.length : Int)).toNat = pre.length by omega]
          rw [List.eraseIdx_append_of_length_le (Nat.le_refl _)]
          simp
        obtain ⟨e, hg⟩ := good_do h hp
        rw [e] at hg ⊢
        obtain ⟨h1, h2⟩ := rm_spec (next := next) r pre (ps ++ [(1, x.1, 0, 0, ⟨#[]⟩)]) hg
        refine ⟨?_, h2⟩
        rw [h1]
        simp [hs]

/-- Of the marked ones. -/
def restL : List Int → List Bool → List Int
  | x :: r, true :: m => x :: restL r m
  | _ :: r, false :: m => restL r m
  | _, _ => []

theorem restL_sub : ∀ (l : List Int) (m : List Bool), (restL l m).Sublist l
  | [], m => by cases m <;> simp [restL]
  | x :: r, [] => by simp [restL]
  | x :: r, true :: m => (restL_sub r m).cons_cons x
  | x :: r, false :: m => (restL_sub r m).cons x

theorem restL_length : ∀ (l : List Int) (m : List Bool), m.length = l.length → (restL l m).length = m.count true
  | [], m, h => by
      obtain rfl : m = [] := List.eq_nil_of_length_eq_zero h
      rfl
  | x :: r, [], h => by simp at h
  | x :: r, true :: m, h => by
      have := restL_length r m (by simpa using h)
      simp [restL, this]
  | x :: r, false :: m, h => by
      have := restL_length r m (by simpa using h)
      simp [restL, this]

theorem restL_mem : ∀ (l : List Int) (m : List Bool) (z : Int), z ∈ restL l m → ∃ j : Nat, l[j]? = some z ∧ m[j]? = some true
  | [], m, z, h => by cases m <;> simp [restL] at h
  | x :: r, [], z, h => by simp [restL] at h
  | x :: r, true :: m, z, h => by
      rcases List.mem_cons.1 h with rfl | h
      · exact ⟨0, rfl, rfl⟩
      · obtain ⟨j, h1, h2⟩ := restL_mem r m z h
        exact ⟨j + 1, by simpa using h1, by simpa using h2⟩
  | x :: r, false :: m, z, h => by
      obtain ⟨j, h1, h2⟩ := restL_mem r m z h
      exact ⟨j + 1, by simpa using h1, by simpa using h2⟩

/-- Marks that rise: what is marked rises. -/
theorem restL_rise (f : Int → Int) : ∀ (l : List Int) (m : List Bool), (∀ (i j : Nat) (x y : Int), i < j → m[i]? = some true → m[j]? = some true → l[i]? = some x → l[j]? = some y → f x < f y) → ((restL l m).map f).Pairwise (· < ·)
  | [], m, _ => by cases m <;> simp [restL]
  | x :: r, [], _ => by simp [restL]
  | x :: r, true :: m, h => by
      have ih := restL_rise f r m (fun i j a b hij h1 h2 h3 h4 => h (i + 1) (j + 1) a b (by omega) (by simpa using h1) (by simpa using h2) (by simpa using h3) (by simpa using h4))
      show ((x :: restL r m).map f).Pairwise _
      rw [List.map_cons, List.pairwise_cons]
      refine ⟨?_, ih⟩
      intro y hy
      obtain ⟨z, hz, rfl⟩ := List.mem_map.1 hy
      obtain ⟨j, h1, h2⟩ := restL_mem r m z hz
      exact h 0 (j + 1) x z (by omega) rfl (by simpa using h2) rfl (by simpa using h1)
  | x :: r, false :: m, h => restL_rise f r m (fun i j a b hij h1 h2 h3 h4 => h (i + 1) (j + 1) a b (by omega) (by simpa using h1) (by simpa using h2) (by simpa using h3) (by simpa using h4))

theorem filter_sub : ∀ (a c : List Int), a.Nodup → c.Sublist a → a.filter (fun z => decide (z ∈ c)) = c
  | [], c, _, hc => by
      rw [List.sublist_nil] at hc
      subst hc
      rfl
  | x :: r, c, hn, hc => by
      rw [List.nodup_cons] at hn
      rcases List.sublist_cons_iff.1 hc with q | ⟨t, rfl, q⟩
      · have hx : x ∉ c := fun h => hn.1 (q.subset h)
        rw [List.filter_cons, if_neg (by simpa using hx)]
        exact filter_sub r c hn.2 q
      · rw [List.filter_cons, if_pos (by simp)]
        congr 1
        have e : r.filter (fun z => decide (z ∈ x :: t)) = r.filter (fun z => decide (z ∈ t)) := by
          apply List.filter_congr
          intro z hz
          have : z ≠ x := by rintro rfl; exact hn.1 hz
          simp [this]
        rw [e]
        exact filter_sub r t hn.2 q

/-- Around a number that stands in both just once. -/
theorem split_at {z : Int} : ∀ (a b c d : List Int), z ∉ a → z ∉ c → a ++ z :: b = c ++ z :: d → a = c ∧ b = d
  | [], b, [], d, _, _, h => by simpa using h
  | [], b, y :: c, d, _, hc, h => by
      simp at h
      exact absurd h.1 (by rintro rfl; simp at hc)
  | x :: a, b, [], d, ha, _, h => by
      simp at h
      exact absurd h.1 (by rintro rfl; simp at ha)
  | x :: a, b, y :: c, d, ha, hc, h => by
      simp at h
      obtain ⟨rfl, h⟩ := h
      obtain ⟨h1, h2⟩ := split_at a b c d (fun q => ha (by simp [q])) (fun q => hc (by simp [q])) h
      exact ⟨by rw [h1], h2⟩

theorem ix_split : ∀ (e : List Int) (z : Int) (k : Nat), z ∈ e → ∃ a b : List Int, e = a ++ z :: b ∧ z ∉ a ∧ ixFrom e z k = ((k + a.length : Nat) : Int)
  | [], z, k, h => by simp at h
  | x :: r, z, k, h => by
      by_cases hx : x = z
      · subst hx
        exact ⟨[], r, rfl, by simp, by show (if x = x then _ else _) = _; rw [if_pos rfl]; simp⟩
      · obtain ⟨a, b, rfl, h2, h3⟩ := ix_split r z (k + 1) ((List.mem_cons.1 h).resolve_left (fun q => hx q.symm))
        refine ⟨x :: a, b, rfl, ?_, ?_⟩
        · intro q
          rcases List.mem_cons.1 q with q | q
          · exact hx q.symm
          · exact h2 q
        · rw [ix_skip hx, h3]
          simp
          omega

/-- x comes to stand just behind the last of P. -/
theorem put_filter {E P Q : List Int} {x : Int} {R R' : Int → Bool} {k : Nat} (hn : E.Nodup) (hx : x ∉ E) (hR : ∀ z, z ≠ x → R' z = R z) (hRx : R' x = true) (hf : E.filter R = P ++ Q)
    (hk : (P = [] ∧ k = 0) ∨ ∃ P0 z, P = P0 ++ [z] ∧ ixFrom E z 0 + 1 = k) : (E.take k ++ [x] ++ E.drop k).filter R' = P ++ [x] ++ Q ∧ k ≤ E.length := by
  have cong : ∀ t : List Int, (∀ y ∈ t, y ∈ E) → t.filter R' = t.filter R := by
    intro t ht
    apply List.filter_congr
    intro y hy
    exact hR y (by rintro rfl; exact hx (ht y hy))
  rcases hk with ⟨rfl, rfl⟩ | ⟨P0, z, rfl, hk⟩
  · refine ⟨?_, Nat.zero_le _⟩
    simp only [List.take_zero, List.nil_append, List.drop_zero, List.filter_append]
    rw [cong E (fun y h => h), hf, List.filter_cons, if_pos hRx]
    rfl
  · have hz : z ∈ E.filter R := by rw [hf]; simp
    rw [List.mem_filter] at hz
    obtain ⟨A, B, hE, hA, hi⟩ := ix_split E z 0 hz.1
    have hkA : k = A.length + 1 := by omega
    have hnf : (E.filter R).Nodup := List.Nodup.sublist List.filter_sublist hn
    rw [hf] at hnf
    have hzP : z ∉ P0 := by
      rw [List.append_assoc, List.nodup_append] at hnf
      intro h
      exact hnf.2.2 z h z (by simp) rfl
    have hs : A.filter R ++ z :: B.filter R = P0 ++ z :: Q := by
      have : E.filter R = A.filter R ++ z :: B.filter R := by rw [hE, List.filter_append, List.filter_cons, if_pos hz.2]
      rw [← this, hf]
      simp
    obtain ⟨h1, h2⟩ := split_at _ _ _ _ (fun h => hA (List.mem_filter.1 h).1) hzP hs
    have ht : E.take k = A ++ [z] := by rw [hE, hkA, List.take_append, List.take_of_length_le (by omega)]; simp
    have hd : E.drop k = B := by rw [hE, hkA, List.drop_append, List.drop_of_length_le (by omega)]; simp
    refine ⟨?_, by rw [hE, hkA]; simp⟩
    rw [ht, hd, List.filter_append, List.filter_append, List.filter_append, cong A (by intro y hy; rw [hE]; simp [hy]), cong B (by intro y hy; rw [hE]; simp [hy]), cong [z] (by intro y hy; simp at hy; subst hy; rw [hE]; simp), h1, h2]
    simp [hz.2, hRx]

end T
end Go.Proofs.Ytcaeeaiodbjacaa
