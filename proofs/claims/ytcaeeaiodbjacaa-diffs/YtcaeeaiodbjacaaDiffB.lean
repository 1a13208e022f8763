/-
  The longest list that two lists share; the marks of a longest rise are such a list.
-/
import Derived.Test.YtcaeeaiodbjacaaDiffA
namespace Go.Proofs.Ytcaeeaiodbjacaa
set_option linter.unusedVariables false
namespace T

theorem nodup_le {α : Type} [DecidableEq α] : ∀ (a b : List α), a.Nodup → (∀ x ∈ a, x ∈ b) → a.length ≤ b.length
  | [], b, _, _ => Nat.zero_le _
  | x :: a, b, hn, hs => by
      rw [List.nodup_cons] at hn
      have hx := hs x (by simp)
      have := nodup_le a (b.erase x) hn.2 (by
        intro y hy
        refine (List.mem_erase_of_ne ?_).2 (hs y (by simp [hy]))
        rintro rfl
        exact hn.1 hy)
      rw [List.length_erase_of_mem hx] at this
      have := List.length_pos_of_mem hx
      simp
      omega

/-- The marks of a longest rise. -/
def lastOf (l : List Int) : Int := (bestOf (rowsOf l)).2
def marksOf (l : List Int) : List Bool := (List.range l.length).map fun i => decide (i ∈ chain (rowsOf l) l.length (lastOf l))

theorem best_chain (l : List Int) : ((chain (rowsOf l) l.length (lastOf l)).length : Int) = (bestOf (rowsOf l)).1 ∧ (∀ j ∈ chain (rowsOf l) l.length (lastOf l), j < l.length ∧ ∃ u, l[j]? = some u ∧ 0 ≤ u) ∧ (chain (rowsOf l) l.length (lastOf l)).Pairwise (fun a b => b < a ∧ ∀ x y, l[a]? = some x → l[b]? = some y → y < x) := by
  have hk := rowsOf_ok l.length l rfl
  have hlen := rowsOf_length l
  obtain ⟨h1, h2, h3⟩ := bestFrom_spec (rowsOf l) 0 (0, -1)
  unfold lastOf bestOf
  rcases h3 with h3 | ⟨k, a, ha, hs, h3⟩
  · rw [h3]
    have e : chain (rowsOf l) l.length (-1) = [] := by
      cases l.length with
      | zero => rfl
      | succ f => rfl
    simp only
    rw [e]
    simp
  · rw [h3]
    simp only [Nat.zero_add]
    have hkl : k < l.length := by
      have := (List.getElem?_eq_some_iff.1 ha).1
      omega
    have hu : l[k]? = some l[k] := List.getElem?_eq_getElem hkl
    have ho := hk k l[k] a hu ha
    have h0 : 0 ≤ l[k] := by
      by_cases h0 : l[k] < 0
      · have := (ho.neg h0).1
        simp only at hs
        omega
      · omega
    obtain ⟨c1, c2, c3⟩ := chain_spec hk hlen l.length k l[k] a hkl hu ha h0
    refine ⟨c1, ?_, c3⟩
    intro j hj
    obtain ⟨d1, u, d2, d3, _⟩ := c2 j hj
    exact ⟨by omega, u, d2, d3⟩

theorem marks_length (l : List Int) : (marksOf l).length = l.length := by simp [marksOf]

theorem marks_at {l : List Int} {i : Nat} (h : (marksOf l)[i]? = some true) : i ∈ chain (rowsOf l) l.length (lastOf l) := by
  unfold marksOf at h
  rw [List.getElem?_map] at h
  cases hr : (List.range l.length)[i]? with
  | none => rw [hr] at h; simp at h
  | some j =>
    have hj : j = i := by
      have := List.getElem?_eq_some_iff.1 hr
      obtain ⟨_, q⟩ := this
      simpa using q.symm
    subst hj
    rw [hr] at h
    simpa using h

theorem marks_pos {l : List Int} {i : Nat} (h : (marksOf l)[i]? = some true) : ∃ u, l[i]? = some u ∧ 0 ≤ u := ((best_chain l).2.1 i (marks_at h)).2

theorem marks_rise {l : List Int} {i j : Nat} (hij : i < j) (hi : (marksOf l)[i]? = some true) (hj : (marksOf l)[j]? = some true) {x y : Int} (hx : l[i]? = some x) (hy : l[j]? = some y) : x < y := by
  have h3 := (best_chain l).2.2
  have mi := marks_at hi
  have mj := marks_at hj
  obtain ⟨p, hp⟩ := List.mem_iff_getElem?.1 mi
  obtain ⟨q, hq⟩ := List.mem_iff_getElem?.1 mj
  obtain ⟨hp1, hp2⟩ := List.getElem?_eq_some_iff.1 hp
  obtain ⟨hq1, hq2⟩ := List.getElem?_eq_some_iff.1 hq
  rw [List.pairwise_iff_getElem] at h3
  rcases Nat.lt_trichotomy p q with c | c | c
  · have := (h3 p q hp1 hq1 c).1
    rw [hp2, hq2] at this
    omega
  · subst c
    rw [hp2] at hq2
    omega
  · have := (h3 q p hq1 hp1 c).2
    rw [hp2, hq2] at this
    exact this y x hy hx

theorem marks_count (l : List Int) : (((marksOf l).count true : Nat) : Int) = (bestOf (rowsOf l)).1 := by
  obtain ⟨h1, h2, h3⟩ := best_chain l
  rw [← h1]
  generalize hc : chain (rowsOf l) l.length (lastOf l) = c at h2 h3
  have hn : c.Nodup := h3.imp (by intro a b h; omega)
  have e : (marksOf l).count true = ((List.range l.length).filter fun i => decide (i ∈ c)).length := by
    unfold marksOf
    rw [hc, List.count_eq_countP, List.countP_map, List.countP_eq_length_filter]
    congr 1
    apply List.filter_congr
    intro x _
    simp
  have le1 : c.length ≤ ((List.range l.length).filter fun i => decide (i ∈ c)).length := nodup_le _ _ hn (by
    intro x hx
    rw [List.mem_filter]
    exact ⟨by simpa using (h2 x hx).1, by simpa using hx⟩)
  have le2 : ((List.range l.length).filter fun i => decide (i ∈ c)).length ≤ c.length := nodup_le _ _ (List.Nodup.sublist List.filter_sublist List.nodup_range) (by
    intro x hx
    rw [List.mem_filter] at hx
    simpa using hx.2)
  omega

/-- No rise is longer than what is marked. -/
theorem marks_max {l s : List Int} (hs : s.Sublist l) (hp : s.Pairwise (· < ·)) (hz : ∀ v ∈ s, 0 ≤ v) : s.length ≤ (marksOf l).count true := by
  by_cases hne : s = []
  · subst hne
    simp
  · obtain ⟨i, r, h1, h2, h3⟩ := rise_le (l := l) l.length l rfl s hs hp hz hne
    have hb := (bestFrom_spec (rowsOf l) 0 (0, -1)).2.1 r (List.mem_of_getElem? h1)
    have hc := marks_count l
    unfold bestOf at hc
    omega

/-- How long the longest list is that both share. -/
def lcs : List Int → List Int → Nat
  | [], _ => 0
  | _ :: _, [] => 0
  | x :: xs, y :: ys => if x = y then lcs xs ys + 1 else Nat.max (lcs (x :: xs) ys) (lcs xs (y :: ys))
termination_by a b => a.length + b.length

theorem lcs_nil_left (b : List Int) : lcs [] b = 0 := by rw [lcs]
theorem lcs_nil_right (a : List Int) : lcs a [] = 0 := by
  cases a with
  | nil => rw [lcs]
  | cons x xs => rw [lcs]
theorem lcs_same (x : Int) (xs ys : List Int) : lcs (x :: xs) (x :: ys) = lcs xs ys + 1 := by rw [lcs, if_pos rfl]
theorem lcs_other {x y : Int} (h : x ≠ y) (xs ys : List Int) : lcs (x :: xs) (y :: ys) = Nat.max (lcs (x :: xs) ys) (lcs xs (y :: ys)) := by rw [lcs, if_neg h]

theorem lcs_le : ∀ (n : Nat) (a b c : List Int), a.length + b.length = n → c.Sublist a → c.Sublist b → c.length ≤ lcs a b
  | n, [], b, c, _, ha, _ => by
      rw [List.sublist_nil] at ha
      subst ha
      simp
  | n, x :: xs, [], c, _, _, hb => by
      rw [List.sublist_nil] at hb
      subst hb
      simp
  | n, x :: xs, y :: ys, c, hn, ha, hb => by
      simp only [List.length_cons] at hn
      by_cases h : x = y
      · subst h
        rw [lcs_same]
        have ta : c.tail.Sublist xs := by
          rcases List.sublist_cons_iff.1 ha with q | ⟨r, rfl, q⟩
          · exact (List.tail_sublist c).trans q
          · exact q
        have tb : c.tail.Sublist ys := by
          rcases List.sublist_cons_iff.1 hb with q | ⟨r, rfl, q⟩
          · exact (List.tail_sublist c).trans q
          · exact q
        have := lcs_le (xs.length + ys.length) xs ys c.tail rfl ta tb
        rw [List.length_tail] at this
        omega
      · rw [lcs_other h]
        rcases List.sublist_cons_iff.1 ha with q | ⟨r, rfl, q⟩
        · have := lcs_le (xs.length + (y :: ys).length) xs (y :: ys) c rfl q hb
          exact Nat.le_trans this (Nat.le_max_right _ _)
        · have hb2 : (x :: r).Sublist ys := by
            rcases List.sublist_cons_iff.1 hb with q2 | ⟨r2, e, q2⟩
            · exact q2
            · simp only [List.cons.injEq] at e
              exact absurd e.1 h
          have := lcs_le ((x :: xs).length + ys.length) (x :: xs) ys (x :: r) rfl ha hb2
          exact Nat.le_trans this (Nat.le_max_left _ _)
termination_by n a b => a.length + b.length

theorem lcs_ge : ∀ (n : Nat) (a b : List Int), a.length + b.length = n → ∃ c : List Int, c.Sublist a ∧ c.Sublist b ∧ c.length = lcs a b
  | n, [], b, _ => ⟨[], by simp, by simp, by rw [lcs_nil_left]; rfl⟩
  | n, x :: xs, [], _ => ⟨[], by simp, by simp, by rw [lcs_nil_right]; rfl⟩
  | n, x :: xs, y :: ys, hn => by
      simp only [List.length_cons] at hn
      by_cases h : x = y
      · subst h
        obtain ⟨c, h1, h2, h3⟩ := lcs_ge (xs.length + ys.length) xs ys rfl
        exact ⟨x :: c, h1.cons_cons x, h2.cons_cons x, by rw [lcs_same, ← h3]; rfl⟩
      · rw [lcs_other h]
        rcases Nat.le_total (lcs (x :: xs) ys) (lcs xs (y :: ys)) with q | q
        · obtain ⟨c, h1, h2, h3⟩ := lcs_ge (xs.length + (y :: ys).length) xs (y :: ys) rfl
          exact ⟨c, h1.cons x, h2, by rw [h3]; exact (Nat.max_eq_right q).symm⟩
        · obtain ⟨c, h1, h2, h3⟩ := lcs_ge ((x :: xs).length + ys.length) (x :: xs) ys rfl
          exact ⟨c, h1, h2.cons y, by rw [h3]; exact (Nat.max_eq_left q).symm⟩
termination_by n a b => a.length + b.length

/-- The document's number: by prefixes. -/
def shared (a b : List Int) : Nat := lcs a.reverse b.reverse

theorem shared_le {a b c : List Int} (ha : c.Sublist a) (hb : c.Sublist b) : c.length ≤ shared a b := by
  have := lcs_le _ a.reverse b.reverse c.reverse rfl (List.reverse_sublist.2 ha) (List.reverse_sublist.2 hb)
  simpa [shared] using this

theorem shared_ge (a b : List Int) : ∃ c : List Int, c.Sublist a ∧ c.Sublist b ∧ c.length = shared a b := by
  obtain ⟨c, h1, h2, h3⟩ := lcs_ge _ a.reverse b.reverse rfl
  refine ⟨c.reverse, ?_, ?_, by simpa [shared] using h3⟩
  · have := List.reverse_sublist.2 h1
    simpa using this
  · have := List.reverse_sublist.2 h2
    simpa using this

/-- Where a number stands; -1: nowhere. -/
def ixFrom : List Int → Int → Nat → Int
  | [], _, _ => -1
  | x :: r, i, k => if x = i then (k : Int) else ixFrom r i (k + 1)

theorem ix_mem : ∀ (a : List Int) (z : Int) (k : Nat), z ∈ a → (k : Int) ≤ ixFrom a z k
  | [], z, k, h => by simp at h
  | x :: r, z, k, h => by
      unfold ixFrom
      by_cases hx : x = z
      · rw [if_pos hx]; omega
      · rw [if_neg hx]
        have := ix_mem r z (k + 1) ((List.mem_cons.1 h).resolve_left (fun e => hx e.symm))
        omega

theorem ix_no : ∀ (a : List Int) (z : Int) (k : Nat), z ∉ a → ixFrom a z k = -1
  | [], z, k, h => rfl
  | x :: r, z, k, h => by
      unfold ixFrom
      rw [if_neg (by rintro rfl; simp at h)]
      exact ix_no r z (k + 1) (fun q => h (by simp [q]))

theorem ix_skip {x z : Int} (h : x ≠ z) (r : List Int) (k : Nat) : ixFrom (x :: r) z k = ixFrom r z (k + 1) := by
  show (if x = z then _ else _) = _
  rw [if_neg h]

theorem ix_rise : ∀ (a c : List Int) (k : Nat), a.Nodup → c.Sublist a → (c.map fun z => ixFrom a z k).Pairwise (· < ·)
  | [], c, k, _, hc => by
      rw [List.sublist_nil] at hc
      subst hc
      simp
  | x :: r, c, k, hn, hc => by
      rw [List.nodup_cons] at hn
      have cong : ∀ t : List Int, t.Sublist r → (t.map fun z => ixFrom (x :: r) z k) = t.map fun z => ixFrom r z (k + 1) := by
        intro t ht
        apply List.map_congr_left
        intro z hz
        refine ix_skip ?_ r k
        rintro rfl
        exact hn.1 (ht.subset hz)
      rcases List.sublist_cons_iff.1 hc with q | ⟨t, rfl, q⟩
      · rw [cong c q]
        exact ix_rise r c (k + 1) hn.2 q
      · rw [List.map_cons, cong t q, List.pairwise_cons]
        refine ⟨?_, ix_rise r t (k + 1) hn.2 q⟩
        intro y hy
        obtain ⟨z, hz, rfl⟩ := List.mem_map.1 hy
        have h1 := ix_mem r z (k + 1) (q.subset hz)
        have h2 : ixFrom (x :: r) x k = k := by
          show (if x = x then _ else _) = _
          rw [if_pos rfl]
        rw [h2]
        omega

theorem sub_of_rise : ∀ (a c : List Int) (k : Nat), (∀ z ∈ c, z ∈ a) → (c.map fun z => ixFrom a z k).Pairwise (· < ·) → c.Sublist a
  | [], c, k, hm, _ => by
      cases c with
      | nil => simp
      | cons z t => have := hm z (by simp); simp at this
  | x :: r, [], k, _, _ => by simp
  | x :: r, z :: c, k, hm, hp => by
      rw [List.map_cons, List.pairwise_cons] at hp
      have cong : ∀ t : List Int, (∀ y ∈ t, x ≠ y) → (t.map fun z => ixFrom (x :: r) z k) = t.map fun z => ixFrom r z (k + 1) := by
        intro t ht
        apply List.map_congr_left
        intro y hy
        exact ix_skip (ht y hy) r k
      by_cases hz : x = z
      · subst hz
        have h2 : ixFrom (x :: r) x k = k := by
          show (if x = x then _ else _) = _
          rw [if_pos rfl]
        rw [h2] at hp
        have hne : ∀ y ∈ c, x ≠ y := by
          rintro y hy rfl
          have := hp.1 _ (List.mem_map.2 ⟨x, hy, rfl⟩)
          rw [h2] at this
          omega
        refine List.Sublist.cons_cons x (sub_of_rise r c (k + 1) ?_ ?_)
        · intro y hy
          exact (List.mem_cons.1 (hm y (by simp [hy]))).resolve_left (fun e => hne y hy e.symm)
        · rw [← cong c hne]
          exact hp.2
      · have hzr : z ∈ r := (List.mem_cons.1 (hm z (by simp))).resolve_left (fun e => hz e.symm)
        have h1 := ix_mem r z (k + 1) hzr
        rw [ix_skip hz] at hp
        have h2 : ixFrom (x :: r) x k = k := by
          show (if x = x then _ else _) = _
          rw [if_pos rfl]
        have hne : ∀ y ∈ z :: c, x ≠ y := by
          intro y hy
          rcases List.mem_cons.1 hy with rfl | hy
          · exact hz
          · rintro rfl
            have := hp.1 _ (List.mem_map.2 ⟨x, hy, rfl⟩)
            rw [h2] at this
            omega
        refine List.Sublist.cons x (sub_of_rise r (z :: c) (k + 1) ?_ ?_)
        · intro y hy
          exact (List.mem_cons.1 (hm y hy)).resolve_left (fun e => hne y hy e.symm)
        · rw [← cong (z :: c) hne, List.map_cons, List.pairwise_cons, ix_skip hz]
          exact hp

end T
end Go.Proofs.Ytcaeeaiodbjacaa
