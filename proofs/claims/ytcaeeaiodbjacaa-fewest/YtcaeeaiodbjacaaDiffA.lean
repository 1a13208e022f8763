/-
  Longest rises: the rows of a list of numbers, and the marks of a longest one.
  The longest list that two lists share; the marks of a longest rise are such a list.
-/
import Derived.Test.YtcaeeaiodbjacaaTreeM
namespace Go.Proofs.Ytcaeeaiodbjacaa
set_option linter.unusedVariables false
namespace T

/-- A row: its length, its end, the place of the last but one. -/
abbrev Rw := Int × Int × Int

def rowFrom (v : Int) : List Rw → Nat → Rw → Rw
  | [], _, r => r
  | a :: t, j, r => rowFrom v t (j + 1) (if a.2.1 < v ∧ r.1 ≤ a.1 then (a.1 + 1, r.2.1, (j : Int)) else r)

def rowTo (v : Int) (rows : List Rw) : Rw := if v < 0 then (0, v, -1) else rowFrom v rows 0 (1, v, -1)

def rowsFrom (rows : List Rw) : List Int → List Rw
  | [] => rows
  | v :: t => rowsFrom (rows ++ [rowTo v rows]) t

def rowsOf (l : List Int) : List Rw := rowsFrom [] l

theorem rowsFrom_snoc (v : Int) : ∀ (l : List Int) (rows : List Rw), rowsFrom rows (l ++ [v]) = rowsFrom rows l ++ [rowTo v (rowsFrom rows l)]
  | [], rows => rfl
  | x :: t, rows => rowsFrom_snoc v t _

theorem rowsOf_snoc (l : List Int) (v : Int) : rowsOf (l ++ [v]) = rowsOf l ++ [rowTo v (rowsOf l)] := rowsFrom_snoc v l []

theorem rowsFrom_length : ∀ (l : List Int) (rows : List Rw), (rowsFrom rows l).length = rows.length + l.length
  | [], rows => rfl
  | x :: t, rows => by
      unfold rowsFrom
      rw [rowsFrom_length t]
      simp
      omega

theorem rowsOf_length (l : List Int) : (rowsOf l).length = l.length := by
  unfold rowsOf
  rw [rowsFrom_length]
  simp

theorem rowFrom_spec (v : Int) : ∀ (t : List Rw) (j : Nat) (r : Rw), r.1 ≤ (rowFrom v t j r).1 ∧ (∀ (k : Nat) (a : Rw), t[k]? = some a → a.2.1 < v → a.1 < (rowFrom v t j r).1 ∨ a.1 < r.1) ∧
    (rowFrom v t j r = r ∨ ∃ (k : Nat) (a : Rw), t[k]? = some a ∧ a.2.1 < v ∧ r.1 ≤ a.1 ∧ rowFrom v t j r = (a.1 + 1, r.2.1, ((j + k : Nat) : Int)))
  | [], j, r => ⟨Int.le_refl _, by intro k a h; simp at h, Or.inl rfl⟩
  | a :: t, j, r => by
      unfold rowFrom
      by_cases h : a.2.1 < v ∧ r.1 ≤ a.1
      · rw [if_pos h]
        obtain ⟨h1, h2, h3⟩ := rowFrom_spec v t (j + 1) (a.1 + 1, r.2.1, (j : Int))
        simp only at h1 h2 h3
        refine ⟨by omega, ?_, ?_⟩
        · intro k b hb hv
          match k, hb with
          | 0, hb =>
            simp at hb
            subst hb
            left
            omega
          | k + 1, hb =>
            rcases h2 k b (by simpa using hb) hv with q | q
            · exact Or.inl q
            · left
              omega
        · right
          rcases h3 with h3 | ⟨k, b, hb, hv, hr, h3⟩
          · exact ⟨0, a, rfl, h.1, h.2, by rw [h3]; simp⟩
          · exact ⟨k + 1, b, by simpa using hb, hv, by omega, by rw [h3]; simp; omega⟩
      · rw [if_neg h]
        obtain ⟨h1, h2, h3⟩ := rowFrom_spec v t (j + 1) r
        refine ⟨h1, ?_, ?_⟩
        · intro k b hb hv
          match k, hb with
          | 0, hb =>
            simp at hb
            subst hb
            right
            omega
          | k + 1, hb => exact h2 k b (by simpa using hb) hv
        · rcases h3 with h3 | ⟨k, b, hb, hv, hr, h3⟩
          · exact Or.inl h3
          · exact Or.inr ⟨k + 1, b, by simpa using hb, hv, hr, by rw [h3]; simp; omega⟩

/-- What is known of the row of the number at a place. -/
structure RowOk (l : List Int) (rows : List Rw) (i : Nat) (v : Int) (r : Rw) : Prop where
  fin : r.2.1 = v
  neg : v < 0 → r.1 = 0 ∧ r.2.2 = -1
  pos : 0 ≤ v → 1 ≤ r.1 ∧ ((r.2.2 = -1 ∧ r.1 = 1) ∨ ∃ (b : Nat) (q : Rw) (u : Int), r.2.2 = b ∧ b < i ∧ rows[b]? = some q ∧ l[b]? = some u ∧ q.1 + 1 = r.1 ∧ 0 ≤ u ∧ u < v)
  max : 0 ≤ v → ∀ (j : Nat) (q : Rw) (u : Int), j < i → rows[j]? = some q → l[j]? = some u → u < v → q.1 < r.1

def RowsOk (l : List Int) (rows : List Rw) : Prop := ∀ (i : Nat) (v : Int) (r : Rw), l[i]? = some v → rows[i]? = some r → RowOk l rows i v r

theorem rowsOf_ok : ∀ (n : Nat) (l : List Int), l.length = n → RowsOk l (rowsOf l)
  | 0, l, hl => by
      obtain rfl : l = [] := List.eq_nil_of_length_eq_zero hl
      intro i v r h
      simp at h
  | n + 1, l, hl => by
      obtain ⟨l0, v0, rfl⟩ : ∃ l0 v0, l = l0 ++ [v0] := ⟨l.dropLast, l.getLast (by intro h; subst h; simp at hl), (List.dropLast_concat_getLast _).symm⟩
      have hl0 : l0.length = n := by simpa using hl
      have ih := rowsOf_ok n l0 hl0
      have hlen := rowsOf_length l0
      rw [rowsOf_snoc]
      have up : ∀ (j : Nat) (q : Rw), j < l0.length → ((rowsOf l0 ++ [rowTo v0 (rowsOf l0)])[j]? = some q ↔ (rowsOf l0)[j]? = some q) := by
        intro j q hj
        rw [List.getElem?_append_left (by omega)]
      have up2 : ∀ (j : Nat) (u : Int), j < l0.length → ((l0 ++ [v0])[j]? = some u ↔ l0[j]? = some u) := by
        intro j u hj
        rw [List.getElem?_append_left hj]
      intro i v r hv hr
      by_cases hi : i < l0.length
      · have h := ih i v r ((up2 i v hi).1 hv) ((up i r hi).1 hr)
        refine ⟨h.fin, h.neg, fun h0 => ⟨(h.pos h0).1, ?_⟩, fun h0 j q u hj hq hu huv => h.max h0 j q u hj ((up j q (by omega)).1 hq) ((up2 j u (by omega)).1 hu) huv⟩
        rcases (h.pos h0).2 with q | ⟨b, q, u, q1, q2, q3, q4, q5⟩
        · exact Or.inl q
        · exact Or.inr ⟨b, q, u, q1, q2, (up b q (by omega)).2 q3, (up2 b u (by omega)).2 q4, q5⟩
      · have hi2 : i = l0.length := by
          have := (List.getElem?_eq_some_iff.1 hv).1
          simp at this
          omega
        subst hi2
        obtain rfl : v0 = v := by simpa using hv
        have hr2 : rowTo v0 (rowsOf l0) = r := by
          rw [List.getElem?_append_right (by omega), hlen] at hr
          simpa using hr
        subst hr2
        by_cases hneg : v0 < 0
        · have e : rowTo v0 (rowsOf l0) = (0, v0, -1) := by unfold rowTo; rw [if_pos hneg]
          rw [e]
          exact ⟨rfl, fun _ => ⟨rfl, rfl⟩, fun h => by omega, fun h => by omega⟩
        · have e : rowTo v0 (rowsOf l0) = rowFrom v0 (rowsOf l0) 0 (1, v0, -1) := by unfold rowTo; rw [if_neg hneg]
          obtain ⟨h1, h2, h3⟩ := rowFrom_spec v0 (rowsOf l0) 0 (1, v0, -1)
          simp only at h1 h2 h3
          rw [← e] at h1 h2 h3
          have hfin : (rowTo v0 (rowsOf l0)).2.1 = v0 := by
            rcases h3 with h3 | ⟨k, a, ha, hav, har, h3⟩
            · rw [h3]
            · rw [h3]
          refine ⟨hfin, fun h => by omega, fun _ => ⟨h1, ?_⟩, ?_⟩
          · rcases h3 with h3 | ⟨k, a, ha, hav, har, h3⟩
            · left
              rw [h3]
              exact ⟨rfl, rfl⟩
            · right
              have hk : k < l0.length := by
                have := (List.getElem?_eq_some_iff.1 ha).1
                omega
              have hu : l0[k]? = some l0[k] := List.getElem?_eq_getElem hk
              have ho := ih k l0[k] a hu ha
              refine ⟨k, a, l0[k], by rw [h3]; simp, hk, (up k a hk).2 ha, (up2 k _ hk).2 hu, by rw [h3], ?_, ?_⟩
              · by_cases h0 : l0[k] < 0
                · have := (ho.neg h0).1
                  omega
                · omega
              · rw [← ho.fin]
                exact hav
          · intro _ j q u hj hq hu huv
            have hq' := (up j q hj).1 hq
            have ho := ih j u q ((up2 j u hj).1 hu) hq'
            rcases h2 j q hq' (by rw [ho.fin]; exact huv) with z | z
            · exact z
            · omega

/-- The longest so far, and where it ends. -/
def bestFrom : List Rw → Nat → Int × Int → Int × Int
  | [], _, s => s
  | a :: t, j, s => bestFrom t (j + 1) (if s.1 < a.1 then (a.1, (j : Int)) else s)

def bestOf (rows : List Rw) : Int × Int := bestFrom rows 0 (0, -1)

theorem bestFrom_snoc (a : Rw) : ∀ (t : List Rw) (j : Nat) (s : Int × Int), bestFrom (t ++ [a]) j s = if (bestFrom t j s).1 < a.1 then (a.1, ((j + t.length : Nat) : Int)) else bestFrom t j s
  | [], j, s => rfl
  | b :: t, j, s => by
      show bestFrom (t ++ [a]) (j + 1) _ = _
      rw [bestFrom_snoc a t (j + 1)]
      show _ = if (bestFrom t (j + 1) _).1 < a.1 then _ else bestFrom t (j + 1) _
      rw [show j + 1 + t.length = j + (b :: t).length by simp; omega]

theorem bestFrom_spec : ∀ (t : List Rw) (j : Nat) (s : Int × Int), s.1 ≤ (bestFrom t j s).1 ∧ (∀ a ∈ t, a.1 ≤ (bestFrom t j s).1) ∧ (bestFrom t j s = s ∨ ∃ (k : Nat) (a : Rw), t[k]? = some a ∧ s.1 < a.1 ∧ bestFrom t j s = (a.1, ((j + k : Nat) : Int)))
  | [], j, s => ⟨Int.le_refl _, by simp, Or.inl rfl⟩
  | b :: t, j, s => by
      unfold bestFrom
      by_cases h : s.1 < b.1
      · rw [if_pos h]
        obtain ⟨h1, h2, h3⟩ := bestFrom_spec t (j + 1) (b.1, (j : Int))
        simp only at h1 h3
        refine ⟨by omega, ?_, ?_⟩
        · intro a ha
          rcases List.mem_cons.1 ha with rfl | ha
          · exact h1
          · exact h2 a ha
        · right
          rcases h3 with h3 | ⟨k, a, ha, hs, h3⟩
          · exact ⟨0, b, rfl, h, by rw [h3]; simp⟩
          · exact ⟨k + 1, a, by simpa using ha, by omega, by rw [h3]; simp; omega⟩
      · rw [if_neg h]
        obtain ⟨h1, h2, h3⟩ := bestFrom_spec t (j + 1) s
        refine ⟨h1, ?_, ?_⟩
        · intro a ha
          rcases List.mem_cons.1 ha with rfl | ha
          · omega
          · exact h2 a ha
        · rcases h3 with h3 | ⟨k, a, ha, hs, h3⟩
          · exact Or.inl h3
          · exact Or.inr ⟨k + 1, a, by simpa using ha, hs, by rw [h3]; simp; omega⟩

/-- The places of a row, from its end on. -/
def chain (rows : List Rw) : Nat → Int → List Nat
  | 0, _ => []
  | f + 1, i => if i < 0 then [] else i.toNat :: chain rows f (rows.getD i.toNat (0, 0, -1)).2.2

theorem chain_spec {l : List Int} {rows : List Rw} (hk : RowsOk l rows) (hlen : rows.length = l.length) : ∀ (f i : Nat) (v : Int) (r : Rw), i < f → l[i]? = some v → rows[i]? = some r → 0 ≤ v →
    ((chain rows f i).length : Int) = r.1 ∧ (∀ j ∈ chain rows f i, j ≤ i ∧ ∃ u, l[j]? = some u ∧ 0 ≤ u ∧ (j = i ∨ u < v)) ∧ (chain rows f i).Pairwise (fun a b => b < a ∧ ∀ x y, l[a]? = some x → l[b]? = some y → y < x)
  | 0, i, v, r, hf, _, _, _ => by omega
  | f + 1, i, v, r, hf, hv, hr, h0 => by
      have hg : rows.getD i (0, 0, -1) = r := by rw [List.getD, hr]; rfl
      have e : chain rows (f + 1) (i : Int) = i :: chain rows f r.2.2 := by
        show (if ((i : Int)) < 0 then [] else ((i : Int)).toNat :: chain rows f (rows.getD ((i : Int)).toNat (0, 0, -1)).2.2) = _
        rw [if_neg (by omega), show ((i : Int)).toNat = i by omega, hg]
      rw [e]
      have ho := hk i v r hv hr
      rcases (ho.pos h0).2 with ⟨hb, h1⟩ | ⟨b, q, u, hb, hbi, hq, hu, hq1, hu0, huv⟩
      · have e2 : chain rows f r.2.2 = [] := by
          rw [hb]
          cases f with
          | zero => rfl
          | succ f => rfl
        rw [e2]
        refine ⟨by simp; omega, ?_, by simp⟩
        intro j hj
        simp at hj
        subst hj
        exact ⟨Nat.le_refl _, v, hv, h0, Or.inl rfl⟩
      · rw [hb]
        obtain ⟨c1, c2, c3⟩ := chain_spec hk hlen f b u q (by omega) hu hq hu0
        refine ⟨by simp; omega, ?_, ?_⟩
        · intro j hj
          rcases List.mem_cons.1 hj with rfl | hj
          · exact ⟨Nat.le_refl _, v, hv, h0, Or.inl rfl⟩
          · obtain ⟨d1, z, d2, d3, d4⟩ := c2 j hj
            refine ⟨by omega, z, d2, d3, Or.inr ?_⟩
            rcases d4 with d4 | d4
            · subst d4
              rw [hu] at d2
              cases d2
              exact huv
            · omega
        · rw [List.pairwise_cons]
          refine ⟨?_, c3⟩
          intro j hj
          obtain ⟨d1, z, d2, d3, d4⟩ := c2 j hj
          refine ⟨by omega, ?_⟩
          intro x y hx hy
          rw [hv] at hx
          rw [d2] at hy
          cases hx
          cases hy
          rcases d4 with d4 | d4
          · subst d4
            rw [hu] at d2
            cases d2
            exact huv
          · omega

/-- No rise is longer than the longest row. -/
theorem rise_le {l : List Int} : ∀ (n : Nat) (l : List Int), l.length = n → ∀ s : List Int, s.Sublist l → s.Pairwise (· < ·) → (∀ v ∈ s, 0 ≤ v) → s ≠ [] → ∃ (i : Nat) (r : Rw), (rowsOf l)[i]? = some r ∧ l[i]? = s.getLast? ∧ (s.length : Int) ≤ r.1
  | 0, l, hl, s, hs, _, _, hne => by
      obtain rfl : l = [] := List.eq_nil_of_length_eq_zero hl
      rw [List.sublist_nil] at hs
      exact absurd hs hne
  | n + 1, l, hl, s, hs, hp, hz, hne => by
      obtain ⟨l0, v0, rfl⟩ : ∃ l0 v0, l = l0 ++ [v0] := ⟨l.dropLast, l.getLast (by intro h; subst h; simp at hl), (List.dropLast_concat_getLast _).symm⟩
      have hl0 : l0.length = n := by simpa using hl
      have hlen := rowsOf_length l0
      rw [rowsOf_snoc]
      obtain ⟨s1, s2, rfl, hs1, hs2⟩ := List.sublist_append_iff.1 hs
      have keep : ∀ (t : List Int), t.Sublist l0 → t.Pairwise (· < ·) → (∀ v ∈ t, 0 ≤ v) → t ≠ [] → ∃ (i : Nat) (r : Rw), (rowsOf l0 ++ [rowTo v0 (rowsOf l0)])[i]? = some r ∧ (l0 ++ [v0])[i]? = t.getLast? ∧ (t.length : Int) ≤ r.1 ∧ i < l0.length := by
        intro t h1 h2 h3 h4
        obtain ⟨i, r, q1, q2, q3⟩ := rise_le (l := l0) n l0 hl0 t h1 h2 h3 h4
        have hi : i < l0.length := by
          have := (List.getElem?_eq_some_iff.1 q1).1
          omega
        exact ⟨i, r, by rw [List.getElem?_append_left (by omega)]; exact q1, by rw [List.getElem?_append_left hi]; exact q2, q3, hi⟩
      match s2, hs2 with
      | [], _ =>
        rw [List.append_nil] at hp hz hne ⊢
        obtain ⟨i, r, q1, q2, q3, _⟩ := keep s1 hs1 hp hz hne
        exact ⟨i, r, q1, q2, q3⟩
      | x :: t, hs2 =>
        obtain ⟨rfl, rfl⟩ : x = v0 ∧ t = [] := by
          have h1 := hs2.length_le
          simp at h1
          subst h1
          have := hs2.subset (List.mem_cons_self)
          simp at this
          exact ⟨this, rfl⟩
        have hx0 : 0 ≤ x := hz x (by simp)
        have hrow := rowsOf_ok (n + 1) (l0 ++ [x]) hl l0.length x (rowTo x (rowsOf l0)) (by simp) (by rw [rowsOf_snoc, List.getElem?_append_right (by omega), hlen]; simp)
        rw [rowsOf_snoc] at hrow
        refine ⟨l0.length, rowTo x (rowsOf l0), by rw [List.getElem?_append_right (by omega), hlen]; simp, by simp, ?_⟩
        by_cases h1 : s1 = []
        · subst h1
          have := (hrow.pos hx0).1
          simpa using this
        · rw [List.pairwise_append] at hp
          obtain ⟨i, r, q1, q2, q3, q4⟩ := keep s1 hs1 hp.1 (fun v hv => hz v (by simp [hv])) h1
          have hlast : s1.getLast? = some (s1.getLast h1) := List.getLast?_eq_some_getLast h1
          rw [hlast] at q2
          have hlt := hp.2.2 (s1.getLast h1) (List.getLast_mem h1) x (by simp)
          have := hrow.max hx0 i r (s1.getLast h1) q4 q1 q2 hlt
          simp
          omega

end T
end Go.Proofs.Ytcaeeaiodbjacaa

namespace Go.Proofs.Ytcaeeaiodbjacaa
set_option linter.unusedVariables false
namespace T

theorem nodup_le {α : Type} [DecidableEq α] : ∀ (a b : List α), a.Nodup → (∀ x ∈ a, x ∈ b) → a.length ≤ b.length
  | [], b, _, _ => Nat.zero_le _
  | x :: a, b, hn, hs => by
      rw [List.nodup_cons] at hn
      have hx := hs x (by simp)
      have := nodup_le a (b.erase x) hn.2 (by
        intro y hy
        refine (List.mem_erase_of_ne ?_).2 (hs y (by simp [hy]))
        rintro rfl
        exact hn.1 hy)
      rw [List.length_erase_of_mem hx] at this
      have := List.length_pos_of_mem hx
      simp
      omega

/-- The marks of a longest rise. -/
def lastOf (l : List Int) : Int := (bestOf (rowsOf l)).2
def marksOf (l : List Int) : List Bool := (List.range l.length).map fun i => decide (i ∈ chain (rowsOf l) l.length (lastOf l))

theorem best_chain (l : List Int) : ((chain (rowsOf l) l.length (lastOf l)).length : Int) = (bestOf (rowsOf l)).1 ∧ (∀ j ∈ chain (rowsOf l) l.length (lastOf l), j < l.length ∧ ∃ u, l[j]? = some u ∧ 0 ≤ u) ∧ (chain (rowsOf l) l.length (lastOf l)).Pairwise (fun a b => b < a ∧ ∀ x y, l[a]? = some x → l[b]? = some y → y < x) := by
  have hk := rowsOf_ok l.length l rfl
  have hlen := rowsOf_length l
  obtain ⟨h1, h2, h3⟩ := bestFrom_spec (rowsOf l) 0 (0, -1)
  unfold lastOf bestOf
  rcases h3 with h3 | ⟨k, a, ha, hs, h3⟩
  · rw [h3]
    have e : chain (rowsOf l) l.length (-1) = [] := by
      cases l.length with
      | zero => rfl
      | succ f => rfl
    simp only
    rw [e]
    simp
  · rw [h3]
    simp only [Nat.zero_add]
    have hkl : k < l.length := by
      have := (List.getElem?_eq_some_iff.1 ha).1
      omega
    have hu : l[k]? = some l[k] := List.getElem?_eq_getElem hkl
    have ho := hk k l[k] a hu ha
    have h0 : 0 ≤ l[k] := by
      by_cases h0 : l[k] < 0
      · have := (ho.neg h0).1
        simp only at hs
        omega
      · omega
    obtain ⟨c1, c2, c3⟩ := chain_spec hk hlen l.length k l[k] a hkl hu ha h0
    refine ⟨c1, ?_, c3⟩
    intro j hj
    obtain ⟨d1, u, d2, d3, _⟩ := c2 j hj
    exact ⟨by omega, u, d2, d3⟩

theorem marks_length (l : List Int) : (marksOf l).length = l.length := by simp [marksOf]

theorem marks_at {l : List Int} {i : Nat} (h : (marksOf l)[i]? = some true) : i ∈ chain (rowsOf l) l.length (lastOf l) := by
  unfold marksOf at h
  rw [List.getElem?_map] at h
  cases hr : (List.range l.length)[i]? with
  | none => rw [hr] at h; simp at h
  | some j =>
    have hj : j = i := by
      have := List.getElem?_eq_some_iff.1 hr
      obtain ⟨_, q⟩ := this
      simpa using q.symm
    subst hj
    rw [hr] at h
    simpa using h

theorem marks_pos {l : List Int} {i : Nat} (h : (marksOf l)[i]? = some true) : ∃ u, l[i]? = some u ∧ 0 ≤ u := ((best_chain l).2.1 i (marks_at h)).2

theorem marks_rise {l : List Int} {i j : Nat} (hij : i < j) (hi : (marksOf l)[i]? = some true) (hj : (marksOf l)[j]? = some true) {x y : Int} (hx : l[i]? = some x) (hy : l[j]? = some y) : x < y := by
  have h3 := (best_chain l).2.2
  have mi := marks_at hi
  have mj := marks_at hj
  obtain ⟨p, hp⟩ := List.mem_iff_getElem?.1 mi
  obtain ⟨q, hq⟩ := List.mem_iff_getElem?.1 mj
  obtain ⟨hp1, hp2⟩ := List.getElem?_eq_some_iff.1 hp
  obtain ⟨hq1, hq2⟩ := List.getElem?_eq_some_iff.1 hq
  rw [List.pairwise_iff_getElem] at h3
  rcases Nat.lt_trichotomy p q with c | c | c
  · have := (h3 p q hp1 hq1 c).1
    rw [hp2, hq2] at this
    omega
  · subst c
    rw [hp2] at hq2
    omega
  · have := (h3 q p hq1 hp1 c).2
    rw [hp2, hq2] at this
    exact this y x hy hx

theorem marks_count (l : List Int) : (((marksOf l).count true : Nat) : Int) = (bestOf (rowsOf l)).1 := by
  obtain ⟨h1, h2, h3⟩ := best_chain l
  rw [← h1]
  generalize hc : chain (rowsOf l) l.length (lastOf l) = c at h2 h3
  have hn : c.Nodup := h3.imp (by intro a b h; omega)
  have e : (marksOf l).count true = ((List.range l.length).filter fun i => decide (i ∈ c)).length := by
    unfold marksOf
    rw [hc, List.count_eq_countP, List.countP_map, List.countP_eq_length_filter]
    congr 1
    apply List.filter_congr
    intro x _
    simp
  have le1 : c.length ≤ ((List.range l.length).filter fun i => decide (i ∈ c)).length := nodup_le _ _ hn (by
    intro x hx
    rw [List.mem_filter]
    exact ⟨by simpa using (h2 x hx).1, by simpa using hx⟩)
  have le2 : ((List.range l.length).filter fun i => decide (i ∈ c)).length ≤ c.length := nodup_le _ _ (List.Nodup.sublist List.filter_sublist List.nodup_range) (by
    intro x hx
    rw [List.mem_filter] at hx
    simpa using hx.2)
  omega

/-- No rise is longer than what is marked. -/
theorem marks_max {l s : List Int} (hs : s.Sublist l) (hp : s.Pairwise (· < ·)) (hz : ∀ v ∈ s, 0 ≤ v) : s.length ≤ (marksOf l).count true := by
  by_cases hne : s = []
  · subst hne
    simp
  · obtain ⟨i, r, h1, h2, h3⟩ := rise_le (l := l) l.length l rfl s hs hp hz hne
    have hb := (bestFrom_spec (rowsOf l) 0 (0, -1)).2.1 r (List.mem_of_getElem? h1)
    have hc := marks_count l
    unfold bestOf at hc
    omega

/-- How long the longest list is that both share. -/
def lcsRow (x : Int) (prev : List Int → Nat) : List Int → Nat
  | [] => 0
  | y :: ys => if x = y then prev ys + 1 else Nat.max (lcsRow x prev ys) (prev (y :: ys))
def lcs : List Int → List Int → Nat
  | [] => fun _ => 0
  | x :: xs => lcsRow x (lcs xs)

theorem lcs_nil_left (b : List Int) : lcs [] b = 0 := rfl
theorem lcs_nil_right (a : List Int) : lcs a [] = 0 := by
  cases a with
  | nil => rfl
  | cons x xs => rfl
theorem lcs_same (x : Int) (xs ys : List Int) : lcs (x :: xs) (x :: ys) = lcs xs ys + 1 := by
  show lcsRow x (lcs xs) (x :: ys) = _
  rw [lcsRow, if_pos rfl]
theorem lcs_other {x y : Int} (h : x ≠ y) (xs ys : List Int) : lcs (x :: xs) (y :: ys) = Nat.max (lcs (x :: xs) ys) (lcs xs (y :: ys)) := by
  show lcsRow x (lcs xs) (y :: ys) = _
  rw [lcsRow, if_neg h]
  rfl

theorem lcs_le : ∀ (n : Nat) (a b c : List Int), a.length + b.length ≤ n → c.Sublist a → c.Sublist b → c.length ≤ lcs a b
  | _, [], b, c, _, ha, _ => by
      rw [List.sublist_nil] at ha
      subst ha
      simp
  | _, x :: xs, [], c, _, _, hb => by
      rw [List.sublist_nil] at hb
      subst hb
      simp
  | 0, x :: xs, y :: ys, c, hn, _, _ => by
      simp only [List.length_cons] at hn
      omega
  | n + 1, x :: xs, y :: ys, c, hn, ha, hb => by
      simp only [List.length_cons] at hn
      by_cases h : x = y
      · subst h
        rw [lcs_same]
        have ta : c.tail.Sublist xs := by
          rcases List.sublist_cons_iff.1 ha with q | ⟨r, rfl, q⟩
          · exact (List.tail_sublist c).trans q
          · exact q
        have tb : c.tail.Sublist ys := by
          rcases List.sublist_cons_iff.1 hb with q | ⟨r, rfl, q⟩
          · exact (List.tail_sublist c).trans q
          · exact q
        have := lcs_le n xs ys c.tail (by omega) ta tb
        rw [List.length_tail] at this
        omega
      · rw [lcs_other h]
        rcases List.sublist_cons_iff.1 ha with q | ⟨r, rfl, q⟩
        · have := lcs_le n xs (y :: ys) c (by simp only [List.length_cons]; omega) q hb
          exact Nat.le_trans this (Nat.le_max_right _ _)
        · have hb2 : (x :: r).Sublist ys := by
            rcases List.sublist_cons_iff.1 hb with q2 | ⟨r2, e, q2⟩
            · exact q2
            · simp only [List.cons.injEq] at e
              exact absurd e.1 h
          have := lcs_le n (x :: xs) ys (x :: r) (by simp only [List.length_cons]; omega) ha hb2
          exact Nat.le_trans this (Nat.le_max_left _ _)

theorem lcs_ge : ∀ (n : Nat) (a b : List Int), a.length + b.length ≤ n → ∃ c : List Int, c.Sublist a ∧ c.Sublist b ∧ c.length = lcs a b
  | _, [], b, _ => ⟨[], by simp, by simp, by rw [lcs_nil_left]; rfl⟩
  | _, x :: xs, [], _ => ⟨[], by simp, by simp, by rw [lcs_nil_right]; rfl⟩
  | 0, x :: xs, y :: ys, hn => by
      simp only [List.length_cons] at hn
      omega
  | n + 1, x :: xs, y :: ys, hn => by
      simp only [List.length_cons] at hn
      by_cases h : x = y
      · subst h
        obtain ⟨c, h1, h2, h3⟩ := lcs_ge n xs ys (by omega)
        exact ⟨x :: c, h1.cons_cons x, h2.cons_cons x, by rw [lcs_same, ← h3]; rfl⟩
      · rw [lcs_other h]
        rcases Nat.le_total (lcs (x :: xs) ys) (lcs xs (y :: ys)) with q | q
        · obtain ⟨c, h1, h2, h3⟩ := lcs_ge n xs (y :: ys) (by simp only [List.length_cons]; omega)
          exact ⟨c, h1.cons x, h2, by rw [h3]; exact (Nat.max_eq_right q).symm⟩
        · obtain ⟨c, h1, h2, h3⟩ := lcs_ge n (x :: xs) ys (by simp only [List.length_cons]; omega)
          exact ⟨c, h1, h2.cons y, by rw [h3]; exact (Nat.max_eq_left q).symm⟩

/-- The document's number: by prefixes. -/
def shared (a b : List Int) : Nat := lcs a.reverse b.reverse

theorem shared_le {a b c : List Int} (ha : c.Sublist a) (hb : c.Sublist b) : c.length ≤ shared a b := by
  have := lcs_le _ a.reverse b.reverse c.reverse (Nat.le_refl _) (List.reverse_sublist.2 ha) (List.reverse_sublist.2 hb)
  simpa [shared] using this

theorem shared_ge (a b : List Int) : ∃ c : List Int, c.Sublist a ∧ c.Sublist b ∧ c.length = shared a b := by
  obtain ⟨c, h1, h2, h3⟩ := lcs_ge _ a.reverse b.reverse (Nat.le_refl _)
  refine ⟨c.reverse, ?_, ?_, by simpa [shared] using h3⟩
  · have := List.reverse_sublist.2 h1
    simpa using this
  · have := List.reverse_sublist.2 h2
    simpa using this

/-- Where a number stands; -1: nowhere. -/
def ixFrom : List Int → Int → Nat → Int
  | [], _, _ => -1
  | x :: r, i, k => if x = i then (k : Int) else ixFrom r i (k + 1)

theorem ix_mem : ∀ (a : List Int) (z : Int) (k : Nat), z ∈ a → (k : Int) ≤ ixFrom a z k
  | [], z, k, h => by simp at h
  | x :: r, z, k, h => by
      unfold ixFrom
      by_cases hx : x = z
      · rw [if_pos hx]; omega
      · rw [if_neg hx]
        have := ix_mem r z (k + 1) ((List.mem_cons.1 h).resolve_left (fun e => hx e.symm))
        omega

theorem ix_no : ∀ (a : List Int) (z : Int) (k : Nat), z ∉ a → ixFrom a z k = -1
  | [], z, k, h => rfl
  | x :: r, z, k, h => by
      unfold ixFrom
      rw [if_neg (by rintro rfl; simp at h)]
      exact ix_no r z (k + 1) (fun q => h (by simp [q]))

theorem ix_skip {x z : Int} (h : x ≠ z) (r : List Int) (k : Nat) : ixFrom (x :: r) z k = ixFrom r z (k + 1) := by
  show (if x = z then _ else _) = _
  rw [if_neg h]

theorem ix_rise : ∀ (a c : List Int) (k : Nat), a.Nodup → c.Sublist a → (c.map fun z => ixFrom a z k).Pairwise (· < ·)
  | [], c, k, _, hc => by
      rw [List.sublist_nil] at hc
      subst hc
      simp
  | x :: r, c, k, hn, hc => by
      rw [List.nodup_cons] at hn
      have cong : ∀ t : List Int, t.Sublist r → (t.map fun z => ixFrom (x :: r) z k) = t.map fun z => ixFrom r z (k + 1) := by
        intro t ht
        apply List.map_congr_left
        intro z hz
        refine ix_skip ?_ r k
        rintro rfl
        exact hn.1 (ht.subset hz)
      rcases List.sublist_cons_iff.1 hc with q | ⟨t, rfl, q⟩
      · rw [cong c q]
        exact ix_rise r c (k + 1) hn.2 q
      · rw [List.map_cons, cong t q, List.pairwise_cons]
        refine ⟨?_, ix_rise r t (k + 1) hn.2 q⟩
        intro y hy
        obtain ⟨z, hz, rfl⟩ := List.mem_map.1 hy
        have h1 := ix_mem r z (k + 1) (q.subset hz)
        have h2 : ixFrom (x :: r) x k = k := by
          show (if x = x then _ else _) = _
          rw [if_pos rfl]
        rw [h2]
        omega

theorem sub_of_rise : ∀ (a c : List Int) (k : Nat), (∀ z ∈ c, z ∈ a) → (c.map fun z => ixFrom a z k).Pairwise (· < ·) → c.Sublist a
  | [], c, k, hm, _ => by
      cases c with
      | nil => simp
      | cons z t => have := hm z (by simp); simp at this
  | x :: r, [], k, _, _ => by simp
  | x :: r, z :: c, k, hm, hp => by
      rw [List.map_cons, List.pairwise_cons] at hp
      have cong : ∀ t : List Int, (∀ y ∈ t, x ≠ y) → (t.map fun z => ixFrom (x :: r) z k) = t.map fun z => ixFrom r z (k + 1) := by
        intro t ht
        apply List.map_congr_left
        intro y hy
        exact ix_skip (ht y hy) r k
      by_cases hz : x = z
      · subst hz
        have h2 : ixFrom (x :: r) x k = k := by
          show (if x = x then _ else _) = _
          rw [if_pos rfl]
        rw [h2] at hp
        have hne : ∀ y ∈ c, x ≠ y := by
          rintro y hy rfl
          have := hp.1 _ (List.mem_map.2 ⟨x, hy, rfl⟩)
          rw [h2] at this
          omega
        refine List.Sublist.cons_cons x (sub_of_rise r c (k + 1) ?_ ?_)
        · intro y hy
          exact (List.mem_cons.1 (hm y (by simp [hy]))).resolve_left (fun e => hne y hy e.symm)
        · rw [← cong c hne]
          exact hp.2
      · have hzr : z ∈ r := (List.mem_cons.1 (hm z (by simp))).resolve_left (fun e => hz e.symm)
        have h1 := ix_mem r z (k + 1) hzr
        rw [ix_skip hz] at hp
        have h2 : ixFrom (x :: r) x k = k := by
          show (if x = x then _ else _) = _
          rw [if_pos rfl]
        have hne : ∀ y ∈ z :: c, x ≠ y := by
          intro y hy
          rcases List.mem_cons.1 hy with rfl | hy
          · exact hz
          · rintro rfl
            have := hp.1 _ (List.mem_map.2 ⟨x, hy, rfl⟩)
            rw [h2] at this
            omega
        refine List.Sublist.cons x (sub_of_rise r (z :: c) (k + 1) ?_ ?_)
        · intro y hy
          exact (List.mem_cons.1 (hm y hy)).resolve_left (fun e => hne y hy e.symm)
        · rw [← cong (z :: c) hne, List.map_cons, List.pairwise_cons, ix_skip hz]
          exact hp

end T
end Go.Proofs.Ytcaeeaiodbjacaa
