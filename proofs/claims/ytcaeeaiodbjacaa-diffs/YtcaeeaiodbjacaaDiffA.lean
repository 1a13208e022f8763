/-
  Longest rises: the rows of a list of numbers, and the marks of a longest one.
-/
import Derived.Test.YtcaeeaiodbjacaaTreeM
namespace Go.Proofs.Ytcaeeaiodbjacaa
set_option linter.unusedVariables false
namespace T

/-- A row: its length, its end, the place of the last but one. -/
abbrev Rw := Int × Int × Int

def rowFrom (v : Int) : List Rw → Nat → Rw → Rw
  | [], _, r => r
  | a :: t, j, r => rowFrom v t (j + 1) (if a.2.1 < v ∧ r.1 ≤ a.1 then (a.1 + 1, r.2.1, (j : Int)) else r)

def rowTo (v : Int) (rows : List Rw) : Rw := if v < 0 then (0, v, -1) else rowFrom v rows 0 (1, v, -1)

def rowsFrom (rows : List Rw) : List Int → List Rw
  | [] => rows
  | v :: t => rowsFrom (rows ++ [rowTo v rows]) t

def rowsOf (l : List Int) : List Rw := rowsFrom [] l

theorem rowsFrom_snoc (v : Int) : ∀ (l : List Int) (rows : List Rw), rowsFrom rows (l ++ [v]) = rowsFrom rows l ++ [rowTo v (rowsFrom rows l)]
  | [], rows => rfl
  | x :: t, rows => rowsFrom_snoc v t _

theorem rowsOf_snoc (l : List Int) (v : Int) : rowsOf (l ++ [v]) = rowsOf l ++ [rowTo v (rowsOf l)] := rowsFrom_snoc v l []

theorem rowsFrom_length : ∀ (l : List Int) (rows : List Rw), (rowsFrom rows l).length = rows.length + l.length
  | [], rows => rfl
  | x :: t, rows => by
      unfold rowsFrom
      rw [rowsFrom_length t]
      simp
      omega

theorem rowsOf_length (l : List Int) : (rowsOf l).length = l.length := by
  unfold rowsOf
  rw [rowsFrom_length]
  simp

theorem rowFrom_spec (v : Int) : ∀ (t : List Rw) (j : Nat) (r : Rw), r.1 ≤ (rowFrom v t j r).1 ∧ (∀ (k : Nat) (a : Rw), t[k]? = some a → a.2.1 < v → a.1 < (rowFrom v t j r).1 ∨ a.1 < r.1) ∧
    (rowFrom v t j r = r ∨ ∃ (k : Nat) (a : Rw), t[k]? = some a ∧ a.2.1 < v ∧ r.1 ≤ a.1 ∧ rowFrom v t j r = (a.1 + 1, r.2.1, ((j + k : Nat) : Int)))
  | [], j, r => ⟨Int.le_refl _, by intro k a h; simp at h, Or.inl rfl⟩
  | a :: t, j, r => by
      unfold rowFrom
      by_cases h : a.2.1 < v ∧ r.1 ≤ a.1
      · rw [if_pos h]
        obtain ⟨h1, h2, h3⟩ := rowFrom_spec v t (j + 1) (a.1 + 1, r.2.1, (j : Int))
        simp only at h1 h2 h3
        refine ⟨by omega, ?_, ?_⟩
        · intro k b hb hv
          match k, hb with
          | 0, hb =>
            simp at hb
            subst hb
            left
            omega
          | k + 1, hb =>
            rcases h2 k b (by simpa using hb) hv with q | q
            · exact Or.inl q
            · left
              omega
        · right
          rcases h3 with h3 | ⟨k, b, hb, hv, hr, h3⟩
          · exact ⟨0, a, rfl, h.1, h.2, by rw [h3]; simp⟩
          · exact ⟨k + 1, b, by simpa using hb, hv, by omega, by rw [h3]; simp; omega⟩
      · rw [if_neg h]
        obtain ⟨h1, h2, h3⟩ := rowFrom_spec v t (j + 1) r
        refine ⟨h1, ?_, ?_⟩
        · intro k b hb hv
          match k, hb with
          | 0, hb =>
            simp at hb
            subst hb
            right
            omega
          | k + 1, hb => exact h2 k b (by simpa using hb) hv
        · rcases h3 with h3 | ⟨k, b, hb, hv, hr, h3⟩
          · exact Or.inl h3
          · exact Or.inr ⟨k + 1, b, by simpa using hb, hv, hr, by rw [h3]; simp; omega⟩

/-- What is known of the row of the number at a place. -/
structure RowOk (l : List Int) (rows : List Rw) (i : Nat) (v : Int) (r : Rw) : Prop where
  fin : r.2.1 = v
  neg : v < 0 → r.1 = 0 ∧ r.2.2 = -1
  pos : 0 ≤ v → 1 ≤ r.1 ∧ ((r.2.2 = -1 ∧ r.1 = 1) ∨ ∃ (b : Nat) (q : Rw) (u : Int), r.2.2 = b ∧ b < i ∧ rows[b]? = some q ∧ l[b]? = some u ∧ q.1 + 1 = r.1 ∧ 0 ≤ u ∧ u < v)
  max : 0 ≤ v → ∀ (j : Nat) (q : Rw) (u : Int), j < i → rows[j]? = some q → l[j]? = some u → u < v → q.1 < r.1

def RowsOk (l : List Int) (rows : List Rw) : Prop := ∀ (i : Nat) (v : Int) (r : Rw), l[i]? = some v → rows[i]? = some r → RowOk l rows i v r

theorem rowsOf_ok : ∀ (n : Nat) (l : List Int), l.length = n → RowsOk l (rowsOf l)
  | 0, l, hl => by
      obtain rfl : l = [] := List.eq_nil_of_length_eq_zero hl
      intro i v r h
      simp at h
  | n + 1, l, hl => by
      obtain ⟨l0, v0, rfl⟩ : ∃ l0 v0, l = l0 ++ [v0] := ⟨l.dropLast, l.getLast (by intro h; subst h; simp at hl), (List.dropLast_concat_getLast _).symm⟩
      have hl0 : l0.length = n := by simpa using hl
      have ih := rowsOf_ok n l0 hl0
      have hlen := rowsOf_length l0
      rw [rowsOf_snoc]
      have up : ∀ (j : Nat) (q : Rw), j < l0.length → ((rowsOf l0 ++ [rowTo v0 (rowsOf l0)])[j]? = some q ↔ (rowsOf l0)[j]? = some q) := by
        intro j q hj
        rw [List.getElem?_append_left (by omega)]
      have up2 : ∀ (j : Nat) (u : Int), j < l0.length → ((l0 ++ [v0])[j]? = some u ↔ l0[j]? = some u) := by
        intro j u hj
        rw [List.getElem?_append_left hj]
      intro i v r hv hr
      by_cases hi : i < l0.length
      · have h := ih i v r ((up2 i v hi).1 hv) ((up i r hi).1 hr)
        refine ⟨h.fin, h.neg, fun h0 => ⟨(h.pos h0).1, ?_⟩, fun h0 j q u hj hq hu huv => h.max h0 j q u hj ((up j q (by omega)).1 hq) ((up2 j u (by omega)).1 hu) huv⟩
        rcases (h.pos h0).2 with q | ⟨b, q, u, q1, q2, q3, q4, q5⟩
        · exact Or.inl q
        · exact Or.inr ⟨b, q, u, q1, q2, (up b q (by omega)).2 q3, (up2 b u (by omega)).2 q4, q5⟩
      · have hi2 : i = l0.length := by
          have := (List.getElem?_eq_some_iff.1 hv).1
          simp at this
          omega
        subst hi2
        obtain rfl : v0 = v := by simpa using hv
        have hr2 : rowTo v0 (rowsOf l0) = r := by
          rw [List.getElem?_append_right (by omega), hlen] at hr
          simpa using hr
        subst hr2
        by_cases hneg : v0 < 0
        · have e : rowTo v0 (rowsOf l0) = (0, v0, -1) := by unfold rowTo; rw [if_pos hneg]
          rw [e]
          exact ⟨rfl, fun _ => ⟨rfl, rfl⟩, fun h => by omega, fun h => by omega⟩
        · have e : rowTo v0 (rowsOf l0) = rowFrom v0 (rowsOf l0) 0 (1, v0, -1) := by unfold rowTo; rw [if_neg hneg]
          obtain ⟨h1, h2, h3⟩ := rowFrom_spec v0 (rowsOf l0) 0 (1, v0, -1)
          simp only at h1 h2 h3
          rw [← e] at h1 h2 h3
          have hfin : (rowTo v0 (rowsOf l0)).2.1 = v0 := by
            rcases h3 with h3 | ⟨k, a, ha, hav, har, h3⟩
            · rw [h3]
            · rw [h3]
          refine ⟨hfin, fun h => by omega, fun _ => ⟨h1, ?_⟩, ?_⟩
          · rcases h3 with h3 | ⟨k, a, ha, hav, har, h3⟩
            · left
              rw [h3]
              exact ⟨rfl, rfl⟩
            · right
              have hk : k < l0.length := by
                have := (List.getElem?_eq_some_iff.1 ha).1
                omega
              have hu : l0[k]? = some l0[k] := List.getElem?_eq_getElem hk
              have ho := ih k l0[k] a hu ha
              refine ⟨k, a, l0[k], by rw [h3]; simp, hk, (up k a hk).2 ha, (up2 k _ hk).2 hu, by rw [h3], ?_, ?_⟩
              · by_cases h0 : l0[k] < 0
                · have := (ho.neg h0).1
                  omega
                · omega
              · rw [← ho.fin]
                exact hav
          · intro _ j q u hj hq hu huv
            have hq' := (up j q hj).1 hq
            have ho := ih j u q ((up2 j u hj).1 hu) hq'
            rcases h2 j q hq' (by rw [ho.fin]; exact huv) with z | z
            · exact z
            · omega

/-- The longest so far, and where it ends. -/
def bestFrom : List Rw → Nat → Int × Int → Int × Int
  | [], _, s => s
  | a :: t, j, s => bestFrom t (j + 1) (if s.1 < a.1 then (a.1, (j : Int)) else s)

def bestOf (rows : List Rw) : Int × Int := bestFrom rows 0 (0, -1)

theorem bestFrom_snoc (a : Rw) : ∀ (t : List Rw) (j : Nat) (s : Int × Int), bestFrom (t ++ [a]) j s = if (bestFrom t j s).1 < a.1 then (a.1, ((j + t.length : Nat) : Int)) else bestFrom t j s
  | [], j, s => rfl
  | b :: t, j, s => by
      show bestFrom (t ++ [a]) (j + 1) _ = _
      rw [bestFrom_snoc a t (j + 1)]
      show _ = if (bestFrom t (j + 1) _).1 < a.1 then _ else bestFrom t (j + 1) _
      rw [show j + 1 + t.length = j + (b :: t).length by simp; omega]

theorem bestFrom_spec : ∀ (t : List Rw) (j : Nat) (s : Int × Int), s.1 ≤ (bestFrom t j s).1 ∧ (∀ a ∈ t, a.1 ≤ (bestFrom t j s).1) ∧ (bestFrom t j s = s ∨ ∃ (k : Nat) (a : Rw), t[k]? = some a ∧ s.1 < a.1 ∧ bestFrom t j s = (a.1, ((j + k : Nat) : Int)))
  | [], j, s => ⟨Int.le_refl _, by simp, Or.inl rfl⟩
  | b :: t, j, s => by
      unfold bestFrom
      by_cases h : s.1 < b.1
      · rw [if_pos h]
        obtain ⟨h1, h2, h3⟩ := bestFrom_spec t (j + 1) (b.1, (j : Int))
        simp only at h1 h3
        refine ⟨by omega, ?_, ?_⟩
        · intro a ha
          rcases List.mem_cons.1 ha with rfl | ha
          · exact h1
          · exact h2 a ha
        · right
          rcases h3 with h3 | ⟨k, a, ha, hs, h3⟩
          · exact ⟨0, b, rfl, h, by rw [h3]; simp⟩
          · exact ⟨k + 1, a, by simpa using ha, by omega, by rw [h3]; simp; omega⟩
      · rw [if_neg h]
        obtain ⟨h1, h2, h3⟩ := bestFrom_spec t (j + 1) s
        refine ⟨h1, ?_, ?_⟩
        · intro a ha
          rcases List.mem_cons.1 ha with rfl | ha
          · omega
          · exact h2 a ha
        · rcases h3 with h3 | ⟨k, a, ha, hs, h3⟩
          · exact Or.inl h3
          · exact Or.inr ⟨k + 1, a, by simpa using ha, hs, by rw [h3]; simp; omega⟩

/-- The places of a row, from its end on. -/
def chain (rows : List Rw) : Nat → Int → List Nat
  | 0, _ => []
  | f + 1, i => if i < 0 then [] else i.toNat :: chain rows f (rows.getD i.toNat (0, 0, -1)).2.2

theorem chain_spec {l : List Int} {rows : List Rw} (hk : RowsOk l rows) (hlen : rows.length = l.length) : ∀ (f i : Nat) (v : Int) (r : Rw), i < f → l[i]? = some v → rows[i]? = some r → 0 ≤ v →
    ((chain rows f i).length : Int) = r.1 ∧ (∀ j ∈ chain rows f i, j ≤ i ∧ ∃ u, l[j]? = some u ∧ 0 ≤ u ∧ (j = i ∨ u < v)) ∧ (chain rows f i).Pairwise (fun a b => b < a ∧ ∀ x y, l[a]? = some x → l[b]? = some y → y < x)
  | 0, i, v, r, hf, _, _, _ => by omega
  | f + 1, i, v, r, hf, hv, hr, h0 => by
      have hg : rows.getD i (0, 0, -1) = r := by rw [List.getD, hr]; rfl
      have e : chain rows (f + 1) (i : Int) = i :: chain rows f r.2.2 := by
        show (if ((i : Int)) < 0 then [] else ((i : Int)).toNat :: chain rows f (rows.getD ((i : Int)).toNat (0, 0, -1)).2.2) = _
        rw [if_neg (by omega), show ((i : Int)).toNat = i by omega, hg]
      rw [e]
      have ho := hk i v r hv hr
      rcases (ho.pos h0).2 with ⟨hb, h1⟩ | ⟨b, q, u, hb, hbi, hq, hu, hq1, hu0, huv⟩
      · have e2 : chain rows f r.2.2 = [] := by
          rw [hb]
          cases f with
          | zero => rfl
          | succ f => rfl
        rw [e2]
        refine ⟨by simp; omega, ?_, by simp⟩
        intro j hj
        simp at hj
        subst hj
        exact ⟨Nat.le_refl _, v, hv, h0, Or.inl rfl⟩
      · rw [hb]
        obtain ⟨c1, c2, c3⟩ := chain_spec hk hlen f b u q (by omega) hu hq hu0
        refine ⟨by simp; omega, ?_, ?_⟩
        · intro j hj
          rcases List.mem_cons.1 hj with rfl | hj
          · exact ⟨Nat.le_refl _, v, hv, h0, Or.inl rfl⟩
          · obtain ⟨d1, z, d2, d3, d4⟩ := c2 j hj
            refine ⟨by omega, z, d2, d3, Or.inr ?_⟩
            rcases d4 with d4 | d4
            · subst d4
              rw [hu] at d2
              cases d2
              exact huv
            · omega
        · rw [List.pairwise_cons]
          refine ⟨?_, c3⟩
          intro j hj
          obtain ⟨d1, z, d2, d3, d4⟩ := c2 j hj
          refine ⟨by omega, ?_⟩
          intro x y hx hy
          rw [hv] at hx
          rw [d2] at hy
          cases hx
          cases hy
          rcases d4 with d4 | d4
          · subst d4
            rw [hu] at d2
            cases d2
            exact huv
          · omega

/-- No rise is longer than the longest row. -/
theorem rise_le {l : List Int} : ∀ (n : Nat) (l : List Int), l.length = n → ∀ s : List Int, s.Sublist l → s.Pairwise (· < ·) → (∀ v ∈ s, 0 ≤ v) → s ≠ [] → ∃ (i : Nat) (r : Rw), (rowsOf l)[i]? = some r ∧ l[i]? = s.getLast? ∧ (s.length : Int) ≤ r.1
  | 0, l, hl, s, hs, _, _, hne => by
      obtain rfl : l = [] := List.eq_nil_of_length_eq_zero hl
      rw [List.sublist_nil] at hs
      exact absurd hs hne
  | n + 1, l, hl, s, hs, hp, hz, hne => by
      obtain ⟨l0, v0, rfl⟩ : ∃ l0 v0, l = l0 ++ [v0] := ⟨l.dropLast, l.getLast (by intro h; subst h; simp at hl), (List.dropLast_concat_getLast _).symm⟩
      have hl0 : l0.length = n := by simpa using hl
      have hlen := rowsOf_length l0
      rw [rowsOf_snoc]
      obtain ⟨s1, s2, rfl, hs1, hs2⟩ := List.sublist_append_iff.1 hs
      have keep : ∀ (t : List Int), t.Sublist l0 → t.Pairwise (· < ·) → (∀ v ∈ t, 0 ≤ v) → t ≠ [] → ∃ (i : Nat) (r : Rw), (rowsOf l0 ++ [rowTo v0 (rowsOf l0)])[i]? = some r ∧ (l0 ++ [v0])[i]? = t.getLast? ∧ (t.length : Int) ≤ r.1 ∧ i < l0.length := by
        intro t h1 h2 h3 h4
        obtain ⟨i, r, q1, q2, q3⟩ := rise_le (l := l0) n l0 hl0 t h1 h2 h3 h4
        have hi : i < l0.length := by
          have := (List.getElem?_eq_some_iff.1 q1).1
          omega
        exact ⟨i, r, by rw [List.getElem?_append_left (by omega)]; exact q1, by rw [List.getElem?_append_left hi]; exact q2, q3, hi⟩
      match s2, hs2 with
      | [], _ =>
        rw [List.append_nil] at hp hz hne ⊢
        obtain ⟨i, r, q1, q2, q3, _⟩ := keep s1 hs1 hp hz hne
        exact ⟨i, r, q1, q2, q3⟩
      | x :: t, hs2 =>
        obtain ⟨rfl, rfl⟩ : x = v0 ∧ t = [] := by
          have h1 := hs2.length_le
          simp at h1
          subst h1
          have := hs2.subset (List.mem_cons_self)
          simp at this
          exact ⟨this, rfl⟩
        have hx0 : 0 ≤ x := hz x (by simp)
        have hrow := rowsOf_ok (n + 1) (l0 ++ [x]) hl l0.length x (rowTo x (rowsOf l0)) (by simp) (by rw [rowsOf_snoc, List.getElem?_append_right (by omega), hlen]; simp)
        rw [rowsOf_snoc] at hrow
        refine ⟨l0.length, rowTo x (rowsOf l0), by rw [List.getElem?_append_right (by omega), hlen]; simp, by simp, ?_⟩
        by_cases h1 : s1 = []
        · subst h1
          have := (hrow.pos hx0).1
          simpa using this
        · rw [List.pairwise_append] at hp
          obtain ⟨i, r, q1, q2, q3, q4⟩ := keep s1 hs1 hp.1 (fun v hv => hz v (by simp [hv])) h1
          have hlast : s1.getLast? = some (s1.getLast h1) := List.getLast?_eq_some_getLast h1
          rw [hlast] at q2
          have hlt := hp.2.2 (s1.getLast h1) (List.getLast_mem h1) x (by simp)
          have := hrow.max hx0 i r (s1.getLast h1) q4 q1 q2 hlt
          simp
          omega

end T
end Go.Proofs.Ytcaeeaiodbjacaa
