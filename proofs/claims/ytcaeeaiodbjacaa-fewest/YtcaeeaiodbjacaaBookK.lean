/-
  The walks of keepNodes and ends.
-/
import Derived.Test.YtcaeeaiodbjacaaBookS
namespace Go.Proofs.Ytcaeeaiodbjacaa
open Go.RowKit
set_option linter.unusedVariables false

/-- The book between two lists: vn: the lists that are marked, E; the list that came last, l, at ao; what stood in it, at wo. -/
structure BkSt (w : World) (base B : Nat) (vn : Value) (E : List Value) (ao wo : Option Addr) (n cc wc : Nat) (l : List T.Nd) (o1 o2 o6 o7 o8 o9 : Value) : Prop where
  bk : Blk w B #[vn, o1, o2, .bool false, .slice ao n cc, .slice wo n wc, o6, o7, o8, o9] 39
  row : w.ownsRow base 22 1 vn E.length E
  own : w.ownsRow base 60 3 (.slice ao n cc) n (ndCells l)
  len : l.length = n
  was : NodeAt w wo l
  marks : ∀ i v, E[i]? = some v → ∃ m, m ≤ 400 ∧ MarkAt w 60 (mkNd (200 + ((i / 4 : Nat) : Int) * 4)) v m
  apart : ∀ v ∈ E, ∀ k, v.ownBlock = some k → some k ≠ Value.ownBlock (.slice ao n cc)

theorem MarkAt.kept {w w' : World} {B base n : Nat} {lb : Option Nat} {vn : Value} {E : List Value} {cs : Array Value} {ms : List Value} {v : Value} {m : Nat} (h : MarkAt w 60 ms v m) (hk : Kept (fun k => k = B ∨ some k = lb ∨ some k = vn.ownBlock) w w') (hB : Blk w B cs 39) (hr : w.ownsRow base 22 1 vn n E) (hn : ∀ k, v.ownBlock = some k → some k ≠ lb) : MarkAt w' 60 ms v m := by
  obtain ⟨ao, cap, rfl, h⟩ := h
  refine ⟨ao, cap, rfl, ?_⟩
  rcases h with h | ⟨g, cur, e, hb, q⟩
  · exact Or.inl h
  · subst e
    refine Or.inr ⟨g, cur, rfl, hb.of_block (hk.block g hb.lt ?_), q⟩
    rintro (h | h | h)
    · exact hb.ne hB (by decide) h
    · exact hn g rfl h
    · exact hb.ne_own hr (by decide) h

/-- The marking of the list that came last. -/
theorem markedB_any {w : World} {base B : Nat} {vn : Value} {E : List Value} {ao wo : Option Addr} {n cc wc : Nat} {l : List T.Nd} {o1 o2 o6 o7 o8 o9 : Value} (h : BkSt w base B vn E ao wo n cc wc l o1 o2 o6 o7 o8 o9) (hB : base ≤ B) (g4 : Nat) (hE : E.length = 4 * g4) (hg4 : g4 ≤ 2) (hn : n ≤ 16) (hs : base ≤ w.heap.size) :
    Calls Try.prog 34 #[.pointer (some ⟨B, 0, none⟩)] w fun e w' => e = .returned (.tuple #[]) ∧ ∃ vn' E', Blk w' B #[vn', o1, o2, .bool false, .slice none 0 0, .slice none 0 0, o6, o7, o8, o9] 39 ∧ w'.ownsRow base 22 1 vn' (E ++ E').length (E ++ E') ∧ E'.length = 4 ∧
      (∀ i v, (E ++ E')[i]? = some v → ∃ m, m ≤ 400 ∧ MarkAt w' 60 (mkNd (200 + ((i / 4 : Nat) : Int) * 4)) v m) ∧ (∀ v ∈ E', ∀ k, v.ownBlock = some k → some k = Value.ownBlock (.slice ao n cc) ∨ w.heap.size ≤ k) ∧
      Kept (fun k => k = B ∨ some k = Value.ownBlock (.slice ao n cc) ∨ some k = vn.ownBlock) w w' ∧ (∀ k, vn'.ownBlock = some k → some k = vn.ownBlock ∨ w.heap.size ≤ k) := by
  refine (marked_any base B vn E ao wo n cc wc l o1 o2 o6 o7 o8 o9 w hB h.bk h.row (by omega) h.len hn h.own h.was hs).mono ?_
  rintro e w' ⟨rfl, vn', E', r1, r2, r3, r4, r5, r6⟩
  refine ⟨rfl, vn', E', r1, by rw [List.length_append, r3]; exact r2, r3, ?_, fun v hv k hk => ?_, r5, r6⟩
  · intro i v hv
    by_cases hi : i < E.length
    · rw [List.getElem?_append_left hi] at hv
      obtain ⟨m, hm, hk⟩ := h.marks i v hv
      exact ⟨m, hm, hk.kept r5 h.bk h.row (h.apart v (List.mem_of_getElem? hv))⟩
    · rw [List.getElem?_append_right (by omega)] at hv
      have hlt := (List.getElem?_eq_some_iff.1 hv).1
      obtain ⟨m, hm, hk, _⟩ := r4 v (List.mem_of_getElem? hv)
      refine ⟨m, hm, ?_⟩
      rw [show ((i / 4 : Nat) : Int) * 4 = (E.length : Int) by omega]
      exact hk
  · obtain ⟨m, _, _, q⟩ := r4 v hv
    exact q k hk

/-- What keepNodes leaves. -/
def keepEnd (base B : Nat) (vn : Value) (E : List Value) (lb : Option Nat) (lo : Option Addr) (k lc : Nat) (ll : List T.Nd) (o1 o2 o6 o7 o8 o9 : Value) (w : World) (e : Ending) (w' : World) : Prop :=
  e = .returned (.tuple #[]) ∧ ∃ vn' E' wo wc, BkSt w' base B vn' (E ++ E') lo wo k lc wc ll o1 o2 o6 o7 o8 o9 ∧ E'.length = 4 ∧
    (∀ v ∈ E', ∀ q, v.ownBlock = some q → some q = lb ∨ w.heap.size ≤ q) ∧ Kept (fun q => q = B ∨ some q = lb ∨ some q = vn.ownBlock) w w' ∧ (∀ q, vn'.ownBlock = some q → some q = vn.ownBlock ∨ w.heap.size ≤ q)

theorem keepEnd_of {base B : Nat} {vn : Value} {E : List Value} {ao wo lo uo : Option Addr} {n cc wc k lc uc : Nat} {l ll : List T.Nd} {o1 o2 o6 o7 o8 o9 vn' : Value} {E' : List Value} {w w1 w2 : World} (h : BkSt w base B vn E ao wo n cc wc l o1 o2 o6 o7 o8 o9)
    (hc : w.ownsRow base 60 3 (.slice lo k lc) k (ndCells ll)) (hcl : ll.length = k) (hne : Value.ownBlock (.slice lo k lc) ≠ none → Value.ownBlock (.slice lo k lc) ≠ Value.ownBlock (.slice ao n cc)) (hEc : ∀ v ∈ E, ∀ q, v.ownBlock = some q → some q ≠ Value.ownBlock (.slice lo k lc))
    (hb1 : Below w.heap.size w w1) (hu : w1.ownsRow w.heap.size 60 3 (.slice uo k uc) k (ndCells ll))
    (r1 : Blk w2 B #[vn', o1, o2, .bool false, .slice none 0 0, .slice none 0 0, o6, o7, o8, o9] 39) (r2 : w2.ownsRow base 22 1 vn' (E ++ E').length (E ++ E')) (r3 : E'.length = 4)
    (r4 : ∀ i v, (E ++ E')[i]? = some v → ∃ m, m ≤ 400 ∧ MarkAt w2 60 (mkNd (200 + ((i / 4 : Nat) : Int) * 4)) v m) (r5 : ∀ v ∈ E', ∀ k, v.ownBlock = some k → some k = Value.ownBlock (.slice ao n cc) ∨ w1.heap.size ≤ k)
    (r6 : Kept (fun k => k = B ∨ some k = Value.ownBlock (.slice ao n cc) ∨ some k = vn.ownBlock) w1 w2) (r7 : ∀ k, vn'.ownBlock = some k → some k = vn.ownBlock ∨ w1.heap.size ≤ k) :
    keepEnd base B vn E (Value.ownBlock (.slice ao n cc)) lo k lc ll o1 o2 o6 o7 o8 o9 w (.returned (.tuple #[])) ((w2.setCell ⟨B, 4, none⟩ (.slice lo k lc)).setCell ⟨B, 5, none⟩ (.slice uo k uc)) := by
  have hsz := hb1.size
  have hBl := h.bk.lt
  have hset : ∀ {b : Nat} {c' : Array Value} {u : TypeId}, Blk w2 b c' u → u ≠ 39 → Blk ((w2.setCell ⟨B, 4, none⟩ (.slice lo k lc)).setCell ⟨B, 5, none⟩ (.slice uo k uc)) b c' u := fun {b c' u} q hu => (q.other _ _ (q.ne r1 hu)).other _ _ (q.ne r1 hu)
  have hk2 : Kept (fun k => k = B ∨ some k = Value.ownBlock (.slice ao n cc) ∨ some k = vn.ownBlock) w w2 := (Kept.of_below hb1).trans r6 (fun i _ q => q)
  refine ⟨rfl, vn', E', uo, uc, ⟨(r1.set 4 _).set 5 _, ?_, ?_, hcl, ?_, ?_, ?_⟩, r3, ?_, (hk2.setCell ⟨B, 4, none⟩ _ (Or.inl (Or.inl rfl))).setCell ⟨B, 5, none⟩ _ (Or.inl (Or.inl rfl)), ?_⟩
  · refine own_block r2 fun q hq => ?_
    rcases r2.2 with ⟨hv, _⟩ | ⟨g, cap, cur, hv, _, hh, _⟩
    · rw [hv] at hq; cases hq
    · rw [hv] at hq
      simp only [Value.ownBlock, Option.some.injEq] at hq
      subst hq
      have hB : Blk w2 g cur 22 := hh
      exact (hset hB (by decide)).trans hB.symm
  · refine own_block hc fun q hq => ?_
    rcases hc.2 with ⟨hv, _⟩ | ⟨g, cap, cur, hv, _, hh, _⟩
    · rw [hv] at hq; cases hq
    · rw [hv] at hq
      simp only [Value.ownBlock, Option.some.injEq] at hq
      subst hq
      have hB : Blk w g cur 60 := hh
      have h2 : Blk w2 g cur 60 := hB.of_block (hk2.block g hB.lt (by
        rintro (q | q | q)
        · exact hB.ne h.bk (by decide) q
        · rw [hv] at hne
          exact hne (by simp [Value.ownBlock]) q
        · exact hB.ne_own h.row (by decide) q))
      exact (hset h2 (by decide)).trans hB.symm
  · rcases hu.2 with ⟨hv, h0⟩ | ⟨g, cap, cur, hv, hg, hh, _⟩
    · left
      exact List.eq_nil_of_length_eq_zero (by omega)
    · simp only [Value.slice.injEq] at hv
      obtain ⟨rfl, _, rfl⟩ := hv
      have hB : Blk w1 g cur 60 := hh
      have h2 : Blk w2 g cur 60 := hB.of_block (r6.block g hB.lt (by
        rintro (q | q | q)
        · omega
        · have := (h.own.lt g q.symm).2
          omega
        · have := (h.row.lt g q.symm).2
          omega))
      have h3 := hset h2 (by decide)
      refine Or.inr ⟨g, 0, rfl, h3.lt, ?_⟩
      have hr : NodeRow w1 g 0 ll := own_nodeRow hu hcl
      intro i x hx
      obtain ⟨c0, c1, c2⟩ := hr i x hx
      rw [hB.cell] at c0 c1 c2
      refine ⟨?_, ?_, ?_⟩ <;> (rw [h3.cell]; assumption)
  · intro i v hv
    obtain ⟨m, hm, ao', cap, rfl, q⟩ := r4 i v hv
    refine ⟨m, hm, ao', cap, rfl, ?_⟩
    rcases q with q | ⟨g, cur, e, hb, hr⟩
    · exact Or.inl q
    · exact Or.inr ⟨g, cur, e, hset hb (by decide), hr⟩
  · intro v hv q hq
    rcases List.mem_append.1 hv with hv | hv
    · exact hEc v hv q hq
    · rcases r5 v hv q hq with e | e
      · intro hh
        exact hne (by rw [← hh]; simp) (by rw [← hh]; exact e)
      · intro hh
        have := (hc.lt q hh.symm).2
        omega
  · intro v hv q hq
    rcases r5 v hv q hq with e | e
    · exact Or.inl e
    · exact Or.inr (by omega)
  · intro q hq
    rcases r7 q hq with e | e
    · exact Or.inl e
    · exact Or.inr (by omega)

end Go.Proofs.Ytcaeeaiodbjacaa
