/-
  What a book's marking keeps, round by round.
-/
import Derived.Test.YtcaeeaiodbjacaaBookA
namespace Go.Proofs.Ytcaeeaiodbjacaa
open Go.RowKit
set_option linter.unusedVariables false

/-- Every block of w outside S is as it was. -/
structure Kept (S : Nat → Prop) (w w' : World) : Prop where
  os : w'.os = w.os
  tape : w'.tape = w.tape
  output : w'.output = w.output
  size : w.heap.size ≤ w'.heap.size
  block : ∀ k, k < w.heap.size → ¬ S k → w'.heap[k]? = w.heap[k]?

theorem Kept.refl (S : Nat → Prop) (w : World) : Kept S w w := ⟨rfl, rfl, rfl, Nat.le_refl _, fun _ _ _ => rfl⟩

theorem Kept.trans {S S' : Nat → Prop} {a b c : World} (h : Kept S a b) (k : Kept S' b c) (hs : ∀ i, i < a.heap.size → S' i → S i) : Kept S a c :=
  ⟨k.os.trans h.os, k.tape.trans h.tape, k.output.trans h.output, Nat.le_trans h.size k.size, fun i hi hn => (k.block i (Nat.lt_of_lt_of_le hi h.size) (fun q => hn (hs i hi q))).trans (h.block i hi hn)⟩

theorem Kept.weaken {S S' : Nat → Prop} {w w' : World} (h : Kept S w w') (hs : ∀ k, S k → S' k) : Kept S' w w' := ⟨h.os, h.tape, h.output, h.size, fun k hk hn => h.block k hk fun q => hn (hs k q)⟩

theorem Kept.of_below {S : Nat → Prop} {w w' : World} (h : Below w.heap.size w w') : Kept S w w' := ⟨h.os, h.tape, h.output, h.size, fun k hk _ => h.block k hk⟩

theorem Kept.below {S : Nat → Prop} {w w' : World} {B : Nat} (h : Kept S w w') (hB : B ≤ w.heap.size) (hs : ∀ k, S k → B ≤ k) : Below B w w' :=
  ⟨h.os, h.tape, h.output, h.size, fun k hk => h.block k (by omega) (fun q => by have := hs k q; omega)⟩

theorem Kept.grown {S : Nat → Prop} {w w1 w' : World} {row : Option Nat} (h : Kept S w w1) (hg : w1.grownBy w' row) (hr : ∀ k, row = some k → S k ∨ w.heap.size ≤ k) : Kept S w w' :=
  ⟨hg.os.trans h.os, hg.tape.trans h.tape, hg.output.trans h.output, Nat.le_trans h.size hg.size, fun k hk hn => (hg.block k (Nat.lt_of_lt_of_le hk h.size) (fun e => by
    rcases hr k e.symm with q | q
    · exact hn q
    · omega)).trans (h.block k hk hn)⟩

theorem Kept.alloc {S : Nat → Prop} {w w1 : World} (h : Kept S w w1) (o : Obj) : Kept S w (w1.alloc o) :=
  h.grown (World.grownBy_alloc w1 o none) (by intro k hk; cases hk)

theorem Kept.setCell {S : Nat → Prop} {w w1 : World} (h : Kept S w w1) (a : Addr) (v : Value) (ha : S a.block ∨ w.heap.size ≤ a.block) : Kept S w (w1.setCell a v) := by
  refine ⟨h.os, h.tape, h.output, by simpa using h.size, fun k hk hn => ?_⟩
  refine (Below.heap_setCell w1 a v k ?_).trans (h.block k hk hn)
  rintro rfl
  rcases ha with q | q
  · exact hn q
  · omega

/-- A store of what stands there already turns nothing. -/
theorem below_same {w u : World} {B b i : Nat} {cs : Array Value} {t : TypeId} {v : Value} (h : Below B w u) (hb : Blk u b cs t) (hv : cs[i]? = some v) : Below B w (u.setCell ⟨b, i, none⟩ v) := by
  refine ⟨h.os, h.tape, h.output, by simpa using h.size, fun k hk => ?_⟩
  refine Eq.trans ?_ (h.block k hk)
  by_cases hkb : k = b
  · subst hkb
    have h1 := hb.set i v
    have e : cs.setIfInBounds i v = cs := by
      apply Array.ext_getElem?
      intro j
      rw [Array.getElem?_setIfInBounds]
      split
      · rename_i hij
        subst hij
        split
        · exact hv.symm
        · rename_i hn
          rw [Array.getElem?_eq_none (by omega)]
      · rfl
    rw [e] at h1
    exact h1.trans hb.symm
  · exact Below.heap_setCell u _ v k hkb

/-- The round of the marking of one list: vj: the lists so far, E ahead of this one, Ej of this one; the list as it is now: aj, len, cj; its mark lies in M. -/
structure LSt (w wr : World) (base B M fi : Nat) (tn t : TypeId) (cs : Array Value) (ms : List Value) (lb nb : Option Nat) (E : List Value) (vj : Value) (Ej : List Value) (aj : Option Addr) (len cj : Nat) : Prop where
  bk : Blk wr B (cs.setIfInBounds fi vj) 39
  row : wr.ownsRow base tn 1 vj (E.length + Ej.length) (E ++ Ej)
  own : wr.ownsRow base t ms.length (.slice aj len cj) len (rep len ms)
  mark : Blk wr M ms.toArray t
  kept : Kept (fun k => k = B ∨ some k = lb ∨ some k = nb) w wr
  lblk : ∀ k, Value.ownBlock (.slice aj len cj) = some k → (some k = lb ∨ w.heap.size ≤ k) ∧ k ≠ M
  nblk : ∀ k, vj.ownBlock = some k → some k = nb ∨ w.heap.size ≤ k
  all : ∀ v ∈ Ej, ∃ m, m ≤ len ∧ MarkAt wr t ms v m ∧ ∀ k, v.ownBlock = some k → some k = lb ∨ w.heap.size ≤ k
  hM : w.heap.size ≤ M

theorem LSt.push {w wr w' : World} {base B M fi : Nat} {tn t : TypeId} {cs : Array Value} {ms : List Value} {lb nb : Option Nat} {E : List Value} {vj : Value} {Ej : List Value} {aj a' : Option Addr} {len cj c' : Nat} (h : LSt w wr base B M fi tn t cs ms lb nb E vj Ej aj len cj) (ht : t ≠ tn) (htB : (39 : TypeId) ≠ t)
    (ho : w'.ownsRow base t ms.length (.slice a' (len + 1) c') (len + 1) (rep (len + 1) ms)) (hg : (wr.alloc (.cells ms.toArray t)).grownBy w' (Value.ownBlock (.slice aj len cj)))
    (hb : Value.ownBlock (.slice a' (len + 1) c') = Value.ownBlock (.slice aj len cj) ∨ ∀ k, Value.ownBlock (.slice a' (len + 1) c') = some k → (wr.alloc (.cells ms.toArray t)).heap.size ≤ k)
    (hm : ∀ v m, m ≤ len + 1 → MarkAt (wr.alloc (.cells ms.toArray t)) t ms v m → MarkAt w' t ms v m) : LSt w w' base B M fi tn t cs ms lb nb E vj Ej a' (len + 1) c' := by
  have hml := h.mark.lt
  have hsz := h.kept.size
  have hal : ∀ {b : Nat} {c : Array Value} {u : TypeId}, Blk wr b c u → Blk (wr.alloc (.cells ms.toArray t)) b c u := fun q => q.alloc _
  refine ⟨?_, ?_, ho, ?_, ?_, ?_, h.nblk, ?_, h.hM⟩
  · exact (hal h.bk).grown hg ((hal h.bk).ne_own (h.own.alloc _) htB)
  · obtain ⟨r1, r2⟩ := h.row.alloc (.cells ms.toArray t)
    refine ⟨r1, ?_⟩
    rcases r2 with r2 | ⟨g, cap, cur, hv, hg1, hh, r⟩
    · exact Or.inl r2
    · have hB : Blk (wr.alloc (.cells ms.toArray t)) g cur tn := hh
      exact Or.inr ⟨g, cap, cur, hv, hg1, hB.grown hg (hB.ne_own (h.own.alloc _) ht.symm), r⟩
  · refine (hal h.mark).grown hg ?_
    intro e
    exact (h.lblk M e.symm).2 rfl
  · refine (h.kept.alloc _).grown hg fun k hk => ?_
    rcases (h.lblk k hk).1 with q | q
    · exact Or.inl (Or.inr (Or.inl q))
    · exact Or.inr q
  · intro k hk
    rcases hb with hb | hb
    · rw [hb] at hk
      exact h.lblk k hk
    · have h1 := hb k hk
      simp at h1
      exact ⟨Or.inr (by omega), by omega⟩
  · intro v hv
    obtain ⟨m, hm1, hm2, hm3⟩ := h.all v hv
    refine ⟨m, by omega, hm v m (by omega) (hm2.other fun g _ hg => ?_), hm3⟩
    exact Below.heap_alloc wr _ g hg

theorem LSt.join {w wr w7 : World} {base B M fi : Nat} {tn t : TypeId} {cs : Array Value} {ms : List Value} {lb nb : Option Nat} {E : List Value} {vj v7 : Value} {Ej : List Value} {aj : Option Addr} {len cj : Nat} (h : LSt w wr base B M fi tn t cs ms lb nb E vj Ej aj len cj) (ht : t ≠ tn) (htB : (39 : TypeId) ≠ t) (htN : (39 : TypeId) ≠ tn)
    (ho : w7.ownsRow base tn 1 v7 (E.length + Ej.length + 1) (E ++ Ej ++ [.slice aj len cj])) (hg : (wr.alloc (.cells #[.slice aj len cj] tn)).grownBy w7 vj.ownBlock)
    (hb : v7.ownBlock = vj.ownBlock ∨ v7.ownBlock = some (wr.alloc (.cells #[.slice aj len cj] tn)).heap.size) : LSt w (w7.setCell ⟨B, fi, none⟩ v7) base B M fi tn t cs ms lb nb E v7 (Ej ++ [.slice aj len cj]) aj len cj := by
  have hml := h.mark.lt
  have hsz := h.kept.size
  have hal : ∀ {b : Nat} {c : Array Value} {u : TypeId}, Blk wr b c u → Blk (wr.alloc (.cells #[.slice aj len cj] tn)) b c u := fun q => q.alloc _
  have hrow := h.row.alloc (.cells #[.slice aj len cj] tn)
  have hgo : ∀ {b : Nat} {c : Array Value} {u : TypeId}, Blk wr b c u → u ≠ tn → Blk w7 b c u := fun q hu => (hal q).grown hg ((hal q).ne_own hrow hu)
  have hbk7 : Blk w7 B (cs.setIfInBounds fi vj) 39 := hgo h.bk htN
  have hset : ∀ {b : Nat} {c : Array Value} {u : TypeId}, Blk w7 b c u → u ≠ 39 → Blk (w7.setCell ⟨B, fi, none⟩ v7) b c u := fun {b c u} q hu => q.other _ _ (by
    rintro rfl
    unfold Blk at q hbk7
    rw [q] at hbk7
    simp at hbk7
    exact hu hbk7.2)
  have hmk : ∀ v m, MarkAt wr t ms v m → MarkAt (w7.setCell ⟨B, fi, none⟩ v7) t ms v m := by
    rintro v m ⟨ao, cap, rfl, q⟩
    refine ⟨ao, cap, rfl, ?_⟩
    rcases q with q | ⟨g, cur, e, hb, hr⟩
    · exact Or.inl q
    · exact Or.inr ⟨g, cur, e, hset (hgo hb ht) htB.symm, hr⟩
  refine ⟨?_, ?_, ?_, ?_, ?_, h.lblk, ?_, ?_, h.hM⟩
  · have := hbk7.set fi v7
    rwa [Array.setIfInBounds_setIfInBounds] at this
  · obtain ⟨r1, r2⟩ := ho
    rw [show E.length + (Ej ++ [Value.slice aj len cj]).length = E.length + Ej.length + 1 by simp; omega, ← List.append_assoc]
    refine ⟨r1, ?_⟩
    rcases r2 with r2 | ⟨g, cap, cur, hv, hg1, hh, r⟩
    · exact Or.inl r2
    · have hB : Blk w7 g cur tn := hh
      exact Or.inr ⟨g, cap, cur, hv, hg1, hset hB htN.symm, r⟩
  · obtain ⟨r1, r2⟩ := h.own
    refine ⟨r1, ?_⟩
    rcases r2 with r2 | ⟨g, cap, cur, hv, hg1, hh, r⟩
    · exact Or.inl r2
    · have hB : Blk wr g cur t := hh
      exact Or.inr ⟨g, cap, cur, hv, hg1, hset (hgo hB ht) htB.symm, r⟩
  · exact hset (hgo h.mark ht) htB.symm
  · refine Kept.setCell ((h.kept.alloc _).grown hg fun k hk => ?_) _ _ (Or.inl (Or.inl rfl))
    rcases h.nblk k hk with q | q
    · exact Or.inl (Or.inr (Or.inr q))
    · exact Or.inr q
  · intro k hk
    rcases hb with hb | hb
    · rw [hb] at hk
      exact h.nblk k hk
    · rw [hb] at hk
      simp at hk
      right
      omega
  · intro v hv
    rcases List.mem_append.1 hv with hv | hv
    · obtain ⟨m, hm1, hm2, hm3⟩ := h.all v hv
      exact ⟨m, hm1, hmk v m hm2, hm3⟩
    · rw [List.mem_singleton] at hv
      subst hv
      exact ⟨len, Nat.le_refl _, hmk _ _ (own_mark h.own), fun k hk => (h.lblk k hk).1⟩

theorem own_block {w w' : World} {base : Nat} {e : TypeId} {size : Nat} {v : Value} {n : Nat} {xs : List Value} (ho : w.ownsRow base e size v n xs) (h : ∀ k, v.ownBlock = some k → w'.heap[k]? = w.heap[k]?) : w'.ownsRow base e size v n xs := by
  obtain ⟨h1, h2⟩ := ho
  refine ⟨h1, ?_⟩
  rcases h2 with h2 | ⟨g, cap, cur, hv, hg, hh, r⟩
  · exact Or.inl h2
  · exact Or.inr ⟨g, cap, cur, hv, hg, by rw [h g (by rw [hv]; rfl)]; exact hh, r⟩

/-- Two blocks of two types are two. -/
theorem Blk.ne {w : World} {a b : Nat} {c d : Array Value} {t u : TypeId} (ha : Blk w a c t) (hb : Blk w b d u) (h : t ≠ u) : a ≠ b := by
  rintro rfl
  unfold Blk at ha hb
  rw [ha] at hb
  simp at hb
  exact h hb.2

theorem Blk.keeps {w : World} {b : Nat} {cs : Array Value} {t : TypeId} (h : Blk w b cs t) {i : Nat} {v : Value} (hv : cs[i]? = some v) : cs.setIfInBounds i v = cs := by
  apply Array.ext_getElem?
  intro j
  rw [Array.getElem?_setIfInBounds]
  split
  · rename_i hij
    subst hij
    split
    · exact hv.symm
    · rename_i hn
      rw [Array.getElem?_eq_none (by omega)]
  · rfl

/-- The book's own fields are written. -/
theorem LSt.fin {w wr : World} {base B M fi : Nat} {tn t : TypeId} {cs : Array Value} {ms : List Value} {lb nb : Option Nat} {E : List Value} {vj : Value} {Ej : List Value} {aj : Option Addr} {len cj : Nat} (h : LSt w wr base B M fi tn t cs ms lb nb E vj Ej aj len cj) (htB : (39 : TypeId) ≠ t) (htN : (39 : TypeId) ≠ tn) (c d : Nat) (x y : Value) :
    Blk ((wr.setCell ⟨B, c, none⟩ x).setCell ⟨B, d, none⟩ y) B (((cs.setIfInBounds fi vj).setIfInBounds c x).setIfInBounds d y) 39 ∧
    ((wr.setCell ⟨B, c, none⟩ x).setCell ⟨B, d, none⟩ y).ownsRow base tn 1 vj (E.length + Ej.length) (E ++ Ej) ∧
    (∀ v ∈ Ej, ∃ m, m ≤ len ∧ MarkAt ((wr.setCell ⟨B, c, none⟩ x).setCell ⟨B, d, none⟩ y) t ms v m ∧ ∀ k, v.ownBlock = some k → some k = lb ∨ w.heap.size ≤ k) ∧
    Kept (fun k => k = B ∨ some k = lb ∨ some k = nb) w ((wr.setCell ⟨B, c, none⟩ x).setCell ⟨B, d, none⟩ y) ∧
    ∀ k, vj.ownBlock = some k → some k = nb ∨ w.heap.size ≤ k := by
  have hset : ∀ {b : Nat} {c' : Array Value} {u : TypeId}, Blk wr b c' u → u ≠ 39 → Blk ((wr.setCell ⟨B, c, none⟩ x).setCell ⟨B, d, none⟩ y) b c' u := fun {b c' u} q hu => (q.other _ _ (q.ne h.bk hu)).other _ _ (q.ne h.bk hu)
  refine ⟨(h.bk.set c x).set d y, ?_, ?_, (h.kept.setCell _ _ (Or.inl (Or.inl rfl))).setCell _ _ (Or.inl (Or.inl rfl)), h.nblk⟩
  · refine own_block h.row fun k hk => ?_
    rcases h.row.2 with ⟨hv, _⟩ | ⟨g, cap, cur, hv, _, hh, _⟩
    · rw [hv] at hk; cases hk
    · rw [hv] at hk
      simp only [Value.ownBlock, Option.some.injEq] at hk
      subst hk
      have hB : Blk wr g cur tn := hh
      exact (hset hB htN.symm).trans hB.symm
  · intro v hv
    obtain ⟨m, hm1, hm2, hm3⟩ := h.all v hv
    refine ⟨m, hm1, ?_, hm3⟩
    obtain ⟨ao, cap, rfl, q⟩ := hm2
    refine ⟨ao, cap, rfl, ?_⟩
    rcases q with q | ⟨g, cur, e, hb, hr⟩
    · exact Or.inl q
    · exact Or.inr ⟨g, cur, e, hset hb htB.symm, hr⟩

theorem LSt.mid {w wr w7 : World} {base B M fi : Nat} {tn t : TypeId} {cs : Array Value} {ms : List Value} {lb nb : Option Nat} {E : List Value} {vj x : Value} {Ej : List Value} {aj : Option Addr} {len cj : Nat} (h : LSt w wr base B M fi tn t cs ms lb nb E vj Ej aj len cj) (ht : t ≠ tn) (htN : (39 : TypeId) ≠ tn)
    (hg : (wr.alloc (.cells #[x] tn)).grownBy w7 vj.ownBlock) : Blk w7 B (cs.setIfInBounds fi vj) 39 ∧ Blk w7 M ms.toArray t :=
  ⟨(h.bk.alloc (.cells #[x] tn)).grown hg ((h.bk.alloc (.cells #[x] tn)).ne_own (h.row.alloc (.cells #[x] tn)) htN), (h.mark.alloc (.cells #[x] tn)).grown hg ((h.mark.alloc (.cells #[x] tn)).ne_own (h.row.alloc (.cells #[x] tn)) ht)⟩

end Go.Proofs.Ytcaeeaiodbjacaa
