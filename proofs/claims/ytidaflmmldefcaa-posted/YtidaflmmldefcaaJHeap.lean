/-
  Heap, Mark: joined.
-/
import Derived.WalkKit
import Derived.WalkSpells
import Derived.WalkLawsBesides
import Derived.OwnWalk
import Derived.ArgAppend

/-
  Small facts on blocks of memory.
-/
namespace Go.Proofs.Ytidaflmmldefcaa
open Go.RowKit

/-- The block b is a row of cells, none of them frozen. -/
def Blk (w : World) (b : Nat) (cs : Array Value) (t : TypeId) : Prop := w.heap[b]? = some (.cells cs t (0, 0))

theorem Blk.lt {w : World} {b : Nat} {cs : Array Value} {t : TypeId} (h : Blk w b cs t) : b < w.heap.size := lt_of_block h
theorem Blk.cell {w : World} {b : Nat} {cs : Array Value} {t : TypeId} (h : Blk w b cs t) (i : Nat) : w.cell? ⟨b, i, none⟩ = cs[i]? := by
  unfold Blk at h; simp [World.cell?, h]
theorem Blk.free {w : World} {b : Nat} {cs : Array Value} {t : TypeId} (h : Blk w b cs t) (i : Nat) : w.frozen? ⟨b, i, none⟩ = false := by
  unfold Blk at h; simp [World.frozen?, h]
theorem Blk.of_block {w w' : World} {b : Nat} {cs : Array Value} {t : TypeId} (h : Blk w b cs t) (e : w'.heap[b]? = w.heap[b]?) : Blk w' b cs t := by
  unfold Blk at *; rw [e, h]
theorem Blk.alloc {w : World} {b : Nat} {cs : Array Value} {t : TypeId} (h : Blk w b cs t) (o : Obj) : Blk (w.alloc o) b cs t :=
  h.of_block (Below.heap_alloc w o b h.lt)
theorem Blk.new (w : World) (cs : Array Value) (t : TypeId) : Blk (w.alloc (.cells cs t)) w.heap.size cs t := by
  show (w.heap.push _)[w.heap.size]? = _
  simp
theorem Blk.below {B : Nat} {w w' : World} {b : Nat} {cs : Array Value} {t : TypeId} (h : Blk w b cs t) (hb : Below B w w') (hl : b < B) : Blk w' b cs t :=
  h.of_block (hb.block b hl)
theorem Blk.grown {w w' : World} {b : Nat} {cs : Array Value} {t : TypeId} {row : Option Nat} (h : Blk w b cs t) (hg : w.grownBy w' row) (hne : some b ≠ row) : Blk w' b cs t :=
  h.of_block (hg.block b h.lt hne)
theorem Blk.other {w : World} {b : Nat} {cs : Array Value} {t : TypeId} (h : Blk w b cs t) (a : Addr) (u : Value) (hne : b ≠ a.block) : Blk (w.setCell a u) b cs t :=
  h.of_block (Below.heap_setCell w a u b hne)
theorem Blk.set {w : World} {b : Nat} {cs : Array Value} {t : TypeId} (h : Blk w b cs t) (i : Nat) (u : Value) : Blk (w.setCell ⟨b, i, none⟩ u) b (cs.setIfInBounds i u) t := by
  have hlt := h.lt
  unfold Blk at h
  have h' : w.heap[b] = .cells cs t (0, 0) := by simpa [Array.getElem?_eq_getElem hlt] using h
  show (w.heap.modify b _)[b]? = _
  rw [Array.getElem?_modify, if_pos rfl, h]
  simp

/-- A row of another element type is not the one that is owned. -/
theorem Blk.ne_own {w : World} {b : Nat} {cs : Array Value} {t : TypeId} (h : Blk w b cs t) {base : Nat} {e : TypeId} {size : Nat} {v : Value} {n : Nat} {xs : List Value} (ho : w.ownsRow base e size v n xs) (hte : t ≠ e) : some b ≠ v.ownBlock := by
  rcases ho.2 with ⟨hv, _⟩ | ⟨g, cap, cur, hv, _, hh, _⟩
  · subst hv; simp [Value.ownBlock]
  · subst hv
    intro hb
    simp only [Value.ownBlock, Option.some.injEq] at hb
    subst hb
    unfold Blk at h
    rw [h] at hh
    simp at hh
    exact hte hh.2

/-- A block that is there already and is not owned: by number. -/
theorem own_ne_new {w : World} {base : Nat} {e : TypeId} {size : Nat} {v : Value} {n : Nat} {xs : List Value} (ho : w.ownsRow base e size v n xs) {b : Nat} (hb : w.heap.size ≤ b) : some b ≠ v.ownBlock := by
  intro h
  have := (ho.lt b h.symm).2
  omega

theorem own_below' {B : Nat} {w w' : World} {base : Nat} {e : TypeId} {size : Nat} {v : Value} {n : Nat} {xs : List Value} (ho : w.ownsRow base e size v n xs) (hb : Below B w w') (hB : w.heap.size ≤ B) : w'.ownsRow base e size v n xs := by
  obtain ⟨h1, h2⟩ := ho
  refine ⟨h1, ?_⟩
  rcases h2 with h2 | ⟨g, cap, cur, hv, hg, hh, r⟩
  · exact Or.inl h2
  · exact Or.inr ⟨g, cap, cur, hv, hg, by rw [hb.block g (Nat.lt_of_lt_of_le (lt_of_block hh) hB)]; exact hh, r⟩

/-- What append leaves, as 'Below'. -/
theorem below_app {B : Nat} {a w w' : World} {v : Value} {base : Nat} {e : TypeId} {size n : Nat} {xs : List Value} (h : Below B a w) (hg : w.grownBy w' v.ownBlock) (ho : w.ownsRow base e size v n xs) (hB : B ≤ base) (hs : B ≤ w.heap.size) : Below B a w' :=
  h.grown hg hs (fun k hk => Nat.le_trans hB (ho.lt k hk).1)

theorem new_one (w : World) (x : Value) (t : TypeId) : ∀ j u, [x][j]? = some u → (w.alloc (.cells #[x] t)).cell? ((⟨w.heap.size, 0, none⟩ : Addr).add j) = some u := by
  intro j u hj
  match j, hj with
  | 0, hj => simp at hj; subst hj; simp [Addr.add]
  | (j + 1), hj => simp at hj

theorem new_one1 (w : World) (o : Obj) (x : Value) (t : TypeId) : ∀ j u, [x][j]? = some u → ((w.alloc o).alloc (.cells #[x] t)).cell? ((⟨w.heap.size + 1, 0, none⟩ : Addr).add j) = some u := by
  have h := new_one (w.alloc o) x t
  rwa [show (w.alloc o).heap.size = w.heap.size + 1 by simp] at h

theorem new_two (w : World) (x y : Value) (t : TypeId) : ∀ j u, [x, y][j]? = some u → (w.alloc (.cells #[x, y] t)).cell? ((⟨w.heap.size, 0, none⟩ : Addr).add j) = some u := by
  intro j u hj
  match j, hj with
  | 0, hj => simp at hj; subst hj; simp [Addr.add]
  | 1, hj => simp at hj; subst hj; simp [Addr.add]
  | (j + 2), hj => simp at hj

theorem new_two1 (w : World) (o : Obj) (x y : Value) (t : TypeId) : ∀ j u, [x, y][j]? = some u → ((w.alloc o).alloc (.cells #[x, y] t)).cell? ((⟨w.heap.size + 1, 0, none⟩ : Addr).add j) = some u := by
  have h := new_two (w.alloc o) x y t
  rwa [show (w.alloc o).heap.size = w.heap.size + 1 by simp] at h

end Go.Proofs.Ytidaflmmldefcaa

/-
  Lists that are written over with one mark, and appended to.
-/
namespace Go.Proofs.Ytidaflmmldefcaa
open Go.RowKit
set_option linter.unusedVariables false

/-- n times these cells. -/
def rep (n : Nat) (ms : List Value) : List Value := (List.replicate n ms).flatten

theorem rep_zero (ms : List Value) : rep 0 ms = [] := rfl
theorem rep_succ (n : Nat) (ms : List Value) : rep (n + 1) ms = rep n ms ++ ms := by
  unfold rep
  rw [List.replicate_succ']
  simp
theorem rep_length (n : Nat) (ms : List Value) : (rep n ms).length = n * ms.length := by
  unfold rep
  simp
theorem rep_add (m k : Nat) (ms : List Value) : rep (m + k) ms = rep m ms ++ rep k ms := by
  unfold rep
  rw [← List.flatten_append, List.replicate_append_replicate]
theorem rep_take {m n : Nat} (h : m ≤ n) (ms : List Value) : (rep n ms).take (m * ms.length) = rep m ms := by
  obtain ⟨k, rfl⟩ := Nat.exists_eq_add_of_le h
  rw [rep_add, List.take_append_of_le_length (by rw [rep_length]; exact Nat.le_refl _), List.take_of_length_le (by rw [rep_length]; exact Nat.le_refl _)]
theorem rep_get {n k i : Nat} {ms : List Value} (hk : k < n) (hi : i < ms.length) : (rep n ms)[k * ms.length + i]? = ms[i]? := by
  obtain ⟨d, rfl⟩ := Nat.exists_eq_add_of_lt hk
  rw [show k + d + 1 = k + (1 + d) by omega, rep_add, List.getElem?_append_right (by rw [rep_length]; omega), rep_length, rep_add, show k * ms.length + i - k * ms.length = i by omega]
  have h1 : rep 1 ms = ms := by simp [rep]
  rw [h1, List.getElem?_append_left hi]

/-- A list of marks, somewhere: m elements, each with the cells ms. -/
def MarkAt (w : World) (t : TypeId) (ms : List Value) (v : Value) (m : Nat) : Prop :=
  ∃ ao cap, v = .slice ao m cap ∧ (m = 0 ∨ ∃ g cur, ao = some ⟨g, 0, none⟩ ∧ Blk w g cur t ∧ cur.toList.take (m * ms.length) = rep m ms)

theorem MarkAt.other {w w' : World} {t : TypeId} {ms : List Value} {v : Value} {m : Nat} (h : MarkAt w t ms v m) (hk : ∀ g, v.ownBlock = some g → g < w.heap.size → w'.heap[g]? = w.heap[g]?) : MarkAt w' t ms v m := by
  obtain ⟨ao, cap, rfl, h⟩ := h
  refine ⟨ao, cap, rfl, ?_⟩
  rcases h with h | ⟨g, cur, e, hb, hr⟩
  · exact Or.inl h
  · subst e
    exact Or.inr ⟨g, cur, rfl, hb.of_block (hk g rfl hb.lt), hr⟩

theorem MarkAt.lt {w : World} {t : TypeId} {ms : List Value} {ao : Option Addr} {m c : Nat} (h : MarkAt w t ms (.slice ao m c) m) (hm : m ≠ 0) : ∃ g cur, ao = some ⟨g, 0, none⟩ ∧ Blk w g cur t ∧ cur.toList.take (m * ms.length) = rep m ms := by
  obtain ⟨ao', cap, e, h⟩ := h
  simp only [Value.slice.injEq] at e
  obtain ⟨rfl, _, rfl⟩ := e
  exact h.resolve_left hm

/-- One's own row of marks. -/
theorem own_mark {w : World} {base n : Nat} {t : TypeId} {ms : List Value} {v : Value} (h : w.ownsRow base t ms.length v n (rep n ms)) : MarkAt w t ms v n := by
  rcases h.2 with ⟨hv, h0⟩ | ⟨g, cap, cur, hv, hb, hh, h1, h2, h3, h4⟩
  · subst hv
    subst h0
    exact ⟨none, 0, rfl, Or.inl rfl⟩
  · subst hv
    exact ⟨_, _, rfl, Or.inr ⟨g, cur, rfl, hh, h4⟩⟩

/-- The cells of a list of marks. -/
theorem mark_cell {w : World} {t : TypeId} {ms : List Value} {g m k i : Nat} {cur : Array Value} (hb : Blk w g cur t) (hr : cur.toList.take (m * ms.length) = rep m ms) (hk : k < m) (hi : i < ms.length) : w.cell? ⟨g, k * ms.length + i, none⟩ = ms[i]? := by
  rw [hb.cell, ← rep_get hk hi, ← hr, List.getElem?_take]
  have : k * ms.length + i < m * ms.length := by
    have : (k + 1) * ms.length ≤ m * ms.length := Nat.mul_le_mul_right _ hk
    rw [Nat.add_mul] at this
    omega
  rw [if_pos this]
  simp

theorem MarkAt.fits {w w' : World} {base g k cap m : Nat} {t : TypeId} {ms : List Value} {v : Value} (h : MarkAt w t ms v m) (hm : m ≤ k) (hg : w.grownBy w' (some g)) (ho : w'.ownsRow base t ms.length (.slice (some ⟨g, 0, none⟩) k cap) k (rep k ms)) : MarkAt w' t ms v m := by
  obtain ⟨ao, cp, rfl, h⟩ := h
  refine ⟨ao, cp, rfl, ?_⟩
  rcases h with h | ⟨g', cur, e, hb, hr⟩
  · exact Or.inl h
  · by_cases hgg : g' = g
    · subst hgg
      rcases ho.2 with ⟨hv, _⟩ | ⟨g2, cap2, cur2, hv, _, hh, _, _, _, h4⟩
      · simp at hv
      · simp only [Value.slice.injEq, Option.some.injEq, Addr.mk.injEq, and_true, true_and] at hv
        obtain ⟨rfl, rfl⟩ := hv
        refine Or.inr ⟨g', cur2, e, hh, ?_⟩
        rw [← rep_take hm, ← h4, List.take_take, Nat.min_eq_left (Nat.mul_le_mul_right _ hm)]
    · exact Or.inr ⟨g', cur, e, hb.grown hg (by intro h; exact hgg (Option.some.inj h)), hr⟩

/-- A mark joins one's own row of marks: what is owned then, where it lies, and that lists of this mark stay such. -/
theorem wpList_append_mark {P : Program} (w : World) {ops : Array Oper} {rest : List Oper} {o : Oper} {a : Act} {Q : Exit → Act → World → Prop} (hgd : o.guard = none) (s x : Operand) (t : TypeId)
    (ho : o.op = .call { callee := .builtin .append, args := #[s, x], argTypes := #[t, t] })
    (base : Nat) (e : TypeId) (i : TypeInfo) (z : Value) (bytes : Nat) (ms : List Value) (ht : P.underlying t = some (.slice e)) (hi : P.info? e = some i) (hz : i.zero = some z)
    (hsize : i.size = ms.length) (hby : i.bytes = bytes) (hzs : z.cells.size = ms.length) (hsz : 0 < ms.length)
    (ao : Option Addr) (n cap : Nat) (hs : a.eval s = .slice ao n cap) (hown : w.ownsRow base e ms.length (.slice ao n cap) n (rep n ms))
    (ad : Addr) (c : Nat) (hx : a.eval x = .slice (some ad) 1 c) (hnews : ∀ j u, ms[j]? = some u → w.cell? (ad.add j) = some u) (h1 : ∀ u ∈ ms, u.oneCell' = true)
    (h63 : n + 1 ≤ maxLen) (hbytes : (n + 1) * bytes ≤ 140737488355328) (hbase : base ≤ w.heap.size)
    (h : ∀ ao' cap' w', w'.ownsRow base e ms.length (.slice ao' (n + 1) cap') (n + 1) (rep (n + 1) ms) → w.grownBy w' (Value.ownBlock (.slice ao n cap)) →
      (Value.ownBlock (.slice ao' (n + 1) cap') = Value.ownBlock (.slice ao n cap) ∨ ∀ k, Value.ownBlock (.slice ao' (n + 1) cap') = some k → w.heap.size ≤ k) →
      (∀ v m, m ≤ n + 1 → MarkAt w e ms v m → MarkAt w' e ms v m) → wpList P ops Q rest (a.put o.dst (.slice ao' (n + 1) cap')) w') :
    wpList P ops Q (o :: rest) a w := by
  by_cases hroom : n + 1 ≤ cap
  · obtain ⟨g, rfl⟩ : ∃ g, ao = some ⟨g, 0, none⟩ := by
      rcases hown.2 with ⟨h, _⟩ | ⟨g, cp, cur, hv, _⟩
      · simp only [Value.slice.injEq] at h
        omega
      · simp only [Value.slice.injEq] at hv
        exact ⟨g, hv.1⟩
    refine wpList_append_fits w hgd s x t ho base e i ms.length ht hi hsize g n cap _ hs hown ad 1 c ms hx (by simp) hnews h1 hroom ?_
    intro w' ho' hg'
    rw [← rep_succ] at ho'
    exact h _ _ _ ho' hg' (Or.inl rfl) fun v m hm hv => hv.fits hm hg' ho'
  · refine wpList_append_grows w hgd s x t ho e i z ms.length bytes ht hi hz hsize hby hzs hsz ao n cap (rep n ms) hs ?_ (by rw [rep_length]) ?_ ad 1 c ms hx (by simp) hnews h1 (by omega) h63 hbytes ?_
    · intro hn
      rcases hown.2 with ⟨h, h0⟩ | ⟨g, cp, cur, hv, _⟩
      · simp only [Value.slice.injEq] at h
        exact ⟨h0, h.2.2⟩
      · simp only [Value.slice.injEq] at hv
        rw [hn] at hv
        cases hv.1
    · intro b hb jj u hu
      subst hb
      rcases hown.2 with ⟨h2, _⟩ | ⟨g, cp, cur, hv, _⟩
      · simp at h2
      · simp only [Value.slice.injEq] at hv
        rw [Option.some.inj hv.1]
        exact World.ownsRow.cells hown (by rw [hv.1]; rfl) jj u hu
    · intro v' w' ho' hg'
      rw [← rep_succ] at ho'
      obtain ⟨g', c', cur', hv', hb', hh', hrest⟩ : ∃ g cap cur, v' = .slice (some ⟨g, 0, none⟩) (n + 1) cap ∧ w.heap.size ≤ g ∧ w'.heap[g]? = some (.cells cur e (0, 0)) ∧ n + 1 ≤ cap ∧ cap ≤ maxLen ∧ cur.size = cap * ms.length ∧ cur.toList.take ((n + 1) * ms.length) = rep (n + 1) ms := by
        rcases ho'.2 with ⟨_, h0⟩ | h0
        · omega
        · exact h0
      subst hv'
      refine h _ _ _ ⟨ho'.1, Or.inr ⟨g', c', cur', rfl, by omega, hh', hrest⟩⟩ ⟨hg'.os, hg'.tape, hg'.output, hg'.size, fun k hk _ => hg'.block k hk (by simp)⟩ (Or.inr ?_) ?_
      · intro k hk
        simp only [Value.ownBlock, Option.some.injEq] at hk
        omega
      · intro v m _ hv
        exact hv.other fun g _ hg => hg'.block g hg (by simp)

/-- Every block of w outside S is as it was. -/
structure Kept (S : Nat → Prop) (w w' : World) : Prop where
  os : w'.os = w.os
  tape : w'.tape = w.tape
  output : w'.output = w.output
  size : w.heap.size ≤ w'.heap.size
  block : ∀ k, k < w.heap.size → ¬ S k → w'.heap[k]? = w.heap[k]?

theorem Kept.refl (S : Nat → Prop) (w : World) : Kept S w w := ⟨rfl, rfl, rfl, Nat.le_refl _, fun _ _ _ => rfl⟩

theorem Kept.trans {S S' : Nat → Prop} {a b c : World} (h : Kept S a b) (k : Kept S' b c) (hs : ∀ i, i < a.heap.size → S' i → S i) : Kept S a c :=
  ⟨k.os.trans h.os, k.tape.trans h.tape, k.output.trans h.output, Nat.le_trans h.size k.size, fun i hi hn => (k.block i (Nat.lt_of_lt_of_le hi h.size) (fun q => hn (hs i hi q))).trans (h.block i hi hn)⟩

theorem Kept.weaken {S S' : Nat → Prop} {w w' : World} (h : Kept S w w') (hs : ∀ k, S k → S' k) : Kept S' w w' := ⟨h.os, h.tape, h.output, h.size, fun k hk hn => h.block k hk fun q => hn (hs k q)⟩

theorem Kept.of_below {S : Nat → Prop} {w w' : World} (h : Below w.heap.size w w') : Kept S w w' := ⟨h.os, h.tape, h.output, h.size, fun k hk _ => h.block k hk⟩

theorem Kept.below {S : Nat → Prop} {w w' : World} {B : Nat} (h : Kept S w w') (hB : B ≤ w.heap.size) (hs : ∀ k, S k → B ≤ k) : Below B w w' :=
  ⟨h.os, h.tape, h.output, h.size, fun k hk => h.block k (by omega) (fun q => by have := hs k q; omega)⟩

theorem Kept.grown {S : Nat → Prop} {w w1 w' : World} {row : Option Nat} (h : Kept S w w1) (hg : w1.grownBy w' row) (hr : ∀ k, row = some k → S k ∨ w.heap.size ≤ k) : Kept S w w' :=
  ⟨hg.os.trans h.os, hg.tape.trans h.tape, hg.output.trans h.output, Nat.le_trans h.size hg.size, fun k hk hn => (hg.block k (Nat.lt_of_lt_of_le hk h.size) (fun e => by
    rcases hr k e.symm with q | q
    · exact hn q
    · omega)).trans (h.block k hk hn)⟩

theorem Kept.alloc {S : Nat → Prop} {w w1 : World} (h : Kept S w w1) (o : Obj) : Kept S w (w1.alloc o) :=
  h.grown (World.grownBy_alloc w1 o none) (by intro k hk; cases hk)

theorem Kept.setCell {S : Nat → Prop} {w w1 : World} (h : Kept S w w1) (a : Addr) (v : Value) (ha : S a.block ∨ w.heap.size ≤ a.block) : Kept S w (w1.setCell a v) := by
  refine ⟨h.os, h.tape, h.output, by simpa using h.size, fun k hk hn => ?_⟩
  refine (Below.heap_setCell w1 a v k ?_).trans (h.block k hk hn)
  rintro rfl
  rcases ha with q | q
  · exact hn q
  · omega

theorem own_block {w w' : World} {base : Nat} {e : TypeId} {size : Nat} {v : Value} {n : Nat} {xs : List Value} (ho : w.ownsRow base e size v n xs) (h : ∀ k, v.ownBlock = some k → w'.heap[k]? = w.heap[k]?) : w'.ownsRow base e size v n xs := by
  obtain ⟨h1, h2⟩ := ho
  refine ⟨h1, ?_⟩
  rcases h2 with h2 | ⟨g, cap, cur, hv, hg, hh, r⟩
  · exact Or.inl h2
  · exact Or.inr ⟨g, cap, cur, hv, hg, by rw [h g (by rw [hv]; rfl)]; exact hh, r⟩

/-- Two blocks of two types are two. -/
theorem Blk.ne {w : World} {a b : Nat} {c d : Array Value} {t u : TypeId} (ha : Blk w a c t) (hb : Blk w b d u) (h : t ≠ u) : a ≠ b := by
  rintro rfl
  unfold Blk at ha hb
  rw [ha] at hb
  simp at hb
  exact h hb.2

theorem row_cell {w : World} {base : Nat} {tn : TypeId} {ao : Option Addr} {n c : Nat} {E : List Value} (h : w.ownsRow base tn 1 (.slice ao n c) n E) {i : Nat} {u : Value} (hi : E[i]? = some u) : ∃ g, ao = some ⟨g, 0, none⟩ ∧ w.cell? ⟨g, i, none⟩ = some u := by
  rcases h.2 with ⟨hv, h0⟩ | ⟨g, cap, cur, hv, _⟩
  · have : E = [] := List.eq_nil_of_length_eq_zero (by have := h.1; omega)
    subst this
    simp at hi
  · simp only [Value.slice.injEq] at hv
    refine ⟨g, hv.1, ?_⟩
    have h1 := World.ownsRow.cells h (g := g) (by rw [hv.1]; rfl) i u hi
    rw [Addr.add_lit, Nat.zero_add] at h1
    exact h1


theorem own_pair {w : World} {base : Nat} {e : TypeId} {ao : Option Addr} {n c k : Nat} {xs : List Value} {a b : Value} (h : w.ownsRow base e 2 (.slice ao n c) n xs) (ha : xs[k * 2]? = some a) (hb : xs[k * 2 + 1]? = some b) : ∃ g, ao = some ⟨g, 0, none⟩ ∧ w.cell? ⟨g, k * 2, none⟩ = some a ∧ w.cell? ⟨g, k * 2 + 1, none⟩ = some b := by
  rcases h.2 with ⟨hv, h0⟩ | ⟨g, cap, cur, hv, _⟩
  · have : xs = [] := List.eq_nil_of_length_eq_zero (by have := h.1; omega)
    subst this
    simp at ha
  · simp only [Value.slice.injEq] at hv
    refine ⟨g, hv.1, ?_, ?_⟩
    · have h1 := World.ownsRow.cells h (g := g) (by rw [hv.1]; rfl) _ _ ha
      rw [Addr.add_lit, Nat.zero_add] at h1
      exact h1
    · have h1 := World.ownsRow.cells h (g := g) (by rw [hv.1]; rfl) _ _ hb
      rw [Addr.add_lit, Nat.zero_add] at h1
      exact h1

theorem own_cur {w : World} {base g : Nat} {e : TypeId} {n c size : Nat} {xs : List Value} (h : w.ownsRow base e size (.slice (some ⟨g, 0, none⟩) n c) n xs) : ∃ cur, Blk w g cur e := by
  rcases h.2 with ⟨hv, _⟩ | ⟨g', cp, cur, hv, _, hh, _⟩
  · simp at hv
  · simp only [Value.slice.injEq, Option.some.injEq, Addr.mk.injEq] at hv
    obtain ⟨⟨rfl, _⟩, _⟩ := hv
    exact ⟨cur, hh⟩

/-- An element of one's own row is written over. -/
theorem own_set2 {w : World} {base g n cap : Nat} {e : TypeId} {xs : List Value} (h : w.ownsRow base e 2 (.slice (some ⟨g, 0, none⟩) n cap) n xs) (k : Nat) (x y : Value) :
    ((w.setCell ⟨g, k * 2, none⟩ x).setCell ⟨g, k * 2 + 1, none⟩ y).ownsRow base e 2 (.slice (some ⟨g, 0, none⟩) n cap) n ((xs.set (k * 2) x).set (k * 2 + 1) y) := by
  obtain ⟨h1, h2⟩ := h
  refine ⟨by simpa using h1, ?_⟩
  rcases h2 with ⟨hv, _⟩ | ⟨g', cap', cur, hv, hb, hh, h3, h4, h5, h6⟩
  · simp at hv
  · simp only [Value.slice.injEq, Option.some.injEq, Addr.mk.injEq, and_true, true_and] at hv
    obtain ⟨rfl, rfl⟩ := hv
    have hB : Blk w g cur e := hh
    refine Or.inr ⟨g, cap, _, rfl, hb, (hB.set (k * 2) x).set (k * 2 + 1) y, h3, h4, by simpa using h5, ?_⟩
    rw [Array.toList_setIfInBounds, Array.toList_setIfInBounds, List.take_set, List.take_set, h6]

/-- The first q elements are this mark. -/
def MarkedTo (xs : List Value) (a b : Value) (q : Nat) : Prop := xs.take (q * 2) = rep q [a, b]

theorem MarkedTo.step {xs : List Value} {a b : Value} {q n : Nat} (h : MarkedTo xs a b q) (hx : xs.length = n * 2) (hq : q < n) : MarkedTo ((xs.set (q * 2) a).set (q * 2 + 1) b) a b (q + 1) := by
  unfold MarkedTo at *
  rw [rep_succ, ← h]
  apply List.ext_getElem?
  intro i
  rw [List.getElem?_take]
  by_cases h1 : i < (q + 1) * 2
  · rw [if_pos h1]
    by_cases h2 : i < q * 2
    · rw [List.getElem?_append_left (by simp; omega), List.getElem?_take, if_pos h2, List.getElem?_set_ne (by omega), List.getElem?_set_ne (by omega)]
    · rw [List.getElem?_append_right (by simp; omega)]
      have hl : (xs.take (q * 2)).length = q * 2 := by simp; omega
      rw [hl]
      rcases (show i = q * 2 ∨ i = q * 2 + 1 by omega) with e | e
      · subst e
        rw [List.getElem?_set_ne (by omega), List.getElem?_set_self (by omega)]
        simp
      · subst e
        rw [List.getElem?_set_self (by simp; omega)]
        simp
  · rw [if_neg h1, List.getElem?_eq_none (by simp; omega)]

theorem MarkedTo.all {xs : List Value} {a b : Value} {n : Nat} (h : MarkedTo xs a b n) (hx : xs.length = n * 2) : xs = rep n [a, b] := by
  unfold MarkedTo at h
  rw [← h, List.take_of_length_le (by omega)]
end Go.Proofs.Ytidaflmmldefcaa
