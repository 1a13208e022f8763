/-
  The machine in memory.
-/
import Derived.Test.YtfggaacijcggeaaHeap
import Derived.Test.YtfggaacijcggeaaMach
import Derived.Test.YtfggaacijcggeaaProg
namespace Go.Proofs.Ytfggaacijcggeaa
open Go.RowKit
set_option linter.unusedVariables false

def u16s (l : List Int) : List Value := l.map (Value.int .u16)

/-- The cells of a machine: the pile's eight, its height, the eight cells, and so on. -/
def mtail (sv dv : Value) (M : H.Mach) : List Value :=
  [.string M.text, .int .i64 M.chars, sv, dv, .int .i64 M.next, .int .i64 M.steps, .int .i64 M.draws, .bool M.ended, .int .u8 M.fault]
def mcells (pile : List Int) (h : Nat) (sv dv : Value) (M : H.Mach) : List Value :=
  u16s pile ++ (.int .i64 (h : Int) :: (u16s M.cells ++ mtail sv dv M))

def showCells (l : List (Int × ByteArray)) : List Value := l.flatMap fun x => [.int .u16 x.1, .string x.2]
def sendCells (l : List (Int × Int)) : List Value := l.flatMap fun x => [.int .u8 x.1, .int .u16 x.2]

/-- The machine M lies in block b; its lists are rows of the call's own. -/
structure MB (w : World) (base b : Nat) (pile : List Int) (sv dv : Value) (M : H.Mach) : Prop where
  hb : base ≤ b
  hp : pile.length = 8
  hst : M.st.length ≤ 8
  htk : pile.take M.st.length = M.st
  hc : M.cells.length = 8
  blk : Blk w b (mcells pile M.st.length sv dv M).toArray 75
  shows : w.ownsRow base 62 2 sv M.shows.length (showCells M.shows)
  sends : w.ownsRow base 85 2 dv M.sends.length (sendCells M.sends)

/-- Nothing else has turned: what lies below base, and every row that is no machine's, no show's and no send's. -/
structure Fr (base : Nat) (w w' : World) : Prop where
  os : w'.os = w.os
  tape : w'.tape = w.tape
  output : w'.output = w.output
  size : w.heap.size ≤ w'.heap.size
  low : ∀ k, k < base → w'.heap[k]? = w.heap[k]?
  row : ∀ k cs t, Blk w k cs t → t ≠ 75 → t ≠ 62 → t ≠ 85 → Blk w' k cs t

theorem Fr.refl (base : Nat) (w : World) : Fr base w w := ⟨rfl, rfl, rfl, Nat.le_refl _, fun _ _ => rfl, fun _ _ _ h _ _ _ => h⟩
theorem Fr.trans {base : Nat} {a b c : World} (h : Fr base a b) (k : Fr base b c) : Fr base a c :=
  ⟨k.os.trans h.os, k.tape.trans h.tape, k.output.trans h.output, Nat.le_trans h.size k.size, fun i hi => (k.low i hi).trans (h.low i hi), fun i cs t hb h1 h2 h3 => k.row i cs t (h.row i cs t hb h1 h2 h3) h1 h2 h3⟩
theorem Fr.drewN {base : Nat} {a w : World} (h : Fr base a w) (n : Nat) : Fr base a (w.drewN n) := ⟨h.os, h.tape, h.output, h.size, h.low, h.row⟩
theorem Fr.drew {base : Nat} {a w : World} (h : Fr base a w) : Fr base a w.drew := ⟨h.os, h.tape, h.output, h.size, h.low, h.row⟩
theorem Fr.alloc {base : Nat} {a w : World} (h : Fr base a w) (hb : base ≤ w.heap.size) (o : Obj) : Fr base a (w.alloc o) :=
  h.trans ⟨rfl, rfl, rfl, by simp, fun k hk => Below.heap_alloc _ _ _ (by omega), fun k cs t hk _ _ _ => hk.alloc o⟩
theorem Fr.setCell {base : Nat} {a w : World} (h : Fr base a w) {p : Addr} {cs : Array Value} {t : TypeId} (hk : Blk w p.block cs t) (hp : base ≤ p.block) (ht : t = 75 ∨ t = 62 ∨ t = 85) (u : Value) : Fr base a (w.setCell p u) :=
  h.trans ⟨rfl, rfl, rfl, by simp [World.setCell], fun k hl => Below.heap_setCell _ _ _ _ (by omega), fun k cs' t' hb h1 h2 h3 => hb.other p u (by
    intro e
    subst e
    unfold Blk at hb hk
    rw [hb] at hk
    simp at hk
    have e2 := hk.2
    rcases ht with h | h | h
    · exact h1 (e2.trans h)
    · exact h2 (e2.trans h)
    · exact h3 (e2.trans h))⟩
theorem Fr.below {base : Nat} {w w' : World} (h : Fr base w w') : Below base w w' := ⟨h.os, h.tape, h.output, h.size, h.low⟩
/-- A callee that lets all old memory be. -/
theorem Fr.of_below {base : Nat} {a w w' : World} (h : Fr base a w) (hb : Below w.heap.size w w') (hs : base ≤ w.heap.size) : Fr base a w' :=
  h.trans ⟨hb.os, hb.tape, hb.output, hb.size, fun k hk => hb.block k (by omega), fun k cs t hk _ _ _ => hk.below hb hk.lt⟩

section
variable {w : World} {base b : Nat} {pile : List Int} {sv dv : Value} {M : H.Mach}

theorem mcells_length (hp : pile.length = 8) (hc : M.cells.length = 8) (h : Nat) : (mcells pile h sv dv M).length = 26 := by
  simp [mcells, u16s, mtail, hp, hc]

theorem mcells_hi (hp : pile.length = 8) (h i : Nat) : (mcells pile h sv dv M)[8 + (i + 1)]? = (u16s M.cells ++ mtail sv dv M)[i]? := by
  unfold mcells
  rw [List.getElem?_append_right (by simp [u16s, hp])]
  simp [u16s, hp]

theorem mcells_tail (hp : pile.length = 8) (hc : M.cells.length = 8) (h i : Nat) : (mcells pile h sv dv M)[17 + i]? = (mtail sv dv M)[i]? := by
  rw [show 17 + i = 8 + ((8 + i) + 1) by omega, mcells_hi hp, List.getElem?_append_right (by simp [u16s, hc])]
  simp [u16s, hc]

theorem MB.free (h : MB w base b pile sv dv M) (i : Nat) : w.frozen? ⟨b, i, none⟩ = false := h.blk.free i
theorem MB.at (h : MB w base b pile sv dv M) (i : Nat) : w.cell? ⟨b, i, none⟩ = (mcells pile M.st.length sv dv M)[i]? := by
  rw [h.blk.cell i]; simp
theorem MB.c8 (h : MB w base b pile sv dv M) : w.cell? ⟨b, 8, none⟩ = some (.int .i64 (M.st.length : Int)) := by
  rw [h.at]; unfold mcells; rw [List.getElem?_append_right (by simp [u16s, h.hp])]; simp [u16s, h.hp]
theorem MB.cpile (h : MB w base b pile sv dv M) (i : Nat) (hi : i < 8) : w.cell? ⟨b, i, none⟩ = some (.int .u16 (pile.getD i 0)) := by
  have hp := h.hp
  rw [h.at]; unfold mcells; rw [List.getElem?_append_left (by simp [u16s, hp, hi])]
  simp [u16s, List.getD, List.getElem?_eq_getElem (show i < pile.length by omega)]
theorem MB.ccell (h : MB w base b pile sv dv M) (i : Nat) (hi : i < 8) : w.cell? ⟨b, 9 + i, none⟩ = some (.int .u16 (M.cells.getD i 0)) := by
  have hc := h.hc
  rw [h.at, show 9 + i = 8 + (i + 1) by omega, mcells_hi h.hp, List.getElem?_append_left (by simp [u16s, hc, hi])]
  simp [u16s, List.getD, List.getElem?_eq_getElem (show i < M.cells.length by omega)]
theorem MB.c17 (h : MB w base b pile sv dv M) : w.cell? ⟨b, 17, none⟩ = some (.string M.text) := by rw [h.at]; exact mcells_tail h.hp h.hc _ 0
theorem MB.c18 (h : MB w base b pile sv dv M) : w.cell? ⟨b, 18, none⟩ = some (.int .i64 (M.chars : Int)) := by rw [h.at]; exact mcells_tail h.hp h.hc _ 1
theorem MB.c19 (h : MB w base b pile sv dv M) : w.cell? ⟨b, 19, none⟩ = some sv := by rw [h.at]; exact mcells_tail h.hp h.hc _ 2
theorem MB.c20 (h : MB w base b pile sv dv M) : w.cell? ⟨b, 20, none⟩ = some dv := by rw [h.at]; exact mcells_tail h.hp h.hc _ 3
theorem MB.c21 (h : MB w base b pile sv dv M) : w.cell? ⟨b, 21, none⟩ = some (.int .i64 M.next) := by rw [h.at]; exact mcells_tail h.hp h.hc _ 4
theorem MB.c22 (h : MB w base b pile sv dv M) : w.cell? ⟨b, 22, none⟩ = some (.int .i64 (M.steps : Int)) := by rw [h.at]; exact mcells_tail h.hp h.hc _ 5
theorem MB.c23 (h : MB w base b pile sv dv M) : w.cell? ⟨b, 23, none⟩ = some (.int .i64 (M.draws : Int)) := by rw [h.at]; exact mcells_tail h.hp h.hc _ 6
theorem MB.c24 (h : MB w base b pile sv dv M) : w.cell? ⟨b, 24, none⟩ = some (.bool M.ended) := by rw [h.at]; exact mcells_tail h.hp h.hc _ 7
theorem MB.c25 (h : MB w base b pile sv dv M) : w.cell? ⟨b, 25, none⟩ = some (.int .u8 M.fault) := by rw [h.at]; exact mcells_tail h.hp h.hc _ 8

theorem MB.fr_set (h : MB w base b pile sv dv M) {a : World} (hf : Fr base a w) (i : Nat) (u : Value) : Fr base a (w.setCell ⟨b, i, none⟩ u) :=
  hf.setCell (p := ⟨b, i, none⟩) h.blk h.hb (.inl rfl) u

theorem MB.keep_own {e : Nat} (h : MB w base b pile sv dv M) (he : (75 : Nat) ≠ e) {v : Value} {n : Nat} {xs : List Value} (ho : w.ownsRow base e 2 v n xs) (i : Nat) (u : Value) : (w.setCell ⟨b, i, none⟩ u).ownsRow base e 2 v n xs :=
  ownsRow_setCell_other ho (fun e' => h.blk.ne_own ho he e'.symm) u

theorem blk_list {w : World} {b t : Nat} {l l' : List Value} (i : Nat) (u : Value) (h : Blk w b l.toArray t) (he : l.set i u = l') : Blk (w.setCell ⟨b, i, none⟩ u) b l'.toArray t := by
  have := h.set i u
  rw [List.setIfInBounds_toArray, he] at this
  exact this

theorem mcells_set_hi (hp : pile.length = 8) (h i : Nat) (u : Value) : (mcells pile h sv dv M).set (8 + (i + 1)) u = u16s pile ++ (.int .i64 (h : Int) :: (u16s M.cells ++ mtail sv dv M).set i u) := by
  unfold mcells
  rw [List.set_append_right _ _ (by simp [u16s, hp])]
  simp [u16s, hp]

theorem mcells_set_tail (hp : pile.length = 8) (hc : M.cells.length = 8) (h i : Nat) (u : Value) : (mcells pile h sv dv M).set (17 + i) u = u16s pile ++ (.int .i64 (h : Int) :: (u16s M.cells ++ (mtail sv dv M).set i u)) := by
  rw [show 17 + i = 8 + ((8 + i) + 1) by omega, mcells_set_hi hp, List.set_append_right _ _ (by simp [u16s, hc])]
  simp [u16s, hc]

/-- A field behind the cells is written; what is not the machine's list stays. -/
theorem MB.set_tail (h : MB w base b pile sv dv M) (i : Nat) (u : Value) (M' : H.Mach) (ht : (mtail sv dv M).set i u = mtail sv dv M') (hst : M'.st = M.st) (hcl : M'.cells = M.cells) (hsh : M'.shows = M.shows) (hse : M'.sends = M.sends) :
    MB (w.setCell ⟨b, 17 + i, none⟩ u) base b pile sv dv M' :=
  ⟨h.hb, h.hp, by rw [hst]; exact h.hst, by rw [hst]; exact h.htk, by rw [hcl]; exact h.hc,
   blk_list (17 + i) u h.blk (by rw [mcells_set_tail h.hp h.hc, ht, hst]; unfold mcells; rw [hcl]),
   by rw [hsh]; exact h.keep_own (by decide) h.shows _ _, by rw [hse]; exact h.keep_own (by decide) h.sends _ _⟩

theorem MB.set_text (h : MB w base b pile sv dv M) (s : ByteArray) : MB (w.setCell ⟨b, 17, none⟩ (.string s)) base b pile sv dv { M with text := s } := h.set_tail 0 _ _ rfl rfl rfl rfl rfl
theorem MB.set_chars (h : MB w base b pile sv dv M) (n : Nat) : MB (w.setCell ⟨b, 18, none⟩ (.int .i64 (n : Int))) base b pile sv dv { M with chars := n } := h.set_tail 1 _ _ rfl rfl rfl rfl rfl
theorem MB.set_next (h : MB w base b pile sv dv M) (n : Int) : MB (w.setCell ⟨b, 21, none⟩ (.int .i64 n)) base b pile sv dv { M with next := n } := h.set_tail 4 _ _ rfl rfl rfl rfl rfl
theorem MB.set_steps (h : MB w base b pile sv dv M) (n : Nat) : MB (w.setCell ⟨b, 22, none⟩ (.int .i64 (n : Int))) base b pile sv dv { M with steps := n } := h.set_tail 5 _ _ rfl rfl rfl rfl rfl
theorem MB.set_draws (h : MB w base b pile sv dv M) (n : Nat) : MB (w.setCell ⟨b, 23, none⟩ (.int .i64 (n : Int))) base b pile sv dv { M with draws := n } := h.set_tail 6 _ _ rfl rfl rfl rfl rfl
theorem MB.set_ended (h : MB w base b pile sv dv M) (x : Bool) : MB (w.setCell ⟨b, 24, none⟩ (.bool x)) base b pile sv dv { M with ended := x } := h.set_tail 7 _ _ rfl rfl rfl rfl rfl
theorem MB.set_fault (h : MB w base b pile sv dv M) (n : Int) : MB (w.setCell ⟨b, 25, none⟩ (.int .u8 n)) base b pile sv dv { M with fault := n } := h.set_tail 8 _ _ rfl rfl rfl rfl rfl

/-- A cell is written. -/
theorem MB.set_cell (h : MB w base b pile sv dv M) (i : Nat) (hi : i < 8) (v : Int) : MB (w.setCell ⟨b, 9 + i, none⟩ (.int .u16 v)) base b pile sv dv { M with cells := M.cells.set i v } := by
  have hc := h.hc
  refine ⟨h.hb, h.hp, h.hst, h.htk, by simp [hc], ?_, h.keep_own (by decide) h.shows _ _, h.keep_own (by decide) h.sends _ _⟩
  refine blk_list (9 + i) _ h.blk ?_
  rw [show 9 + i = 8 + (i + 1) by omega, mcells_set_hi h.hp, List.set_append_left _ _ (by simp [u16s, hc, hi])]
  simp [mcells, u16s, List.map_set, mtail]

/-- The height is written: fewer numbers on the pile. -/
theorem MB.set_pop (h : MB w base b pile sv dv M) (hn : M.st.length ≠ 0) : MB (w.setCell ⟨b, 8, none⟩ (.int .i64 ((M.st.length : Int) - 1))) base b pile sv dv { M with st := M.st.dropLast } := by
  have hst := h.hst
  refine ⟨h.hb, h.hp, by simp; omega, ?_, h.hc, ?_, h.keep_own (by decide) h.shows _ _, h.keep_own (by decide) h.sends _ _⟩
  · simp only [List.length_dropLast]
    rw [List.dropLast_eq_take, ← h.htk]
    simp only [List.take_take, List.length_take, h.hp]
    congr 1
    omega
  · refine blk_list 8 _ h.blk ?_
    unfold mcells
    rw [List.set_append_right _ _ (by simp [u16s, h.hp])]
    simp only [u16s, List.length_map, h.hp, Nat.sub_self, List.set_cons_zero, List.length_dropLast]
    rw [show ((M.st.length - 1 : Nat) : Int) = (M.st.length : Int) - 1 by omega]
    rfl

/-- A number is laid onto the pile: two writes. -/
theorem MB.set_push (h : MB w base b pile sv dv M) (hl : M.st.length < 8) (v : Int) :
    MB ((w.setCell ⟨b, M.st.length, none⟩ (.int .u16 v)).setCell ⟨b, 8, none⟩ (.int .i64 ((M.st.length : Int) + 1))) base b (pile.set M.st.length v) sv dv { M with st := M.st ++ [v] } := by
  have hp := h.hp
  have b1 : Blk (w.setCell ⟨b, M.st.length, none⟩ (.int .u16 v)) b (mcells (pile.set M.st.length v) M.st.length sv dv M).toArray 75 := by
    refine blk_list _ _ h.blk ?_
    unfold mcells
    rw [List.set_append_left _ _ (by simp [u16s, hp, hl])]
    simp [u16s, List.map_set]
  have o1 := h.keep_own (by decide) h.shows M.st.length (.int .u16 v)
  have o2 := h.keep_own (by decide) h.sends M.st.length (.int .u16 v)
  refine ⟨h.hb, by simp [hp], by simp; omega, ?_, h.hc, ?_, ownsRow_setCell_other o1 (fun e => b1.ne_own o1 (by decide) e.symm) _, ownsRow_setCell_other o2 (fun e => b1.ne_own o2 (by decide) e.symm) _⟩
  · simp only [List.length_append, List.length_cons, List.length_nil]
    have ht := h.htk
    rw [List.take_succ_eq_append_getElem (by simp; omega)]
    simp
    rw [List.take_set_of_le (by omega)]
    exact ht
  · refine blk_list 8 _ b1 ?_
    unfold mcells
    rw [List.set_append_right _ _ (by simp [u16s, hp])]
    simp only [u16s, List.length_map, List.length_set, hp, Nat.sub_self, List.set_cons_zero, List.length_append, List.length_cons, List.length_nil]
    rfl

theorem MB.drewN (h : MB w base b pile sv dv M) (n : Nat) : MB (w.drewN n) base b pile sv dv M := ⟨h.hb, h.hp, h.hst, h.htk, h.hc, h.blk, h.shows, h.sends⟩
theorem MB.drew (h : MB w base b pile sv dv M) : MB w.drew base b pile sv dv M := ⟨h.hb, h.hp, h.hst, h.htk, h.hc, h.blk, h.shows, h.sends⟩
theorem MB.alloc (h : MB w base b pile sv dv M) (o : Obj) : MB (w.alloc o) base b pile sv dv M := ⟨h.hb, h.hp, h.hst, h.htk, h.hc, h.blk.alloc o, h.shows.alloc o, h.sends.alloc o⟩
theorem MB.of_below (h : MB w base b pile sv dv M) {w' : World} (hb : Below w.heap.size w w') : MB w' base b pile sv dv M :=
  ⟨h.hb, h.hp, h.hst, h.htk, h.hc, h.blk.below hb h.blk.lt, own_below' h.shows hb (Nat.le_refl _), own_below' h.sends hb (Nat.le_refl _)⟩
/-- What lies on top. -/
theorem MB.top (h : MB w base b pile sv dv M) (hn : M.st.length ≠ 0) : pile.getD (M.st.length - 1) 0 = H.popV M := by
  unfold H.popV
  have hp := h.hp
  have hst := h.hst
  have ht := h.htk
  conv => rhs; rw [← ht]
  simp only [List.getD, List.getElem?_take, List.length_take, hp]
  rw [if_pos (by omega)]
  congr 2
  omega
end

end Go.Proofs.Ytfggaacijcggeaa
