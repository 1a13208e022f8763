/-
  A book of two lists: first the one is kept, then the other, then it is closed.
-/
import Derived.Test.YtcaeeaiodbjacaaBookL
namespace Go.Proofs.Ytcaeeaiodbjacaa
open Go.RowKit
set_option linter.unusedVariables false

theorem own_weaken {w : World} {b b' : Nat} {e : TypeId} {size : Nat} {v : Value} {n : Nat} {xs : List Value} (h : w.ownsRow b e size v n xs) (hb : b' ≤ b) : w.ownsRow b' e size v n xs := by
  obtain ⟨h1, h2⟩ := h
  refine ⟨h1, ?_⟩
  rcases h2 with h2 | ⟨g, cap, cur, hv, hg, hh, r⟩
  · exact Or.inl h2
  · exact Or.inr ⟨g, cap, cur, hv, by omega, hh, r⟩

/-- Two lists of one's own that share nothing. -/
structure Two (w : World) (base : Nat) (ao co : Option Addr) (n m ac cc : Nat) (l r : List T.Nd) : Prop where
  one : w.ownsRow base 60 3 (.slice ao n ac) n (ndCells l)
  two : w.ownsRow base 60 3 (.slice co m cc) m (ndCells r)
  len : l.length = n
  len2 : r.length = m
  ne : Value.ownBlock (.slice co m cc) ≠ none → Value.ownBlock (.slice co m cc) ≠ Value.ownBlock (.slice ao n ac)

def emptyBook : Array Value := #[.slice none 0 0, .slice none 0 0, .slice none 0 0, .bool false, .slice none 0 0, .slice none 0 0, .slice none 0 0, .slice none 0 0, .slice none 0 0, .slice none 0 0]

/-- Behind the first. -/
def MidBook (w : World) (base B : Nat) (ao co : Option Addr) (n m ac cc : Nat) (l r : List T.Nd) : Prop :=
  ∃ vn E wo wc, BkSt w base B vn E ao wo n ac wc l (.slice none 0 0) (.slice none 0 0) (.slice none 0 0) (.slice none 0 0) (.slice none 0 0) (.slice none 0 0) ∧ E.length = 4 ∧ Two w base ao co n m ac cc l r ∧ ∀ v ∈ E, ∀ q, v.ownBlock = some q → some q ≠ Value.ownBlock (.slice co m cc)

/-- Behind the second. -/
def LastBook (w : World) (base B : Nat) (co : Option Addr) (m cc : Nat) (r : List T.Nd) : Prop :=
  ∃ vn E wo wc, BkSt w base B vn E co wo m cc wc r (.slice none 0 0) (.slice none 0 0) (.slice none 0 0) (.slice none 0 0) (.slice none 0 0) (.slice none 0 0) ∧ E.length = 8

theorem keep_first {w : World} {base B : Nat} {ao co : Option Addr} {n m ac cc : Nat} {l r : List T.Nd} (hb : Blk w B emptyBook 39) (h : Two w base ao co n m ac cc l r) (hB : base ≤ B) (hs : base ≤ w.heap.size) (hn : n ≤ 16) :
    Calls Try.prog 14 #[.pointer (some ⟨B, 0, none⟩), .slice ao n ac] w fun e w' => e = .returned (.tuple #[]) ∧ MidBook w' base B ao co n m ac cc l r ∧ Below base w w' := by
  have h0 : BkSt w base B (.slice none 0 0) [] none none 0 0 0 [] (.slice none 0 0) (.slice none 0 0) (.slice none 0 0) (.slice none 0 0) (.slice none 0 0) (.slice none 0 0) :=
    ⟨hb, World.ownsRow_nil _ _ _ _, World.ownsRow_nil _ _ _ _, rfl, Or.inl rfl, by intro i v hv; simp at hv, by intro v hv; simp at hv⟩
  refine (keep_any h0 hB 0 rfl (by omega) (by omega) hs ao n ac l h.one h.len hn (fun q => q) (by intro v hv; simp at hv)).mono ?_
  rintro e w' ⟨rfl, vn', E', wo, wc, q1, q2, q3, q4, q5⟩
  have hk : ∀ k, Value.ownBlock (.slice co m cc) = some k → w'.heap[k]? = w.heap[k]? := by
    intro k hk
    refine q4.block k (h.two.lt k hk).2 ?_
    rintro (e | e | e)
    · subst e
      exact (hb.ne_own h.two (by decide)) hk.symm
    · simp [Value.ownBlock] at e
    · simp [Value.ownBlock] at e
  refine ⟨rfl, ⟨vn', E', wo, wc, by simpa using q1, q2, ⟨q1.own, own_block h.two hk, h.len, h.len2, h.ne⟩, ?_⟩, q4.below hs ?_⟩
  · intro v hv q hq he
    rcases q3 v hv q hq with e | e
    · simp [Value.ownBlock] at e
    · have := (h.two.lt q he.symm).2
      omega
  · rintro k (e | e | e)
    · omega
    · simp [Value.ownBlock] at e
    · simp [Value.ownBlock] at e

theorem keep_second {w : World} {base B : Nat} {ao co : Option Addr} {n m ac cc : Nat} {l r : List T.Nd} (h : MidBook w base B ao co n m ac cc l r) (hB : base ≤ B) (hs : base ≤ w.heap.size) (hn : n ≤ 16) (hm : m ≤ 16) :
    Calls Try.prog 14 #[.pointer (some ⟨B, 0, none⟩), .slice co m cc] w fun e w' => e = .returned (.tuple #[]) ∧ LastBook w' base B co m cc r ∧ Below base w w' := by
  obtain ⟨vn, E, wo, wc, h0, hE, h2, hEc⟩ := h
  refine (keep_any h0 hB 1 (by omega) (by omega) hn hs co m cc r h2.two h2.len2 hm h2.ne hEc).mono ?_
  rintro e w' ⟨rfl, vn', E', wo', wc', q1, q2, q3, q4, q5⟩
  refine ⟨rfl, ⟨vn', E ++ E', wo', wc', q1, by rw [List.length_append, q2, hE]⟩, q4.below hs ?_⟩
  rintro k (e | e | e)
  · omega
  · exact (h0.own.lt k e.symm).1
  · exact (h0.row.lt k e.symm).1

theorem ends_last {w : World} {base B : Nat} {co : Option Addr} {m cc : Nat} {r : List T.Nd} (h : LastBook w base B co m cc r) (hB : base ≤ B) (hs : base ≤ w.heap.size) (hm : m ≤ 16) :
    Calls Try.prog 15 #[.pointer (some ⟨B, 0, none⟩)] w fun e w' => e = .returned (.bool true) ∧ Below base w w' := by
  obtain ⟨vn, E, wo, wc, h0, hE⟩ := h
  exact ends_any h0 hB 2 (by omega) (by omega) hm hs

/-- One list behind the other. -/
theorem Two.of {w1 w2 : World} {base : Nat} {ao co : Option Addr} {n m ac cc : Nat} {l r : List T.Nd} (h1 : w1.ownsRow base 60 3 (.slice ao n ac) n (ndCells l)) (hl : l.length = n) (hb : Below w1.heap.size w1 w2) (h2 : w2.ownsRow w1.heap.size 60 3 (.slice co m cc) m (ndCells r)) (hr : r.length = m) (hs : base ≤ w1.heap.size) : Two w2 base ao co n m ac cc l r := by
  refine ⟨own_below' h1 hb (Nat.le_refl _), own_weaken h2 hs, hl, hr, ?_⟩
  intro hne he
  cases hc : Value.ownBlock (.slice co m cc) with
  | none => exact hne hc
  | some k =>
    have e1 := (h2.lt k hc).1
    have e2 := (h1.lt k (by rw [← he]; exact hc)).2
    omega

theorem Two.below {w w' : World} {base : Nat} {ao co : Option Addr} {n m ac cc : Nat} {l r : List T.Nd} (h : Two w base ao co n m ac cc l r) (hb : Below w.heap.size w w') : Two w' base ao co n m ac cc l r :=
  ⟨own_below' h.one hb (Nat.le_refl _), own_below' h.two hb (Nat.le_refl _), h.len, h.len2, h.ne⟩

end Go.Proofs.Ytcaeeaiodbjacaa
