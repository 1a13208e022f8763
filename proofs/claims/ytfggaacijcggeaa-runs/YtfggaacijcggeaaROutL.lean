/-
  What outcomes leaves: lists that are written over, and lists of them; round by round.
-/
import Derived.Test.YtfggaacijcggeaaRMark
import Derived.Test.YtfggaacijcggeaaJShow
namespace Go.Proofs.Ytfggaacijcggeaa
open Go.RowKit
set_option linter.unusedVariables false

/-- The mark of shows, and of sends. -/
def mkS (c : Int) : List Value := [.int .u16 c, .string ⟨#[]⟩]
def mkD (c : Int) : List Value := [.int .u8 0, .int .u16 c]

theorem MarkAt.keep {w w' : World} {t : TypeId} {ms : List Value} {v : Value} {m : Nat} (h : MarkAt w t ms v m) (hk : ∀ g cur, Blk w g cur t → Blk w' g cur t) : MarkAt w' t ms v m := by
  obtain ⟨ao, cap, rfl, h⟩ := h
  refine ⟨ao, cap, rfl, ?_⟩
  rcases h with h | ⟨g, cur, e, hb, hr⟩
  · exact Or.inl h
  · exact Or.inr ⟨g, cur, e, hk g cur hb, hr⟩

theorem own_blk {w : World} {base : Nat} {e : TypeId} {size : Nat} {v : Value} {n : Nat} {xs : List Value} (ho : w.ownsRow base e size v n xs) {k : Nat} (hk : v.ownBlock = some k) : ∃ cur, Blk w k cur e := by
  rcases ho.2 with ⟨hv, _⟩ | ⟨g, cap, cur, hv, _, hh, _⟩
  · subst hv; simp [Value.ownBlock] at hk
  · subst hv
    simp only [Value.ownBlock, Option.some.injEq] at hk
    subst hk
    exact ⟨cur, hh⟩

theorem own_grown {w w' : World} {b1 b2 : Nat} {e1 e2 : TypeId} {s1 s2 : Nat} {v1 v2 : Value} {n1 n2 : Nat} {x1 x2 : List Value} (h1 : w.ownsRow b1 e1 s1 v1 n1 x1) (h2 : w.ownsRow b2 e2 s2 v2 n2 x2) (he : e1 ≠ e2) (hg : w.grownBy w' v2.ownBlock) : w'.ownsRow b1 e1 s1 v1 n1 x1 := by
  refine own_block h1 fun k hk => ?_
  obtain ⟨cur, hb⟩ := own_blk h1 hk
  exact hg.block k hb.lt (hb.ne_own h2 he)

theorem blk_grown {w w' : World} {b2 : Nat} {e1 e2 : TypeId} {s2 : Nat} {v2 : Value} {n2 : Nat} {x2 : List Value} (h2 : w.ownsRow b2 e2 s2 v2 n2 x2) (he : e1 ≠ e2) (hg : w.grownBy w' v2.ownBlock) : ∀ g cur, Blk w g cur e1 → Blk w' g cur e1 :=
  fun g cur hb => hb.grown hg (hb.ne_own h2 he)

/-- The round in which lists are laid in lists. -/
structure OSt (w wr : World) (base : Nat) (S : Nat → Prop) (c : Int) (E1 E2 : List Value) (v6 v7 xv yv : Value) (nx ny j1 j2 : Nat) : Prop where
  r6 : wr.ownsRow w.heap.size 40 1 v6 j1 E1
  r7 : wr.ownsRow w.heap.size 41 1 v7 j2 E2
  x : wr.ownsRow base 62 (mkS c).length xv nx (rep nx (mkS c))
  y : wr.ownsRow base 85 (mkD c).length yv ny (rep ny (mkD c))
  m1 : ∀ v ∈ E1, ∃ m, m ≤ nx ∧ MarkAt wr 62 (mkS c) v m
  m2 : ∀ v ∈ E2, ∃ m, m ≤ ny ∧ MarkAt wr 85 (mkD c) v m
  kept : Kept S w wr
  sx : ∀ k, xv.ownBlock = some k → S k ∨ w.heap.size ≤ k
  sy : ∀ k, yv.ownBlock = some k → S k ∨ w.heap.size ≤ k

section
variable {w wr w' : World} {base : Nat} {S : Nat → Prop} {c : Int} {E1 E2 : List Value} {v6 v7 xv yv v' : Value} {nx ny j1 j2 : Nat}

theorem OSt.alloc (h : OSt w wr base S c E1 E2 v6 v7 xv yv nx ny j1 j2) (o : Obj) : OSt w (wr.alloc o) base S c E1 E2 v6 v7 xv yv nx ny j1 j2 :=
  ⟨h.r6.alloc o, h.r7.alloc o, h.x.alloc o, h.y.alloc o, fun v hv => by obtain ⟨m, h1, h2⟩ := h.m1 v hv; exact ⟨m, h1, h2.keep fun g cur hb => hb.alloc o⟩, fun v hv => by obtain ⟨m, h1, h2⟩ := h.m2 v hv; exact ⟨m, h1, h2.keep fun g cur hb => hb.alloc o⟩, h.kept.alloc o, h.sx, h.sy⟩

theorem OSt.join1 (h : OSt w wr base S c E1 E2 v6 v7 xv yv nx ny j1 j2) (ho : w'.ownsRow w.heap.size 40 1 v' (j1 + 1) (E1 ++ [xv])) (hg : wr.grownBy w' v6.ownBlock) : OSt w w' base S c (E1 ++ [xv]) E2 v' v7 xv yv nx ny (j1 + 1) j2 := by
  have f62 := blk_grown (e1 := 62) h.r6 (by decide) hg
  have f85 := blk_grown (e1 := 85) h.r6 (by decide) hg
  refine ⟨ho, own_grown h.r7 h.r6 (by decide) hg, own_grown h.x h.r6 (by decide) hg, own_grown h.y h.r6 (by decide) hg, ?_, ?_, ?_, h.sx, h.sy⟩
  · intro v hv
    rcases List.mem_append.1 hv with hv | hv
    · obtain ⟨m, h1, h2⟩ := h.m1 v hv
      exact ⟨m, h1, h2.keep f62⟩
    · simp at hv
      subst hv
      exact ⟨nx, Nat.le_refl _, (own_mark h.x).keep f62⟩
  · intro v hv
    obtain ⟨m, h1, h2⟩ := h.m2 v hv
    exact ⟨m, h1, h2.keep f85⟩
  · exact h.kept.grown hg fun k hk => Or.inr (h.r6.lt k hk).1

theorem OSt.join2 (h : OSt w wr base S c E1 E2 v6 v7 xv yv nx ny j1 j2) (ho : w'.ownsRow w.heap.size 41 1 v' (j2 + 1) (E2 ++ [yv])) (hg : wr.grownBy w' v7.ownBlock) : OSt w w' base S c E1 (E2 ++ [yv]) v6 v' xv yv nx ny j1 (j2 + 1) := by
  have f62 := blk_grown (e1 := 62) h.r7 (by decide) hg
  have f85 := blk_grown (e1 := 85) h.r7 (by decide) hg
  refine ⟨own_grown h.r6 h.r7 (by decide) hg, ho, own_grown h.x h.r7 (by decide) hg, own_grown h.y h.r7 (by decide) hg, ?_, ?_, ?_, h.sx, h.sy⟩
  · intro v hv
    obtain ⟨m, h1, h2⟩ := h.m1 v hv
    exact ⟨m, h1, h2.keep f62⟩
  · intro v hv
    rcases List.mem_append.1 hv with hv | hv
    · obtain ⟨m, h1, h2⟩ := h.m2 v hv
      exact ⟨m, h1, h2.keep f85⟩
    · simp at hv
      subst hv
      exact ⟨ny, Nat.le_refl _, (own_mark h.y).keep f85⟩
  · exact h.kept.grown hg fun k hk => Or.inr (h.r7.lt k hk).1

theorem OSt.push1 (h : OSt w wr base S c E1 E2 v6 v7 xv yv nx ny j1 j2) (ho : w'.ownsRow base 62 (mkS c).length v' (nx + 1) (rep (nx + 1) (mkS c))) (hg : wr.grownBy w' xv.ownBlock)
    (hb : v'.ownBlock = xv.ownBlock ∨ ∀ k, v'.ownBlock = some k → wr.heap.size ≤ k) (hm : ∀ v m, m ≤ nx + 1 → MarkAt wr 62 (mkS c) v m → MarkAt w' 62 (mkS c) v m) : OSt w w' base S c E1 E2 v6 v7 v' yv (nx + 1) ny j1 j2 := by
  have f85 := blk_grown (e1 := 85) h.x (by decide) hg
  refine ⟨own_grown h.r6 h.x (by decide) hg, own_grown h.r7 h.x (by decide) hg, ho, own_grown h.y h.x (by decide) hg, ?_, ?_, h.kept.grown hg h.sx, ?_, h.sy⟩
  · intro v hv
    obtain ⟨m, h1, h2⟩ := h.m1 v hv
    exact ⟨m, by omega, hm v m (by omega) h2⟩
  · intro v hv
    obtain ⟨m, h1, h2⟩ := h.m2 v hv
    exact ⟨m, h1, h2.keep f85⟩
  · intro k hk
    rcases hb with hb | hb
    · exact h.sx k (by rw [← hb]; exact hk)
    · exact Or.inr (Nat.le_trans h.kept.size (hb k hk))

theorem OSt.push2 (h : OSt w wr base S c E1 E2 v6 v7 xv yv nx ny j1 j2) (ho : w'.ownsRow base 85 (mkD c).length v' (ny + 1) (rep (ny + 1) (mkD c))) (hg : wr.grownBy w' yv.ownBlock)
    (hb : v'.ownBlock = yv.ownBlock ∨ ∀ k, v'.ownBlock = some k → wr.heap.size ≤ k) (hm : ∀ v m, m ≤ ny + 1 → MarkAt wr 85 (mkD c) v m → MarkAt w' 85 (mkD c) v m) : OSt w w' base S c E1 E2 v6 v7 xv v' nx (ny + 1) j1 j2 := by
  have f62 := blk_grown (e1 := 62) h.y (by decide) hg
  refine ⟨own_grown h.r6 h.y (by decide) hg, own_grown h.r7 h.y (by decide) hg, own_grown h.x h.y (by decide) hg, ho, ?_, ?_, h.kept.grown hg h.sy, h.sx, ?_⟩
  · intro v hv
    obtain ⟨m, h1, h2⟩ := h.m1 v hv
    exact ⟨m, h1, h2.keep f62⟩
  · intro v hv
    obtain ⟨m, h1, h2⟩ := h.m2 v hv
    exact ⟨m, by omega, hm v m (by omega) h2⟩
  · intro k hk
    rcases hb with hb | hb
    · exact h.sy k (by rw [← hb]; exact hk)
    · exact Or.inr (Nat.le_trans h.kept.size (hb k hk))
end

/-- What is left of an outcome: four lists of each kind, all of one mark. -/
def Outs (w : World) (base : Nat) (c : Int) (v1 v2 : Value) : Prop :=
  ∃ E1 E2, w.ownsRow base 40 1 v1 4 E1 ∧ w.ownsRow base 41 1 v2 4 E2 ∧ (∀ v ∈ E1, ∃ m, m ≤ 200 ∧ MarkAt w 62 (mkS c) v m) ∧ (∀ v ∈ E2, ∃ m, m ≤ 200 ∧ MarkAt w 85 (mkD c) v m)

theorem Outs.below {w w' : World} {base : Nat} {c : Int} {v1 v2 : Value} (h : Outs w base c v1 v2) (hb : Below w.heap.size w w') : Outs w' base c v1 v2 := by
  obtain ⟨E1, E2, h1, h2, h3, h4⟩ := h
  refine ⟨E1, E2, own_below' h1 hb (Nat.le_refl _), own_below' h2 hb (Nat.le_refl _), ?_, ?_⟩
  · intro v hv
    obtain ⟨m, h1, h2⟩ := h3 v hv
    exact ⟨m, h1, h2.keep fun g cur hk => hk.below hb hk.lt⟩
  · intro v hv
    obtain ⟨m, h1, h2⟩ := h4 v hv
    exact ⟨m, h1, h2.keep fun g cur hk => hk.below hb hk.lt⟩
end Go.Proofs.Ytfggaacijcggeaa
