/-
  What the walk of Runs wants: the document's Run of any bytes; how long the lists of an outcome are; draws that are copied.
-/
import Derived.Test.YtfggaacijcggeaaRMain
import Derived.Test.YtfggaacijcggeaaRunA
import Derived.Test.YtfggaacijcggeaaROutL
import Derived.Laws.CopyOwn
import Derived.Laws.MakeOwn
namespace Go.Proofs.Ytfggaacijcggeaa
open Go.RowKit
set_option linter.unusedVariables false

theorem refR_any (code : ByteArray) (v : InV) (ds : List Int) (w : World) (hc : code.size ≤ maxLen) (hv : v.ok) (hd : Drawn w v ds w.heap.size) :
    Calls Try.prog 14 #[.string code, .agg v.arr] w fun e w' => runEnd (H.run (H.bts code) v.cells (v.inp ds)) w.heap.size w e w' := by
  rcases H.decode_cases (H.bts code) (H.at0_bts_range code) with ⟨p, hp, h⟩ | ⟨l, h, hl1, hl64, hlok, hle⟩
  · exact refR_bad code v ds w hc hv hd p h
  · by_cases hf : v.fuel < 0 ∨ 1000 < v.fuel
    · exact refR_fuel code v ds w hc hv hd l h hl1 hl64 hlok hf
    · exact refR_main code v ds w hc hv hd l h hl1 hl64 hlok (by omega) (by omega)

theorem runM_lists {prog : List (Int × Int)} {F : Nat} (v : InV) (hv : v.ok) {ds : List Int} (hd : InR ds) (hp : H.okFrom prog.length 0 prog = true) :
    ∀ (k : Nat) (N : H.Mach), H.Rok prog.length F ds.length N → H.LOk (H.runM prog (v.inp ds) F k N)
  | 0, N, h => h.lists
  | k + 1, N, h => by
    by_cases hh : H.halt prog.length N = true
    · rw [runM_halt hh]; exact h.lists
    · have hh' : H.halt prog.length N = false := by simpa using hh
      by_cases hs : N.steps = F
      · rw [runM_spent hh' hs]; exact h.lists.of_eq rfl rfl
      · rw [runM_step hh' hs]
        refine runM_lists v hv hd hp k _ (h.adv v hv hd hp ?_ (by have := h.steps; omega))
        unfold H.halt at hh'
        simp at hh'
        omega

theorem run_lists (code : ByteArray) (v : InV) (hv : v.ok) (ds : List Int) (hd : InR ds) : (H.run (H.bts code) v.cells (v.inp ds)).shows.length ≤ 100 ∧ (H.run (H.bts code) v.cells (v.inp ds)).sends.length ≤ 100 := by
  unfold H.run
  rcases H.decode_cases (H.bts code) (H.at0_bts_range code) with ⟨p, hp, h⟩ | ⟨l, h, hl1, hl64, hlok, hle⟩
  · rw [h, if_neg (by simp)]
    exact ⟨Nat.zero_le _, Nat.zero_le _⟩
  · rw [h, if_pos rfl]
    by_cases hf : (v.inp ds).fuel < 0 ∨ 1000 < (v.inp ds).fuel
    · rw [if_pos hf]
      exact ⟨Nat.zero_le _, Nat.zero_le _⟩
    · rw [if_neg hf]
      have h0 : H.Rok l.length (v.inp ds).fuel.toNat ds.length (H.mach0 v.cells) :=
        ⟨⟨by intro x hx; simp [H.mach0] at hx, hv.cells, by show 0 ≤ _; omega, by show 0 ≤ 6; omega, by show (0 : Int) ≤ 0; omega, by show (0 : Int) ≤ l.length; omega⟩, ⟨by show 0 ≤ 8; omega, by show 0 ≤ 4; omega, by intro x hx; simp [H.mach0] at hx⟩, Nat.zero_le _, Nat.zero_le _, by show (0 : Int) ≤ 0 ∧ (0 : Int) ≤ 6; omega⟩
      have hl := runM_lists v hv hd hlok ((v.inp ds).fuel.toNat + 1) _ h0
      unfold H.outOf
      split
      · exact ⟨Nat.le_trans hl.shows (by decide), Nat.le_trans hl.sends (by decide)⟩
      · exact ⟨Nat.zero_le _, Nat.zero_le _⟩

theorem u16s_len (l : List Int) : (u16s l).length = l.length := by simp [u16s]
theorem u16s_one (l : List Int) : ∀ v ∈ u16s l, v.oneCell' = true := by
  intro v hv
  obtain ⟨x, _, rfl⟩ := List.mem_map.1 hv
  rfl
theorem u16s_at {l : List Int} {i : Nat} {x : Int} (h : l[i]? = some x) : (u16s l)[i]? = some (.int .u16 x) := by simp [u16s, h]

theorem info33 : (Try.prog.info? 33).map (fun i => (i.zero, i.size, i.bytes)) = some (some (.int .u16 0), 1, 2) := by kernel_rfl

theorem made_last1 (a : Value) (n : Nat) : ((madeCells #[a] ((n + 1) * 1)).toList).drop n = [a] := by
  apply List.ext_getElem?
  intro i
  rw [List.getElem?_drop]
  simp only [madeCells, Array.toList_map, Array.toList_range, List.getElem?_map]
  match i with
  | 0 =>
    rw [List.getElem?_range (by omega)]
    have e : n % 1 = 0 := Nat.mod_one n
    simp [e]
  | i + 1 =>
    rw [List.getElem?_eq_none (by simp)]
    simp

/-- copy, of numbers, into a row of one's own. -/
theorem run_copy_one (w : World) (g n cap : Nat) (lo : Option Addr) (sCap : Nat) (cur : Array Value) (cs : List Value) (hg : w.heap[g]? = some (.cells cur 33 (0, 0))) (hn : cs.length = n)
    (hsrc : (lo = none ∧ n = 0 ∧ sCap = 0) ∨ ∃ a, lo = some a ∧ ∀ j v, cs[j]? = some v → w.cell? (a.add j) = some v) (hfit : cs.length ≤ cur.size) (h1 : ∀ v ∈ cs, v.oneCell' = true) :
    (Builtin.copy_ #[37, 37] 3 #[.slice (some ⟨g, 0, none⟩) (n + 1) cap, .slice lo n sCap]).run Try.prog w = .ok (goInt n) (w.setRow g (cs ++ cur.toList.drop cs.length).toArray) := by
  have hst := run_storeCells_at Try.prog g 0 33 cs 0 cur w hg (by simpa using hfit) h1
  obtain ⟨i, hq, hz0, hz1, hz2⟩ := info_parts info33
  have hm : Nat.min n (n + 1) = n := Nat.min_eq_left (by omega)
  rcases hsrc with ⟨rfl, rfl, rfl⟩ | ⟨a, rfl, hsrc⟩
  · have hcs : cs = [] := List.eq_nil_of_length_eq_zero (by omega)
    subst hcs
    simp [Builtin.copy_, run_underlying Try.underlying37, Builtin.lenOf, Builtin.firstCells, sizeOf, typeInfo, hq, storeCells]
    rw [setRow_self w g cur 33 (0, 0) hg]
  · have hl := run_loadCells_list (P := Try.prog) w a cs hsrc
    rw [hn] at hl
    simp [Builtin.copy_, run_underlying Try.underlying37, Builtin.lenOf, Builtin.firstCells, sizeOf, typeInfo, hq, hz1, hm, hl]
    simp at hst
    rw [hst]
    simp

/-- What came in, with draws that lie elsewhere. -/
def reDraw (v : InV) (g : Nat) : InV := { v with ao := some ⟨g, 0, none⟩, cap := v.n + 1 }
theorem reDraw_ok {v : InV} (h : v.ok) (g : Nat) : (reDraw v g).ok := ⟨h.what, h.arg, h.src, h.route, h.cells⟩

/-- A block of another type is written: what is left. -/
theorem Outs.kept43 {w w' : World} {base A : Nat} {c : Int} {v1 v2 : Value} {cs : Array Value} (h : Outs w base c v1 v2) (hk : Kept (fun k => k = A) w w') (hA : Blk w A cs 43) : Outs w' base c v1 v2 := by
  have hb : ∀ (t : TypeId), t ≠ 43 → ∀ g cur, Blk w g cur t → Blk w' g cur t := fun t ht g cur hg => hg.of_block (hk.block g hg.lt (fun e => hg.ne hA ht e))
  obtain ⟨E1, E2, h1, h2, h3, h4⟩ := h
  have ho : ∀ {e : TypeId} {s : Nat} {v : Value} {n : Nat} {xs : List Value}, e ≠ 43 → w.ownsRow base e s v n xs → w'.ownsRow base e s v n xs := by
    intro e s v n xs he ho
    refine own_block ho fun k hk' => ?_
    obtain ⟨cur, hb'⟩ := own_blk ho hk'
    exact hk.block k hb'.lt (fun e' => hb'.ne hA he e')
  refine ⟨E1, E2, ho (by decide) h1, ho (by decide) h2, ?_, ?_⟩
  · intro v hv
    obtain ⟨m, h1, h2⟩ := h3 v hv
    exact ⟨m, h1, h2.keep (hb 62 (by decide))⟩
  · intro v hv
    obtain ⟨m, h1, h2⟩ := h4 v hv
    exact ⟨m, h1, h2.keep (hb 85 (by decide))⟩

theorem own_kept43 {w w' : World} {A : Nat} {cs : Array Value} (hk : Kept (fun k => k = A) w w') (hA : Blk w A cs 43) {base : Nat} {e : TypeId} {s : Nat} {v : Value} {n : Nat} {xs : List Value} (he : e ≠ 43) (ho : w.ownsRow base e s v n xs) : w'.ownsRow base e s v n xs := by
  refine own_block ho fun k hk' => ?_
  obtain ⟨cur, hb'⟩ := own_blk ho hk'
  exact hk.block k hb'.lt (fun e' => hb'.ne hA he e')

theorem own_keptS {w w' : World} {S : Nat → Prop} (hk : Kept S w w') {base : Nat} {e : TypeId} {s : Nat} {v : Value} {n : Nat} {xs : List Value} (ho : w.ownsRow base e s v n xs) (hs : ∀ k, S k → k < base) : w'.ownsRow base e s v n xs := by
  refine own_block ho fun k hk' => ?_
  have := ho.lt k hk'
  exact hk.block k this.2 (fun q => by have := hs k q; omega)

theorem kept_13 {A : Nat} {a w : World} (h : Kept (fun k => k = A) a w) (u0 u1 u2 u3 u4 u5 u6 u7 u8 u9 u10 u11 u12 : Value) : Kept (fun k => k = A) a (((((((((((((w.setCell ⟨A, 0, none⟩ u0).setCell ⟨A, 1, none⟩ u1).setCell ⟨A, 2, none⟩ u2).setCell ⟨A, 3, none⟩ u3).setCell ⟨A, 4, none⟩ u4).setCell ⟨A, 5, none⟩ u5).setCell ⟨A, 6, none⟩ u6).setCell ⟨A, 7, none⟩ u7).setCell ⟨A, 8, none⟩ u8).setCell ⟨A, 9, none⟩ u9).setCell ⟨A, 10, none⟩ u10).setCell ⟨A, 11, none⟩ u11).setCell ⟨A, 12, none⟩ u12) :=
  (((((((((((((h.setCell ⟨A, 0, none⟩ u0 (Or.inl rfl)).setCell ⟨A, 1, none⟩ u1 (Or.inl rfl)).setCell ⟨A, 2, none⟩ u2 (Or.inl rfl)).setCell ⟨A, 3, none⟩ u3 (Or.inl rfl)).setCell ⟨A, 4, none⟩ u4 (Or.inl rfl)).setCell ⟨A, 5, none⟩ u5 (Or.inl rfl)).setCell ⟨A, 6, none⟩ u6 (Or.inl rfl)).setCell ⟨A, 7, none⟩ u7 (Or.inl rfl)).setCell ⟨A, 8, none⟩ u8 (Or.inl rfl)).setCell ⟨A, 9, none⟩ u9 (Or.inl rfl)).setCell ⟨A, 10, none⟩ u10 (Or.inl rfl)).setCell ⟨A, 11, none⟩ u11 (Or.inl rfl)).setCell ⟨A, 12, none⟩ u12 (Or.inl rfl))

theorem blk_13 {A : Nat} {w : World} {c0 c1 c2 c3 c4 c5 c6 c7 c8 c9 c10 c11 c12 : Value} (h : Blk w A #[c0, c1, c2, c3, c4, c5, c6, c7, c8, c9, c10, c11, c12] 43) (u0 u1 u2 u3 u4 u5 u6 u7 u8 u9 u10 u11 u12 : Value) : Blk (((((((((((((w.setCell ⟨A, 0, none⟩ u0).setCell ⟨A, 1, none⟩ u1).setCell ⟨A, 2, none⟩ u2).setCell ⟨A, 3, none⟩ u3).setCell ⟨A, 4, none⟩ u4).setCell ⟨A, 5, none⟩ u5).setCell ⟨A, 6, none⟩ u6).setCell ⟨A, 7, none⟩ u7).setCell ⟨A, 8, none⟩ u8).setCell ⟨A, 9, none⟩ u9).setCell ⟨A, 10, none⟩ u10).setCell ⟨A, 11, none⟩ u11).setCell ⟨A, 12, none⟩ u12) A #[u0, u1, u2, u3, u4, u5, u6, u7, u8, u9, u10, u11, u12] 43 := by
  have h0 : Blk _ A #[u0, c1, c2, c3, c4, c5, c6, c7, c8, c9, c10, c11, c12] 43 := h.set 0 u0
  have h1 : Blk _ A #[u0, u1, c2, c3, c4, c5, c6, c7, c8, c9, c10, c11, c12] 43 := h0.set 1 u1
  have h2 : Blk _ A #[u0, u1, u2, c3, c4, c5, c6, c7, c8, c9, c10, c11, c12] 43 := h1.set 2 u2
  have h3 : Blk _ A #[u0, u1, u2, u3, c4, c5, c6, c7, c8, c9, c10, c11, c12] 43 := h2.set 3 u3
  have h4 : Blk _ A #[u0, u1, u2, u3, u4, c5, c6, c7, c8, c9, c10, c11, c12] 43 := h3.set 4 u4
  have h5 : Blk _ A #[u0, u1, u2, u3, u4, u5, c6, c7, c8, c9, c10, c11, c12] 43 := h4.set 5 u5
  have h6 : Blk _ A #[u0, u1, u2, u3, u4, u5, u6, c7, c8, c9, c10, c11, c12] 43 := h5.set 6 u6
  have h7 : Blk _ A #[u0, u1, u2, u3, u4, u5, u6, u7, c8, c9, c10, c11, c12] 43 := h6.set 7 u7
  have h8 : Blk _ A #[u0, u1, u2, u3, u4, u5, u6, u7, u8, c9, c10, c11, c12] 43 := h7.set 8 u8
  have h9 : Blk _ A #[u0, u1, u2, u3, u4, u5, u6, u7, u8, u9, c10, c11, c12] 43 := h8.set 9 u9
  have h10 : Blk _ A #[u0, u1, u2, u3, u4, u5, u6, u7, u8, u9, u10, c11, c12] 43 := h9.set 10 u10
  have h11 : Blk _ A #[u0, u1, u2, u3, u4, u5, u6, u7, u8, u9, u10, u11, c12] 43 := h10.set 11 u11
  have h12 : Blk _ A #[u0, u1, u2, u3, u4, u5, u6, u7, u8, u9, u10, u11, u12] 43 := h11.set 12 u12
  exact h12
end Go.Proofs.Ytfggaacijcggeaa
