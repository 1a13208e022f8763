/-
  What Apart makes of its manifests.
-/
import Derived.Test.YtidaflmmldefcaaApT
import Derived.Test.YtidaflmmldefcaaRch
import Derived.Laws.CopyRow
import Derived.Laws.CopyOwn
import Derived.Laws.Tables
namespace Go.Proofs.Ytidaflmmldefcaa
open Go.RowKit
set_option linter.unusedVariables false

theorem Gs.ok.below {w w' : World} {x : Gs} (h : x.ok w) (hb : Below w.heap.size w w') : x.ok w' := ⟨h.code.below hb, h.num⟩
theorem GsAt.below {w w' : World} {ao : Option Addr} {l : List Gs} (h : GsAt w ao l) (hb : Below w.heap.size w w') : GsAt w' ao l := by
  refine ⟨?_, fun x hx => (h.2 x hx).below hb⟩
  rcases h.1 with h | ⟨b, off, e, hl, hr⟩
  · exact Or.inl h
  · exact Or.inr ⟨b, off, e, Nat.lt_of_lt_of_le hl hb.size, hr.below hb hl⟩

theorem mfCells_length : ∀ l : List Mf, (mfCells l).length = l.length * 7
  | [] => rfl
  | x :: r => by
    have e : mfCells (x :: r) = x.arr.toList ++ mfCells r := rfl
    rw [e, List.length_append, mfCells_length r]
    have : x.arr.toList.length = 7 := rfl
    rw [this]; simp; omega
theorem mfCells_one (l : List Mf) : ∀ v ∈ mfCells l, v.oneCell' = true := by
  intro v hv
  obtain ⟨m, _, hm⟩ := List.mem_flatMap.1 hv
  exact mfArr_one m v hm

theorem run_copy_seven (w : World) (g n cap : Nat) (a : Addr) (sCap : Nat) (cur : Array Value) (cs : List Value) (hg : w.heap[g]? = some (.cells cur 41 (0, 0))) (hn : cs.length = n * 7)
    (hsrc : ∀ j v, cs[j]? = some v → w.cell? (a.add j) = some v) (hfit : cs.length ≤ cur.size) (h1 : ∀ v ∈ cs, v.oneCell' = true) :
    (Builtin.copy_ #[24, 24] 3 #[.slice (some ⟨g, 0, none⟩) n cap, .slice (some a) n sCap]).run Try.prog w = .ok (goInt n) (w.setRow g (cs ++ cur.toList.drop cs.length).toArray) := by
  have hl := run_loadCells_list (P := Try.prog) w a cs hsrc
  have hst := run_storeCells_at Try.prog g 0 41 cs 0 cur w hg (by simpa using hfit) h1
  obtain ⟨i, hq, hz0, hz1, hz2⟩ := info_parts info41
  have hm : Nat.min n n = n := Nat.min_eq_left (Nat.le_refl _)
  rw [hn] at hl
  simp [Builtin.copy_, run_underlying Try.underlying24, Builtin.lenOf, Builtin.firstCells, sizeOf, typeInfo, hq, hz1, hm, hl]
  simp at hst
  rw [hst]
  simp

theorem wpList_copy_seven {w : World} {ops : Array Oper} {rest : List Oper} {o : Oper} {a : Act} {Q : Exit → Act → World → Prop} (hgd : o.guard = none) (d s : Operand)
    (ho : o.op = .call { callee := .builtin .copy, args := #[d, s], argTypes := #[24, 24] }) (hty : o.type = 3) (g n cap sCap : Nat) (ad : Addr) (hd : a.eval d = .slice (some ⟨g, 0, none⟩) n cap) (hs : a.eval s = .slice (some ad) n sCap)
    (cur : Array Value) (hg : w.heap[g]? = some (.cells cur 41 (0, 0))) (cs : List Value) (hn : cs.length = n * 7) (hsrc : ∀ j v, cs[j]? = some v → w.cell? (ad.add j) = some v) (hfit : cs.length ≤ cur.size) (h1 : ∀ v ∈ cs, v.oneCell' = true)
    (h : wpList Try.prog ops Q rest (a.put o.dst (goInt n)) (w.setRow g (cs ++ cur.toList.drop cs.length).toArray)) : wpList Try.prog ops Q (o :: rest) a w := by
  refine wpList_plain hgd fun K hK => ?_
  have hrun := run_copy_seven w g n cap ad sCap cur cs hg hn hsrc hfit h1
  unfold Oper.wp
  simp [execOp, ho, resolve, invoke, builtin, hd, hs, hty, hrun, Result.andThen]
  exact hK _ _ h

theorem DrIn.below {w w' : World} {dao : Option Addr} {dl : List (List Int)} (h : DrIn w dao dl) (hb : Below w.heap.size w w') : DrIn w' dao dl := by
  intro i ds hd
  obtain ⟨g, off, eo, ec, e, hg, hc, hm, hr, bd, o2, h1, h2⟩ := h i ds hd
  refine ⟨g, off, eo, ec, e, Nat.lt_of_lt_of_le hg hb.size, (hb.cell hg).trans hc, hm, hr, ?_⟩
  by_cases h0 : 0 < ds.length
  · obtain ⟨e1, e2⟩ := h1 h0
    exact ⟨bd, o2, fun _ => ⟨e1, Nat.lt_of_lt_of_le e2 hb.size⟩, h2.below hb e2⟩
  · have : ds = [] := List.eq_nil_of_length_eq_zero (by omega)
    subst this
    exact ⟨0, 0, fun q => absurd q h0, fun i x hx => by simp at hx⟩
theorem Dr.ok.below {w w' : World} {d : Dr} (h : d.ok w) (hb : Below w.heap.size w w') : d.ok w' := by
  obtain ⟨h1, h2, bd, o2, h3, h4⟩ := h
  refine ⟨h1, h2, ?_⟩
  by_cases h0 : 0 < d.ds.length
  · obtain ⟨e1, e2⟩ := h3 h0
    exact ⟨bd, o2, fun _ => ⟨e1, Nat.lt_of_lt_of_le e2 hb.size⟩, h4.below hb e2⟩
  · have : d.ds = [] := List.eq_nil_of_length_eq_zero (by omega)
    rw [this]
    exact ⟨0, 0, fun q => absurd q (Nat.lt_irrefl 0), fun i x hx => by simp at hx⟩

/-- A manifest with another program, fuel and back. -/
def Mf.with (m b : Mf) : Mf := { m with prog := b.prog, fuel := b.fuel, back := b.back }
theorem Mf.with_good {m b : Mf} (h : m.good) (hb : b.good) : (m.with b).good := ⟨hb.size, hb.code, hb.fuel, h.routes, h.pub, h.sub, h.share, hb.back⟩
theorem mfCells_with : ∀ (l : List Mf) (t : Nat) (m b : Mf), l[t]? = some m → (((mfCells l).set (t * 7) (.string b.prog)).set (t * 7 + 1) (.int .i64 b.fuel)).set (t * 7 + 6) (.int .i64 b.back) = mfCells (l.set t (m.with b))
  | [], t, m, b, h => by simp at h
  | y :: r, 0, m, b, h => by
    simp at h; subst h
    rfl
  | y :: r, t + 1, m, b, h => by
    have ih := mfCells_with r t m b (by simpa using h)
    have e : mfCells (y :: r) = y.arr.toList ++ mfCells r := rfl
    have e2 : y.arr.toList.length = 7 := rfl
    have e3 : mfCells ((y :: r).set (t + 1) (m.with b)) = y.arr.toList ++ mfCells (r.set t (m.with b)) := rfl
    rw [e, e3, ← ih, List.set_append_right _ _ (by rw [e2]; omega), List.set_append_right _ _ (by rw [e2]; omega), List.set_append_right _ _ (by rw [e2]; omega), e2, show (t + 1) * 7 - 7 = t * 7 by omega, show (t + 1) * 7 + 1 - 7 = t * 7 + 1 by omega, show (t + 1) * 7 + 6 - 7 = t * 7 + 6 by omega]
theorem blk_mfRow {w : World} {g : Nat} {l : List Mf} (h : Blk w g (mfCells l).toArray 41) : MfRow w g 0 l := by
  intro i m hm j v hv
  rw [h.cell, Nat.zero_add]
  have := mfCells_at l i m hm j v hv
  simpa using this

theorem with_alike (ms : List Mf) (t : Nat) (m b : Mf) (hm : ms[t]? = some m) : Alike2 ms (ms.set t (m.with b)) ∧ ∀ u, u ≠ t → (ms.set t (m.with b))[u]? = ms[u]? := by
  have ht := (List.getElem?_eq_some_iff.1 hm).1
  refine ⟨⟨by simp, fun u a c ha hc => ?_⟩, fun u hu => List.getElem?_set_ne (fun e => hu e.symm)⟩
  by_cases hu : u = t
  · subst hu
    rw [List.getElem?_set_self ht] at hc
    rw [hm] at ha
    obtain rfl := Option.some.inj ha
    obtain rfl := Option.some.inj hc
    rfl
  · rw [List.getElem?_set_ne (fun e => hu e.symm), ha] at hc
    obtain rfl := Option.some.inj hc
    rfl
theorem with_goods {ms : List Mf} (hg : ∀ m ∈ ms, m.good) {t : Nat} {m b : Mf} (hm : ms[t]? = some m) (hb : b.good) : ∀ x ∈ ms.set t (m.with b), x.good := by
  intro x hx
  rcases List.mem_or_eq_of_mem_set hx with h | rfl
  · exact hg x h
  · exact Mf.with_good (hg m (List.mem_of_getElem? hm)) hb

theorem clear_ne {t : Nat} {B : List Bool} {u : Nat} (h : clear t B u = true) : u ≠ t := by
  simp only [clear, Bool.and_eq_true, decide_eq_true_eq] at h
  exact h.1
theorem clear_t (t : Nat) (B : List Bool) : clear t B t = false := by simp [clear]
end Go.Proofs.Ytidaflmmldefcaa
