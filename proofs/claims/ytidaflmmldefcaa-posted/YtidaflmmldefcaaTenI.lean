/-
  What other rows keep beside a tenant; the walk of finish.
-/
import Derived.Test.YtidaflmmldefcaaTenH
import Derived.Test.YtidaflmmldefcaaRunX
import Derived.BigQuiet
namespace Go.Proofs.Ytidaflmmldefcaa
open Go.RowKit
set_option linter.unusedVariables false

theorem own_blk {w : World} {base : Nat} {e : TypeId} {size : Nat} {v : Value} {n : Nat} {xs : List Value} (ho : w.ownsRow base e size v n xs) {k : Nat} (hk : v.ownBlock = some k) : ∃ cur, Blk w k cur e := by
  rcases ho.2 with ⟨hv, _⟩ | ⟨g, cap, cur, hv, _, hh, _⟩
  · subst hv; simp [Value.ownBlock] at hk
  · subst hv
    simp only [Value.ownBlock, Option.some.injEq] at hk
    subst hk
    exact ⟨cur, hh⟩

theorem TFr.blk {w w' : World} {tb o : Nat} {x : Tn} {nv bv lv : Value} (h : TFr w w' tb o bv lv) (ht : TenAt w tb o x nv bv lv) {b : Nat} {cs : Array Value} {t : TypeId} (hb : Blk w b cs t) (h1 : t ≠ 84) (h2 : t ≠ 58) (h3 : t ≠ 56) : Blk w' b cs t := by
  refine hb.of_block (h.kept.block _ hb.lt ?_)
  obtain ⟨c1, q1, _⟩ := ht.slot
  intro q
  rcases q with q | q | q
  · exact hb.ne q1 h1 q
  · obtain ⟨c2, q2⟩ := ht.box.blk q.symm
    exact hb.ne q2 h2 rfl
  · exact hb.ne_own ht.log h3 q
theorem TFr.own {w w' : World} {tb o : Nat} {x : Tn} {nv bv lv : Value} (h : TFr w w' tb o bv lv) (ht : TenAt w tb o x nv bv lv) {base : Nat} {t : TypeId} {size : Nat} {v : Value} {n : Nat} {xs : List Value} (ho : w.ownsRow base t size v n xs) (h1 : t ≠ 84) (h2 : t ≠ 58) (h3 : t ≠ 56) : w'.ownsRow base t size v n xs := by
  refine own_block ho fun k hk => ?_
  obtain ⟨cur, hb⟩ := own_blk ho hk
  have hb' := h.blk ht hb h1 h2 h3
  unfold Blk at hb hb'
  rw [hb, hb']

theorem sendCells_at : ∀ (l : List (Int × Int)) (i : Nat) (x : Int × Int), l[i]? = some x → (sendCells l)[i * 2]? = some (.int .u8 x.1) ∧ (sendCells l)[i * 2 + 1]? = some (.int .u16 x.2)
  | [], i, x, h => by simp at h
  | y :: r, 0, x, h => by simp at h; subst h; simp [sendCells]
  | y :: r, i + 1, x, h => by
    have := sendCells_at r i x (by simpa using h)
    simp only [sendCells, List.flatMap_cons] at *
    rw [show (i + 1) * 2 = i * 2 + 2 by omega]
    simpa using this
theorem sendCells_snoc (l : List (Int × Int)) (x : Int × Int) : sendCells (l ++ [x]) = sendCells l ++ [.int .u8 x.1, .int .u16 x.2] := by simp [sendCells]

theorem own_shAt {w : World} {base : Nat} {ao : Option Addr} {cap : Nat} {l : List (Int × ByteArray)} (h : w.ownsRow base 129 2 (.slice ao l.length cap) l.length (showCells l)) : Tr.ShAt w ao l := by
  by_cases h0 : l = []
  · exact Or.inl h0
  · right
    rcases h.2 with ⟨_, hn⟩ | ⟨g, cp, cur, hv, _, hh, _⟩
    · exact absurd (List.eq_nil_of_length_eq_zero hn) h0
    · simp only [Value.slice.injEq] at hv
      obtain ⟨rfl, _, rfl⟩ := hv
      refine ⟨g, 0, rfl, lt_of_block hh, ?_⟩
      intro i y hy
      obtain ⟨s0, s1⟩ := showCells_at l i y hy
      obtain ⟨g', e, c0, c1⟩ := own_pair h s0 s1
      simp only [Option.some.injEq, Addr.mk.injEq, and_true] at e
      subst e
      rw [Nat.zero_add]
      exact ⟨c0, c1⟩

/-- What goes out of what is sent, and what the log says of the rest. -/
def goes (pub : Int) (s : Int × Int) : Bool := bitOf pub s.1
def Tn.sift (x : Tn) (n : Int) (l : List (Int × Int)) : Tn := l.foldl (fun y s => if goes y.pub s then y else y.note n 1 s.1 s.2) x
/-- A run without a fault. -/
def Tn.finish (x : Tn) (n : Int) (ev : Ev) (cells : List Int) (shows : List (Int × ByteArray)) (sends : List (Int × Int)) : Tn :=
  (((({ x with cells := cells } : Tn).show shows).note n 0 ev.what ev.arg).sift n sends)

theorem sift_pub (x : Tn) (n : Int) : ∀ l : List (Int × Int), (x.sift n l).pub = x.pub := by
  intro l
  unfold Tn.sift
  induction l generalizing x with
  | nil => rfl
  | cons s r ih =>
    rw [List.foldl_cons, ih]
    split <;> rfl
theorem sift_log (x : Tn) (n : Int) : ∀ l : List (Int × Int), (x.sift n l).log.length ≤ x.log.length + l.length := by
  intro l
  unfold Tn.sift
  induction l generalizing x with
  | nil => simp
  | cons s r ih =>
    rw [List.foldl_cons]
    refine Nat.le_trans (ih _) ?_
    split
    · simp
    · simp [Tn.note]; omega
theorem sift_step (x : Tn) (n : Int) {l : List (Int × Int)} {k : Nat} {s : Int × Int} (hs : l[k]? = some s) : x.sift n (l.take (k + 1)) = if goes x.pub s then x.sift n (l.take k) else (x.sift n (l.take k)).note n 1 s.1 s.2 := by
  have h := sift_pub x n (l.take k)
  unfold Tn.sift at *
  rw [List.take_add_one, hs]
  simp only [Option.toList_some, List.foldl_append, List.foldl_cons, List.foldl_nil]
  rw [h]
theorem filter_step {p : Int × Int → Bool} {l : List (Int × Int)} {k : Nat} {s : Int × Int} (hs : l[k]? = some s) : (l.take (k + 1)).filter p = (l.take k).filter p ++ (if p s then [s] else []) := by
  rw [List.take_add_one, hs, List.filter_append]
  cases hp : p s <;> simp [hp]
end Go.Proofs.Ytidaflmmldefcaa
