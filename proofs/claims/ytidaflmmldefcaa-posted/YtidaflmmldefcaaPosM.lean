/-
  One that sends, one that hears: plain mathematics.
-/
import Derived.Test.YtidaflmmldefcaaApM
namespace Go.Proofs.Ytidaflmmldefcaa
open Go.RowKit
set_option linter.unusedVariables false

def codeA : Nat → List (Int × Int)
  | 0 => []
  | n + 1 => codeA n ++ [(19, 0), (25, 2)]
def codeB : List (Int × Int) := [(20, 0), (3, 1)]
def progA (n : Nat) : ByteArray := encS (2 * n) (codeA n)
def progB : ByteArray := encS 2 codeB

theorem four {n : Nat} (h1 : 1 ≤ n) (h4 : n ≤ 4) : n = 1 ∨ n = 2 ∨ n = 3 ∨ n = 4 := by omega
theorem codeA_length : ∀ n, (codeA n).length = 2 * n
  | 0 => rfl
  | n + 1 => by unfold codeA; rw [List.length_append, codeA_length n]; simp; omega
theorem codeA_ok {n : Nat} (h1 : 1 ≤ n) (h4 : n ≤ 4) : H.okFrom (2 * n) 0 (codeA n) = true := by
  rcases four h1 h4 with rfl | rfl | rfl | rfl <;> decide +kernel
theorem codeB_ok : H.okFrom 2 0 codeB = true := by decide +kernel
theorem progA_is {n : Nat} (h1 : 1 ≤ n) (h4 : n ≤ 4) : progA n = strOfNums (H.encAll (codeA n)) := by unfold progA encS; rw [if_pos (codeA_ok h1 h4)]
theorem progB_is : progB = strOfNums (H.encAll codeB) := by unfold progB encS; rw [if_pos codeB_ok]
theorem progA_decode {n : Nat} (h1 : 1 ≤ n) (h4 : n ≤ 4) : H.decode (H.bts (progA n)) = (codeA n, 0, 0) := by
  have hb : H.bts (progA n) = H.encAll (codeA n) := by
    rw [progA_is h1 h4]
    refine bts_strOfNums _ ?_
    rcases four h1 h4 with rfl | rfl | rfl | rfl <;> decide +kernel
  rw [hb]
  have hl := codeA_length n
  exact H.decode_enc (codeA n) (by omega) (by omega) (by rw [hl]; exact codeA_ok h1 h4)
theorem progB_decode : H.decode (H.bts progB) = (codeB, 0, 0) := by
  have hb : H.bts progB = H.encAll codeB := by
    rw [progB_is]
    exact bts_strOfNums _ (by decide +kernel)
  rw [hb]
  exact H.decode_enc codeB (by decide) (by decide) codeB_ok
theorem progA_size {n : Nat} (h1 : 1 ≤ n) (h4 : n ≤ 4) : (progA n).size ≤ 200 := by
  rw [progA_is h1 h4]
  rcases four h1 h4 with rfl | rfl | rfl | rfl <;> decide +kernel
theorem progB_size : progB.size ≤ 200 := by
  rw [progB_is]
  decide +kernel

theorem run_A {n : Nat} (h1 : 1 ≤ n) (h4 : n ≤ 4) (cells : List Int) (what arg src route : Int) (ds : List Int) : H.run (H.bts (progA n)) cells { fuel := 8, what := what, arg := arg, src := src, route := route, draws := ds } = { fault := 0, steps := 2 * n, draws := 0, cells := cells, shows := [], sends := List.replicate n (2, arg), err := 0 } := by
  unfold H.run
  rw [progA_decode h1 h4]
  rcases four h1 h4 with rfl | rfl | rfl | rfl <;> kernel_rfl
theorem run_B (cells : List Int) (what arg src route : Int) (ds : List Int) : H.run (H.bts progB) cells { fuel := 2, what := what, arg := arg, src := src, route := route, draws := ds } = { fault := 0, steps := 2, draws := 0, cells := cells.set 1 src, shows := [], sends := [], err := 0 } := by
  unfold H.run
  rw [progB_decode]
  kernel_rfl

def mfA (n : Nat) : Mf := ⟨progA n, 8, 1, 4, 0, 1, 1⟩
def mfB (s : Int) : Mf := ⟨progB, 2, 1, 0, 12, s, 1⟩
theorem mfA_good {n : Nat} (h1 : 1 ≤ n) (h4 : n ≤ 4) : (mfA n).good where
  size := by
    have e : (mfA n).prog = progA n := rfl
    rw [e]
    exact Nat.le_trans (progA_size h1 h4) (by decide)
  code := by
    have e : (mfA n).prog = progA n := rfl
    rw [e, progA_decode h1 h4]
  fuel := (by decide : (1 : Int) ≤ 8 ∧ (8 : Int) ≤ 1000)
  routes := (by decide : (0 : Int) ≤ 1 ∧ (1 : Int) < 16)
  pub := (by decide : (0 : Int) ≤ 4 ∧ (4 : Int) < 16)
  sub := (by decide : (0 : Int) ≤ 0 ∧ (0 : Int) < 16)
  share := (by decide : (1 : Int) ≤ 1 ∧ (1 : Int) ≤ 3)
  back := (by decide : (1 : Int) ≤ 1 ∧ (1 : Int) ≤ 8)
theorem mfB_good {s : Int} (h : 1 ≤ s ∧ s ≤ 3) : (mfB s).good where
  size := by
    have e : (mfB s).prog = progB := rfl
    rw [e]
    exact Nat.le_trans progB_size (by decide)
  code := by
    have e : (mfB s).prog = progB := rfl
    rw [e, progB_decode]
  fuel := (by decide : (1 : Int) ≤ 2 ∧ (2 : Int) ≤ 1000)
  routes := (by decide : (0 : Int) ≤ 1 ∧ (1 : Int) < 16)
  pub := (by decide : (0 : Int) ≤ 0 ∧ (0 : Int) < 16)
  sub := (by decide : (0 : Int) ≤ 12 ∧ (12 : Int) < 16)
  share := h
  back := (by decide : (1 : Int) ≤ 1 ∧ (1 : Int) ≤ 8)

/-! ### The log -/
/-- What was got, the last of it, what was lost. -/
structure Tally where
  got : Nat
  last : Int
  lost : Nat
def isLost (e : En) : Bool := e.kind == 3 && e.a == 2
def isGot (e : En) : Bool := e.kind == 0 && e.a == 2
def tally1 (t : Tally) (e : En) : Tally := if isLost e then { t with lost := t.lost + 1 } else if isGot e then { t with got := t.got + 1, last := e.b } else t
def tally (l : List En) : Tally := l.foldl tally1 ⟨0, 0, 0⟩
theorem tally_snoc (l : List En) (e : En) : tally (l ++ [e]) = tally1 (tally l) e := by unfold tally; rw [List.foldl_append]; rfl
/-- What was got came in its order, and not ahead of its time. -/
def InOrder (l : List En) : Prop := ∀ k e, l[k]? = some e → isLost e = false → isGot e = true → (tally (l.take k)).last ≤ e.b ∧ e.b ≤ e.frame ∧ 0 ≤ e.b ∧ e.frame ≤ 1000
theorem InOrder.snoc {l : List En} (h : InOrder l) (e : En) (he : isLost e = false → isGot e = true → (tally l).last ≤ e.b ∧ e.b ≤ e.frame ∧ 0 ≤ e.b ∧ e.frame ≤ 1000) : InOrder (l ++ [e]) := by
  intro k x hx h1 h2
  by_cases hk : k < l.length
  · rw [List.getElem?_append_left hk] at hx
    rw [List.take_append_of_le_length (by omega)]
    exact h k x hx h1 h2
  · rw [List.getElem?_append_right (by omega)] at hx
    have hkl : k = l.length := by
      have := (List.getElem?_eq_some_iff.1 hx).1
      simp at this
      omega
    subst hkl
    rw [Nat.sub_self] at hx
    simp at hx
    subst hx
    rw [List.take_append_of_le_length (Nat.le_refl _), List.take_length]
    exact he h1 h2

def msgEv (v : Int) : Ev := ⟨2, 1, v, 2⟩
/-- The one that sends. -/
structure PA (n : Nat) (x : Tn) : Prop where
  prog : x.prog = progA n
  fuel : x.fuel = 8
  routes : x.routes = 1
  pub : x.pub = 4
  sub : x.sub = 0
  phase : x.phase = 1
  nodes : x.nodes = []
  box : x.box = []
/-- The one that hears: vals wait, q were sent to it. -/
structure PB (s : Int) (f q : Nat) (vals : List Int) (x : Tn) : Prop where
  prog : x.prog = progB
  fuel : x.fuel = 2
  routes : x.routes = 1
  pub : x.pub = 0
  sub : x.sub = 12
  share : x.share = s
  phase : x.phase = 1
  nodes : x.nodes = []
  box : x.box = vals.map msgEv
  few : (vals.length : Int) ≤ s
  sorted : vals.Pairwise (· ≤ ·)
  upto : ∀ v ∈ vals, v ≤ f
  from_ : ∀ v ∈ vals, (tally x.log).last ≤ v
  last : 0 ≤ (tally x.log).last ∧ (tally x.log).last ≤ f
  order : InOrder x.log
  all : (tally x.log).got + (tally x.log).lost + vals.length = q

theorem planO_nil : Tr.T.planO [] [] = [] := by decide +kernel
theorem bit10 : bitOf 1 0 = true := by decide
theorem bit42 : bitOf 4 2 = true := by decide
theorem bit122 : bitOf 12 2 = true := by decide
theorem filter_rep (n : Nat) (v : Int) : (List.replicate n ((2 : Int), v)).filter (goes 4) = List.replicate n (2, v) := by
  rw [List.filter_eq_self]
  intro y hy
  obtain ⟨_, rfl⟩ := List.mem_replicate.1 hy
  exact bit42

theorem PA.come {n : Nat} {x : Tn} (h : PA n x) (m : Int) : x.come m 0 = x := by
  unfold Tn.come
  rw [h.routes, bit10]
  exact come_b1 h.phase
theorem PB.come {s : Int} {f q : Nat} {vals : List Int} {x : Tn} (h : PB s f q vals x) (m : Int) : x.come m 0 = x := by
  unfold Tn.come
  rw [h.routes, bit10]
  exact come_b1 h.phase

theorem sift_all (m : Int) : ∀ (l : List (Int × Int)) (y : Tn), (∀ z ∈ l, goes y.pub z = true) → y.sift m l = y
  | [], y, _ => rfl
  | a :: r, y, hy => by
    have e1 : y.sift m (a :: r) = (if goes y.pub a then y else y.note m 1 a.1 a.2).sift m r := rfl
    rw [e1, if_pos (hy a (by simp))]
    exact sift_all m r y (fun z hz => hy z (by simp [hz]))
theorem turn_A {n : Nat} (h1 : 1 ≤ n) (h4 : n ≤ 4) {x : Tn} (hp : x.prog = progA n) (hf : x.fuel = 8) (hpub : x.pub = 4) (hph : x.phase = 1) (hn : x.nodes = []) (m : Int) (ds : List Int) : (x.turn m 0 ds).prog = x.prog ∧ (x.turn m 0 ds).fuel = x.fuel ∧ (x.turn m 0 ds).routes = x.routes ∧ (x.turn m 0 ds).pub = x.pub ∧ (x.turn m 0 ds).sub = x.sub ∧ (x.turn m 0 ds).phase = x.phase ∧ (x.turn m 0 ds).nodes = [] ∧ (x.turn m 0 ds).box = x.box.tail ∧ x.gives m 0 ds = List.replicate n (2, (x.nextEv m).arg) := by
  have ho : x.out m 0 ds = { fault := 0, steps := 2 * n, draws := 0, cells := x.cells, shows := [], sends := List.replicate n (2, (x.nextEv m).arg), err := 0 } := by
    unfold Tn.out Tn.inp
    rw [hp, hf]
    exact run_A h1 h4 _ _ _ _ _ _
  have hg : (List.replicate n ((2 : Int), (x.nextEv m).arg)).filter (goes x.pub) = List.replicate n (2, (x.nextEv m).arg) := by rw [hpub]; exact filter_rep n _
  unfold Tn.turn Tn.gives
  rw [if_pos hph, if_pos hph]
  unfold Tn.handle Tn.sent
  rw [ho]
  simp only
  rw [if_pos trivial, if_pos trivial]
  unfold Tn.finish
  rw [sift_all]
  · refine ⟨rfl, rfl, rfl, rfl, rfl, rfl, ?_, rfl, hg⟩
    show Tr.T.planO x.nodes [] = []
    rw [hn]
    exact planO_nil
  · intro z hz
    obtain ⟨_, rfl⟩ := List.mem_replicate.1 hz
    show goes x.pub _ = true
    rw [hpub]
    exact bit42
theorem PA.turn {n : Nat} (h1 : 1 ≤ n) (h4 : n ≤ 4) {x : Tn} (h : PA n x) (m : Int) (ds : List Int) : PA n (x.turn m 0 ds) ∧ x.gives m 0 ds = List.replicate n (2, m % 65536) := by
  obtain ⟨a1, a2, a3, a4, a5, a6, a7, a8, a9⟩ := turn_A h1 h4 h.prog h.fuel h.pub h.phase h.nodes m ds
  have e : x.nextEv m = ⟨3, 0, m % 65536, 0⟩ := by unfold Tn.nextEv; rw [h.box]
  rw [e] at a9
  refine ⟨⟨a1.trans h.prog, a2.trans h.fuel, a3.trans h.routes, a4.trans h.pub, a5.trans h.sub, a6.trans h.phase, a7, ?_⟩, a9⟩
  rw [a8, h.box]
  rfl

theorem out_B {x : Tn} (hp : x.prog = progB) (hf : x.fuel = 2) (m : Int) (ds : List Int) : x.out m 0 ds = { fault := 0, steps := 2, draws := 0, cells := x.cells.set 1 (x.nextEv m).src, shows := [], sends := [], err := 0 } := by
  unfold Tn.out Tn.inp
  rw [hp, hf]
  exact run_B _ _ _ _ _ _
theorem turn_B {x : Tn} (hp : x.prog = progB) (hf : x.fuel = 2) (hph : x.phase = 1) (hn : x.nodes = []) (m : Int) (ds : List Int) : x.turn m 0 ds = { x with cells := x.cells.set 1 (x.nextEv m).src, box := x.box.tail, nodes := [], log := x.log ++ [⟨m, 0, (x.nextEv m).what, (x.nextEv m).arg⟩] } ∧ x.gives m 0 ds = [] := by
  have ho := out_B hp hf m ds
  unfold Tn.turn Tn.gives
  rw [if_pos hph, if_pos hph]
  unfold Tn.handle Tn.sent
  rw [ho]
  simp only
  rw [if_pos trivial, if_pos trivial]
  refine ⟨?_, rfl⟩
  unfold Tn.finish Tn.show Tn.note Tn.popBox
  have e : (({ x with box := x.box.tail } : Tn)).nodes = [] := hn
  simp only [hn, planO_nil]
  rfl

theorem PB.turn {s : Int} {f q : Nat} {vals : List Int} {x : Tn} (h : PB s f q vals x) (hf : f ≤ 900) (ds : List Int) : ∃ vals', PB s (f + 1) q vals' (x.turn ((f : Int) + 1) 0 ds) ∧ x.gives ((f : Int) + 1) 0 ds = [] := by
  obtain ⟨e1, e2⟩ := turn_B h.prog h.fuel h.phase h.nodes ((f : Int) + 1) ds
  rw [e1, e2]
  have hl := h.last
  cases vals with
  | nil =>
    have hn : x.nextEv ((f : Int) + 1) = ⟨3, 0, ((f : Int) + 1) % 65536, 0⟩ := by unfold Tn.nextEv; rw [h.box]; rfl
    have ht : tally (x.log ++ [⟨(f : Int) + 1, 0, 3, ((f : Int) + 1) % 65536⟩]) = tally x.log := by rw [tally_snoc]; rfl
    refine ⟨[], ?_, rfl⟩
    rw [hn]
    refine ⟨h.prog, h.fuel, h.routes, h.pub, h.sub, h.share, h.phase, rfl, ?_, h.few, h.sorted, fun v hv => by simp at hv, fun v hv => by simp at hv, ?_, ?_, ?_⟩
    · show x.box.tail = _
      rw [h.box]
      rfl
    · show 0 ≤ (tally (x.log ++ [_])).last ∧ (tally (x.log ++ [_])).last ≤ _
      rw [ht]
      omega
    · exact h.order.snoc _ (fun _ h2 => by simp [isGot] at h2)
    · show (tally (x.log ++ [_])).got + (tally (x.log ++ [_])).lost + _ = q
      rw [ht]
      exact h.all
  | cons v r =>
    have hn : x.nextEv ((f : Int) + 1) = msgEv v := by unfold Tn.nextEv; rw [h.box]; rfl
    have ht : tally (x.log ++ [⟨(f : Int) + 1, 0, 2, v⟩]) = { tally x.log with got := (tally x.log).got + 1, last := v } := by rw [tally_snoc]; rfl
    have hv1 := h.upto v (by simp)
    have hv2 := h.from_ v (by simp)
    have hso := h.sorted
    rw [List.pairwise_cons] at hso
    have hfew := h.few
    have hall := h.all
    simp only [List.length_cons] at hfew hall
    refine ⟨r, ?_, rfl⟩
    rw [hn]
    refine ⟨h.prog, h.fuel, h.routes, h.pub, h.sub, h.share, h.phase, rfl, ?_, by omega, hso.2, fun z hz => ?_, fun z hz => ?_, ?_, ?_, ?_⟩
    · show x.box.tail = _
      rw [h.box]
      rfl
    · have := h.upto z (by simp [hz])
      omega
    · show (tally (x.log ++ [_])).last ≤ z
      have e3 : (tally (x.log ++ [(⟨(f : Int) + 1, 0, 2, v⟩ : En)])).last = v := by rw [ht]
      exact (by rw [e3]; exact hso.1 z hz : (tally (x.log ++ [(⟨(f : Int) + 1, 0, 2, v⟩ : En)])).last ≤ z)
    · have e3 : (tally (x.log ++ [(⟨(f : Int) + 1, 0, 2, v⟩ : En)])).last = v := by rw [ht]
      show 0 ≤ (tally (x.log ++ [(⟨(f : Int) + 1, 0, 2, v⟩ : En)])).last ∧ (tally (x.log ++ [(⟨(f : Int) + 1, 0, 2, v⟩ : En)])).last ≤ _
      rw [e3]
      omega
    · refine h.order.snoc _ (fun _ _ => ?_)
      show (tally x.log).last ≤ v ∧ v ≤ (f : Int) + 1 ∧ 0 ≤ v ∧ (f : Int) + 1 ≤ 1000
      omega
    · show (tally (x.log ++ [(⟨(f : Int) + 1, 0, 2, v⟩ : En)])).got + (tally (x.log ++ [(⟨(f : Int) + 1, 0, 2, v⟩ : En)])).lost + r.length = q
      rw [ht]
      show (tally x.log).got + 1 + (tally x.log).lost + r.length = q
      omega

theorem waiting_map (vals : List Int) : (vals.map msgEv).countP (isMsg 1) = vals.length := by
  induction vals with
  | nil => rfl
  | cons v r ih => rw [List.map_cons, List.countP_cons, ih]; simp [isMsg, msgEv]

/-- A letter comes. -/
theorem PB.get {s : Int} {f q : Nat} {vals : List Int} {x : Tn} (h : PB s f q vals x) (m v : Int) (hlast : (tally x.log).last ≤ v) (hle : ∀ z ∈ vals, z ≤ v) (hvf : v ≤ f) : ∃ vals', PB s f (q + 1) vals' (x.get 1 m (0, 2, v)) ∧ (∀ z ∈ vals', z ≤ v) ∧ (tally (x.get 1 m (0, 2, v)).log).last ≤ v := by
  have e0 : x.get 1 m (0, 2, v) = x.receive m 0 2 v := by
    unfold Tn.get
    rw [if_neg (by simp only; decide)]
  rw [e0]
  unfold Tn.receive
  have hw : x.waiting (0 + 1) = vals.length := by
    unfold Tn.waiting
    rw [h.box]
    exact waiting_map vals
  rw [if_pos ⟨h.phase, by rw [h.sub]; exact bit122⟩, hw, h.share]
  have hall := h.all
  by_cases hs : s ≤ (vals.length : Int)
  · rw [if_pos hs]
    have ht : tally (x.log ++ [⟨m, 3, 2, v⟩]) = { tally x.log with lost := (tally x.log).lost + 1 } := by rw [tally_snoc]; rfl
    refine ⟨vals, ⟨h.prog, h.fuel, h.routes, h.pub, h.sub, h.share, h.phase, h.nodes, h.box, h.few, h.sorted, h.upto, ?_, ?_, ?_, ?_⟩, hle, ?_⟩
    · intro z hz
      show (tally (x.log ++ [_])).last ≤ z
      rw [ht]
      exact h.from_ z hz
    · show 0 ≤ (tally (x.log ++ [_])).last ∧ (tally (x.log ++ [_])).last ≤ _
      rw [ht]
      exact h.last
    · exact h.order.snoc _ (fun h1 _ => by simp [isLost] at h1)
    · show (tally (x.log ++ [_])).got + (tally (x.log ++ [_])).lost + vals.length = q + 1
      rw [ht]
      show (tally x.log).got + ((tally x.log).lost + 1) + vals.length = q + 1
      omega
    · show (tally (x.log ++ [_])).last ≤ v
      rw [ht]
      exact hlast
  · rw [if_neg hs]
    refine ⟨vals ++ [v], ⟨h.prog, h.fuel, h.routes, h.pub, h.sub, rfl, h.phase, h.nodes, ?_, ?_, ?_, ?_, ?_, h.last, h.order, ?_⟩, ?_, hlast⟩
    · show x.box ++ [⟨2, 0 + 1, v, 2⟩] = _
      rw [h.box, List.map_append]
      rfl
    · rw [List.length_append]
      simp
      omega
    · rw [List.pairwise_append]
      refine ⟨h.sorted, by simp, fun a ha b hb => ?_⟩
      rw [List.mem_singleton] at hb
      subst hb
      exact hle a ha
    · intro z hz
      rcases List.mem_append.1 hz with hz | hz
      · exact h.upto z hz
      · rw [List.mem_singleton] at hz
        subst hz
        exact hvf
    · intro z hz
      rcases List.mem_append.1 hz with hz | hz
      · exact h.from_ z hz
      · rw [List.mem_singleton] at hz
        subst hz
        exact hlast
    · rw [List.length_append]
      simp
      omega
    · intro z hz
      rcases List.mem_append.1 hz with hz | hz
      · exact hle z hz
      · rw [List.mem_singleton] at hz
        subst hz
        exact Int.le_refl _
theorem PB.gets {s : Int} {f : Nat} (m v : Int) (hvf : v ≤ f) : ∀ (n q : Nat) (vals : List Int) (x : Tn), PB s f q vals x → (tally x.log).last ≤ v → (∀ z ∈ vals, z ≤ v) → ∃ vals', PB s f (q + n) vals' ((List.replicate n ((0 : Int), (2 : Int), v)).foldl (fun y L => y.get 1 m L) x)
  | 0, q, vals, x, h, _, _ => ⟨vals, h⟩
  | n + 1, q, vals, x, h, hl, hz => by
    obtain ⟨vals', h', hz', hl'⟩ := h.get m v hl hz hvf
    rw [List.replicate_succ, List.foldl_cons, show q + (n + 1) = q + 1 + n by omega]
    exact PB.gets m v hvf n (q + 1) vals' _ h' hl' hz'

/-- Both, behind f frames. -/
structure Post (n : Nat) (s : Int) (f : Nat) (H : Hs) : Prop where
  route : H.route = 0
  frames : H.frames = f
  len : H.ts.length = 2
  one : ∃ x, H.ts[0]? = some x ∧ PA n x
  two : ∃ x vals, H.ts[1]? = some x ∧ PB s f (n * f) vals x

theorem letters_rep (n : Nat) (v : Int) : lettersOf 0 (List.replicate n (2, v)) = List.replicate n ((0 : Int), (2 : Int), v) := by
  unfold lettersOf
  rw [List.map_replicate]
  rfl
theorem get_own (m v : Int) : ∀ (n : Nat) (x : Tn), (List.replicate n ((0 : Int), (2 : Int), v)).foldl (fun y L => y.get 0 m L) x = x
  | 0, x => rfl
  | n + 1, x => by
    rw [List.replicate_succ, List.foldl_cons]
    have e : x.get 0 m (0, 2, v) = x := by unfold Tn.get; rw [if_pos (show ((0 : Nat) : Int) = ((0 : Int), (2 : Int), v).1 from rfl)]
    rw [e]
    exact get_own m v n x
theorem frame_post {H : Hs} {a b a' b' : Tn} {n : Nat} {v : Int} (hr : H.route = 0) (h200 : H.frames < 200) (hl : H.ts.length = 2) (ha : H.ts[0]? = some a) (hb : H.ts[1]? = some b)
    (ea : (a.come (H.frames + 1) 0).turn (H.frames + 1) 0 [] = a') (eb : (b.come (H.frames + 1) 0).turn (H.frames + 1) 0 [] = b') (ga : (a.come (H.frames + 1) 0).gives (H.frames + 1) 0 [] = List.replicate n (2, v)) (gb : (b.come (H.frames + 1) 0).gives (H.frames + 1) 0 [] = []) :
    (H.frame []).ts[0]? = some a' ∧ (H.frame []).ts[1]? = some ((List.replicate n ((0 : Int), (2 : Int), v)).foldl (fun y L => y.get 1 (H.frames + 1) L) b') ∧ (H.frame []).ts.length = 2 ∧ (H.frame []).route = 0 ∧ (H.frame []).frames = H.frames + 1 := by
  have c0 : H.came[0]? = some (a.come (H.frames + 1) 0) := by unfold Hs.came; rw [List.getElem?_mapIdx, ha, hr]; rfl
  have c1 : H.came[1]? = some (b.come (H.frames + 1) 0) := by unfold Hs.came; rw [List.getElem?_mapIdx, hb, hr]; rfl
  have hd : ∀ i, drawsOf [] i = [] := fun i => by simp [drawsOf]
  have t0 : (H.turned [])[0]? = some a' := by unfold Hs.turned; rw [List.getElem?_mapIdx, c0, hr, hd]; simp only [Option.map_some]; rw [ea]
  have t1 : (H.turned [])[1]? = some b' := by unfold Hs.turned; rw [List.getElem?_mapIdx, c1, hr, hd]; simp only [Option.map_some]; rw [eb]
  have hp : H.post [] = List.replicate n ((0 : Int), (2 : Int), v) := by
    unfold Hs.post
    rw [hl]
    show postTo H.came (H.frames + 1) H.route [] 2 = _
    unfold postTo
    unfold postTo
    unfold postTo
    rw [c0, c1, hr]
    simp only
    rw [hd, hd, ga, gb, letters_rep]
    simp [lettersOf]
  unfold Hs.frame
  rw [if_neg (by omega)]
  refine ⟨?_, ?_, ?_, hr, rfl⟩
  · show ((H.post []).foldl (deliver (H.frames + 1)) (H.turned []))[0]? = _
    rw [fold_get, t0, hp]
    simp only [Option.map_some]
    rw [get_own]
  · show ((H.post []).foldl (deliver (H.frames + 1)) (H.turned []))[1]? = _
    rw [fold_get, t1, hp]
    rfl
  · show ((H.post []).foldl (deliver (H.frames + 1)) (H.turned [])).length = 2
    rw [delivers_length]
    simpa [Hs.turned, Hs.came] using hl

theorem Post.frame {n : Nat} (h1 : 1 ≤ n) (h4 : n ≤ 4) {s : Int} {f : Nat} {H : Hs} (h : Post n s f H) (hf : f < 200) : Post n s (f + 1) (H.frame []) := by
  obtain ⟨a, ha, pa⟩ := h.one
  obtain ⟨b, vals, hb, pb⟩ := h.two
  have hfr := h.frames
  have a1 := pa.turn h1 h4 (H.frames + 1) []
  obtain ⟨vals', b1, b2⟩ := pb.turn (by omega) []
  rw [← hfr] at b1 b2
  have hv : (H.frames + 1) % 65536 = H.frames + 1 := by omega
  rw [hv] at a1
  obtain ⟨q0, q1, q2, q3, q4⟩ := frame_post (n := n) (v := H.frames + 1) h.route (by omega) h.len ha hb (by rw [pa.come]) (by rw [pb.come]) (by rw [pa.come]; exact a1.2) (by rw [pb.come]; exact b2)
  have hvf : H.frames + 1 ≤ ((f + 1 : Nat) : Int) := by omega
  obtain ⟨vals2, b3⟩ := PB.gets (H.frames + 1) (H.frames + 1) hvf n (n * f) vals' _ b1 (by have := b1.last.2; omega) (fun z hz => by have := b1.upto z hz; omega)
  refine ⟨q3, by rw [q4, hfr]; rfl, q2, ⟨_, q0, a1.1⟩, ⟨_, vals2, q1, ?_⟩⟩
  have e : n * (f + 1) = n * f + n := Nat.mul_succ n f
  rw [e]
  exact b3

theorem Post.opened {n : Nat} (h1 : 1 ≤ n) (h4 : n ≤ 4) {s : Int} (hs : 1 ≤ s ∧ s ≤ 3) : Post n s 1 (openHs [mfA n, mfB s]) := by
  have ea : (mfA n).tn.come 1 0 = (mfA n).tn.start 0 := by
    unfold Tn.come
    rw [show (mfA n).tn.routes = 1 from rfl, bit10]
    exact come_c1 rfl
  have eb : (mfB s).tn.come 1 0 = (mfB s).tn.start 0 := by
    unfold Tn.come
    rw [show (mfB s).tn.routes = 1 from rfl, bit10]
    exact come_c1 rfl
  obtain ⟨a1, a2, a3, a4, a5, a6, a7, a8, a9⟩ := turn_A h1 h4 (x := (mfA n).tn.start 0) rfl rfl rfl rfl rfl 1 []
  obtain ⟨b1, b2⟩ := turn_B (x := (mfB s).tn.start 0) rfl rfl rfl rfl 1 []
  have hpb : PB s 1 0 [] (((mfB s).tn.start 0).turn 1 0 []) := by
    rw [b1]
    refine ⟨rfl, rfl, rfl, rfl, rfl, rfl, rfl, rfl, rfl, by simp; omega, List.Pairwise.nil, fun v hv => by simp at hv, fun v hv => by simp at hv, ?_, ?_, rfl⟩
    · exact (by decide : (0 : Int) ≤ 0 ∧ (0 : Int) ≤ 1)
    · intro k e he h1 h2
      have hk : k = 0 := by
        have := (List.getElem?_eq_some_iff.1 he).1
        simp [Tn.start, Mf.tn] at this
        omega
      subst hk
      have : e = ⟨1, 0, 0, 0⟩ := by
        have q : ([(⟨1, 0, 0, 0⟩ : En)])[0]? = some e := he
        simpa using q.symm
      subst this
      simp [isGot] at h2
  obtain ⟨q0, q1, q2, q3, q4⟩ := frame_post (H := newHs [mfA n, mfB s]) (n := n) (v := 0) rfl (show (0 : Int) < 200 by decide) rfl (a := (mfA n).tn) (b := (mfB s).tn) rfl rfl rfl rfl (by show ((mfA n).tn.come 1 0).gives 1 0 [] = _; rw [ea]; exact a9) (by show ((mfB s).tn.come 1 0).gives 1 0 [] = _; rw [eb]; exact b2)
  have hl0 : (tally (((mfB s).tn.start 0).turn 1 0 []).log).last ≤ 0 := by
    rw [b1]
    exact Int.le_refl _
  obtain ⟨vals2, b3⟩ := PB.gets (s := s) (f := 1) (0 + 1) 0 (by decide) n 0 [] _ hpb hl0 (fun z hz => by simp at hz)
  refine ⟨q3, q4, q2, ⟨_, q0, ?_⟩, ⟨_, vals2, q1, ?_⟩⟩
  · show PA n (((mfA n).tn.come 1 0).turn 1 0 [])
    rw [ea]
    refine ⟨a1, a2, a3, a4, a5, a6, a7, ?_⟩
    rw [a8]
    rfl
  · show PB s 1 (n * 1) vals2 ((List.replicate n ((0 : Int), (2 : Int), (0 : Int))).foldl (fun y L => y.get 1 (0 + 1) L) (((mfB s).tn.come 1 0).turn 1 0 []))
    rw [eb, Nat.mul_one]
    have e : 0 + n = n := Nat.zero_add n
    rw [e] at b3
    exact b3
end Go.Proofs.Ytidaflmmldefcaa
