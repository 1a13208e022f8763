/-
  What a tenant keeps to, whatever is done: plain mathematics.
-/
import Derived.Test.YtidaflmmldefcaaFrM
import Derived.Test.YtidaflmmldefcaaNewA
namespace Go.Proofs.Ytidaflmmldefcaa
open Go.RowKit
set_option linter.unusedVariables false

def Tn.mf (x : Tn) : Mf := ⟨x.prog, x.fuel, x.routes, x.pub, x.sub, x.share, x.back⟩
def isStart (e : Ev) : Bool := e.what == 0
/-- One gets what the other sends. -/
def linked (p q : Int) : Prop := ∃ k : Int, (0 ≤ k ∧ k ≤ 3) ∧ bitOf p k = true ∧ bitOf q k = true

/-- What an event in the box of the i-th may be. -/
def evGood (ms : List Mf) (i : Nat) (e : Ev) : Prop :=
  e.ok ∧ ((e.what = 0 ∧ e.by_ = 0) ∨ (e.what = 1 ∧ e.by_ = 0) ∨ (e.what = 2 ∧ ∃ (s : Nat) (m m' : Mf), ms[s]? = some m ∧ ms[i]? = some m' ∧ e.by_ = (s : Int) + 1 ∧ s ≠ i ∧ linked m.pub m'.sub))

def zeros : List Int := [0, 0, 0, 0, 0, 0, 0, 0]
def bang : ByteArray := ⟨#[33]⟩

structure TnI (ms : List Mf) (i : Nat) (lim : Nat) (x : Tn) : Prop where
  mf : ms[i]? = some x.mf
  good : x.mf.good
  phase : x.phase = 0 ∨ x.phase = 1 ∨ x.phase = 2
  clen : x.cells.length = 8
  cells : InR x.cells
  nodes : Tr.ndOk x.nodes
  tree : Tr.T.isTree x.nodes = true
  nlen : x.nodes.length ≤ 8
  box : ∀ e ∈ x.box, evGood ms i e
  starts : x.box.countP isStart ≤ 1
  clicks : x.clicks ≤ 6
  msgs : ∀ b, (x.waiting b : Int) ≤ x.share
  llen : x.log.length ≤ lim
  dbl : 0 ≤ x.dbl ∧ x.dbl ≤ 4
  out : x.phase = 0 → x.cells = zeros ∧ x.nodes = [] ∧ x.box = []
  held : x.phase = 2 → (∃ id, x.nodes = [(id, 65535, bang)]) ∧ x.box = []

/-! ### The box -/
def sumTo (f : Nat → Nat) : Nat → Nat
  | 0 => 0
  | k + 1 => sumTo f k + f k
def msgsTo (l : List Ev) (k : Nat) : Nat := sumTo (fun s => l.countP (isMsg ((s : Int) + 1))) k

theorem sumTo_add (f g : Nat → Nat) : ∀ k, sumTo (fun s => f s + g s) k = sumTo f k + sumTo g k
  | 0 => rfl
  | k + 1 => by simp only [sumTo]; rw [sumTo_add f g k]; omega
theorem sumTo_one (s0 : Nat) : ∀ k, sumTo (fun s => if s = s0 then 1 else 0) k = if s0 < k then 1 else 0
  | 0 => by simp [sumTo]
  | k + 1 => by
    simp only [sumTo]
    rw [sumTo_one s0 k]
    by_cases h1 : s0 < k
    · rw [if_pos h1, if_neg (by omega), if_pos (by omega)]
    · rw [if_neg h1]
      by_cases h2 : k = s0
      · rw [if_pos h2, if_pos (by omega)]
      · rw [if_neg h2, if_neg (by omega)]
theorem sumTo_zero : ∀ k, sumTo (fun _ => 0) k = 0
  | 0 => rfl
  | k + 1 => by simp only [sumTo]; rw [sumTo_zero k]
theorem sumTo_le (f : Nat → Nat) (c : Nat) (h : ∀ s, f s ≤ c) : ∀ k, sumTo f k ≤ k * c
  | 0 => by simp [sumTo]
  | k + 1 => by
    simp only [sumTo]
    have := sumTo_le f c h k
    have := h k
    rw [Nat.add_mul]
    omega
theorem msgsTo_other (e : Ev) (r : List Ev) (h : e.what ≠ 2) (k : Nat) : msgsTo (e :: r) k = msgsTo r k := by
  unfold msgsTo
  congr 1
  funext s
  rw [List.countP_cons]
  simp [isMsg, h]
theorem msgsTo_msg (e : Ev) (r : List Ev) (h : e.what = 2) (s0 : Nat) (hs : e.by_ = (s0 : Int) + 1) (k : Nat) : msgsTo (e :: r) k = msgsTo r k + if s0 < k then 1 else 0 := by
  unfold msgsTo
  rw [← sumTo_one s0 k, ← sumTo_add]
  congr 1
  funext s
  rw [List.countP_cons]
  by_cases q : s = s0
  · subst q
    simp [isMsg, h, hs]
  · have : ¬ ((s0 : Int) + 1 = (s : Int) + 1) := by omega
    simp [isMsg, h, hs, q, this]

theorem box_sum (ms : List Mf) (i : Nat) : ∀ l : List Ev, (∀ e ∈ l, evGood ms i e) → l.length = l.countP isStart + l.countP isClick + msgsTo l ms.length
  | [], _ => by simp [msgsTo, sumTo_zero]
  | e :: r, h => by
    have ih := box_sum ms i r (fun y hy => h y (by simp [hy]))
    rw [List.length_cons, List.countP_cons, List.countP_cons]
    rcases (h e (by simp)).2 with ⟨h1, h2⟩ | ⟨h1, h2⟩ | ⟨h1, s, m, m', hm, hm', hb, _⟩
    · rw [msgsTo_other e r (by omega)]
      simp [isStart, isClick, h1]
      omega
    · rw [msgsTo_other e r (by omega)]
      simp [isStart, isClick, h1]
      omega
    · have hs := (List.getElem?_eq_some_iff.1 hm).1
      rw [msgsTo_msg e r h1 s hb, if_pos hs]
      simp [isStart, isClick, h1]
      omega

section
variable {ms : List Mf} {i lim : Nat} {x : Tn}

theorem TnI.blen (h : TnI ms i lim x) (hm : ms.length ≤ 4) : x.box.length ≤ 19 := by
  have e := box_sum ms i x.box h.box
  have h1 := h.starts
  have h2 := h.clicks
  have h3 := sumTo_le (fun s => x.box.countP (isMsg ((s : Int) + 1))) 3 (fun s => by
    have := h.msgs ((s : Int) + 1)
    have := h.good.share.2
    unfold Tn.waiting at *
    simp only [Tn.mf] at this
    omega) ms.length
  unfold msgsTo at e
  unfold Tn.clicks at h2
  omega

theorem TnI.weaken (h : TnI ms i lim x) {lim' : Nat} (hl : lim ≤ lim') : TnI ms i lim' x := { h with llen := Nat.le_trans h.llen hl }

theorem TnI.toOk (h : TnI ms i lim x) (hm : ms.length ≤ 4) (hl : lim ≤ 90000) : x.ok := by
  have g := h.good
  exact ⟨g.size, ⟨g.routes.1, by have := g.routes.2; simp only [Tn.mf] at this; omega⟩, ⟨g.pub.1, by have := g.pub.2; simp only [Tn.mf] at this; omega⟩, ⟨g.sub.1, by have := g.sub.2; simp only [Tn.mf] at this; omega⟩, ⟨by have := g.back.1; simp only [Tn.mf] at this; omega, by have := g.back.2; simp only [Tn.mf] at this; omega⟩, h.clen, h.cells, h.nodes, Nat.le_trans h.nlen (by decide), fun e he => (h.box e he).1, Nat.le_trans (h.blen hm) (by decide), Nat.le_trans h.llen hl, h.dbl⟩

theorem zeros_in : InR zeros := by intro v hv; simp [zeros] at hv; omega

theorem TnI.goOut (h : TnI ms i lim x) : TnI ms i lim x.goOut where
  mf := h.mf
  good := h.good
  phase := Or.inl rfl
  clen := rfl
  cells := zeros_in
  nodes := by intro y hy; simp [Tn.goOut] at hy
  tree := rfl
  nlen := Nat.zero_le _
  box := by intro e he; simp [Tn.goOut] at he
  starts := Nat.zero_le _
  clicks := Nat.zero_le _
  msgs := by
    intro b
    have := h.good.share.1
    simp only [Tn.mf] at this
    show (0 : Int) ≤ x.share
    omega
  llen := h.llen
  dbl := h.dbl
  out := fun _ => ⟨rfl, rfl, rfl⟩
  held := fun e => by simp [Tn.goOut] at e

theorem TnI.start (h : TnI ms i lim x) (hp : x.phase = 0) (route : Int) (hr : 0 ≤ route ∧ route ≤ 255) : TnI ms i lim (x.start route) := by
  obtain ⟨o1, o2, o3⟩ := h.out hp
  have hb : (x.start route).box = [⟨0, 0, route, 0⟩] := by simp [Tn.start, o3]
  refine { mf := h.mf, good := h.good, phase := Or.inr (Or.inl rfl), clen := h.clen, cells := h.cells, nodes := h.nodes, tree := h.tree, nlen := h.nlen, box := ?_, starts := ?_, clicks := ?_, msgs := ?_, llen := h.llen, dbl := h.dbl, out := ?_, held := ?_ }
  · intro e he
    rw [hb, List.mem_singleton] at he
    subst he
    exact ⟨⟨by simp, by simp, ⟨hr.1, by simp only; omega⟩, by simp⟩, Or.inl ⟨rfl, rfl⟩⟩
  · rw [hb]; simp [isStart]
  · unfold Tn.clicks; rw [hb]; simp [isClick]
  · intro b
    unfold Tn.waiting
    rw [hb]
    have := h.good.share.1
    simp only [Tn.mf] at this
    show _ ≤ x.share
    simp [isMsg]
    omega
  · intro e; simp [Tn.start] at e
  · intro e; simp [Tn.start] at e

theorem TnI.come (h : TnI ms i lim x) (n route : Int) (hr : 0 ≤ route ∧ route ≤ 255) : TnI ms i lim (x.come n route) := by
  unfold Tn.come Tn.comeOn
  split
  · split
    · exact h.goOut.start rfl route hr
    · exact h.goOut
  · split
    · exact h.goOut
    · split
      · rename_i q
        exact h.start q.1 route hr
      · exact h

theorem planO_tree (old : List Tr.T.Nd) (sh : List Tr.T.Sh) : Tr.T.isTree (Tr.T.planO old sh) = true ∧ (Tr.T.planO old sh).length ≤ 8 := by
  unfold Tr.T.planO
  split
  · rename_i q
    unfold Tr.T.planOk at q
    simp only [Bool.and_eq_true, decide_eq_true_eq] at q
    exact ⟨q.2, by rw [Tr.T.plan_length]; exact q.1.2⟩
  · exact ⟨rfl, Nat.zero_le _⟩
theorem planO_ok {old : List Tr.T.Nd} {sh : List Tr.T.Sh} (ho : Tr.ndOk old) (hs : Tr.shOk sh) : Tr.ndOk (Tr.T.planO old sh) := by
  unfold Tr.T.planO
  split
  · exact Tr.plan_ok ho hs
  · intro x hx; simp at hx

theorem heldShow_ok : Tr.T.okSh heldShow := by
  refine ⟨by decide, ?_, by simp [heldShow]⟩
  intro s hs
  simp [heldShow] at hs
  subst hs
  decide
theorem heldShow_sh : Tr.shOk heldShow := by
  intro s hs
  simp [heldShow] at hs
  subst hs
  refine ⟨by simp, ?_⟩
  show 1 ≤ maxLen
  decide
theorem held_nodes {old : List Tr.T.Nd} (ht : Tr.T.isTree old = true) (hl : old.length ≤ 8) : ∃ id, Tr.T.planO old heldShow = [(id, 65535, bang)] := by
  have h1 := Tr.T.plan_tree ht hl heldShow_ok
  have h2 : Tr.T.planOk old heldShow = true := by
    unfold Tr.T.planOk
    rw [ht, h1]
    decide
  unfold Tr.T.planO
  rw [if_pos h2]
  exact ⟨_, rfl⟩

/-- Out of the run. -/
theorem Tn.out_ok {x : Tn} (hx : x.ok) (n route : Int) (ds : List Int) (hr : 0 ≤ route ∧ route ≤ 255) (hd : InR ds) : H.OutOk (x.out n route ds) := by
  obtain ⟨ev, hev⟩ : ∃ ev, ev = x.nextEv n := ⟨_, rfl⟩
  have HEo : ev.ok := by rw [hev]; exact Tn.nextEv_ok hx n
  have hok : (InV.mk x.fuel (x.cells.getD 0 0) (x.cells.getD 1 0) (x.cells.getD 2 0) (x.cells.getD 3 0) (x.cells.getD 4 0) (x.cells.getD 5 0) (x.cells.getD 6 0) (x.cells.getD 7 0) ev.what ev.by_ ev.arg ev.src route none 0 0).ok := by
    refine ⟨HEo.what, HEo.arg, HEo.src, hr, ?_⟩
    have q := hx.rng
    rw [eightD hx.cells] at q
    exact q
  have q := H.run_ok x.prog _ hok ds hd
  have e1 : H.run (H.bts x.prog) (InV.mk x.fuel (x.cells.getD 0 0) (x.cells.getD 1 0) (x.cells.getD 2 0) (x.cells.getD 3 0) (x.cells.getD 4 0) (x.cells.getD 5 0) (x.cells.getD 6 0) (x.cells.getD 7 0) ev.what ev.by_ ev.arg ev.src route none 0 0).cells ((InV.mk x.fuel (x.cells.getD 0 0) (x.cells.getD 1 0) (x.cells.getD 2 0) (x.cells.getD 3 0) (x.cells.getD 4 0) (x.cells.getD 5 0) (x.cells.getD 6 0) (x.cells.getD 7 0) ev.what ev.by_ ev.arg ev.src route none 0 0).inp ds) = x.out n route ds := by
    unfold Tn.out
    rw [← hev]
    have e2 : (InV.mk x.fuel (x.cells.getD 0 0) (x.cells.getD 1 0) (x.cells.getD 2 0) (x.cells.getD 3 0) (x.cells.getD 4 0) (x.cells.getD 5 0) (x.cells.getD 6 0) (x.cells.getD 7 0) ev.what ev.by_ ev.arg ev.src route none 0 0).cells = x.cells := (eightD hx.cells).symm
    rw [e2]
    rfl
  rw [e1] at q
  exact q

theorem TnI.note (h : TnI ms i lim x) (n k a b : Int) : TnI ms i (lim + 1) (x.note n k a b) :=
  { mf := h.mf, good := h.good, phase := h.phase, clen := h.clen, cells := h.cells, nodes := h.nodes, tree := h.tree, nlen := h.nlen, box := h.box, starts := h.starts, clicks := h.clicks, msgs := h.msgs, llen := by have := h.llen; simp [Tn.note]; omega, dbl := h.dbl, out := h.out, held := h.held }
theorem TnI.sift (n : Int) : ∀ (l : List (Int × Int)) {lim : Nat} {x : Tn}, TnI ms i lim x → TnI ms i (lim + l.length) (x.sift n l)
  | [], lim, x, h => h
  | s :: r, lim, x, h => by
    have e : x.sift n (s :: r) = (if goes x.pub s then x else x.note n 1 s.1 s.2).sift n r := rfl
    rw [e, List.length_cons, show lim + (r.length + 1) = lim + 1 + r.length by omega]
    refine TnI.sift n r ?_
    split
    · exact h.weaken (by omega)
    · exact h.note _ _ _ _

theorem TnI.pop (h : TnI ms i lim x) : TnI ms i lim x.popBox := by
  have hs : x.box.tail.Sublist x.box := List.tail_sublist _
  refine { mf := h.mf, good := h.good, phase := h.phase, clen := h.clen, cells := h.cells, nodes := h.nodes, tree := h.tree, nlen := h.nlen, box := fun e he => h.box e (hs.subset he), starts := Nat.le_trans (hs.countP_le) h.starts, clicks := Nat.le_trans (hs.countP_le) h.clicks, msgs := fun b => ?_, llen := h.llen, dbl := h.dbl, out := ?_, held := ?_ }
  · have h1 := h.msgs b
    have h2 : x.box.tail.countP (isMsg b) ≤ x.box.countP (isMsg b) := hs.countP_le
    unfold Tn.waiting at *
    show ((x.box.tail.countP (isMsg b) : Nat) : Int) ≤ x.share
    omega
  · intro e
    obtain ⟨a, b, c⟩ := h.out e
    exact ⟨a, b, by show x.box.tail = []; rw [c]; rfl⟩
  · intro e
    obtain ⟨a, b⟩ := h.held e
    exact ⟨a, by show x.box.tail = []; rw [b]; rfl⟩

theorem TnI.finish (h : TnI ms i lim x) (hp : x.phase = 1) (n : Int) (ev : Ev) {O : H.Out} (hO : H.OutOk O) : TnI ms i (lim + 5) (x.finish n ev O.cells O.shows O.sends) := by
  unfold Tn.finish
  have h1 : TnI ms i lim (({ x with cells := O.cells } : Tn).show O.shows) := by
    have hsh : Tr.shOk O.shows := fun s hs => ⟨(hO.keys s hs).1, Nat.le_trans (hO.keys s hs).2 (by decide)⟩
    refine { mf := h.mf, good := h.good, phase := h.phase, clen := hO.clen, cells := hO.cells, nodes := planO_ok h.nodes hsh, tree := (planO_tree _ _).1, nlen := (planO_tree _ _).2, box := h.box, starts := h.starts, clicks := h.clicks, msgs := h.msgs, llen := h.llen, dbl := h.dbl, out := fun e => ?_, held := fun e => ?_ }
    · have : x.phase = 0 := e
      omega
    · have : x.phase = 2 := e
      omega
  exact ((h1.note n 0 ev.what ev.arg).sift n O.sends).weaken (by have := hO.sends; omega)

theorem TnI.hold (h : TnI ms i lim x) (n f s : Int) : TnI ms i (lim + 1) (x.hold n f s) := by
  unfold Tn.hold
  refine TnI.note ?_ _ _ _ _
  refine { mf := h.mf, good := h.good, phase := Or.inr (Or.inr rfl), clen := h.clen, cells := h.cells, nodes := planO_ok h.nodes heldShow_sh, tree := (planO_tree _ _).1, nlen := (planO_tree _ _).2, box := fun e he => by simp at he, starts := Nat.zero_le _, clicks := Nat.zero_le _, msgs := fun b => ?_, llen := h.llen, dbl := ?_, out := fun e => ?_, held := fun e => ⟨held_nodes h.tree h.nlen, rfl⟩ }
  · have := h.good.share.1
    simp only [Tn.mf] at this
    show (0 : Int) ≤ x.share
    omega
  · have := h.dbl
    show 0 ≤ (if x.dbl < 4 then x.dbl + 1 else x.dbl) ∧ (if x.dbl < 4 then x.dbl + 1 else x.dbl) ≤ 4
    split <;> omega
  · have : (2 : Int) = 0 := e
    omega

theorem TnI.turn (h : TnI ms i lim x) (hm : ms.length ≤ 4) (hl : lim ≤ 90000) (n route : Int) (ds : List Int) (hr : 0 ≤ route ∧ route ≤ 255) (hd : InR ds) : TnI ms i (lim + 5) (x.turn n route ds) := by
  unfold Tn.turn
  split
  · rename_i hp
    have hO := Tn.out_ok (h.toOk hm hl) n route ds hr hd
    unfold Tn.handle
    split
    · exact h.pop.finish hp n _ hO
    · exact (h.pop.hold n _ _).weaken (by omega)
  · exact h.weaken (by omega)

theorem TnI.gives (h : TnI ms i lim x) (hm : ms.length ≤ 4) (hl : lim ≤ 90000) (n route : Int) (ds : List Int) (hr : 0 ≤ route ∧ route ≤ 255) (hd : InR ds) : (x.gives n route ds).length ≤ 4 ∧ ∀ y ∈ x.gives n route ds, ((0 ≤ y.1 ∧ y.1 ≤ 3) ∧ 0 ≤ y.2 ∧ y.2 ≤ 65535) ∧ goes x.pub y = true := by
  unfold Tn.gives
  split
  · have hO := Tn.out_ok (h.toOk hm hl) n route ds hr hd
    unfold Tn.sent
    split
    · refine ⟨Nat.le_trans (List.length_filter_le _ _) hO.sends, fun y hy => ?_⟩
      rw [List.mem_filter] at hy
      exact ⟨hO.topics y hy.1, hy.2⟩
    · exact ⟨Nat.zero_le _, fun y hy => by simp at hy⟩
  · exact ⟨Nat.zero_le _, fun y hy => by simp at hy⟩

theorem countP_snoc (p : Ev → Bool) (l : List Ev) (e : Ev) : (l ++ [e]).countP p = l.countP p + if p e then 1 else 0 := by
  rw [List.countP_append]
  simp [List.countP_cons]

theorem TnI.receive (h : TnI ms i lim x) (hm : ms.length ≤ 4) (n : Int) (s : Nat) {m : Mf} (hs : ms[s]? = some m) (hsi : s ≠ i) (topic value : Int) (ht : 0 ≤ topic ∧ topic ≤ 3) (hv : 0 ≤ value ∧ value ≤ 65535) (hp : bitOf m.pub topic = true) : TnI ms i (lim + 1) (x.receive n s topic value) := by
  unfold Tn.receive
  split
  · rename_i q
    obtain ⟨q1, q2⟩ := q
    split
    · exact h.note _ _ _ _
    · rename_i q3
      have hsl := (List.getElem?_eq_some_iff.1 hs).1
      refine { mf := h.mf, good := h.good, phase := h.phase, clen := h.clen, cells := h.cells, nodes := h.nodes, tree := h.tree, nlen := h.nlen, box := fun e he => ?_, starts := ?_, clicks := ?_, msgs := fun b => ?_, llen := by have := h.llen; simp only; omega, dbl := h.dbl, out := fun e => ?_, held := fun e => ?_ }
      · rcases List.mem_append.1 he with he | he
        · exact h.box e he
        · rw [List.mem_singleton] at he
          subst he
          refine ⟨⟨by simp, ⟨by simp only; omega, by simp only; omega⟩, ⟨hv.1, hv.2⟩, ⟨ht.1, by simp only; omega⟩⟩, Or.inr (Or.inr ⟨rfl, s, m, x.mf, hs, h.mf, rfl, hsi, topic, ht, hp, q2⟩)⟩
      · show (x.box ++ [_]).countP isStart ≤ 1
        rw [countP_snoc]
        have := h.starts
        simpa [isStart] using this
      · show (x.box ++ [_]).countP isClick ≤ 6
        rw [countP_snoc]
        have := h.clicks
        simpa [isClick, Tn.clicks] using this
      · show (((x.box ++ [_]).countP (isMsg b) : Nat) : Int) ≤ x.share
        rw [countP_snoc]
        have := h.msgs b
        unfold Tn.waiting at this q3
        by_cases hb : ((s : Int) + 1) = b
        · rw [hb] at q3
          have e1 : isMsg b ⟨2, (s : Int) + 1, value, topic⟩ = true := by simp [isMsg, hb]
          rw [if_pos e1]
          omega
        · have e1 : isMsg b ⟨2, (s : Int) + 1, value, topic⟩ = false := by simp [isMsg, hb]
          rw [if_neg (by rw [e1]; simp)]
          omega
      · have : x.phase = 0 := e
        omega
      · have : x.phase = 2 := e
        omega
  · exact h.weaken (by omega)

theorem TnI.get (h : TnI ms i lim x) (hm : ms.length ≤ 4) (n : Int) (s : Nat) {m : Mf} (hs : ms[s]? = some m) (topic value : Int) (ht : 0 ≤ topic ∧ topic ≤ 3) (hv : 0 ≤ value ∧ value ≤ 65535) (hp : bitOf m.pub topic = true) : TnI ms i (lim + 1) (x.get i n ((s : Int), topic, value)) := by
  unfold Tn.get
  split
  · exact h.weaken (by omega)
  · rename_i q
    exact h.receive hm n s hs (fun e => q (by simp only; omega)) topic value ht hv hp

theorem TnI.click (h : TnI ms i lim x) (id : Int) : TnI ms i lim (x.click id) := by
  unfold Tn.click
  split
  · rename_i hp
    split
    · rename_i nd hnd
      have hmem := List.mem_of_find?_eq_some hnd
      have hnk := (h.nodes nd hmem).1
      unfold Tn.takeClick
      split
      · exact h
      · rename_i q
        refine { mf := h.mf, good := h.good, phase := h.phase, clen := h.clen, cells := h.cells, nodes := h.nodes, tree := h.tree, nlen := h.nlen, box := fun e he => ?_, starts := ?_, clicks := ?_, msgs := fun b => ?_, llen := h.llen, dbl := h.dbl, out := fun e => ?_, held := fun e => ?_ }
        · rcases List.mem_append.1 he with he | he
          · exact h.box e he
          · rw [List.mem_singleton] at he
            subst he
            exact ⟨⟨by simp, by simp, ⟨hnk.2.2.1, hnk.2.2.2⟩, by simp⟩, Or.inr (Or.inl ⟨rfl, rfl⟩)⟩
        · show (x.box ++ [_]).countP isStart ≤ 1
          rw [countP_snoc]
          have := h.starts
          simpa [isStart] using this
        · show (x.box ++ [_]).countP isClick ≤ 6
          rw [countP_snoc]
          unfold Tn.clicks at q
          simp [isClick]
          omega
        · show (((x.box ++ [_]).countP (isMsg b) : Nat) : Int) ≤ x.share
          rw [countP_snoc]
          have := h.msgs b
          unfold Tn.waiting at this
          simpa [isMsg] using this
        · have : x.phase = 0 := e
          omega
        · have : x.phase = 2 := e
          omega
    · exact h
  · exact h
end
end Go.Proofs.Ytidaflmmldefcaa
