/-
  A tenant that counts clicks: plain mathematics.
-/
import Derived.Test.YtidaflmmldefcaaBndW
namespace Go.Proofs.Ytidaflmmldefcaa
open Go.RowKit
set_option linter.unusedVariables false

/-- The program that counts, and its bytes. -/
def pcode : List (Int × Int) := [(1, 5), (24, 0), (18, 0), (1, 1), (15, 0), (17, 1), (0, 0), (2, 0), (1, 1), (4, 0), (3, 0)]
def pprog : ByteArray := encS 11 pcode
theorem pcode_ok : H.okFrom 11 0 pcode = true := by decide +kernel
theorem pprog_bts : H.bts pprog = H.encAll pcode := by
  have e : pprog = strOfNums (H.encAll pcode) := by unfold pprog encS; rw [if_pos pcode_ok]
  rw [e]
  exact bts_strOfNums _ (by decide +kernel)
theorem pprog_decode : H.decode (H.bts pprog) = (pcode, 0, 0) := by
  rw [pprog_bts]
  exact H.decode_enc pcode (by decide) (by decide) pcode_ok
theorem pprog_size : pprog.size ≤ 200 := by
  have e : pprog = strOfNums (H.encAll pcode) := by unfold pprog encS; rw [if_pos pcode_ok]
  rw [e]
  decide +kernel

def pShow : List (Int × ByteArray) := [(5, ⟨#[]⟩)]
theorem run_tick (cells : List Int) (arg src route : Int) (ds : List Int) : H.run (H.bts pprog) cells { fuel := 11, what := 3, arg := arg, src := src, route := route, draws := ds } = { fault := 0, steps := 7, draws := 0, cells := cells, shows := pShow, sends := [], err := 0 } := by
  unfold H.run
  rw [pprog_decode]
  kernel_rfl
theorem run_start (cells : List Int) (arg src route : Int) (ds : List Int) : H.run (H.bts pprog) cells { fuel := 11, what := 0, arg := arg, src := src, route := route, draws := ds } = { fault := 0, steps := 7, draws := 0, cells := cells, shows := pShow, sends := [], err := 0 } := by
  unfold H.run
  rw [pprog_decode]
  kernel_rfl
theorem run_click (cells : List Int) (arg src route : Int) (ds : List Int) : H.run (H.bts pprog) cells { fuel := 11, what := 1, arg := arg, src := src, route := route, draws := ds } = { fault := 0, steps := 10, draws := 0, cells := cells.set 0 ((cells.getD 0 0 + 1) % 65536), shows := pShow, sends := [], err := 0 } := by
  unfold H.run
  rw [pprog_decode]
  kernel_rfl

def pNode : Tr.T.Nd := (1, 5, ⟨#[]⟩)
theorem plan_first : Tr.T.planO [] pShow = [pNode] := by decide +kernel
theorem plan_again' : Tr.T.planO [pNode] pShow = [pNode] := by decide +kernel

def clickEv : Ev := ⟨1, 0, 5, 0⟩
/-- The tenant that counts: c clicks are counted, k wait. -/
structure Pt (c k : Nat) (x : Tn) : Prop where
  prog : x.prog = pprog
  fuel : x.fuel = 11
  routes : x.routes = 15
  sub : x.sub = 0
  phase : x.phase = 1
  len : x.cells.length = 8
  cell : x.cells.getD 0 0 = (c : Int)
  nodes : x.nodes = [pNode]
  box : x.box = List.replicate k clickEv

theorem bits15 (route : Int) (h : 0 ≤ route ∧ route ≤ 3) : bitOf 15 route = true := by
  rcases (show route = 0 ∨ route = 1 ∨ route = 2 ∨ route = 3 by omega) with rfl | rfl | rfl | rfl <;> decide
theorem bits0 (k : Int) : bitOf 0 k = false := by
  unfold bitOf
  rw [Int.zero_ediv]
  rfl
theorem Pt.get {c k : Nat} {x : Tn} (h : Pt c k x) (i : Nat) (n : Int) (L : Lt) : x.get i n L = x := by
  unfold Tn.get
  split
  · rfl
  · unfold Tn.receive
    rw [if_neg]
    rintro ⟨_, q⟩
    rw [h.sub, bits0] at q
    cases q
theorem Pt.gets {c k : Nat} {x : Tn} (h : Pt c k x) (i : Nat) (n : Int) : ∀ l : List Lt, l.foldl (fun y L => y.get i n L) x = x
  | [] => rfl
  | L :: r => by rw [List.foldl_cons, h.get]; exact h.gets i n r
theorem Pt.come {c k : Nat} {x : Tn} (h : Pt c k x) (n route : Int) (hr : 0 ≤ route ∧ route ≤ 3) : x.come n route = x := by
  unfold Tn.come
  rw [h.routes, bits15 route hr]
  exact come_b1 h.phase
theorem Pt.out_tick {c : Nat} {x : Tn} (h : Pt c 0 x) (n route : Int) (ds : List Int) : x.out n route ds = { fault := 0, steps := 7, draws := 0, cells := x.cells, shows := pShow, sends := [], err := 0 } := by
  have e : x.nextEv n = ⟨3, 0, n % 65536, 0⟩ := by
    unfold Tn.nextEv
    rw [h.box]
    rfl
  unfold Tn.out Tn.inp
  rw [e, h.prog, h.fuel]
  exact run_tick _ _ _ _ _
theorem Pt.out_click {c k : Nat} {x : Tn} (h : Pt c (k + 1) x) (n route : Int) (ds : List Int) : x.out n route ds = { fault := 0, steps := 10, draws := 0, cells := x.cells.set 0 ((x.cells.getD 0 0 + 1) % 65536), shows := pShow, sends := [], err := 0 } := by
  have e : x.nextEv n = clickEv := by
    unfold Tn.nextEv
    rw [h.box]
    rfl
  unfold Tn.out Tn.inp
  rw [e, h.prog, h.fuel]
  exact run_click _ _ _ _ _
theorem Pt.turn_tick {c : Nat} {x : Tn} (h : Pt c 0 x) (n route : Int) (ds : List Int) : Pt c 0 (x.turn n route ds) ∧ x.gives n route ds = [] := by
  have ho := h.out_tick n route ds
  unfold Tn.turn Tn.gives
  rw [if_pos h.phase, if_pos h.phase]
  unfold Tn.handle Tn.sent
  rw [ho]
  simp only
  rw [if_pos trivial, if_pos trivial]
  refine ⟨⟨h.prog, h.fuel, h.routes, h.sub, h.phase, h.len, h.cell, ?_, ?_⟩, rfl⟩
  · show Tr.T.planO x.nodes pShow = [pNode]
    rw [h.nodes]
    exact plan_again'
  · show x.box.tail = _
    rw [h.box]
    rfl
theorem Pt.turn_click {c k : Nat} {x : Tn} (h : Pt c (k + 1) x) (hc : c < 65535) (n route : Int) (ds : List Int) : Pt (c + 1) k (x.turn n route ds) ∧ x.gives n route ds = [] := by
  have ho := h.out_click n route ds
  unfold Tn.turn Tn.gives
  rw [if_pos h.phase, if_pos h.phase]
  unfold Tn.handle Tn.sent
  rw [ho]
  simp only
  rw [if_pos trivial, if_pos trivial]
  refine ⟨⟨h.prog, h.fuel, h.routes, h.sub, h.phase, ?_, ?_, ?_, ?_⟩, rfl⟩
  · show (x.cells.set 0 _).length = 8
    rw [List.length_set]
    exact h.len
  · show (x.cells.set 0 ((x.cells.getD 0 0 + 1) % 65536)).getD 0 0 = _
    rw [List.getD_eq_getElem?_getD, List.getElem?_set_self (by rw [h.len]; decide), h.cell]
    show ((c : Int) + 1) % 65536 = ((c + 1 : Nat) : Int)
    omega
  · show Tr.T.planO x.nodes pShow = [pNode]
    rw [h.nodes]
    exact plan_again'
  · show x.box.tail = _
    rw [h.box]
    rfl

/-- The first tenant of a host. -/
def PtAt (c k : Nat) (H : Hs) : Prop := ∃ x, H.ts[0]? = some x ∧ Pt c k x

theorem frame_first {H : Hs} {dl : List (List Int)} {x y : Tn} (h200 : H.frames < 200) (hx : H.ts[0]? = some x) (hy : (x.come (H.frames + 1) H.route).turn (H.frames + 1) H.route (drawsOf dl 0) = y) {c k : Nat} (hp : Pt c k y) : (H.frame dl).ts[0]? = some y := by
  unfold Hs.frame
  rw [if_neg (by omega)]
  show ((H.post dl).foldl (deliver (H.frames + 1)) (H.turned dl))[0]? = some y
  have hf : ∀ (l : List Lt) (ts : List Tn), (l.foldl (deliver (H.frames + 1)) ts)[0]? = ts[0]?.map (fun x => l.foldl (fun y L => y.get 0 (H.frames + 1) L) x) := by
    intro l
    induction l with
    | nil => intro ts; simp
    | cons L r ih =>
      intro ts
      rw [List.foldl_cons, ih]
      unfold deliver
      rw [List.getElem?_mapIdx]
      cases ts[0]? <;> simp
  rw [hf]
  unfold Hs.turned Hs.came
  rw [List.getElem?_mapIdx, List.getElem?_mapIdx, hx]
  simp only [Option.map_some]
  rw [hy, hp.gets]

theorem PtAt.frame {c k : Nat} {H : Hs} (h : PtAt c k H) (dl : List (List Int)) (hr : 0 ≤ H.route ∧ H.route ≤ 3) (hf : H.frames < 200) (hc : c < 65535) : (k = 0 → PtAt c 0 (H.frame dl)) ∧ (∀ j, k = j + 1 → PtAt (c + 1) j (H.frame dl)) := by
  obtain ⟨x, hx, hp⟩ := h
  refine ⟨fun e => ?_, fun j e => ?_⟩
  · subst e
    have q := (hp.turn_tick (H.frames + 1) H.route (drawsOf dl 0)).1
    exact ⟨_, frame_first hf hx (by rw [hp.come _ _ hr]) q, q⟩
  · subst e
    have q := (hp.turn_click hc (H.frames + 1) H.route (drawsOf dl 0)).1
    exact ⟨_, frame_first hf hx (by rw [hp.come _ _ hr]) q, q⟩

/-- The tenant that counts, new. -/
def pMf (share : Int) : Mf := ⟨pprog, 11, 15, 0, 0, share, 1⟩
theorem pMf_good {share : Int} (h : 1 ≤ share ∧ share ≤ 3) : (pMf share).good where
  size := by
    have e : (pMf share).prog = pprog := rfl
    rw [e]
    exact Nat.le_trans pprog_size (by decide)
  code := by
    have e : (pMf share).prog = pprog := rfl
    rw [e, pprog_decode]
  fuel := (by decide : (1 : Int) ≤ 11 ∧ (11 : Int) ≤ 1000)
  routes := (by decide : (0 : Int) ≤ 15 ∧ (15 : Int) < 16)
  pub := (by decide : (0 : Int) ≤ 0 ∧ (0 : Int) < 16)
  sub := (by decide : (0 : Int) ≤ 0 ∧ (0 : Int) < 16)
  share := h
  back := (by decide : (1 : Int) ≤ 1 ∧ (1 : Int) ≤ 8)

theorem Pt.first (share : Int) (ds : List Int) : Pt 0 0 (((pMf share).tn.come 1 0).turn 1 0 ds) := by
  have e1 : (pMf share).tn.come 1 0 = (pMf share).tn.start 0 := by
    unfold Tn.come
    rw [show (pMf share).tn.routes = 15 from rfl, bits15 0 (by decide)]
    exact come_c1 rfl
  rw [e1]
  have ho : ((pMf share).tn.start 0).out 1 0 ds = { fault := 0, steps := 7, draws := 0, cells := zeros, shows := pShow, sends := [], err := 0 } := run_start _ _ _ _ _
  unfold Tn.turn
  rw [if_pos (show ((pMf share).tn.start 0).phase = 1 from rfl)]
  unfold Tn.handle
  rw [ho]
  simp only
  rw [if_pos trivial]
  exact ⟨rfl, rfl, rfl, rfl, rfl, rfl, rfl, plan_first, rfl⟩
theorem PtAt.opened (share : Int) (more : List Mf) : PtAt 0 0 (openHs (pMf share :: more)) := by
  have q := Pt.first share (drawsOf [] 0)
  exact ⟨_, frame_first (H := newHs (pMf share :: more)) (dl := []) (x := (pMf share).tn) (show (0 : Int) < 200 by decide) rfl rfl q, q⟩

/-- A click at its node. -/
theorem clicks_rep (k : Nat) : (List.replicate k clickEv).countP isClick = k := by
  rw [List.countP_replicate]
  rfl
theorem Pt.click1 {c k : Nat} {x : Tn} (h : Pt c k x) : (k < 6 → Pt c (k + 1) (x.click 1) ∧ x.clickE 1 = 0) ∧ (¬ k < 6 → x.click 1 = x ∧ x.clickE 1 = 8) := by
  have hf : x.nodes.find? (hasId 1) = some pNode := by rw [h.nodes]; rfl
  have hcl : x.clicks = k := by unfold Tn.clicks; rw [h.box]; exact clicks_rep k
  unfold Tn.click Tn.clickE
  rw [if_pos h.phase, if_pos h.phase, hf]
  simp only
  unfold Tn.takeClick Tn.takeClickE
  rw [hcl]
  refine ⟨fun hk => ?_, fun hk => ?_⟩
  · rw [if_neg (by omega), if_neg (by omega)]
    refine ⟨⟨h.prog, h.fuel, h.routes, h.sub, h.phase, h.len, h.cell, h.nodes, ?_⟩, rfl⟩
    show x.box ++ [⟨1, 0, 5, 0⟩] = _
    rw [h.box, List.replicate_succ']
    rfl
  · rw [if_pos (by omega), if_pos (by omega)]
    exact ⟨rfl, rfl⟩
theorem Pt.clickN {c k : Nat} {x : Tn} (h : Pt c k x) (id : Int) (hid : id ≠ 1) : x.click id = x := by
  have hf : x.nodes.find? (hasId id) = none := by
    rw [h.nodes]
    have : ¬ (1 : Int) = id := fun e => hid e.symm
    simp [hasId, pNode, this]
  unfold Tn.click
  rw [if_pos h.phase, hf]
theorem PtAt.click {c k : Nat} {H : Hs} (h : PtAt c k H) : (k < 6 → PtAt c (k + 1) (H.click 1) ∧ H.clickE 1 = 0) ∧ (¬ k < 6 → PtAt c k (H.click 1) ∧ H.clickE 1 = 8) := by
  obtain ⟨x, hx, hp⟩ := h
  have e0 : ((1 : Int) / 100).toNat = 0 := by decide
  have e1 : (1 : Int) % 100 = 1 := by decide
  have hl := (List.getElem?_eq_some_iff.1 hx).1
  have ec : H.click 1 = { H with ts := H.ts.set 0 (x.click 1) } := by
    unfold Hs.click
    rw [if_neg (by decide), e0, hx]
    simp only
    rw [e1]
  have ee : H.clickE 1 = x.clickE 1 := by
    unfold Hs.clickE
    rw [if_neg (by decide), e0, hx]
    simp only
    rw [e1]
  rw [ec, ee]
  refine ⟨fun hk => ?_, fun hk => ?_⟩
  · obtain ⟨q1, q2⟩ := hp.click1.1 hk
    exact ⟨⟨_, List.getElem?_set_self hl, q1⟩, q2⟩
  · obtain ⟨q1, q2⟩ := hp.click1.2 hk
    refine ⟨⟨x.click 1, List.getElem?_set_self hl, ?_⟩, q2⟩
    rw [q1]
    exact hp
theorem PtAt.clickO {c k : Nat} {H : Hs} (h : PtAt c k H) (id : Int) (h0 : 0 ≤ id) (hid : id ≠ 1) : PtAt c k (H.click id) := by
  obtain ⟨x, hx, hp⟩ := h
  have hl := (List.getElem?_eq_some_iff.1 hx).1
  unfold Hs.click
  rw [if_neg (by omega)]
  split
  · rename_i y hy
    by_cases hj : (id / 100).toNat = 0
    · rw [hj] at hy ⊢
      rw [hx] at hy
      obtain rfl := Option.some.inj hy
      refine ⟨x.click (id % 100), List.getElem?_set_self hl, ?_⟩
      rw [hp.clickN _ (by omega)]
      exact hp
    · exact ⟨x, by simp only; rw [List.getElem?_set_ne hj]; exact hx, hp⟩
  · exact ⟨x, hx, hp⟩
theorem PtAt.navigate {c k : Nat} {H : Hs} (h : PtAt c k H) (r : Int) : PtAt c k (H.navigate r) := by
  unfold Hs.navigate
  split
  · exact h
  · exact h

/-- What stands when t clicks were taken. -/
def Counts (taken : Nat) (H : Hs) : Prop := ∃ c k, PtAt c k H ∧ c + k = taken ∧ k ≤ 6
theorem Counts.does {taken : Nat} {H : Hs} (h : Counts taken H) (ht : taken ≤ 1000) (hr : 0 ≤ H.route ∧ H.route ≤ 3) (hf : H.frames < 200) (kind a : Int) (dl : List (List Int)) (hno : ¬ (Go.Proofs.Ytidaflmmldefcaa.H.pk kind 3 = 1 ∧ Go.Proofs.Ytidaflmmldefcaa.H.pk a 400 = 1)) : Counts taken (H.does kind a dl) := by
  obtain ⟨c, k, hp, hs, hk⟩ := h
  unfold Hs.does
  split
  · exact ⟨c, k, hp.navigate _, hs, hk⟩
  · split
    · rename_i h1
      exact ⟨c, k, hp.clickO _ (Go.Proofs.Ytidaflmmldefcaa.H.pk_range a 400 (by decide)).1 (fun e => hno ⟨h1, e⟩), hs, hk⟩
    · obtain ⟨q1, q2⟩ := hp.frame dl hr hf (by omega)
      cases k with
      | zero => exact ⟨c, 0, q1 rfl, hs, hk⟩
      | succ j => exact ⟨c + 1, j, q2 j rfl, by omega, by omega⟩
theorem Hs.does_frames (H : Hs) (kind a : Int) (dl : List (List Int)) : (H.does kind a dl).frames ≤ H.frames + 1 := by
  unfold Hs.does
  split
  · unfold Hs.navigate
    split
    · omega
    · show H.frames ≤ H.frames + 1; omega
  · split
    · unfold Hs.click
      split
      · omega
      · split
        · show H.frames ≤ H.frames + 1; omega
        · omega
    · unfold Hs.frame
      split
      · omega
      · exact Int.le_refl _
theorem click_frames (H : Hs) (id : Int) : (H.click id).frames = H.frames := by
  unfold Hs.click
  split
  · rfl
  · split <;> rfl
end Go.Proofs.Ytidaflmmldefcaa
