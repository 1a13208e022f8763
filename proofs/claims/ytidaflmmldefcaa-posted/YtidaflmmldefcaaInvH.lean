/-
  What a host keeps to, whatever is done: plain mathematics.
-/
import Derived.Test.YtidaflmmldefcaaInvM
namespace Go.Proofs.Ytidaflmmldefcaa
open Go.RowKit
set_option linter.unusedVariables false

def TsI (ms : List Mf) (lim : Nat) (ts : List Tn) : Prop := ∀ i x, ts[i]? = some x → TnI ms i lim x
structure HI (ms : List Mf) (H : Hs) : Prop where
  len : H.ts.length = ms.length
  route : 0 ≤ H.route ∧ H.route ≤ 3
  frames : 0 ≤ H.frames ∧ H.frames ≤ 200
  ten : TsI ms (30 * H.frames.toNat) H.ts

section
variable {ms : List Mf} {lim lim' : Nat} {ts : List Tn}

theorem TsI.map (h : TsI ms lim ts) {f : Nat → Tn → Tn} (hf : ∀ i x, TnI ms i lim x → TnI ms i lim' (f i x)) : TsI ms lim' (ts.mapIdx f) := by
  intro i y hy
  rw [List.getElem?_mapIdx] at hy
  cases hx : ts[i]? with
  | none => rw [hx] at hy; simp at hy
  | some x =>
    rw [hx] at hy
    have : f i x = y := by simpa using hy
    rw [← this]
    exact hf i x (h i x hx)
theorem TsI.weaken (h : TsI ms lim ts) (hl : lim ≤ lim') : TsI ms lim' ts := fun i x hx => (h i x hx).weaken hl
theorem TsI.mem (h : TsI ms lim ts) {x : Tn} (hx : x ∈ ts) : ∃ i, TnI ms i lim x := by
  obtain ⟨i, hi⟩ := List.mem_iff_getElem?.1 hx
  exact ⟨i, h i x hi⟩

/-- A letter that may be. -/
def LtGood (ms : List Mf) (L : Lt) : Prop := ∃ (s : Nat) (m : Mf), ms[s]? = some m ∧ L.1 = (s : Int) ∧ (0 ≤ L.2.1 ∧ L.2.1 ≤ 3) ∧ (0 ≤ L.2.2 ∧ L.2.2 ≤ 65535) ∧ bitOf m.pub L.2.1 = true

theorem TsI.deliver (h : TsI ms lim ts) (hm : ms.length ≤ 4) (n : Int) {L : Lt} (hL : LtGood ms L) : TsI ms (lim + 1) (deliver n ts L) := by
  obtain ⟨s, m, h1, h2, h3, h4, h5⟩ := hL
  obtain ⟨a, b, c⟩ := L
  simp only at h2 h3 h4 h5
  subst h2
  exact h.map fun i x hx => hx.get hm n s h1 b c h3 h4 h5
theorem TsI.delivers (hm : ms.length ≤ 4) (n : Int) : ∀ (l : List Lt) {lim : Nat} {ts : List Tn}, TsI ms lim ts → (∀ L ∈ l, LtGood ms L) → TsI ms (lim + l.length) (l.foldl (Go.Proofs.Ytidaflmmldefcaa.deliver n) ts)
  | [], lim, ts, h, _ => h
  | L :: r, lim, ts, h, hl => by
    rw [List.foldl_cons, List.length_cons, show lim + (r.length + 1) = lim + 1 + r.length by omega]
    exact TsI.delivers hm n r (h.deliver hm n (hl L (by simp))) (fun z hz => hl z (by simp [hz]))

theorem drawsOf_in {dl : List (List Int)} (hd : ∀ l ∈ dl, InR l) (i : Nat) : InR (drawsOf dl i) := by
  unfold drawsOf
  rw [List.getD_eq_getElem?_getD]
  cases h : dl[i]? with
  | none => intro v hv; simp at hv
  | some l => exact hd l (List.mem_of_getElem? h)

theorem postTo_good (h : TsI ms lim ts) (hm : ms.length ≤ 4) (hl : lim ≤ 90000) (n route : Int) (hr : 0 ≤ route ∧ route ≤ 255) {dl : List (List Int)} (hd : ∀ l ∈ dl, InR l) : ∀ k, (postTo ts n route dl k).length ≤ 4 * k ∧ ∀ L ∈ postTo ts n route dl k, LtGood ms L
  | 0 => ⟨Nat.zero_le _, fun L hL => by simp [postTo] at hL⟩
  | k + 1 => by
    obtain ⟨h1, h2⟩ := postTo_good h hm hl n route hr hd k
    unfold postTo
    cases hx : ts[k]? with
    | none =>
      simp only [List.append_nil]
      exact ⟨by omega, h2⟩
    | some x =>
      have hx' := h k x hx
      obtain ⟨g1, g2⟩ := hx'.gives hm hl n route (drawsOf dl k) hr (drawsOf_in hd k)
      refine ⟨?_, ?_⟩
      · simp [lettersOf]
        omega
      · intro L hL
        rcases List.mem_append.1 hL with hL | hL
        · exact h2 L hL
        · simp only [lettersOf, List.mem_map] at hL
          obtain ⟨y, hy, rfl⟩ := hL
          obtain ⟨⟨q1, q2⟩, q3⟩ := g2 y hy
          exact ⟨k, x.mf, hx'.mf, rfl, q1, q2, q3⟩
end

section
variable {ms : List Mf} {H : Hs} {dl : List (List Int)}

theorem HI.came (h : HI ms H) : TsI ms (30 * H.frames.toNat) H.came := h.ten.map fun i x hx => hx.come _ _ (by have := h.route; omega)
theorem HI.turned (h : HI ms H) (hm : ms.length ≤ 4) (hd : ∀ l ∈ dl, InR l) : TsI ms (30 * H.frames.toNat + 5) (H.turned dl) := by
  refine h.came.map fun i x hx => hx.turn hm (by have := h.frames; omega) _ _ _ (by have := h.route; omega) (drawsOf_in hd i)
theorem HI.post (h : HI ms H) (hm : ms.length ≤ 4) (hd : ∀ l ∈ dl, InR l) : (H.post dl).length ≤ 16 ∧ ∀ L ∈ H.post dl, LtGood ms L := by
  obtain ⟨h1, h2⟩ := postTo_good h.came hm (by have := h.frames; omega) (H.frames + 1) H.route (by have := h.route; omega) hd H.ts.length
  refine ⟨?_, h2⟩
  have := h.len
  unfold Hs.post
  omega
theorem HI.posted (h : HI ms H) (hm : ms.length ≤ 4) (hd : ∀ l ∈ dl, InR l) (k : Nat) : TsI ms (30 * H.frames.toNat + 21) (H.posted dl k) := by
  obtain ⟨h1, h2⟩ := h.post (dl := dl) hm hd
  have := TsI.delivers hm (H.frames + 1) ((H.post dl).take k) (h.turned hm hd) (fun L hL => h2 L (List.mem_of_mem_take hL))
  exact this.weaken (by have : ((H.post dl).take k).length ≤ (H.post dl).length := by simp; omega
                        omega)

theorem HI.fit (h : HI ms H) (hm : ms.length ≤ 4) (hd : ∀ l ∈ dl, InR l) : Fit H dl := by
  have hf := h.frames
  have hr := h.route
  refine ⟨by omega, h.frames, by have := h.len; omega, ?_, ?_, ?_, ?_, ?_⟩
  · intro x hx
    obtain ⟨i, hi⟩ := h.ten.mem hx
    have := hi.blen hm
    have g := hi.good.routes
    simp only [Tn.mf] at g
    exact ⟨by omega, g.1, by omega⟩
  · intro x hx
    obtain ⟨i, hi⟩ := h.came.mem hx
    exact hi.toOk hm (by omega)
  · intro x hx j
    obtain ⟨i, hi⟩ := h.came.mem hx
    obtain ⟨g1, g2⟩ := hi.gives hm (by omega) (H.frames + 1) H.route (drawsOf dl j) (by omega) (drawsOf_in hd j)
    exact g1
  · intro L hL
    obtain ⟨s, m, h1, h2, h3, _⟩ := (h.post (dl := dl) hm hd).2 L hL
    have := (List.getElem?_eq_some_iff.1 h1).1
    omega
  · intro k x hx
    obtain ⟨i, hi⟩ := (h.posted hm hd k).mem hx
    have := hi.blen hm
    have := hi.llen
    have g := hi.good.sub
    simp only [Tn.mf] at g
    exact ⟨by omega, by omega, g.1, by omega⟩

theorem HI.frame (h : HI ms H) (hm : ms.length ≤ 4) (hd : ∀ l ∈ dl, InR l) : HI ms (H.frame dl) := by
  unfold Hs.frame
  split
  · exact h
  · rename_i q
    have hf := h.frames
    refine ⟨?_, h.route, ⟨by simp only; omega, by simp only; omega⟩, ?_⟩
    · show ((H.post dl).foldl (deliver (H.frames + 1)) (H.turned dl)).length = _
      rw [← posted_all, posted_length]
      exact h.len
    · show TsI ms (30 * (H.frames + 1).toNat) ((H.post dl).foldl (deliver (H.frames + 1)) (H.turned dl))
      rw [← posted_all]
      exact (h.posted hm hd _).weaken (by omega)
theorem HI.navigate (h : HI ms H) (r : Int) (hr : 0 ≤ r) : HI ms (H.navigate r) := by
  unfold Hs.navigate
  split
  · exact h
  · exact ⟨h.len, ⟨hr, by simp only; omega⟩, h.frames, h.ten⟩
theorem HI.click (h : HI ms H) (id : Int) : HI ms (H.click id) := by
  unfold Hs.click
  split
  · exact h
  · split
    · rename_i x hx
      refine ⟨by simpa using h.len, h.route, h.frames, ?_⟩
      intro i y hy
      simp only at hy
      by_cases hi : i = (id / 100).toNat
      · subst hi
        rw [List.getElem?_set_self (List.getElem?_eq_some_iff.1 hx).1] at hy
        have := Option.some.inj hy
        subst this
        exact (h.ten _ x hx).click _
      · rw [List.getElem?_set_ne (fun e => hi e.symm)] at hy
        exact h.ten i y hy
    · exact h
/-- What a click needs. -/
theorem HI.clickOk (h : HI ms H) (hm : ms.length ≤ 4) : ∀ x ∈ H.ts, x.box.length ≤ 100000 ∧ x.nodes.length ≤ 100000 ∧ ∀ nd ∈ x.nodes, 0 ≤ nd.1 ∧ nd.1 ≤ 255 := by
  intro x hx
  obtain ⟨i, hi⟩ := h.ten.mem hx
  have h1 := hi.blen hm
  have h2 := hi.nlen
  exact ⟨by omega, by omega, fun nd hnd => ⟨(hi.nodes nd hnd).1.1, (hi.nodes nd hnd).1.2.1⟩⟩

/-- A new host. -/
def Mf.tn (m : Mf) : Tn := ⟨m.prog, m.fuel, m.routes, m.pub, m.sub, m.share, m.back, 0, zeros, [], [], [], 0, 0⟩
def newHs (ms : List Mf) : Hs := ⟨0, 0, ms.map Mf.tn⟩
theorem newHs_ok (hg : ∀ m ∈ ms, m.good) : HI ms (newHs ms) := by
  refine ⟨by simp [newHs], by simp [newHs], by simp [newHs], ?_⟩
  intro i x hx
  simp only [newHs, List.getElem?_map] at hx
  cases hm : ms[i]? with
  | none => rw [hm] at hx; simp at hx
  | some m =>
    rw [hm] at hx
    have : m.tn = x := by simpa using hx
    subst this
    have hgm := hg m (List.mem_of_getElem? hm)
    exact { mf := hm, good := hgm, phase := Or.inl rfl, clen := rfl, cells := zeros_in, nodes := by intro y hy; simp [Mf.tn] at hy, tree := rfl, nlen := Nat.zero_le _, box := by intro e he; simp [Mf.tn] at he, starts := Nat.zero_le _, clicks := Nat.zero_le _, msgs := fun b => by have := hgm.share.1; show (0 : Int) ≤ m.share; omega, llen := Nat.zero_le _, dbl := by simp [Mf.tn], out := fun _ => ⟨rfl, rfl, rfl⟩, held := fun e => by simp [Mf.tn] at e }
end
end Go.Proofs.Ytidaflmmldefcaa
