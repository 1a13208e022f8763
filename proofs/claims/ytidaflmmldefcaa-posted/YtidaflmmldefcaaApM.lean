/-
  Two hosts that differ in one tenant: plain mathematics.
-/
import Derived.Test.YtidaflmmldefcaaBndW
namespace Go.Proofs.Ytidaflmmldefcaa
open Go.RowKit
set_option linter.unusedVariables false

/-- Two hosts that are the same at the tenants kb. -/
structure Twin (kb : Nat → Bool) (G H : Hs) : Prop where
  route : H.route = G.route
  frames : H.frames = G.frames
  len : H.ts.length = G.ts.length
  same : ∀ u, kb u = true → H.ts[u]? = G.ts[u]?

/-- Those that send and get alike. -/
structure Alike2 (ms ms' : List Mf) : Prop where
  len : ms'.length = ms.length
  pub : ∀ (u : Nat) (m m' : Mf), ms[u]? = some m → ms'[u]? = some m' → m'.pub = m.pub
/-- None of kb gets what another sends. -/
def Sep (kb : Nat → Bool) (ms : List Mf) : Prop := ∀ (a u : Nat) (ma mu : Mf), kb a = false → kb u = true → ms[a]? = some ma → ms[u]? = some mu → ¬ linked ma.pub mu.sub

theorem receive_sub (x : Tn) (n s t v : Int) : (x.receive n s t v).sub = x.sub := by
  unfold Tn.receive
  split
  · split <;> rfl
  · rfl
theorem get_sub (x : Tn) (i : Nat) (n : Int) (L : Lt) : (x.get i n L).sub = x.sub := by
  unfold Tn.get
  split
  · rfl
  · exact receive_sub _ _ _ _ _

theorem fold_get (n : Int) (u : Nat) : ∀ (l : List Lt) (ts : List Tn), (l.foldl (deliver n) ts)[u]? = ts[u]?.map (fun x => l.foldl (fun y L => y.get u n L) x)
  | [], ts => by simp
  | L :: r, ts => by
    rw [List.foldl_cons, fold_get n u r]
    unfold deliver
    rw [List.getElem?_mapIdx]
    cases ts[u]? <;> simp
theorem delivers_length (n : Int) : ∀ (l : List Lt) (ts : List Tn), (l.foldl (deliver n) ts).length = ts.length
  | [], ts => rfl
  | L :: r, ts => by rw [List.foldl_cons, delivers_length n r, deliver_length]
theorem fold_skip (n : Int) (u : Nat) (sub : Int) (keep : Lt → Bool) : ∀ (l : List Lt) (x : Tn), x.sub = sub → (∀ L ∈ l, keep L = false → ∀ y : Tn, y.sub = sub → y.get u n L = y) → l.foldl (fun y L => y.get u n L) x = (l.filter keep).foldl (fun y L => y.get u n L) x
  | [], x, _, _ => rfl
  | L :: r, x, hx, h => by
    have ih := fun y hy => fold_skip n u sub keep r y hy (fun z hz => h z (by simp [hz]))
    rw [List.foldl_cons]
    cases hk : keep L with
    | true =>
      rw [List.filter_cons_of_pos (by simpa using hk), List.foldl_cons]
      exact ih _ (by rw [get_sub]; exact hx)
    | false =>
      rw [List.filter_cons_of_neg (by simp [hk]), h L (by simp) hk x hx]
      exact ih x hx

theorem letters_filter (kb : Nat → Bool) (k : Nat) : ∀ S : List (Int × Int), (lettersOf k S).filter (fun L => kb L.1.toNat) = if kb k then lettersOf k S else [] := by
  intro S
  cases hk : kb k with
  | true =>
    rw [if_pos rfl, List.filter_eq_self]
    intro L hL
    simp only [lettersOf, List.mem_map] at hL
    obtain ⟨y, _, rfl⟩ := hL
    simpa using hk
  | false =>
    rw [if_neg (by simp), List.filter_eq_nil_iff]
    intro L hL
    simp only [lettersOf, List.mem_map] at hL
    obtain ⟨y, _, rfl⟩ := hL
    simpa using hk
theorem post_filter (kb : Nat → Bool) (n route : Int) (ts ts' : List Tn) (dl dl' : List (List Int)) (h : ∀ u, kb u = true → ts'[u]? = ts[u]?) (hd : ∀ u, kb u = true → u < ts.length → drawsOf dl' u = drawsOf dl u) : ∀ k, (postTo ts' n route dl' k).filter (fun L => kb L.1.toNat) = (postTo ts n route dl k).filter (fun L => kb L.1.toNat)
  | 0 => rfl
  | k + 1 => by
    unfold postTo
    rw [List.filter_append, List.filter_append, post_filter kb n route ts ts' dl dl' h hd k]
    congr 1
    cases hk : kb k with
    | true =>
      rw [h k hk]
      cases hx : ts[k]? with
      | none => rfl
      | some x => rw [hd k hk (List.getElem?_eq_some_iff.1 hx).1]
    | false =>
      have e : ∀ S : List (Int × Int), (lettersOf k S).filter (fun L => kb L.1.toNat) = [] := fun S => by rw [letters_filter, if_neg (by simp [hk])]
      cases ts'[k]? <;> cases ts[k]? <;> simp only [e, List.filter_nil]

section
variable {kb : Nat → Bool} {G H : Hs} {ms ms' : List Mf} {dl dl' : List (List Int)}

theorem TnI.skip {lim : Nat} {u : Nat} {x : Tn} (hx : TnI ms u lim x) {mu : Mf} (hmu : ms[u]? = some mu) : x.sub = mu.sub := by
  have q := hx.mf
  rw [hmu] at q
  have := Option.some.inj q
  rw [this]
  rfl

/-- Letters of those that are not kb leave u as it is. -/
theorem skip_letter (hs : Sep kb ms) {u : Nat} (hu : kb u = true) {mu : Mf} (hmu : ms[u]? = some mu) {L : Lt} (hL : LtGood ms L) (hk : kb L.1.toNat = false) (n : Int) (y : Tn) (hy : y.sub = mu.sub) : y.get u n L = y := by
  obtain ⟨s, m, h1, h2, h3, h4, h5⟩ := hL
  unfold Tn.get
  split
  · rfl
  · unfold Tn.receive
    rw [if_neg]
    rintro ⟨_, q⟩
    rw [hy] at q
    have e : L.1.toNat = s := by rw [h2]; rfl
    rw [e] at hk
    exact hs s u m mu hk hu h1 hmu ⟨L.2.1, h3, h5, q⟩

theorem Twin.frame (h : Twin kb G H) (hG : HI ms G) (hH : HI ms' H) (hm : ms.length ≤ 4) (ha : Alike2 ms ms') (hs : Sep kb ms) (hs' : Sep kb ms') (hd : ∀ l ∈ dl, InR l) (hd' : ∀ l ∈ dl', InR l) (hdd : ∀ u, kb u = true → u < ms.length → drawsOf dl' u = drawsOf dl u) : Twin kb (G.frame dl) (H.frame dl') := by
  have hm' : ms'.length ≤ 4 := by have := ha.len; omega
  unfold Hs.frame
  rw [h.frames]
  split
  · exact h
  · have hc : ∀ u, kb u = true → H.came[u]? = G.came[u]? := by
      intro u hu
      unfold Hs.came
      rw [List.getElem?_mapIdx, List.getElem?_mapIdx, h.same u hu, h.frames, h.route]
    have hcl : G.came.length = ms.length := by
      have := hG.len
      simpa [Hs.came] using this
    have ht : ∀ u, kb u = true → (H.turned dl')[u]? = (G.turned dl)[u]? := by
      intro u hu
      unfold Hs.turned
      rw [List.getElem?_mapIdx, List.getElem?_mapIdx, hc u hu, h.frames, h.route]
      cases hx : G.came[u]? with
      | none => rfl
      | some x =>
        rw [hdd u hu (by rw [← hcl]; exact (List.getElem?_eq_some_iff.1 hx).1)]
    have hp : (H.post dl').filter (fun L => kb L.1.toNat) = (G.post dl).filter (fun L => kb L.1.toNat) := by
      unfold Hs.post
      rw [h.frames, h.route, h.len]
      exact post_filter kb _ _ _ _ _ _ hc (fun u hu hul => hdd u hu (by rw [← hcl]; exact hul)) _
    refine ⟨h.route, rfl, ?_, ?_⟩
    · show ((H.post dl').foldl (deliver (G.frames + 1)) (H.turned dl')).length = ((G.post dl).foldl (deliver (G.frames + 1)) (G.turned dl)).length
      rw [delivers_length, delivers_length]
      have := h.len
      simpa [Hs.turned, Hs.came] using this
    · intro u hu
      show ((H.post dl').foldl (deliver (G.frames + 1)) (H.turned dl'))[u]? = ((G.post dl).foldl (deliver (G.frames + 1)) (G.turned dl))[u]?
      rw [fold_get, fold_get, ht u hu]
      cases hx : (G.turned dl)[u]? with
      | none => rfl
      | some x =>
        have hx' : (H.turned dl')[u]? = some x := by rw [ht u hu]; exact hx
        have i1 := hG.turned hm hd u x hx
        have i2 := hH.turned hm' hd' u x hx'
        simp only [Option.map_some]
        rw [fold_skip (G.frames + 1) u x.sub (fun L => kb L.1.toNat) (H.post dl') x rfl, fold_skip (G.frames + 1) u x.sub (fun L => kb L.1.toNat) (G.post dl) x rfl, hp]
        · intro L hL hk y hy
          exact skip_letter hs hu i1.mf ((hG.post hm hd).2 L hL) hk _ y hy
        · intro L hL hk y hy
          exact skip_letter hs' hu i2.mf ((hH.post hm' hd').2 L hL) hk _ y hy

theorem Twin.navigate (h : Twin kb G H) (r : Int) : Twin kb (G.navigate r) (H.navigate r) := by
  unfold Hs.navigate
  split
  · exact h
  · exact ⟨rfl, h.frames, h.len, h.same⟩
theorem click_other (G : Hs) (id : Int) : (G.click id).route = G.route ∧ (G.click id).frames = G.frames ∧ (G.click id).ts.length = G.ts.length ∧ ∀ u, u ≠ (id / 100).toNat → (G.click id).ts[u]? = G.ts[u]? := by
  unfold Hs.click
  split
  · exact ⟨rfl, rfl, rfl, fun _ _ => rfl⟩
  · split
    · refine ⟨rfl, rfl, by simp, fun u hu => ?_⟩
      exact List.getElem?_set_ne (fun e => hu e.symm)
    · exact ⟨rfl, rfl, rfl, fun _ _ => rfl⟩
theorem Twin.clickL (h : Twin kb G H) (id : Int) (hk : kb (id / 100).toNat = false) : Twin kb (G.click id) H := by
  obtain ⟨h1, h2, h3, h4⟩ := click_other G id
  refine ⟨by rw [h1]; exact h.route, by rw [h2]; exact h.frames, by rw [h3]; exact h.len, fun u hu => ?_⟩
  rw [h4 u (fun e => by rw [e, hk] at hu; cases hu)]
  exact h.same u hu
theorem Twin.clickR (h : Twin kb G H) (id : Int) (hk : kb (id / 100).toNat = false) : Twin kb G (H.click id) := by
  obtain ⟨h1, h2, h3, h4⟩ := click_other H id
  refine ⟨by rw [h1]; exact h.route, by rw [h2]; exact h.frames, by rw [h3]; exact h.len, fun u hu => ?_⟩
  rw [h4 u (fun e => by rw [e, hk] at hu; cases hu)]
  exact h.same u hu
theorem Twin.click (h : Twin kb G H) (id : Int) : Twin kb (G.click id) (H.click id) := by
  cases hk : kb (id / 100).toNat with
  | false => exact (h.clickL id hk).clickR id hk
  | true =>
    obtain ⟨h1, h2, h3, h4⟩ := click_other G id
    obtain ⟨g1, g2, g3, g4⟩ := click_other H id
    refine ⟨by rw [h1, g1]; exact h.route, by rw [h2, g2]; exact h.frames, by rw [h3, g3]; exact h.len, fun u hu => ?_⟩
    by_cases hu2 : u = (id / 100).toNat
    · have q := h.same _ hk
      have hl := h.len
      subst hu2
      unfold Hs.click
      split
      · exact q
      · rw [q]
        cases hx : G.ts[(id / 100).toNat]? with
        | none => exact q
        | some x =>
          have e1 := (List.getElem?_eq_some_iff.1 hx).1
          simp only
          rw [List.getElem?_set_self e1, List.getElem?_set_self (by rw [hl]; exact e1)]
    · rw [h4 u hu2, g4 u hu2]
      exact h.same u hu

/-- New hosts. -/
theorem Twin.new (hl : ms'.length = ms.length) (hsame : ∀ u, kb u = true → ms'[u]? = ms[u]?) : Twin kb (newHs ms) (newHs ms') := by
  refine ⟨rfl, rfl, by simp [newHs, hl], fun u hu => ?_⟩
  simp only [newHs, List.getElem?_map]
  rw [hsame u hu]
theorem Twin.opened (hg : ∀ m ∈ ms, m.good) (hg' : ∀ m ∈ ms', m.good) (hm : ms.length ≤ 4) (ha : Alike2 ms ms') (hs : Sep kb ms) (hs' : Sep kb ms') (hsame : ∀ u, kb u = true → ms'[u]? = ms[u]?) : Twin kb (openHs ms) (openHs ms') :=
  (Twin.new ha.len hsame).frame (newHs_ok hg) (newHs_ok hg') hm ha hs hs' (fun l hl => by simp at hl) (fun l hl => by simp at hl) (fun _ _ _ => rfl)
end

/-- What is linked from t or from one that is reached is reached. -/
def Closed (ms : List Mf) (t : Nat) (B : List Bool) : Prop := ∀ (a b : Nat) (ma mb : Mf), ms[a]? = some ma → ms[b]? = some mb → (a = t ∨ B[a]? = some true) → bits BinOp.and IntKind.u8 ma.pub mb.sub ≠ 0 → B[b]? = some true
/-- Those that are not t, and not reached. -/
def clear (t : Nat) (B : List Bool) (u : Nat) : Bool := decide (u ≠ t) && !(B.getD u false)

theorem Closed.sep {ms ms' : List Mf} {t : Nat} {B : List Bool} (h : Closed ms t B) (hg : ∀ m ∈ ms, m.good) (hl : B.length = ms.length) (ha : Alike2 ms ms') (hsame : ∀ u, u ≠ t → ms'[u]? = ms[u]?) : Sep (clear t B) ms ∧ Sep (clear t B) ms' := by
  have key : ∀ a u ma mu, clear t B a = false → clear t B u = true → ms[a]? = some ma → ms[u]? = some mu → ¬ linked ma.pub mu.sub := by
    intro a u ma mu ka ku hma hmu hlk
    have hb := linked_bits (hg ma (List.mem_of_getElem? hma)).pub (hg mu (List.mem_of_getElem? hmu)).sub hlk
    have hat : a = t ∨ B[a]? = some true := by
      by_cases e : a = t
      · exact Or.inl e
      · right
        simp only [clear, e, ne_eq, not_false_eq_true, decide_true, Bool.true_and, Bool.not_eq_false'] at ka
        rw [List.getD_eq_getElem?_getD] at ka
        cases hx : B[a]? with
        | none => rw [hx] at ka; simp at ka
        | some q => rw [hx] at ka; simp at ka; rw [ka]
    have hr := h a u ma mu hma hmu hat hb
    simp only [clear, Bool.and_eq_true, Bool.not_eq_true'] at ku
    have := ku.2
    rw [List.getD_eq_getElem?_getD, hr] at this
    simp at this
  refine ⟨key, ?_⟩
  intro a u ma mu ka ku hma hmu hlk
  have hul := (List.getElem?_eq_some_iff.1 hmu).1
  have hut : u ≠ t := by
    simp only [clear, Bool.and_eq_true, decide_eq_true_eq] at ku
    exact ku.1
  have hmu' : ms[u]? = some mu := by rw [← hsame u hut]; exact hmu
  have hal := (List.getElem?_eq_some_iff.1 hma).1
  obtain ⟨m0, hm0⟩ : ∃ m0, ms[a]? = some m0 := ⟨ms[a]'(by rw [← ha.len]; exact hal), List.getElem?_eq_getElem (by rw [← ha.len]; exact hal)⟩
  rw [ha.pub a m0 ma hm0 hma] at hlk
  exact key a u m0 mu ka ku hm0 hmu' hlk
end Go.Proofs.Ytidaflmmldefcaa
