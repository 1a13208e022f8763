/-
  Two hosts in memory.
-/
import Derived.Test.YtidaflmmldefcaaApM
import Derived.Test.YtidaflmmldefcaaTwn
import Derived.Test.YtidaflmmldefcaaOth
namespace Go.Proofs.Ytidaflmmldefcaa
open Go.RowKit
set_option linter.unusedVariables false

/-- Blocks of other types than a host's are kept. -/
def Keeps (u u' : World) : Prop := ∀ b cs t, t ≠ 87 → t ≠ 84 → t ≠ 58 → t ≠ 56 → Blk u b cs t → Blk u' b cs t
theorem Keeps.below {u u' : World} (h : Below u.heap.size u u') : Keeps u u' := fun b cs t _ _ _ _ q => q.below h q.lt
theorem Keeps.trans {u u1 u2 : World} (h : Keeps u u1) (k : Keeps u1 u2) : Keeps u u2 := fun b cs t a1 a2 a3 a4 q => k b cs t a1 a2 a3 a4 (h b cs t a1 a2 a3 a4 q)
theorem Keeps.own {u u' : World} (h : Keeps u u') {base : Nat} {t : TypeId} {size : Nat} {v : Value} {n : Nat} {xs : List Value} (ho : u.ownsRow base t size v n xs) (h1 : t ≠ 87) (h2 : t ≠ 84) (h3 : t ≠ 58) (h4 : t ≠ 56) : u'.ownsRow base t size v n xs := by
  refine own_block ho fun k hk => ?_
  obtain ⟨cur, q⟩ := own_blk ho hk
  have q' := h k cur t h1 h2 h3 h4 q
  unfold Blk at q q'
  rw [q, q']

theorem HostAt.own_lt {u : World} {hp tb cap : Nat} {H : Hs} {vs : List Vs} (h : HostAt u hp tb cap H vs) (hne : H.ts ≠ []) {k : Nat} (hk : ownOf hp tb vs k) : k < u.heap.size := by
  obtain ⟨cs, t, q, _⟩ := h.own_ty hne hk
  exact q.lt

/-- Two hosts, apart in memory, from base on. -/
def Two (base hp tb cap hq tc cbp : Nat) (u : World) (G H : Hs) : Prop :=
  ∃ vs vs2, HostAt u hp tb cap G vs ∧ HostAt u hq tc cbp H vs2 ∧ (∀ k, ownOf hp tb vs k → base ≤ k) ∧ (∀ k, ownOf hq tc vs2 k → base ≤ k) ∧ (∀ k, ownOf hp tb vs k → ¬ ownOf hq tc vs2 k)

section
variable {base hp tb cap hq tc cbp : Nat} {u u' : World} {G H : Hs} {ms ms' : List Mf}

theorem Two.swap (h : Two base hp tb cap hq tc cbp u G H) : Two base hq tc cbp hp tb cap u H G := by
  obtain ⟨vs, vs2, h1, h2, h3, h4, h5⟩ := h
  exact ⟨vs2, vs, h2, h1, h4, h3, fun k q r => h5 k r q⟩
theorem Two.below (h : Two base hp tb cap hq tc cbp u G H) (hG : G.ts ≠ []) (hH : H.ts ≠ []) (hb : Below u.heap.size u u') : Two base hp tb cap hq tc cbp u' G H := by
  obtain ⟨vs, vs2, h1, h2, h3, h4, h5⟩ := h
  exact ⟨vs, vs2, h1.below hb (h1.tbl hG), h2.below hb (h2.tbl hH), h3, h4, h5⟩
/-- A method on the first. -/
theorem Two.left {vs vs2 : List Vs} {G' : Hs} (h1 : HostAt u hp tb cap G vs) (h2 : HostAt u hq tc cbp H vs2) (h3 : ∀ k, ownOf hp tb vs k → base ≤ k) (h4 : ∀ k, ownOf hq tc vs2 k → base ≤ k) (h5 : ∀ k, ownOf hp tb vs k → ¬ ownOf hq tc vs2 k) (hG : G.ts ≠ []) (hH : H.ts ≠ []) (hbase : base ≤ u.heap.size) (ha : HAft u hp tb cap vs G' u') :
    Two base hp tb cap hq tc cbp u' G' H ∧ Below base u u' ∧ Keeps u u' := by
  obtain ⟨vs', a1, a2, a3⟩ := ha
  refine ⟨⟨vs', vs2, a1, ?_, ?_, h4, ?_⟩, a2.below hbase h3, fun b cs t e1 e2 e3 e4 q => h1.kept_blk hG a2 q e1 e2 e3 e4⟩
  · refine h2.keep (fun k hk => ?_) (fun k cs q => h1.kept_blk hG a2 q (by decide) (by decide) (by decide) (by decide))
    exact a2.block k (h2.own_lt hH hk) (fun q => h5 k q hk)
  · intro k q
    rcases a3 k q with e | e
    · exact h3 k e
    · exact Nat.le_trans hbase e
  · intro k q r
    rcases a3 k q with e | e
    · exact h5 k e r
    · have := h2.own_lt hH r
      omega

/-- The draws of a step lie where both hosts leave them. -/
def DrsT (base hp tb cap : Nat) (G : Hs) (u : World) (dao : Option Addr) (dl : List (List Int)) : Prop := ∀ vs, HostAt u hp tb cap G vs → (∀ k, ownOf hp tb vs k → base ≤ k) → DrsK (ownOf hp tb vs) u dao dl

theorem Two.does_left (h : Two base hp tb cap hq tc cbp u G H) (hi : HI ms G) (hm1 : 1 ≤ ms.length) (hm4 : ms.length ≤ 4) (hH : H.ts ≠ []) (hbase : base ≤ u.heap.size) (kind a : Int) (hk : in64 kind) (ha : in64 a) (dao : Option Addr) (dcap : Nat) (dl : List (List Int)) (hdl : dl.length ≤ maxLen) (hd : DrsT base hp tb cap G u dao dl) (hr : ∀ l ∈ dl, InR l) :
    Calls Try.prog 9 #[.pointer (some ⟨hp, 0, none⟩), .agg #[.int .i64 kind, .int .i64 a, .slice dao dl.length dcap]] u fun e w' => e = .returned (.bool true) ∧ Two base hp tb cap hq tc cbp w' (G.does kind a dl) H ∧ Below base u w' ∧ Keeps u w' := by
  obtain ⟨vs, vs2, h1, h2, h3, h4, h5⟩ := h
  refine (does_any h1 hi hm4 (hi.ne hm1) kind a hk ha dao dcap dl hdl (hd vs h1 h3) hr).mono ?_
  rintro e w' ⟨rfl, haf⟩
  exact ⟨rfl, Two.left h1 h2 h3 h4 h5 (hi.ne hm1) hH hbase haf⟩
theorem Two.does_right (h : Two base hp tb cap hq tc cbp u G H) (hi : HI ms' H) (hm1 : 1 ≤ ms'.length) (hm4 : ms'.length ≤ 4) (hG : G.ts ≠ []) (hbase : base ≤ u.heap.size) (kind a : Int) (hk : in64 kind) (ha : in64 a) (dao : Option Addr) (dcap : Nat) (dl : List (List Int)) (hdl : dl.length ≤ maxLen) (hd : DrsT base hq tc cbp H u dao dl) (hr : ∀ l ∈ dl, InR l) :
    Calls Try.prog 9 #[.pointer (some ⟨hq, 0, none⟩), .agg #[.int .i64 kind, .int .i64 a, .slice dao dl.length dcap]] u fun e w' => e = .returned (.bool true) ∧ Two base hp tb cap hq tc cbp w' G (H.does kind a dl) ∧ Below base u w' ∧ Keeps u w' := by
  refine (h.swap.does_left hi hm1 hm4 hG hbase kind a hk ha dao dcap dl hdl hd hr).mono ?_
  rintro e w' ⟨rfl, h1, h2, h3⟩
  exact ⟨rfl, h1.swap, h2, h3⟩

theorem DrIn.toT {w : World} {dao : Option Addr} {dl : List (List Int)} (h : DrIn w dao dl) (hu : Below w.heap.size w u) : DrsT w.heap.size hp tb cap G u dao dl := fun vs _ h3 => h.toK hu h3
theorem DrsT.nil (dao : Option Addr) : DrsT base hp tb cap G u dao [] := fun vs _ _ => DrsK.nil _ _ _
/-- What other hands back serves. -/
theorem drs_other {w : World} (hne : G.ts ≠ []) {ao : Option Addr} {c : Nat} {acc : List Dr} (hok : ∀ d ∈ acc, d.ok w) (hu : Below w.heap.size w u) {b2 : Nat} (ho : u.ownsRow b2 63 1 (.slice ao acc.length c) acc.length (drVals acc)) : DrsT w.heap.size hp tb cap G u ao (acc.map (·.ds)) := by
  intro vs h1 h3 i ds hd
  rw [List.getElem?_map] at hd
  cases hx : acc[i]? with
  | none => rw [hx] at hd; simp at hd
  | some d =>
    rw [hx] at hd
    have e : d.ds = ds := by simpa using hd
    subst e
    have hv : (drVals acc)[i]? = some d.val := by unfold drVals; rw [List.getElem?_map, hx]; rfl
    obtain ⟨g, rfl, _⟩ := row_cell ho hv
    refine ⟨g, 0, d.eo, d.ec, rfl, fun z hz => ?_⟩
    have ho' := h1.kept_own hne hz ho (by decide) (by decide) (by decide) (by decide)
    obtain ⟨g', e1, hc⟩ := row_cell ho' hv
    simp only [Option.some.injEq, Addr.mk.injEq, and_true] at e1
    subst e1
    rw [Nat.zero_add]
    exact ⟨hc, (hok d (List.mem_of_getElem? hx)).at (hu.trans (hz.below hu.size h3))⟩

theorem Two.twins_any (h : Two base hp tb cap hq tc cbp u G H) (hi : HI ms G) (hi' : HI ms' H) (hm4 : ms.length ≤ 4) (hm4' : ms'.length ≤ 4) {kb : Nat → Bool} (ht : Twin kb G H) (j : Nat) (hj : j < ms.length) (hk : kb j = true) :
    Calls Try.prog 23 #[.pointer (some ⟨hp, 0, none⟩), .pointer (some ⟨hq, 0, none⟩), .int .i64 j] u fun e w' => e = .returned (.bool true) ∧ Below u.heap.size u w' := by
  obtain ⟨vs, vs2, h1, h2, h3, h4, h5⟩ := h
  have hl := hi.len
  obtain ⟨x, hx⟩ : ∃ x, G.ts[j]? = some x := ⟨G.ts[j]'(by omega), List.getElem?_eq_getElem (by omega)⟩
  have hy : H.ts[j]? = some x := by rw [ht.same j hk]; exact hx
  have hti := hi.ten j x hx
  have h6 := hti.nlen
  have h7 := hti.blen hm4
  have h8 := hti.llen
  have h9 := hi.frames
  exact twins_eq h1 h2 j hx hy (by omega) (by have := hi'.len; omega) (by omega) (by omega) (by omega)
end
end Go.Proofs.Ytidaflmmldefcaa
