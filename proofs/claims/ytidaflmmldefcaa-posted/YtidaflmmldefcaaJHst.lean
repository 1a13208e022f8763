/-
  Hst, HstB, HstC, HstD, HstE: joined.
-/
import Derived.Test.YtidaflmmldefcaaTenG
import Derived.Test.YtidaflmmldefcaaTenI
import Derived.Deep.Upon

/-
  A host in memory; the walks of has, Navigate, Phase.
-/
namespace Go.Proofs.Ytidaflmmldefcaa
open Go.RowKit
set_option linter.unusedVariables false

/-- A host at work. -/
structure Hs where
  route : Int
  frames : Int
  ts : List Tn

/-- Where the lists of a tenant lie: nodes, box, log. -/
abbrev Vs := Value × Value × Value

/-- The host H lies in block hb, its tenants in block tb. -/
structure HostAt (w : World) (hb tb cap : Nat) (H : Hs) (vs : List Vs) : Prop where
  host : Blk w hb #[.int .u8 H.route, .int .i64 H.frames, .slice (some ⟨tb, 0, none⟩) H.ts.length cap] 87
  len : vs.length = H.ts.length
  ten : ∀ (i : Nat) (x : Tn) (v : Vs), H.ts[i]? = some x → vs[i]? = some v → TenAt w tb (i * 21) x v.1 v.2.1 v.2.2
  boxes : ∀ (i j : Nat) (v u : Vs), vs[i]? = some v → vs[j]? = some u → i ≠ j → ∀ k, v.2.1.ownBlock = some k → u.2.1.ownBlock ≠ some k
  logs : ∀ (i j : Nat) (v u : Vs), vs[i]? = some v → vs[j]? = some u → i ≠ j → ∀ k, v.2.2.ownBlock = some k → u.2.2.ownBlock ≠ some k

/-- The blocks that a host's methods write. -/
def ownOf (hb tb : Nat) (vs : List Vs) (k : Nat) : Prop := k = hb ∨ k = tb ∨ ∃ v ∈ vs, some k = v.2.1.ownBlock ∨ some k = v.2.2.ownBlock

section
variable {w w' : World} {hb tb cap : Nat} {H : Hs} {vs : List Vs}

theorem HostAt.at (h : HostAt w hb tb cap H vs) {i : Nat} {x : Tn} (hx : H.ts[i]? = some x) : ∃ v, vs[i]? = some v ∧ TenAt w tb (i * 21) x v.1 v.2.1 v.2.2 := by
  have hi := (List.getElem?_eq_some_iff.1 hx).1
  obtain ⟨v, hv⟩ : ∃ v, vs[i]? = some v := ⟨vs[i]'(by rw [h.len]; exact hi), List.getElem?_eq_getElem (by rw [h.len]; exact hi)⟩
  exact ⟨v, hv, h.ten i x v hx hv⟩

/-- What is in the blocks that a host owns is kept, and the nodes are: the host is kept. -/
theorem HostAt.keep (h : HostAt w hb tb cap H vs) (hk : ∀ k, ownOf hb tb vs k → w'.heap[k]? = w.heap[k]?) (hn : ∀ k cs, Blk w k cs 77 → Blk w' k cs 77) : HostAt w' hb tb cap H vs := by
  refine ⟨h.host.of_block (hk hb (Or.inl rfl)), h.len, ?_, h.boxes, h.logs⟩
  intro i x v hx hv
  have ht := h.ten i x v hx hv
  have hm : v ∈ vs := List.mem_of_getElem? hv
  refine ⟨ht.slot.keep (hk tb (Or.inr (Or.inl rfl))), own_block ht.nodes fun k hk' => ?_, ht.box.keep fun k hk' => hk k (Or.inr (Or.inr ⟨v, hm, Or.inl hk'.symm⟩)), own_block ht.log fun k hk' => hk k (Or.inr (Or.inr ⟨v, hm, Or.inr hk'.symm⟩))⟩
  obtain ⟨cur, hb2⟩ := own_blk ht.nodes hk'
  have hb3 := hn k cur hb2
  unfold Blk at hb2 hb3
  rw [hb2, hb3]

theorem HostAt.below (h : HostAt w hb tb cap H vs) (hb' : Below w.heap.size w w') (htb : tb < w.heap.size) : HostAt w' hb tb cap H vs := by
  refine h.keep (fun k hk => ?_) (fun k cs q => q.below hb' q.lt)
  rcases hk with rfl | rfl | ⟨v, hv, q | q⟩
  · exact hb'.block _ h.host.lt
  · exact hb'.block _ htb
  · obtain ⟨i, hi⟩ := List.mem_iff_getElem?.1 hv
    have hl := (List.getElem?_eq_some_iff.1 hi).1
    obtain ⟨cur, q2⟩ := (h.ten i _ v (List.getElem?_eq_getElem (by rw [← h.len]; exact hl)) hi).box.blk q.symm
    exact hb'.block _ q2.lt
  · obtain ⟨i, hi⟩ := List.mem_iff_getElem?.1 hv
    have hl := (List.getElem?_eq_some_iff.1 hi).1
    obtain ⟨cur, q2⟩ := own_blk (h.ten i _ v (List.getElem?_eq_getElem (by rw [← h.len]; exact hl)) hi).log q.symm
    exact hb'.block _ q2.lt

set_option maxHeartbeats 2000000 in
theorem has_any (h : HostAt w hb tb cap H vs) (t : Int) :
    Calls Try.prog 31 #[.pointer (some ⟨hb, 0, none⟩), .int .i64 t] w fun e w' => e = .returned (.bool (decide (0 ≤ t ∧ t < (H.ts.length : Int)))) ∧ w = w' := by
  have c2 : w.cell? ⟨hb, 2, none⟩ = some (.slice (some ⟨tb, 0, none⟩) H.ts.length cap) := by rw [h.host.cell 2]; rfl
  clear h
  by_cases h0 : 0 ≤ t
  · have e : decide (0 ≤ t ∧ t < (H.ts.length : Int)) = decide (t < (H.ts.length : Int)) := by simp [h0]
    rw [e]
    go_enter Try.func31, Try.ntmps31
    go_wp2
    go_ret
    exact ⟨rfl, rfl⟩
  · have e : decide (0 ≤ t ∧ t < (H.ts.length : Int)) = false := by simp [h0]
    have hd : decide (0 ≤ t) = false := by simpa using h0
    rw [e]
    go_enter Try.func31, Try.ntmps31
    go_wp2
    go_ret
    exact ⟨rfl, rfl⟩

def Hs.navigate (H : Hs) (r : Int) : Hs := if 4 ≤ r then H else { H with route := r }

set_option maxHeartbeats 2000000 in
theorem navigate_any (h : HostAt w hb tb cap H vs) (r : Int) (hne : hb ≠ tb) (hbx : ∀ v ∈ vs, v.2.1.ownBlock ≠ some hb ∧ v.2.2.ownBlock ≠ some hb) :
    Calls Try.prog 25 #[.pointer (some ⟨hb, 0, none⟩), .int .u8 r] w fun e w' => e = .returned (.int .i64 (if 4 ≤ r then 6 else 0)) ∧ HostAt w' hb tb cap (H.navigate r) vs ∧ Kept (ownOf hb tb vs) w w' := by
  have HH : Hid (HostAt w hb tb cap H vs) := h
  have c0 : w.cell? ⟨hb, 0, none⟩ = some (.int .u8 H.route) := by rw [h.host.cell 0]; rfl
  have f0 := h.host.free 0
  by_cases h4 : 4 ≤ r
  · rw [if_pos h4]
    have HE : Hid (H.navigate r = H) := by unfold Hid Hs.navigate; rw [if_pos h4]
    clear h
    go_enter Try.func25, Try.ntmps25
    go_wp2
    go_ret
    refine ⟨rfl, ?_, Kept.refl _ _⟩
    rw [HE.out]
    exact HH.out
  · rw [if_neg h4]
    have HE : Hid (H.navigate r = { H with route := r }) := by unfold Hid Hs.navigate; rw [if_neg h4]
    have HNe : Hid (hb ≠ tb) := hne
    have HBx : Hid (∀ v ∈ vs, v.2.1.ownBlock ≠ some hb ∧ v.2.2.ownBlock ≠ some hb) := hbx
    clear h hne hbx
    go_enter Try.func25, Try.ntmps25
    go_wp2
    go_ret
    refine ⟨rfl, ?_, (Kept.refl _ _).setCell ⟨hb, 0, none⟩ _ (Or.inl (Or.inl rfl))⟩
    rw [HE.out]
    refine ⟨HH.out.host.set 0 _, HH.out.len, ?_, HH.out.boxes, HH.out.logs⟩
    intro i x v hx hv
    have ht := HH.out.ten i x v hx hv
    have hm := HBx.out v (List.mem_of_getElem? hv)
    have hk : ∀ k, k ≠ hb → (w.setCell ⟨hb, 0, none⟩ (.int .u8 r)).heap[k]? = w.heap[k]? := fun k hk => Below.heap_setCell _ _ _ _ hk
    refine ⟨ht.slot.keep (hk tb (fun e => HNe.out e.symm)), own_block ht.nodes fun k hk' => hk k ?_, ht.box.keep fun k hk' => hk k ?_, own_block ht.log fun k hk' => hk k ?_⟩
    · rintro rfl
      exact HH.out.host.ne_own ht.nodes (by decide) hk'.symm
    · rintro rfl
      exact hm.1 hk'
    · rintro rfl
      exact hm.2 hk'

set_option maxHeartbeats 2000000 in
theorem phase_any (h : HostAt w hb tb cap H vs) (t : Nat) {x : Tn} (hx : H.ts[t]? = some x) (hl : H.ts.length ≤ 100000) :
    Calls Try.prog 18 #[.pointer (some ⟨hb, 0, none⟩), .int .i64 t] w fun e w' => e = .returned (.int .u8 x.phase) ∧ w = w' := by
  have HC : Hid (Calls Try.prog 31 #[.pointer (some ⟨hb, 0, none⟩), .int .i64 (t : Int)] w fun e w' => e = .returned (.bool true) ∧ w = w') := by
    have q := has_any h (t : Int)
    have hi := (List.getElem?_eq_some_iff.1 hx).1
    rw [show decide (0 ≤ (t : Int) ∧ (t : Int) < (H.ts.length : Int)) = true by simp; omega] at q
    exact q
  have c2 : w.cell? ⟨hb, 2, none⟩ = some (.slice (some ⟨tb, 0, none⟩) H.ts.length cap) := by rw [h.host.cell 2]; rfl
  obtain ⟨v, hv, ht⟩ := h.at hx
  have c7 := ht.slot.cell 7 rfl
  have hi := (List.getElem?_eq_some_iff.1 hx).1
  have hti : (t : Int) < (H.ts.length : Int) := by omega
  have ht0 : (0 : Int) ≤ (t : Int) := by omega
  clear h hx hv ht
  go_enter Try.func18, Try.ntmps18
  go_wp2_with fail
  refine HC.out.mono ?_
  rintro e w' ⟨rfl, rfl⟩
  go_wp2
  go_ret
  exact ⟨rfl, rfl⟩
end
end Go.Proofs.Ytidaflmmldefcaa

/-
  A method on one tenant of a host; the walk of Click.
-/
namespace Go.Proofs.Ytidaflmmldefcaa
open Go.RowKit
set_option linter.unusedVariables false

section
variable {w w' : World} {hb tb cap : Nat} {H : Hs} {vs : List Vs}

/-- Behind a method on the tenant i. -/
theorem HostAt.upd (h : HostAt w hb tb cap H vs) {i : Nat} {x x' : Tn} {v : Vs} {nv' bv' lv' : Value} (hx : H.ts[i]? = some x) (hv : vs[i]? = some v) (ht' : TenAt w' tb (i * 21) x' nv' bv' lv') (hf : TFr w w' tb (i * 21) v.2.1 v.2.2) (hm : Moved w v.2.1 bv') (hm2 : Moved w v.2.2 lv') :
    HostAt w' hb tb cap { H with ts := H.ts.set i x' } (vs.set i (nv', bv', lv')) ∧ Kept (ownOf hb tb vs) w w' ∧ ∀ k, ownOf hb tb (vs.set i (nv', bv', lv')) k → ownOf hb tb vs k ∨ w.heap.size ≤ k := by
  have ht := h.ten i x v hx hv
  have hi := (List.getElem?_eq_some_iff.1 hv).1
  have hi2 := (List.getElem?_eq_some_iff.1 hx).1
  have hmem : v ∈ vs := List.mem_of_getElem? hv
  have other : ∀ j u, (vs.set i (nv', bv', lv'))[j]? = some u → j ≠ i → vs[j]? = some u := by
    intro j u hu hj
    rw [List.getElem?_set_ne (fun e => hj e.symm)] at hu
    exact hu
  have same : ∀ u, (vs.set i (nv', bv', lv'))[i]? = some u → u = (nv', bv', lv') := by
    intro u hu
    rw [List.getElem?_set_self hi] at hu
    exact (Option.some.inj hu).symm
  have tenj : ∀ j u, vs[j]? = some u → ∃ y, H.ts[j]? = some y ∧ TenAt w tb (j * 21) y u.1 u.2.1 u.2.2 := by
    intro j u hu
    have hj := (List.getElem?_eq_some_iff.1 hu).1
    have e : H.ts[j]? = some (H.ts[j]'(by rw [← h.len]; exact hj)) := List.getElem?_eq_getElem _
    exact ⟨_, e, h.ten j _ u e hu⟩
  refine ⟨⟨?_, ?_, ?_, ?_, ?_⟩, ?_, ?_⟩
  · have q := hf.blk ht h.host (by decide) (by decide) (by decide)
    simpa using q
  · simpa using h.len
  · intro j y u hy hu
    by_cases hj : j = i
    · subst hj
      have e := same u hu
      subst e
      simp only at hy
      rw [List.getElem?_set_self hi2] at hy
      have e2 : x' = y := Option.some.inj hy
      subst e2
      exact ht'
    · have hu' := other j u hu hj
      simp only at hy
      rw [List.getElem?_set_ne (fun e => hj e.symm)] at hy
      have hq := h.ten j y u hy hu'
      refine ⟨hf.slots _ _ (by omega) hq.slot, hf.own ht hq.nodes (by decide) (by decide) (by decide), hq.box.keep fun k hk => ?_, own_block hq.log fun k hk => ?_⟩
      · obtain ⟨cur, hb2⟩ := hq.box.blk hk
        refine hf.kept.block k hb2.lt ?_
        intro q
        rcases q with q | q | q
        · exact hq.box_tb (by rw [← q]; exact hk)
        · exact h.boxes j i u v hu' hv hj k hk q.symm
        · exact hb2.ne_own ht.log (by decide) q
      · obtain ⟨cur, hb2⟩ := own_blk hq.log hk
        refine hf.kept.block k hb2.lt ?_
        intro q
        rcases q with q | q | q
        · exact hq.log_tb (by rw [← q]; exact hk)
        · obtain ⟨c2, hb3⟩ := ht.box.blk q.symm
          exact hb2.ne hb3 (by decide) rfl
        · exact h.logs j i u v hu' hv hj k hk q.symm
  · intro a b u z hu hz hab k hk
    by_cases ha : a = i
    · subst ha
      have e := same u hu
      subst e
      have hz' := other b z hz (fun e => hab e.symm)
      obtain ⟨y, _, hq⟩ := tenj b z hz'
      intro hk2
      rcases hm k hk with q | q
      · exact h.boxes a b v z hv hz' hab k q.symm hk2
      · obtain ⟨c2, hb2⟩ := hq.box.blk hk2
        have := hb2.lt
        omega
    · have hu' := other a u hu ha
      by_cases hb' : b = i
      · subst hb'
        have e := same z hz
        subst e
        intro hk2
        rcases hm k hk2 with q | q
        · exact h.boxes a b u v hu' hv hab k hk q.symm
        · obtain ⟨y, _, hq⟩ := tenj a u hu'
          obtain ⟨c2, hb2⟩ := hq.box.blk hk
          have := hb2.lt
          omega
      · exact h.boxes a b u z hu' (other b z hz hb') hab k hk
  · intro a b u z hu hz hab k hk
    by_cases ha : a = i
    · subst ha
      have e := same u hu
      subst e
      have hz' := other b z hz (fun e => hab e.symm)
      obtain ⟨y, _, hq⟩ := tenj b z hz'
      intro hk2
      rcases hm2 k hk with q | q
      · exact h.logs a b v z hv hz' hab k q.symm hk2
      · obtain ⟨c2, hb2⟩ := own_blk hq.log hk2
        have := hb2.lt
        omega
    · have hu' := other a u hu ha
      by_cases hb' : b = i
      · subst hb'
        have e := same z hz
        subst e
        intro hk2
        rcases hm2 k hk2 with q | q
        · exact h.logs a b u v hu' hv hab k hk q.symm
        · obtain ⟨y, _, hq⟩ := tenj a u hu'
          obtain ⟨c2, hb2⟩ := own_blk hq.log hk
          have := hb2.lt
          omega
      · exact h.logs a b u z hu' (other b z hz hb') hab k hk
  · refine hf.kept.weaken ?_
    intro k q
    rcases q with q | q | q
    · exact Or.inr (Or.inl q)
    · exact Or.inr (Or.inr ⟨v, hmem, Or.inl q⟩)
    · exact Or.inr (Or.inr ⟨v, hmem, Or.inr q⟩)
  · intro k q
    rcases q with q | q | ⟨u, hu, q⟩
    · exact Or.inl (Or.inl q)
    · exact Or.inl (Or.inr (Or.inl q))
    · rcases List.mem_or_eq_of_mem_set hu with hu' | rfl
      · exact Or.inl (Or.inr (Or.inr ⟨u, hu', q⟩))
      · rcases q with q | q
        · rcases hm k q.symm with e | e
          · exact Or.inl (Or.inr (Or.inr ⟨v, hmem, Or.inl e⟩))
          · exact Or.inr e
        · rcases hm2 k q.symm with e | e
          · exact Or.inl (Or.inr (Or.inr ⟨v, hmem, Or.inr e⟩))
          · exact Or.inr e

/-- Behind a method on a host. -/
def HAft (w : World) (hb tb cap : Nat) (vs : List Vs) (H' : Hs) (w' : World) : Prop :=
  ∃ vs', HostAt w' hb tb cap H' vs' ∧ Kept (ownOf hb tb vs) w w' ∧ ∀ k, ownOf hb tb vs' k → ownOf hb tb vs k ∨ w.heap.size ≤ k

theorem HAft.trans {w1 : World} {vs1 : List Vs} {H' : Hs} (hk : Kept (ownOf hb tb vs) w w1) (ho : ∀ k, ownOf hb tb vs1 k → ownOf hb tb vs k ∨ w.heap.size ≤ k) (h : HAft w1 hb tb cap vs1 H' w') : HAft w hb tb cap vs H' w' := by
  obtain ⟨vs', h1, h2, h3⟩ := h
  refine ⟨vs', h1, hk.trans h2 ?_, ?_⟩
  · intro i hi q
    rcases ho i q with e | e
    · exact e
    · omega
  · intro k q
    rcases h3 k q with e | e
    · exact ho k e
    · exact Or.inr (Nat.le_trans hk.size e)
theorem HAft.refl (h : HostAt w hb tb cap H vs) : HAft w hb tb cap vs H w := ⟨vs, h, Kept.refl _ _, fun k q => Or.inl q⟩

/-- A click: the tenant by hundreds, the node by the rest. -/
def Hs.click (H : Hs) (id : Int) : Hs := if id < 0 then H else match H.ts[(id / 100).toNat]? with
  | some x => { H with ts := H.ts.set (id / 100).toNat (x.click (id % 100)) }
  | none => H
def Hs.clickE (H : Hs) (id : Int) : Int := if id < 0 then 7 else match H.ts[(id / 100).toNat]? with
  | some x => x.clickE (id % 100)
  | none => 7
end
end Go.Proofs.Ytidaflmmldefcaa

/-
  The walk of Click.
-/
namespace Go.Proofs.Ytidaflmmldefcaa
open Go.RowKit
set_option linter.unusedVariables false

section
variable {w w' : World} {hb tb cap : Nat} {H : Hs} {vs : List Vs}

set_option maxHeartbeats 4000000 in
theorem hclick_any (h : HostAt w hb tb cap H vs) (id : Int) (hi0 : -9223372036854775808 ≤ id) (hi1 : id ≤ 9223372036854775807) (hl : H.ts.length ≤ 100000) (hok : ∀ x ∈ H.ts, x.box.length ≤ 100000 ∧ x.nodes.length ≤ 100000 ∧ ∀ nd ∈ x.nodes, 0 ≤ nd.1 ∧ nd.1 ≤ 255) :
    Calls Try.prog 14 #[.pointer (some ⟨hb, 0, none⟩), .int .i64 id] w fun e w' => e = .returned (.int .i64 (H.clickE id)) ∧ HAft w hb tb cap vs (H.click id) w' := by
  have HH : Hid (HostAt w hb tb cap H vs) := h
  by_cases hneg : id < 0
  · have HE : Hid (H.clickE id = 7 ∧ H.click id = H) := by
      unfold Hid Hs.clickE Hs.click
      rw [if_pos hneg, if_pos hneg]
      exact ⟨rfl, rfl⟩
    have hd : id.tdiv 100 = -((-id) / 100) := by rw [← Int.tdiv_eq_ediv_of_nonneg (by omega), Int.neg_tdiv, Int.neg_neg]
    have hw : IntKind.i64.wrap (id.tdiv 100) = id.tdiv 100 := by rw [IntKind.wrap_i64, hd]; omega
    clear h hok hd
    go_enter Try.func14, Try.ntmps14
    go_wp2
    go_ret
    refine ⟨by rw [HE.out.1]; rfl, ?_⟩
    rw [HE.out.2]
    exact HAft.refl HH.out
  · obtain ⟨t, ht⟩ : ∃ t : Nat, (t : Int) = id / 100 := ⟨(id / 100).toNat, by omega⟩
    have hq : id.tdiv 100 = (t : Int) := by rw [Int.tdiv_eq_ediv_of_nonneg (by omega)]; exact ht.symm
    have hw : IntKind.i64.wrap (t : Int) = (t : Int) := by rw [IntKind.wrap_i64]; omega
    have hm : id.tmod 100 = id % 100 := Int.tmod_eq_emod_of_nonneg (by omega)
    have hwm : IntKind.i64.wrap (id % 100) = id % 100 := by rw [IntKind.wrap_i64]; omega
    have htn : (id / 100).toNat = t := by omega
    have HE : Hid (H.clickE id = (match H.ts[t]? with | some x => x.clickE (id % 100) | none => 7) ∧ H.click id = (match H.ts[t]? with | some x => { H with ts := H.ts.set t (x.click (id % 100)) } | none => H)) := by
      unfold Hid Hs.clickE Hs.click
      rw [if_neg hneg, if_neg hneg, htn]
      exact ⟨rfl, rfl⟩
    have c2 : w.cell? ⟨hb, 2, none⟩ = some (.slice (some ⟨tb, 0, none⟩) H.ts.length cap) := by rw [h.host.cell 2]; rfl
    have HC : Hid (Calls Try.prog 31 #[.pointer (some ⟨hb, 0, none⟩), .int .i64 (t : Int)] w fun e w' => e = .returned (.bool (decide (0 ≤ (t : Int) ∧ (t : Int) < (H.ts.length : Int)))) ∧ w = w') := has_any h (t : Int)
    by_cases hlt : t < H.ts.length
    · obtain ⟨x, hx⟩ : ∃ x, H.ts[t]? = some x := ⟨H.ts[t], List.getElem?_eq_getElem hlt⟩
      obtain ⟨v, hv, htn'⟩ := h.at hx
      have HV : Hid (H.ts[t]? = some x ∧ vs[t]? = some v) := ⟨hx, hv⟩
      have HK : Hid (Calls Try.prog 32 #[.pointer (some ⟨tb, t * 21, none⟩), .int .i64 (id % 100)] w fun e w' => e = .returned (.int .i64 (x.clickE (id % 100))) ∧ TAft w tb (t * 21) v.2.1 v.2.2 (x.click (id % 100)) w') := by
        obtain ⟨q1, q2, q3⟩ := hok x (List.mem_of_getElem? hx)
        exact click_any htn' (id % 100) q1 q2 q3
      rw [show decide (0 ≤ (t : Int) ∧ (t : Int) < (H.ts.length : Int)) = true by simp; omega] at HC
      have hti : (t : Int) < (H.ts.length : Int) := by omega
      have ht0 : (0 : Int) ≤ (t : Int) := by omega
      clear h hok hx hv htn' ht htn hlt
      go_enter Try.func14, Try.ntmps14
      go_wp2_with fail
      refine HC.out.mono ?_
      rintro e w' ⟨rfl, rfl⟩
      go_wp2_with fail
      refine HK.out.mono ?_
      rintro e w2 ⟨rfl, nv', bv', lv', a1, a2, a3, a4⟩
      have HZ : Hid (HAft w hb tb cap vs { H with ts := H.ts.set t (x.click (id % 100)) } w2) := by
        obtain ⟨q1, q2, q3⟩ := HH.out.upd HV.out.1 HV.out.2 a1 a2 a3 a4
        exact ⟨_, q1, q2, q3⟩
      clear a1 a2 a3 a4
      go_wp2
      go_ret
      refine ⟨by rw [HE.out.1, HV.out.1]; rfl, ?_⟩
      rw [HE.out.2, HV.out.1]
      exact HZ.out
    · have HN : Hid (H.ts[t]? = none) := List.getElem?_eq_none (by omega)
      rw [show decide (0 ≤ (t : Int) ∧ (t : Int) < (H.ts.length : Int)) = false by simp; omega] at HC
      clear h hok ht htn hlt
      go_enter Try.func14, Try.ntmps14
      go_wp2_with fail
      refine HC.out.mono ?_
      rintro e w' ⟨rfl, rfl⟩
      go_wp2
      go_ret
      refine ⟨by rw [HE.out.1, HN.out]; rfl, ?_⟩
      rw [HE.out.2, HN.out]
      exact HAft.refl HH.out
end
end Go.Proofs.Ytidaflmmldefcaa

/-
  The walk of Cells.
-/
namespace Go.Proofs.Ytidaflmmldefcaa
open Go.RowKit
set_option linter.unusedVariables false

section
variable {w w' : World} {hb tb cap : Nat} {H : Hs} {vs : List Vs}

/-- has, of a tenant that is there. -/
theorem has_yes (h : HostAt w hb tb cap H vs) {t : Nat} {x : Tn} (hx : H.ts[t]? = some x) : Calls Try.prog 31 #[.pointer (some ⟨hb, 0, none⟩), .int .i64 (t : Int)] w fun e w' => e = .returned (.bool true) ∧ w = w' := by
  have q := has_any h (t : Int)
  have hi := (List.getElem?_eq_some_iff.1 hx).1
  rw [show decide (0 ≤ (t : Int) ∧ (t : Int) < (H.ts.length : Int)) = true by simp; omega] at q
  exact q

set_option maxHeartbeats 4000000 in
theorem cells_any (h : HostAt w hb tb cap H vs) (t : Nat) {x : Tn} (hx : H.ts[t]? = some x) (hl : H.ts.length ≤ 100000) (htb : tb < w.heap.size) :
    Calls Try.prog 17 #[.pointer (some ⟨hb, 0, none⟩), .int .i64 t] w fun e w' => e = .returned (.agg #[.int .u16 (x.cells.getD 0 0), .int .u16 (x.cells.getD 1 0), .int .u16 (x.cells.getD 2 0), .int .u16 (x.cells.getD 3 0), .int .u16 (x.cells.getD 4 0), .int .u16 (x.cells.getD 5 0), .int .u16 (x.cells.getD 6 0), .int .u16 (x.cells.getD 7 0)]) ∧ Below w.heap.size w w' := by
  have HC : Hid (∀ ob, Calls Try.prog 31 #[.pointer (some ⟨hb, 0, none⟩), .int .i64 (t : Int)] (w.alloc ob) fun e w' => e = .returned (.bool true) ∧ w.alloc ob = w') := fun ob => has_yes (h.below ((Below.refl _ _).alloc (Nat.le_refl _) _) htb) hx
  have c2 : w.cell? ⟨hb, 2, none⟩ = some (.slice (some ⟨tb, 0, none⟩) H.ts.length cap) := by rw [h.host.cell 2]; rfl
  obtain ⟨v, hv, ht⟩ := h.at hx
  obtain ⟨a0, ha0⟩ : ∃ a, a = x.cells.getD 0 0 := ⟨_, rfl⟩
  have c8 : w.cell? ⟨tb, t * 21 + 8, none⟩ = some (.int .u16 a0) := by rw [ha0]; exact ht.slot.cell 8 rfl
  obtain ⟨a1, ha1⟩ : ∃ a, a = x.cells.getD 1 0 := ⟨_, rfl⟩
  have c9 : w.cell? ⟨tb, t * 21 + 8 + 1, none⟩ = some (.int .u16 a1) := by rw [ha1]; exact ht.slot.cell 9 rfl
  obtain ⟨a2, ha2⟩ : ∃ a, a = x.cells.getD 2 0 := ⟨_, rfl⟩
  have c10 : w.cell? ⟨tb, t * 21 + 8 + 2, none⟩ = some (.int .u16 a2) := by rw [ha2]; exact ht.slot.cell 10 rfl
  obtain ⟨a3, ha3⟩ : ∃ a, a = x.cells.getD 3 0 := ⟨_, rfl⟩
  have c11 : w.cell? ⟨tb, t * 21 + 8 + 3, none⟩ = some (.int .u16 a3) := by rw [ha3]; exact ht.slot.cell 11 rfl
  obtain ⟨a4, ha4⟩ : ∃ a, a = x.cells.getD 4 0 := ⟨_, rfl⟩
  have c12 : w.cell? ⟨tb, t * 21 + 8 + 4, none⟩ = some (.int .u16 a4) := by rw [ha4]; exact ht.slot.cell 12 rfl
  obtain ⟨a5, ha5⟩ : ∃ a, a = x.cells.getD 5 0 := ⟨_, rfl⟩
  have c13 : w.cell? ⟨tb, t * 21 + 8 + 5, none⟩ = some (.int .u16 a5) := by rw [ha5]; exact ht.slot.cell 13 rfl
  obtain ⟨a6, ha6⟩ : ∃ a, a = x.cells.getD 6 0 := ⟨_, rfl⟩
  have c14 : w.cell? ⟨tb, t * 21 + 8 + 6, none⟩ = some (.int .u16 a6) := by rw [ha6]; exact ht.slot.cell 14 rfl
  obtain ⟨a7, ha7⟩ : ∃ a, a = x.cells.getD 7 0 := ⟨_, rfl⟩
  have c15 : w.cell? ⟨tb, t * 21 + 8 + 7, none⟩ = some (.int .u16 a7) := by rw [ha7]; exact ht.slot.cell 15 rfl
  have hi := (List.getElem?_eq_some_iff.1 hx).1
  have hti : (t : Int) < (H.ts.length : Int) := by omega
  have ht0 : (0 : Int) ≤ (t : Int) := by omega
  have hhb := h.host.lt
  have n1 : ¬ hb = w.heap.size := by omega
  have n2 : ¬ tb = w.heap.size := by omega
  rw [← ha0, ← ha1, ← ha2, ← ha3, ← ha4, ← ha5, ← ha6, ← ha7]
  clear h hx hv ht ha0 ha1 ha2 ha3 ha4 ha5 ha6 ha7
  go_enter Try.func17, Try.ntmps17
  go_wp2_with fail
  refine (HC.out _).mono ?_
  rintro e w' ⟨rfl, rfl⟩
  go_wp2
  refine bodyPost_ret (v := .agg #[.int .u16 a0, .int .u16 a1, .int .u16 a2, .int .u16 a3, .int .u16 a4, .int .u16 a5, .int .u16 a6, .int .u16 a7]) (by simp [results, Try.results17, go_sem]) rfl ⟨rfl, (Below.refl _ _).alloc (Nat.le_refl _) _⟩
end
end Go.Proofs.Ytidaflmmldefcaa

/-
  The walks of Tree, Box and Log.
-/
namespace Go.Proofs.Ytidaflmmldefcaa
open Go.RowKit
set_option linter.unusedVariables false

section
variable {w w' : World} {hb tb cap : Nat} {H : Hs} {vs : List Vs}

theorem own_empty (w : World) (t : TypeId) (size : Nat) : (w.alloc (.cells #[] t)).ownsRow w.heap.size t size (.slice (some ⟨w.heap.size, 0, none⟩) 0 0) 0 [] :=
  ⟨by simp, Or.inr ⟨w.heap.size, 0, #[], rfl, Nat.le_refl _, Blk.new w #[] t, Nat.le_refl _, Nat.zero_le _, by simp, by simp⟩⟩
theorem ndCells_one (l : List Tr.T.Nd) : ∀ v ∈ Tr.ndCells l, v.oneCell' = true := by
  intro v hv
  unfold Tr.ndCells at hv
  obtain ⟨x, _, hx⟩ := List.mem_flatMap.1 hv
  simp at hx
  rcases hx with rfl | rfl | rfl <;> rfl

set_option maxHeartbeats 4000000 in
theorem htree_any (h : HostAt w hb tb cap H vs) (t : Nat) {x : Tn} (hx : H.ts[t]? = some x) (hl : H.ts.length ≤ 100000) (hnl : x.nodes.length ≤ 100000) :
    Calls Try.prog 26 #[.pointer (some ⟨hb, 0, none⟩), .int .i64 t] w fun e w' => ∃ rv, e = .returned rv ∧ w'.ownsRow w.heap.size 77 3 rv x.nodes.length (Tr.ndCells x.nodes) ∧ Below w.heap.size w w' := by
  obtain ⟨i0, hi0, hz0, hz1, hz2⟩ := info_parts Tr.info60
  have HC : Hid (Calls Try.prog 31 #[.pointer (some ⟨hb, 0, none⟩), .int .i64 (t : Int)] w fun e w' => e = .returned (.bool true) ∧ w = w') := has_yes h hx
  have c2 : w.cell? ⟨hb, 2, none⟩ = some (.slice (some ⟨tb, 0, none⟩) H.ts.length cap) := by rw [h.host.cell 2]; rfl
  obtain ⟨v, hv, ht⟩ := h.at hx
  have c16 := ht.slot.cell 16 rfl
  have HN : Hid (w.ownsRow 0 77 3 v.1 x.nodes.length (Tr.ndCells x.nodes)) := ht.nodes
  obtain ⟨ao, nc, hvv⟩ := own_is ht.nodes
  rw [hvv] at c16 HN
  have hi := (List.getElem?_eq_some_iff.1 hx).1
  have hti : (t : Int) < (H.ts.length : Int) := by omega
  have ht0 : (0 : Int) ≤ (t : Int) := by omega
  have hhb := h.host.lt
  have htb := ht.slot.lt
  have n1 : ¬ hb = w.heap.size := by omega
  have n2 : ¬ tb = w.heap.size := by omega
  clear h hx hv ht hvv
  go_enter Try.func26, Try.ntmps26
  go_wp2_with fail
  refine HC.out.mono ?_
  rintro e w' ⟨rfl, rfl⟩
  have HE0 : Hid ((w.alloc (.cells #[] 77)).ownsRow w.heap.size 77 3 (.slice (some ⟨w.heap.size, 0, none⟩) 0 0) 0 []) := own_empty w 77 3
  have HNa : Hid ((w.alloc (.cells #[] 77)).ownsRow 0 77 3 (.slice ao x.nodes.length nc) x.nodes.length (Tr.ndCells x.nodes)) := HN.out.alloc _
  have HBa : Hid (Below w.heap.size w (w.alloc (.cells #[] 77))) := (Below.refl _ _).alloc (Nat.le_refl _) _
  cases ao with
  | none =>
    have h0 : x.nodes = [] := by
      rcases HN.out.2 with ⟨_, h⟩ | ⟨g, c, cur, h, _⟩
      · exact List.eq_nil_of_length_eq_zero h
      · simp at h
    have hn0 : x.nodes.length = 0 := by rw [h0]; rfl
    have hc0 : nc = 0 := by
      rcases HN.out.2 with ⟨h, _⟩ | ⟨g, c, cur, h, _⟩
      · simp only [Value.slice.injEq] at h; exact h.2.2
      · simp at h
    subst hc0
    rw [hn0] at c16
    have HX0 : Hid (x.nodes = []) := h0
    clear HN HNa h0 hn0
    go_wp2
    go_ret
    refine ⟨_, rfl, ?_, HBa.out⟩
    rw [HX0.out]
    exact HE0.out
  | some ad =>
    obtain ⟨g, hg⟩ : ∃ g, ad = ⟨g, 0, none⟩ := by
      rcases HN.out.2 with ⟨h, _⟩ | ⟨g, c, cur, h, _⟩
      · simp at h
      · simp only [Value.slice.injEq, Option.some.injEq] at h; exact ⟨g, h.1⟩
    subst hg
    have HNw : Hid (∀ j u, (Tr.ndCells x.nodes)[j]? = some u → (w.alloc (.cells #[] 77)).cell? ((⟨g, 0, none⟩ : Addr).add j) = some u) := fun j u hj => World.ownsRow.cells HNa.out rfl j u hj
    go_wp2_with (at_builtin; refine wpList_append_own_at _ rfl (.tmp 9) (.tmp 17) 73 rfl w.heap.size 77 i0 (.agg #[.int .u8 0, .int .u16 0, .string ⟨#[]⟩]) 3 24 Try.underlying73 hi0 hz0 hz1 hz2 rfl (by decide) _ 0 _ rfl HE0.out ⟨g, 0, none⟩ x.nodes.length nc (Tr.ndCells x.nodes) rfl (Tr.ndCells_length _) HNw.out (ndCells_one _) (by unfold maxLen; omega) (by omega) (by simp) ?_)
    intro v1 w1 ho1 hg1 _ _
    have HO1 : Hid (w1.ownsRow w.heap.size 77 3 v1 x.nodes.length (Tr.ndCells x.nodes)) := by
      first
        | exact ho1
        | simpa using ho1
    have HB1 : Hid (Below w.heap.size w w1) := HBa.out.grown hg1 (by simp) (fun k hk => by simp [Value.ownBlock] at hk; omega)
    obtain ⟨vo, vc, rfl⟩ := own_is ho1
    clear ho1 hg1
    go_wp2
    go_ret
    exact ⟨_, rfl, HO1.out, HB1.out⟩
theorem enCells_one (l : List En) : ∀ v ∈ enCells l, v.oneCell' = true := by
  intro v hv
  obtain ⟨x, _, hx⟩ := List.mem_flatMap.1 hv
  simp [En.cells] at hx
  rcases hx with rfl | rfl | rfl | rfl <;> rfl
theorem box_cells {w : World} {g of c : Nat} {l : List Ev} (h : BoxAt w (.slice (some ⟨g, of, none⟩) l.length c) l) : ∀ j u, (evCells l)[j]? = some u → w.cell? ((⟨g, of, none⟩ : Addr).add j) = some u := by
  rcases h with ⟨h, _⟩ | ⟨g', o', cap, cur, e, hb, h1, h2, h3, h4⟩
  · simp at h
  · simp only [Value.slice.injEq, Option.some.injEq, Addr.mk.injEq, and_true, true_and] at e
    obtain ⟨⟨rfl, rfl⟩, rfl⟩ := e
    intro j u hj
    have hjl : j < l.length * 4 := by rw [← evCells_length]; exact (List.getElem?_eq_some_iff.1 hj).1
    rw [Addr.add_lit, hb.cell, ← hj, ← h4, List.getElem?_take, if_pos hjl, List.getElem?_drop]
    simp

set_option maxHeartbeats 4000000 in
theorem hlog_any (h : HostAt w hb tb cap H vs) (t : Nat) {x : Tn} (hx : H.ts[t]? = some x) (hl : H.ts.length ≤ 100000) (hnl : x.log.length ≤ 100000) :
    Calls Try.prog 19 #[.pointer (some ⟨hb, 0, none⟩), .int .i64 t] w fun e w' => ∃ rv, e = .returned rv ∧ w'.ownsRow w.heap.size 56 4 rv x.log.length (enCells x.log) ∧ Below w.heap.size w w' := by
  obtain ⟨i0, hi0, hz0, hz1, hz2⟩ := info_parts info56
  have HC : Hid (Calls Try.prog 31 #[.pointer (some ⟨hb, 0, none⟩), .int .i64 (t : Int)] w fun e w' => e = .returned (.bool true) ∧ w = w') := has_yes h hx
  have c2 : w.cell? ⟨hb, 2, none⟩ = some (.slice (some ⟨tb, 0, none⟩) H.ts.length cap) := by rw [h.host.cell 2]; rfl
  obtain ⟨v, hv, ht⟩ := h.at hx
  have c18 := ht.slot.cell 18 rfl
  have HN : Hid (w.ownsRow 0 56 4 v.2.2 x.log.length (enCells x.log)) := ht.log
  obtain ⟨ao, nc, hvv⟩ := own_is ht.log
  rw [hvv] at c18 HN
  have hi := (List.getElem?_eq_some_iff.1 hx).1
  have hti : (t : Int) < (H.ts.length : Int) := by omega
  have ht0 : (0 : Int) ≤ (t : Int) := by omega
  have hhb := h.host.lt
  have htb := ht.slot.lt
  have n1 : ¬ hb = w.heap.size := by omega
  have n2 : ¬ tb = w.heap.size := by omega
  clear h hx hv ht hvv
  go_enter Try.func19, Try.ntmps19
  go_wp2_with fail
  refine HC.out.mono ?_
  rintro e w' ⟨rfl, rfl⟩
  have HE0 : Hid ((w.alloc (.cells #[] 56)).ownsRow w.heap.size 56 4 (.slice (some ⟨w.heap.size, 0, none⟩) 0 0) 0 []) := own_empty w 56 4
  have HNa : Hid ((w.alloc (.cells #[] 56)).ownsRow 0 56 4 (.slice ao x.log.length nc) x.log.length (enCells x.log)) := HN.out.alloc _
  have HBa : Hid (Below w.heap.size w (w.alloc (.cells #[] 56))) := (Below.refl _ _).alloc (Nat.le_refl _) _
  cases ao with
  | none =>
    have h0 : x.log = [] := by
      rcases HN.out.2 with ⟨_, h⟩ | ⟨g, c, cur, h, _⟩
      · exact List.eq_nil_of_length_eq_zero h
      · simp at h
    have hn0 : x.log.length = 0 := by rw [h0]; rfl
    have hc0 : nc = 0 := by
      rcases HN.out.2 with ⟨h, _⟩ | ⟨g, c, cur, h, _⟩
      · simp only [Value.slice.injEq] at h; exact h.2.2
      · simp at h
    subst hc0
    rw [hn0] at c18
    have HX0 : Hid (x.log = []) := h0
    clear HN HNa h0 hn0
    go_wp2
    go_ret
    refine ⟨_, rfl, ?_, HBa.out⟩
    rw [HX0.out]
    exact HE0.out
  | some ad =>
    obtain ⟨g, hg⟩ : ∃ g, ad = ⟨g, 0, none⟩ := by
      rcases HN.out.2 with ⟨h, _⟩ | ⟨g, c, cur, h, _⟩
      · simp at h
      · simp only [Value.slice.injEq, Option.some.injEq] at h; exact ⟨g, h.1⟩
    subst hg
    have HNw : Hid (∀ j u, (enCells x.log)[j]? = some u → (w.alloc (.cells #[] 56)).cell? ((⟨g, 0, none⟩ : Addr).add j) = some u) := fun j u hj => World.ownsRow.cells HNa.out rfl j u hj
    go_wp2_with (at_builtin; refine wpList_append_own_at _ rfl (.tmp 9) (.tmp 17) 53 rfl w.heap.size 56 i0 (.agg #[.int .i64 0, .int .u8 0, .int .u16 0, .int .u16 0]) 4 16 Try.underlying53 hi0 hz0 hz1 hz2 rfl (by decide) _ 0 _ rfl HE0.out ⟨g, 0, none⟩ x.log.length nc (enCells x.log) rfl (enCells_length _) HNw.out (enCells_one _) (by unfold maxLen; omega) (by omega) (by simp) ?_)
    intro v1 w1 ho1 hg1 _ _
    have HO1 : Hid (w1.ownsRow w.heap.size 56 4 v1 x.log.length (enCells x.log)) := by
      first
        | exact ho1
        | simpa using ho1
    have HB1 : Hid (Below w.heap.size w w1) := HBa.out.grown hg1 (by simp) (fun k hk => by simp [Value.ownBlock] at hk; omega)
    obtain ⟨vo, vc, rfl⟩ := own_is ho1
    clear ho1 hg1
    go_wp2
    go_ret
    exact ⟨_, rfl, HO1.out, HB1.out⟩

set_option maxHeartbeats 4000000 in
theorem hbox_any (h : HostAt w hb tb cap H vs) (t : Nat) {x : Tn} (hx : H.ts[t]? = some x) (hl : H.ts.length ≤ 100000) (hnl : x.box.length ≤ 100000) :
    Calls Try.prog 15 #[.pointer (some ⟨hb, 0, none⟩), .int .i64 t] w fun e w' => ∃ rv, e = .returned rv ∧ w'.ownsRow w.heap.size 58 4 rv x.box.length (evCells x.box) ∧ Below w.heap.size w w' := by
  obtain ⟨i0, hi0, hz0, hz1, hz2⟩ := info_parts info58
  have HC : Hid (Calls Try.prog 31 #[.pointer (some ⟨hb, 0, none⟩), .int .i64 (t : Int)] w fun e w' => e = .returned (.bool true) ∧ w = w') := has_yes h hx
  have c2 : w.cell? ⟨hb, 2, none⟩ = some (.slice (some ⟨tb, 0, none⟩) H.ts.length cap) := by rw [h.host.cell 2]; rfl
  obtain ⟨v, hv, ht⟩ := h.at hx
  have c17 := ht.slot.cell 17 rfl
  have HN : Hid (BoxAt w v.2.1 x.box) := ht.box
  obtain ⟨ao, nc, hvv, _⟩ := ht.box.shape
  rw [hvv] at c17 HN
  have hi := (List.getElem?_eq_some_iff.1 hx).1
  have hti : (t : Int) < (H.ts.length : Int) := by omega
  have ht0 : (0 : Int) ≤ (t : Int) := by omega
  have hhb := h.host.lt
  have htb := ht.slot.lt
  have n1 : ¬ hb = w.heap.size := by omega
  have n2 : ¬ tb = w.heap.size := by omega
  clear h hx hv ht hvv
  go_enter Try.func15, Try.ntmps15
  go_wp2_with fail
  refine HC.out.mono ?_
  rintro e w' ⟨rfl, rfl⟩
  have HE0 : Hid ((w.alloc (.cells #[] 58)).ownsRow w.heap.size 58 4 (.slice (some ⟨w.heap.size, 0, none⟩) 0 0) 0 []) := own_empty w 58 4
  have HNa : Hid (BoxAt (w.alloc (.cells #[] 58)) (.slice ao x.box.length nc) x.box) := HN.out.keep fun k hk => by
    obtain ⟨cur, q⟩ := HN.out.blk hk
    exact Below.heap_alloc _ _ _ q.lt
  have HBa : Hid (Below w.heap.size w (w.alloc (.cells #[] 58))) := (Below.refl _ _).alloc (Nat.le_refl _) _
  cases ao with
  | none =>
    have h0 : x.box = [] := by
      rcases HN.out with ⟨_, h⟩ | ⟨g, o, c, cur, h, _⟩
      · exact h
      · simp at h
    have hn0 : x.box.length = 0 := by rw [h0]; rfl
    have hc0 : nc = 0 := by
      rcases HN.out with ⟨h, _⟩ | ⟨g, o, c, cur, h, _⟩
      · simp only [Value.slice.injEq] at h; exact h.2.2
      · simp at h
    subst hc0
    rw [hn0] at c17
    have HX0 : Hid (x.box = []) := h0
    clear HN HNa h0 hn0
    go_wp2
    go_ret
    refine ⟨_, rfl, ?_, HBa.out⟩
    rw [HX0.out]
    exact HE0.out
  | some ad =>
    obtain ⟨g, of, hg⟩ : ∃ g of, ad = ⟨g, of, none⟩ := by
      rcases HN.out with ⟨h, _⟩ | ⟨g, of, c, cur, h, _⟩
      · simp at h
      · simp only [Value.slice.injEq, Option.some.injEq] at h; exact ⟨g, of, h.1⟩
    subst hg
    have HNw : Hid (∀ j u, (evCells x.box)[j]? = some u → (w.alloc (.cells #[] 58)).cell? ((⟨g, of, none⟩ : Addr).add j) = some u) := fun j u hj => box_cells HNa.out j u hj
    go_wp2_with (at_builtin; refine wpList_append_own_at _ rfl (.tmp 9) (.tmp 17) 43 rfl w.heap.size 58 i0 (.agg #[.int .u8 0, .int .u8 0, .int .u16 0, .int .u8 0]) 4 6 Try.underlying43 hi0 hz0 hz1 hz2 rfl (by decide) _ 0 _ rfl HE0.out ⟨g, of, none⟩ x.box.length nc (evCells x.box) rfl (evCells_length _) HNw.out (evCells_one _) (by unfold maxLen; omega) (by omega) (by simp) ?_)
    intro v1 w1 ho1 hg1 _ _
    have HO1 : Hid (w1.ownsRow w.heap.size 58 4 v1 x.box.length (evCells x.box)) := by
      first
        | exact ho1
        | simpa using ho1
    have HB1 : Hid (Below w.heap.size w w1) := HBa.out.grown hg1 (by simp) (fun k hk => by simp [Value.ownBlock] at hk; omega)
    obtain ⟨vo, vc, rfl⟩ := own_is ho1
    clear ho1 hg1
    go_wp2
    go_ret
    exact ⟨_, rfl, HO1.out, HB1.out⟩
end
end Go.Proofs.Ytidaflmmldefcaa
