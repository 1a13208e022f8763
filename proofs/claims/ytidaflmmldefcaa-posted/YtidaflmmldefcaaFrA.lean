/-
  The walks of runTenant and of deliver.
-/
import Derived.Test.YtidaflmmldefcaaFrM
namespace Go.Proofs.Ytidaflmmldefcaa
open Go.RowKit
set_option linter.unusedVariables false

/-- The draws of a frame: where they lie, as long as nothing but S is written. -/
def DrsK (S : Nat → Prop) (w : World) (dao : Option Addr) (dl : List (List Int)) : Prop :=
  ∀ i ds, dl[i]? = some ds → ∃ g off eo ec, dao = some ⟨g, off, none⟩ ∧ ∀ u, Kept S w u → u.cell? ⟨g, off + i, none⟩ = some (.slice eo ds.length ec) ∧ DrawsAt u eo ds.length ds u.heap.size

theorem DrsK.step {S S1 : Nat → Prop} {w w1 : World} {dao : Option Addr} {dl : List (List Int)} (h : DrsK S w dao dl) (hk : Kept S w w1) (hs : ∀ k, S1 k → S k ∨ w.heap.size ≤ k) : DrsK S1 w1 dao dl := by
  intro i ds hd
  obtain ⟨g, off, eo, ec, e, hu⟩ := h i ds hd
  refine ⟨g, off, eo, ec, e, fun u hu1 => hu u (hk.trans hu1 ?_)⟩
  intro k hk' q
  rcases hs k q with e | e
  · exact e
  · omega
theorem DrsK.nil (S : Nat → Prop) (w : World) (dao : Option Addr) : DrsK S w dao [] := by intro i ds h; simp at h

theorem DrawsAt.none (w : World) (b : Nat) : DrawsAt w none 0 [] b :=
  ⟨rfl, Nat.zero_le _, ⟨0, 0, fun h => absurd h (by decide), fun i x h => by simp at h⟩, fun v hv => by simp at hv⟩

section
variable {w w' : World} {hb tb cap : Nat} {H : Hs} {vs : List Vs}

theorem HostAt.tb_lt (h : HostAt w hb tb cap H vs) {i : Nat} {x : Tn} (hx : H.ts[i]? = some x) : tb < w.heap.size := by
  obtain ⟨v, _, ht⟩ := h.at hx
  exact ht.slot.lt

set_option maxHeartbeats 8000000 in
theorem runTenant_any (h : HostAt w hb tb cap H vs) (t : Nat) {x : Tn} (hx : H.ts[t]? = some x) (hl : H.ts.length ≤ 100000) (hok : x.ok) (hn0 : 0 ≤ H.frames) (hn1 : H.frames ≤ 1000000) (hr0 : 0 ≤ H.route) (hr1 : H.route ≤ 255) (dao : Option Addr) (dcap : Nat) (dl : List (List Int)) (hdl : dl.length ≤ maxLen) (hd : DrsK (ownOf hb tb vs) w dao dl) :
    Calls Try.prog 34 #[.pointer (some ⟨hb, 0, none⟩), .int .i64 t, .slice dao dl.length dcap] w fun e w' => ∃ gv, e = .returned gv ∧ HAft w hb tb cap vs { H with ts := H.ts.set t (x.turn H.frames H.route (drawsOf dl t)) } w' ∧ w'.ownsRow w.heap.size 93 2 gv (x.gives H.frames H.route (drawsOf dl t)).length (sendCells (x.gives H.frames H.route (drawsOf dl t))) := by
  have HH : Hid (HostAt w hb tb cap H vs) := h
  have c0 : w.cell? ⟨hb, 0, none⟩ = some (.int .u8 H.route) := by rw [h.host.cell 0]; rfl
  have c1 : w.cell? ⟨hb, 1, none⟩ = some (.int .i64 H.frames) := by rw [h.host.cell 1]; rfl
  have c2 : w.cell? ⟨hb, 2, none⟩ = some (.slice (some ⟨tb, 0, none⟩) H.ts.length cap) := by rw [h.host.cell 2]; rfl
  obtain ⟨v, hv, ht⟩ := h.at hx
  have c7 := ht.slot.cell 7 rfl
  have hi := (List.getElem?_eq_some_iff.1 hx).1
  have hti : (t : Int) < (H.ts.length : Int) := by omega
  have ht0 : (0 : Int) ≤ (t : Int) := by omega
  have HV : Hid (H.ts[t]? = some x ∧ vs[t]? = some v) := ⟨hx, hv⟩
  have hmem : v ∈ vs := List.mem_of_getElem? hv
  have hsub : ∀ k, (k = tb ∨ some k = v.2.1.ownBlock ∨ some k = v.2.2.ownBlock) → ownOf hb tb vs k := by
    intro k q
    rcases q with q | q | q
    · exact Or.inr (Or.inl q)
    · exact Or.inr (Or.inr ⟨v, hmem, Or.inl q⟩)
    · exact Or.inr (Or.inr ⟨v, hmem, Or.inr q⟩)
  by_cases hp : x.phase = 1
  · have HE : Hid (x.turn H.frames H.route (drawsOf dl t) = x.handle H.frames H.route (drawsOf dl t) ∧ x.gives H.frames H.route (drawsOf dl t) = x.sent H.frames H.route (drawsOf dl t)) := by
      unfold Hid Tn.turn Tn.gives
      rw [if_pos hp, if_pos hp]
      exact ⟨rfl, rfl⟩
    rw [hp] at c7
    have key : ∀ (eo : Option Addr) (ec : Nat) (en : Nat) (ds : List Int), ds = drawsOf dl t → (∀ u, Kept (ownOf hb tb vs) w u → DrawsAt u eo en ds u.heap.size) → Hid (∀ u, Below w.heap.size w u → Calls Try.prog 43 #[.pointer (some ⟨tb, t * 21, none⟩), .int .i64 H.frames, .int .u8 H.route, .slice eo en ec] u fun e w' => ∃ gv, e = .returned gv ∧ HAft w hb tb cap vs { H with ts := H.ts.set t (x.handle H.frames H.route (drawsOf dl t)) } w' ∧ w'.ownsRow w.heap.size 93 2 gv (x.sent H.frames H.route (drawsOf dl t)).length (sendCells (x.sent H.frames H.route (drawsOf dl t)))) := by
      intro eo ec en ds hds hdr u hu
      subst hds
      have htu := ht.below hu
      have hku : Kept (ownOf hb tb vs) w u := Kept.of_below hu
      have hho := h.below hu ht.slot.lt
      refine (handle_any htu hok H.frames H.route hn0 hn1 hr0 hr1 eo en ec (drawsOf dl t) (fun u2 hu2 => hdr u2 (hku.trans (hu2.weaken hsub) (fun _ _ q => q)))).mono ?_
      rintro e w2 ⟨gv, rfl, ⟨nv', bv', lv', a1, a2, a3, a4⟩, ho⟩
      obtain ⟨q1, q2, q3⟩ := hho.upd hx hv a1 a2 a3 a4
      refine ⟨gv, rfl, HAft.trans hku (fun k q => Or.inl q) ⟨_, q1, q2, q3⟩, own_weak ho hu.size⟩
    by_cases hlt : t < dl.length
    · obtain ⟨ds, hds⟩ : ∃ ds, dl[t]? = some ds := ⟨dl[t], List.getElem?_eq_getElem hlt⟩
      obtain ⟨g, off, eo, ec, rfl, hu⟩ := hd t ds hds
      have cd := (hu w (Kept.refl _ _)).1
      have HK := key eo ec ds.length ds (by unfold drawsOf; rw [List.getD_eq_getElem?_getD, hds]; rfl) (fun u q => (hu u q).2)
      have hdi : (t : Int) < (dl.length : Int) := by omega
      clear h hx hv ht hd hu key hds hsub hmem hp hok
      go_enter Try.func34, Try.ntmps34
      go_upto_region 6 with fail
      go_region_with (go_at_call 43; refine (HK.out _ (by first | exact Below.refl _ _ | exact (Below.refl _ _).drew)).mono ?_; rintro e w2 ⟨gv, rfl, ha, ho⟩; have HA : Hid (HAft w hb tb cap vs { H with ts := H.ts.set t (x.handle H.frames H.route (drawsOf dl t)) } w2) := ha; have HO : Hid (w2.ownsRow w.heap.size 93 2 gv (x.sent H.frames H.route (drawsOf dl t)).length (sendCells (x.sent H.frames H.route (drawsOf dl t)))) := ho; obtain ⟨vo, vc, rfl⟩ := own_is ho; clear ha ho)
      all_goals go_wp2
      all_goals go_ret
      all_goals exact ⟨_, rfl, by rw [HE.out.1]; exact HA.out, by rw [HE.out.2]; exact HO.out⟩
    · have HK := key none 0 0 [] (by unfold drawsOf; rw [List.getD_eq_getElem?_getD, List.getElem?_eq_none (by omega)]; rfl) (fun u q => DrawsAt.none _ _)
      have hdi : ¬ (t : Int) < (dl.length : Int) := by omega
      clear h hx hv ht hd key hsub hmem hp hok
      go_enter Try.func34, Try.ntmps34
      go_upto_region 6 with fail
      go_region_with (go_at_call 43; refine (HK.out _ (by first | exact Below.refl _ _ | exact (Below.refl _ _).drew)).mono ?_; rintro e w2 ⟨gv, rfl, ha, ho⟩; have HA : Hid (HAft w hb tb cap vs { H with ts := H.ts.set t (x.handle H.frames H.route (drawsOf dl t)) } w2) := ha; have HO : Hid (w2.ownsRow w.heap.size 93 2 gv (x.sent H.frames H.route (drawsOf dl t)).length (sendCells (x.sent H.frames H.route (drawsOf dl t)))) := ho; obtain ⟨vo, vc, rfl⟩ := own_is ho; clear ha ho)
      all_goals go_wp2
      all_goals go_ret
      all_goals exact ⟨_, rfl, by rw [HE.out.1]; exact HA.out, by rw [HE.out.2]; exact HO.out⟩
  · have hpb : (x.phase != 1) = true := by simpa using hp
    have HE : Hid (x.turn H.frames H.route (drawsOf dl t) = x ∧ x.gives H.frames H.route (drawsOf dl t) = []) := by
      unfold Hid Tn.turn Tn.gives
      rw [if_neg hp, if_neg hp]
      exact ⟨rfl, rfl⟩
    have HS : Hid (H.ts.set t x = H.ts) := by
      unfold Hid
      apply List.ext_getElem?
      intro i
      by_cases hit : i = t
      · subst hit
        rw [List.getElem?_set_self hi, hx]
      · rw [List.getElem?_set_ne (fun e => hit e.symm)]
    clear h hx hv ht hd hsub hmem hp hok
    go_enter Try.func34, Try.ntmps34
    go_wp2
    go_ret
    refine ⟨_, rfl, ?_, ?_⟩
    · rw [HE.out.1, HS.out]
      exact HAft.refl HH.out
    · rw [HE.out.2]
      exact World.ownsRow_nil _ _ _ _

/-- What a method on a host leaves alone, by types. -/
theorem HostAt.own_ty (h : HostAt w hb tb cap H vs) (hne : H.ts ≠ []) {k : Nat} (hk : ownOf hb tb vs k) : ∃ cs t, Blk w k cs t ∧ (t = 87 ∨ t = 84 ∨ t = 58 ∨ t = 56) := by
  rcases hk with rfl | rfl | ⟨v, hv, q⟩
  · exact ⟨_, _, h.host, Or.inl rfl⟩
  · cases hts : H.ts with
    | nil => exact absurd hts hne
    | cons x r =>
      obtain ⟨v, _, ht⟩ := h.at (i := 0) (x := x) (by rw [hts]; rfl)
      obtain ⟨cur, q, _⟩ := ht.slot
      exact ⟨_, _, q, Or.inr (Or.inl rfl)⟩
  · obtain ⟨i, hi⟩ := List.mem_iff_getElem?.1 hv
    have hl := (List.getElem?_eq_some_iff.1 hi).1
    have ht := h.ten i _ v (List.getElem?_eq_getElem (by rw [← h.len]; exact hl)) hi
    rcases q with q | q
    · obtain ⟨cur, q2⟩ := ht.box.blk q.symm
      exact ⟨_, _, q2, Or.inr (Or.inr (Or.inl rfl))⟩
    · obtain ⟨cur, q2⟩ := own_blk ht.log q.symm
      exact ⟨_, _, q2, Or.inr (Or.inr (Or.inr rfl))⟩
theorem HostAt.kept_blk (h : HostAt w hb tb cap H vs) (hne : H.ts ≠ []) (hk : Kept (ownOf hb tb vs) w w') {b : Nat} {cs : Array Value} {t : TypeId} (hbk : Blk w b cs t) (h1 : t ≠ 87) (h2 : t ≠ 84) (h3 : t ≠ 58) (h4 : t ≠ 56) : Blk w' b cs t := by
  refine hbk.of_block (hk.block _ hbk.lt fun q => ?_)
  obtain ⟨c2, t2, q2, q3⟩ := h.own_ty hne q
  rcases q3 with rfl | rfl | rfl | rfl
  · exact hbk.ne q2 h1 rfl
  · exact hbk.ne q2 h2 rfl
  · exact hbk.ne q2 h3 rfl
  · exact hbk.ne q2 h4 rfl
theorem HostAt.kept_own (h : HostAt w hb tb cap H vs) (hne : H.ts ≠ []) (hk : Kept (ownOf hb tb vs) w w') {base : Nat} {t : TypeId} {size : Nat} {v : Value} {n : Nat} {xs : List Value} (ho : w.ownsRow base t size v n xs) (h1 : t ≠ 87) (h2 : t ≠ 84) (h3 : t ≠ 58) (h4 : t ≠ 56) : w'.ownsRow base t size v n xs := by
  refine own_block ho fun k hk' => ?_
  obtain ⟨cur, q⟩ := own_blk ho hk'
  have q' := h.kept_blk hne hk q h1 h2 h3 h4
  unfold Blk at q q'
  rw [q, q']
end
end Go.Proofs.Ytidaflmmldefcaa
