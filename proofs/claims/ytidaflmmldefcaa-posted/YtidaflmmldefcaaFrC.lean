/-
  The walk of Frame.
-/
import Derived.Test.YtidaflmmldefcaaFrB
namespace Go.Proofs.Ytidaflmmldefcaa
open Go.RowKit
set_option linter.unusedVariables false

theorem info95 : (Try.prog.info? 95).map (fun i => (i.zero, i.size, i.bytes)) = some (some (.agg #[.int .i64 0, .int .u8 0, .int .u16 0]), 3, 16) := by kernel_rfl

theorem own_three {w : World} {base : Nat} {e : TypeId} {ao : Option Addr} {n c k : Nat} {xs : List Value} {a b d : Value} (h : w.ownsRow base e 3 (.slice ao n c) n xs) (ha : xs[k * 3]? = some a) (hb : xs[k * 3 + 1]? = some b) (hd : xs[k * 3 + 2]? = some d) : ∃ g, ao = some ⟨g, 0, none⟩ ∧ w.cell? ⟨g, k * 3, none⟩ = some a ∧ w.cell? ⟨g, k * 3 + 1, none⟩ = some b ∧ w.cell? ⟨g, k * 3 + 2, none⟩ = some d := by
  rcases h.2 with ⟨hv, h0⟩ | ⟨g, cap, cur, hv, _⟩
  · have : xs = [] := List.eq_nil_of_length_eq_zero (by have := h.1; omega)
    subst this
    simp at ha
  · simp only [Value.slice.injEq] at hv
    have q : ∀ j u, xs[j]? = some u → w.cell? ⟨g, j, none⟩ = some u := by
      intro j u hj
      have h1 := World.ownsRow.cells h (g := g) (by rw [hv.1]; rfl) _ _ hj
      rw [Addr.add_lit, Nat.zero_add] at h1
      exact h1
    exact ⟨g, hv.1, q _ _ ha, q _ _ hb, q _ _ hd⟩

section
variable {w w' : World} {hb tb cap : Nat} {H : Hs} {vs : List Vs}

theorem HostAt.tbl (h : HostAt w hb tb cap H vs) (hne : H.ts ≠ []) : tb < w.heap.size := by
  cases hts : H.ts with
  | nil => exact absurd hts hne
  | cons x r => exact h.tb_lt (i := 0) (x := x) (by rw [hts]; rfl)

/-- A row beside the host grows. -/
theorem HostAt.grown (h : HostAt w hb tb cap H vs) (hne : H.ts ≠ []) {base : Nat} {t : TypeId} {size : Nat} {v : Value} {n : Nat} {xs : List Value} (ho : w.ownsRow base t size v n xs) (hg : w.grownBy w' v.ownBlock) (h1 : t ≠ 87) (h2 : t ≠ 84) (h3 : t ≠ 58) (h4 : t ≠ 56) (h5 : t ≠ 77) : HostAt w' hb tb cap H vs := by
  refine h.keep (fun k hk => ?_) (fun k cs q => ?_)
  · obtain ⟨cs, t2, q, q2⟩ := h.own_ty hne hk
    refine hg.block k q.lt fun e => ?_
    refine q.ne_own ho (fun e2 => ?_) e
    subst e2
    rcases q2 with q2 | q2 | q2 | q2
    · exact h1 q2
    · exact h2 q2
    · exact h3 q2
    · exact h4 q2
  · exact q.of_block (hg.block k q.lt fun e => q.ne_own ho (fun e2 => h5 e2.symm) e)

theorem HAft.grown {w1 : World} {H' : Hs} (h : HAft w hb tb cap vs H' w1) (hne : H'.ts ≠ []) {base : Nat} {t : TypeId} {size : Nat} {v : Value} {n : Nat} {xs : List Value} (hbase : w.heap.size ≤ base) (ho : w1.ownsRow base t size v n xs) (hg : w1.grownBy w' v.ownBlock) (h1 : t ≠ 87) (h2 : t ≠ 84) (h3 : t ≠ 58) (h4 : t ≠ 56) (h5 : t ≠ 77) : HAft w hb tb cap vs H' w' := by
  obtain ⟨vs1, a1, a2, a3⟩ := h
  exact ⟨vs1, a1.grown hne ho hg h1 h2 h3 h4 h5, a2.grown hg (fun k hk => Or.inr (Nat.le_trans hbase (ho.lt k hk).1)), a3⟩
theorem HAft.below {w1 : World} {H' : Hs} (h : HAft w hb tb cap vs H' w1) (hne : H'.ts ≠ []) (hb1 : Below w1.heap.size w1 w') : HAft w hb tb cap vs H' w' := by
  obtain ⟨vs1, a1, a2, a3⟩ := h
  exact ⟨vs1, a1.below hb1 (a1.tbl hne), a2.trans (Kept.of_below (S := ownOf hb tb vs) hb1) (fun _ _ q => q), a3⟩
theorem HAft.alloc {w1 : World} {H' : Hs} (h : HAft w hb tb cap vs H' w1) (hne : H'.ts ≠ []) (o : Obj) : HAft w hb tb cap vs H' (w1.alloc o) := h.below hne ((Below.refl _ _).alloc (Nat.le_refl _) _)

/-- The number of frames is written. -/
theorem HostAt.set_frames (h : HostAt w hb tb cap H vs) (n : Int) : HAft w hb tb cap vs { H with frames := n } (w.setCell ⟨hb, 1, none⟩ (.int .i64 n)) := by
  refine ⟨vs, ⟨h.host.set 1 _, h.len, ?_, h.boxes, h.logs⟩, (Kept.refl _ _).setCell ⟨hb, 1, none⟩ _ (Or.inl (Or.inl rfl)), fun k q => Or.inl q⟩
  intro i x v hx hv
  have ht := h.ten i x v hx hv
  have hk : ∀ k, k ≠ hb → (w.setCell ⟨hb, 1, none⟩ (.int .i64 n)).heap[k]? = w.heap[k]? := fun k hk => Below.heap_setCell _ _ _ _ hk
  refine ⟨ht.slot.keep (hk tb ?_), own_block ht.nodes fun k hk' => hk k ?_, ht.box.keep fun k hk' => hk k ?_, own_block ht.log fun k hk' => hk k ?_⟩
  · obtain ⟨cur, q, _⟩ := ht.slot
    exact q.ne h.host (by decide)
  · rintro rfl
    exact h.host.ne_own ht.nodes (by decide) hk'.symm
  · rintro rfl
    obtain ⟨cur, q⟩ := ht.box.blk hk'
    exact q.ne h.host (by decide) rfl
  · rintro rfl
    exact h.host.ne_own ht.log (by decide) hk'.symm

theorem upTo_ne {f : Nat → Tn → Tn} {k : Nat} {l : List Tn} (h : l ≠ []) : upTo f k l ≠ [] := by
  intro e
  have := congrArg List.length e
  rw [upTo_length] at this
  exact h (List.eq_nil_of_length_eq_zero (by simpa using this))

set_option maxRecDepth 100000 in
set_option maxHeartbeats 16000000 in
theorem frame_any (h : HostAt w hb tb cap H vs) (hne : H.ts ≠ []) (dao : Option Addr) (dcap : Nat) (dl : List (List Int)) (hfit : Fit H dl) (hdl : dl.length ≤ maxLen) (hd : DrsK (ownOf hb tb vs) w dao dl) :
    Calls Try.prog 16 #[.pointer (some ⟨hb, 0, none⟩), .slice dao dl.length dcap] w fun e w' => e = .returned (.int .i64 H.frameE) ∧ HAft w hb tb cap vs (H.frame dl) w' := by
  obtain ⟨i0, hi, hz0, hz1, hz2⟩ := info_parts info95
  have HH : Hid (HostAt w hb tb cap H vs) := h
  have c1 : w.cell? ⟨hb, 1, none⟩ = some (.int .i64 H.frames) := by rw [h.host.cell 1]; rfl
  have f1 := h.host.free 1
  by_cases h200 : 200 ≤ H.frames
  · have HE : Hid (H.frameE = 9 ∧ H.frame dl = H) := by
      unfold Hid Hs.frameE Hs.frame
      rw [if_pos h200, if_pos h200]
      exact ⟨rfl, rfl⟩
    clear h hd
    go_enter Try.func16, Try.ntmps16
    go_wp2
    go_ret
    rw [HE.out.1, HE.out.2]
    exact ⟨rfl, HAft.refl HH.out⟩
  · have HE : Hid (H.frameE = 0 ∧ H.frame dl = { H with frames := H.frames + 1, ts := H.posted dl (H.post dl).length }) := by
      unfold Hid Hs.frameE Hs.frame
      rw [if_neg h200, if_neg h200, posted_all]
      exact ⟨rfl, rfl⟩
    obtain ⟨n1, hn1⟩ : ∃ n1, n1 = H.frames + 1 := ⟨_, rfl⟩
    have hr := hfit.frames
    have hw1 : IntKind.i64.wrap (H.frames + 1) = n1 := by rw [IntKind.wrap_i64, hn1]; omega
    have hn10 : 0 ≤ n1 := by omega
    have hn11 : n1 ≤ 1000000 := by omega
    obtain ⟨hr0, hr1⟩ := hfit.route
    obtain ⟨fc, hfc⟩ : ∃ fc : Nat → Tn → Tn, fc = fun _ x => x.come n1 H.route := ⟨_, rfl⟩
    obtain ⟨fr, hfr⟩ : ∃ fr : Nat → Tn → Tn, fr = fun i x => x.turn n1 H.route (drawsOf dl i) := ⟨_, rfl⟩
    have HFc : Hid (∀ i x, fc i x = x.come n1 H.route) := by intro i x; rw [hfc]
    have HFr : Hid (∀ i x, fr i x = x.turn n1 H.route (drawsOf dl i)) := by intro i x; rw [hfr]
    obtain ⟨N, hN⟩ : ∃ N, N = H.ts.length := ⟨_, rfl⟩
    have HN : Hid (H.ts.length = N) := hN.symm
    obtain ⟨C, hC⟩ : ∃ C, C = H.came := ⟨_, rfl⟩
    have HCa : Hid (upTo fc N H.ts = C) := by unfold Hid; rw [hN, upTo_all, hC, hfc, hn1]; rfl
    have HCl : Hid (C.length = N) := by unfold Hid; rw [hC, hN]; simp [Hs.came]
    have HTu : Hid (upTo fr N C = H.turned dl) := by unfold Hid; rw [← HCl.out, upTo_all, hC, hfr, hn1]; rfl
    obtain ⟨pt, hpt⟩ : ∃ pt : Nat → List Lt, pt = postTo C n1 H.route dl := ⟨_, rfl⟩
    have HPt : Hid (∀ k x, C[k]? = some x → pt (k + 1) = pt k ++ lettersOf k (x.gives n1 H.route (drawsOf dl k))) := by
      intro k x hx
      rw [hpt]
      show postTo C n1 H.route dl k ++ _ = _
      rw [hx]
    have HP0 : Hid (pt 0 = []) := by unfold Hid; rw [hpt]; rfl
    have HPo : Hid (pt N = H.post dl) := by unfold Hid; rw [hpt, hN, hC, hn1]; rfl
    have HOkC : Hid (∀ x ∈ C, x.ok ∧ ∀ i, (x.gives n1 H.route (drawsOf dl i)).length ≤ 4) := by
      intro x hx
      rw [hC] at hx
      rw [hn1]
      exact ⟨hfit.came x hx, fun i => hfit.gives x hx i⟩
    have HOkS : Hid (∀ x ∈ H.ts, x.box.length ≤ 100000 ∧ 0 ≤ x.routes ∧ x.routes ≤ 255) := hfit.start
    have HOkP : Hid (∀ k, ∀ x ∈ H.posted dl k, x.box.length ≤ 100000 ∧ x.log.length ≤ 100000 ∧ 0 ≤ x.sub ∧ x.sub ≤ 255) := hfit.posted
    have HOkL : Hid (∀ L ∈ H.post dl, (0 ≤ L.1 ∧ L.1 ≤ 200) ∧ 0 ≤ L.2.1 ∧ L.2.1 ≤ 255) := hfit.post
    have HPs : Hid (∀ k L, (H.post dl)[k]? = some L → H.posted dl (k + 1) = deliver n1 (H.posted dl k) L) := by intro k L hL; rw [hn1]; exact posted_step H dl hL
    have hN4 : N ≤ 4 := by rw [hN]; exact hfit.len
    have HNe : Hid (H.ts ≠ []) := hne
    have HNC : Hid (C ≠ []) := by
      intro e
      have h1 := HCl.out
      rw [e] at h1
      have h2 := HN.out
      exact HNe.out (List.eq_nil_of_length_eq_zero (by rw [h2, ← h1]; rfl))
    have HDr : Hid (DrsK (ownOf hb tb vs) w dao dl) := hd
    have HF0 : Hid (HAft w hb tb cap vs { H with frames := n1 } (w.setCell ⟨hb, 1, none⟩ (.int .i64 n1))) := h.set_frames n1
    have c2 : w.cell? ⟨hb, 2, none⟩ = some (.slice (some ⟨tb, 0, none⟩) N cap) := by rw [h.host.cell 2, hN]; rfl
    have HEn : Hid (H.frame dl = { H with frames := n1, ts := H.posted dl (H.post dl).length }) := by unfold Hid; rw [HE.out.2, hn1]
    have HPz : Hid (H.posted dl 0 = H.turned dl) := posted_zero H dl
    have HPl : Hid (∀ k, (H.posted dl k).length = N) := by intro k; rw [posted_length]; exact hN.symm
    clear h hd hfit hne hn1 hN hfc hfr hC hpt
    go_enter Try.func16, Try.ntmps16
    go_upto_region 5 with fail
    go_loopw [30] (fun i wr => ∃ k : Nat, k ≤ N ∧ i = .int .i64 k ∧ Hid (HAft w hb tb cap vs { H with frames := n1, ts := upTo fc k H.ts } wr))
      (fun i _ => N - (intOf i).toNat)
    case atStart => exact ⟨0, Nat.zero_le _, rfl, by rw [upTo_zero]; exact HF0.out⟩
    case round =>
      obtain ⟨k, hk, rfl, HA⟩ := hrel
      clear c1 c2 f1
      by_cases hlt : k < N
      · obtain ⟨x, hx⟩ : ∃ x, H.ts[k]? = some x := ⟨H.ts[k]'(by have := HN.out; omega), List.getElem?_eq_getElem (by have := HN.out; omega)⟩
        obtain ⟨vs1, a1, a2, a3⟩ := HA.out
        have hx1 : ({ H with frames := n1, ts := upTo fc k H.ts } : Hs).ts[k]? = some x := by show (upTo fc k H.ts)[k]? = _; rw [upTo_get]; exact hx
        obtain ⟨v, hv, ht⟩ := a1.at hx1
        have hlen : (upTo fc k H.ts).length = N := by rw [upTo_length]; exact HN.out
        have r2 : wr.cell? ⟨hb, 2, none⟩ = some (.slice (some ⟨tb, 0, none⟩) N cap) := by rw [a1.host.cell 2, ← hlen]; rfl
        have r1 : wr.cell? ⟨hb, 1, none⟩ = some (.int .i64 n1) := by rw [a1.host.cell 1]; rfl
        have r0 : wr.cell? ⟨hb, 0, none⟩ = some (.int .u8 H.route) := by rw [a1.host.cell 0]; rfl
        have hki : (k : Int) < (N : Int) := by omega
        have hk0 : (0 : Int) ≤ (k : Int) := by omega
        have HC : Hid (∀ u, Below wr.heap.size wr u → Calls Try.prog 33 #[.pointer (some ⟨tb, k * 21, none⟩), .int .i64 n1, .int .u8 H.route] u fun e w' => e = .returned (.tuple #[]) ∧ HAft w hb tb cap vs { H with frames := n1, ts := upTo fc (k + 1) H.ts } w') := by
          intro u hu
          obtain ⟨o1, o2, o3⟩ := HOkS.out x (List.mem_of_getElem? hx)
          have htu := ht.below hu
          have hho := a1.below hu ht.slot.lt
          refine (come_any htu n1 H.route o1 o2 o3 hr0 hr1).mono ?_
          rintro e w2 ⟨rfl, nv', bv', lv', b1, b2, b3, b4⟩
          obtain ⟨q1, q2, q3⟩ := hho.upd hx1 hv b1 b2 b3 b4
          refine ⟨rfl, ?_⟩
          rw [← upTo_step fc hx, HFc.out]
          exact HAft.trans a2 a3 (HAft.trans (Kept.of_below hu) (fun k q => Or.inl q) ⟨_, q1, q2, q3⟩)
        clear hx hx1 hv ht hlen a1 a2 a3
        go_upto_region 7 with fail
        go_region_with (go_at_call 33; refine (HC.out _ (by first | exact Below.refl _ _ | exact (Below.refl _ _).drew)).mono ?_; rintro e w2 ⟨rfl, ha⟩; have HA2 : Hid (HAft w hb tb cap vs { H with frames := n1, ts := upTo fc (k + 1) H.ts } w2) := ha; clear ha)
        all_goals
          go_wp2
          go_roundw
          case rel => exact ⟨k + 1, by omega, by go_num, HA2.out⟩
          case measure => simp [intOf]; omega
      · have hkn : k = N := by omega
        have hki : ¬ (k : Int) < (N : Int) := by omega
        have HA1 : Hid (HAft w hb tb cap vs { H with frames := n1, ts := C } wr) := by
          have q := HA.out
          rw [hkn, HCa.out] at q
          exact q
        obtain ⟨vs0, b1, b2, b3⟩ := HA1.out
        have r2 : wr.cell? ⟨hb, 2, none⟩ = some (.slice (some ⟨tb, 0, none⟩) N cap) := by rw [b1.host.cell 2]; show some (Value.slice _ C.length _) = _; rw [HCl.out]
        clear b1 b2 b3 HA HF0 HFc hkn
        go_upto_region 11 with fail
        go_loopw [6, 54] (fun p i wr => ∃ (k m pc : Nat) (po : Option Addr), k ≤ N ∧ i = .int .i64 k ∧ p = .slice po m pc ∧ m ≤ 4 * k ∧ Hid ((pt k).length = m) ∧ Hid (HAft w hb tb cap vs { H with frames := n1, ts := upTo fr k C } wr) ∧ Hid (wr.ownsRow w.heap.size 95 3 (.slice po m pc) m (ltCells (pt k))))
          (fun _ i _ => N - (intOf i).toNat)
        case atStart =>
          refine ⟨0, 0, 0, none, Nat.zero_le _, rfl, rfl, Nat.le_refl _, by rw [HP0.out]; rfl, by rw [upTo_zero]; exact HA1.out, ?_⟩
          rw [HP0.out]
          exact World.ownsRow_nil _ _ _ _
        case round =>
          obtain ⟨k, m, pc, po, hk, rfl, rfl, hm4, HLn, HA, HP⟩ := hrel
          clear r2 HA1
          by_cases hlt : k < N
          · obtain ⟨x, hx⟩ : ∃ x, C[k]? = some x := ⟨C[k]'(by have := HCl.out; omega), List.getElem?_eq_getElem (by have := HCl.out; omega)⟩
            obtain ⟨vs1, a1, a2, a3⟩ := HA.out
            have hx1 : ({ H with frames := n1, ts := upTo fr k C } : Hs).ts[k]? = some x := by show (upTo fr k C)[k]? = _; rw [upTo_get]; exact hx
            have hok := HOkC.out x (List.mem_of_getElem? hx)
            have HPk := HPt.out k x hx
            obtain ⟨S, hS⟩ : ∃ S, S = x.gives n1 H.route (drawsOf dl k) := ⟨_, rfl⟩
            rw [← hS] at HPk
            have HPk' : Hid (pt (k + 1) = pt k ++ lettersOf k S) := HPk
            have hS4 : S.length ≤ 4 := by rw [hS]; exact hok.2 k
            obtain ⟨M, hM⟩ : ∃ M, M = S.length := ⟨_, rfl⟩
            have HM : Hid (S.length = M) := hM.symm
            have hnu : upTo fr k C ≠ [] := upTo_ne HNC.out
            have HC : Hid (Calls Try.prog 34 #[.pointer (some ⟨hb, 0, none⟩), .int .i64 k, .slice dao dl.length dcap] wr fun e w' => ∃ gv, e = .returned gv ∧ HAft w hb tb cap vs { H with frames := n1, ts := upTo fr (k + 1) C } w' ∧ w'.ownsRow 0 93 2 gv M (sendCells S) ∧ w'.ownsRow w.heap.size 95 3 (.slice po m pc) m (ltCells (pt k))) := by
              have q := runTenant_any a1 k hx1 (by show (upTo fr k C).length ≤ _; rw [upTo_length, HCl.out]; omega) hok.1 hn10 hn11 hr0 hr1 dao dcap dl hdl (HDr.out.step a2 a3)
              refine q.mono ?_
              rintro e w2 ⟨gv, rfl, ha, ho⟩
              refine ⟨gv, rfl, ?_, ?_, ?_⟩
              · rw [← upTo_step fr hx, HFr.out]
                exact HAft.trans a2 a3 ha
              · rw [hM, hS]
                exact own_zero ho
              · obtain ⟨vs2, d1, d2, d3⟩ := ha
                exact a1.kept_own hnu d2 HP.out (by decide) (by decide) (by decide) (by decide)
            rw [← hM] at hS4
            have hki : (k : Int) < (N : Int) := by omega
            have hk0 : (0 : Int) ≤ (k : Int) := by omega
            clear hx hx1 a1 a2 a3 hok HPk hS hM hnu
            go_wp2_with fail
            refine HC.out.mono ?_
            rintro e w2 ⟨gv, rfl, ha, ho, hp⟩
            have HA2 : Hid (HAft w hb tb cap vs { H with frames := n1, ts := upTo fr (k + 1) C } w2) := ha
            have HO2 : Hid (w2.ownsRow 0 93 2 gv M (sendCells S)) := ho
            have HP2 : Hid (w2.ownsRow w.heap.size 95 3 (.slice po m pc) m (ltCells (pt k))) := hp
            obtain ⟨so, sc, rfl⟩ := own_is ho
            clear ha ho hp HC HA HP
            go_wp2_with fail
            go_loopw [6, 63] (fun p j wr => ∃ (q m2 pc2 : Nat) (po2 : Option Addr), q ≤ M ∧ j = .int .i64 q ∧ p = .slice po2 m2 pc2 ∧ m2 ≤ 16 ∧ Hid (m2 = m + q) ∧ Hid (HAft w hb tb cap vs { H with frames := n1, ts := upTo fr (k + 1) C } wr) ∧ Hid (wr.ownsRow 0 93 2 (.slice so M sc) M (sendCells S)) ∧ Hid (wr.ownsRow w.heap.size 95 3 (.slice po2 m2 pc2) m2 (ltCells (pt k ++ lettersOf k (S.take q)))))
              (fun _ j _ => M - (intOf j).toNat)
            case atStart =>
              refine ⟨0, m, pc, po, Nat.zero_le _, rfl, rfl, by omega, rfl, HA2.out, HO2.out, ?_⟩
              rw [show lettersOf k (S.take 0) = [] from rfl, List.append_nil]
              exact HP2.out
            case round =>
              obtain ⟨q, m2, pc2, po2, hq, rfl, rfl, hm2, HM2, HAq, HSq, HPq⟩ := hrel
              clear HA2 HO2 HP2
              by_cases hlq : q < M
              · obtain ⟨sd, hsd⟩ : ∃ y, S[q]? = some y := ⟨S[q]'(by have := HM.out; omega), List.getElem?_eq_getElem (by have := HM.out; omega)⟩
                obtain ⟨s0, s1⟩ := sendCells_at S q _ hsd
                obtain ⟨gd, rfl, d0, d1⟩ := own_pair HSq.out s0 s1
                have HTk : Hid (lettersOf k (S.take (q + 1)) = lettersOf k (S.take q) ++ [((k : Int), sd.1, sd.2)]) := by
                  unfold Hid lettersOf
                  rw [List.take_add_one, hsd]
                  simp
                obtain ⟨t, v⟩ := sd
                simp only at d0 d1 HTk
                have hqi : (q : Int) < (M : Int) := by omega
                have hq0 : (0 : Int) ≤ (q : Int) := by omega
                have hgd : gd < wr.heap.size := World.block_lt_of_cell? _ _ d0
                have hsz : w.heap.size ≤ wr.heap.size := by obtain ⟨_, _, z, _⟩ := HAq.out; exact z.size
                have HNw : Hid (∀ jj u, [Value.int .i64 (k : Int), .int .u8 t, .int .u16 v][jj]? = some u → ((wr.alloc (.cells #[.int .u8 t, .int .u16 v] 93)).alloc (.cells #[.int .i64 (k : Int), .int .u8 t, .int .u16 v] 95)).cell? ((⟨wr.heap.size + 1, 0, none⟩ : Addr).add jj) = some u) := Tr.new_three1 wr _ _ _ _ _
                clear hsd s0 s1
                go_wp2_with (at_builtin; refine wpList_append_own_at _ rfl (.tmp 67) (.tmp 71) 89 rfl w.heap.size 95 i0 (.agg #[.int .i64 0, .int .u8 0, .int .u16 0]) 3 16 Try.underlying89 hi hz0 hz1 hz2 rfl (by decide) _ m2 _ rfl ((HPq.out.alloc _).alloc _) ⟨wr.heap.size + 1, 0, none⟩ 1 1 [.int .i64 (k : Int), .int .u8 t, .int .u16 v] rfl rfl HNw.out (by intro u hu; simp at hu; rcases hu with rfl | rfl | rfl <;> rfl) (by unfold maxLen; omega) (by omega) (by simp; omega) ?_)
                intro g1 w1 ho1 hg1 _ _
                obtain ⟨go1, gc1, rfl⟩ := own_is ho1
                have hnu : upTo fr (k + 1) C ≠ [] := upTo_ne HNC.out
                have HAn : Hid (HAft w hb tb cap vs { H with frames := n1, ts := upTo fr (k + 1) C } w1) := ((HAq.out.alloc hnu _).alloc hnu _).grown hnu (Nat.le_refl _) ((HPq.out.alloc _).alloc _) hg1 (by decide) (by decide) (by decide) (by decide) (by decide)
                have HPn : Hid (w1.ownsRow w.heap.size 95 3 (.slice go1 (m2 + 1) gc1) (m2 + 1) (ltCells (pt k ++ lettersOf k (S.take (q + 1))))) := by
                  unfold Hid
                  rw [HTk.out, ← List.append_assoc, ltCells_snoc]
                  exact ho1
                have HSn : Hid (w1.ownsRow 0 93 2 (.slice (some ⟨gd, 0, none⟩) M sc) M (sendCells S)) := by
                  refine own_block ((HSq.out.alloc (.cells #[.int .u8 t, .int .u16 v] 93)).alloc (.cells #[.int .i64 (k : Int), .int .u8 t, .int .u16 v] 95)) fun z hz => ?_
                  obtain ⟨cz, hbz⟩ := own_blk ((HSq.out.alloc (.cells #[.int .u8 t, .int .u16 v] 93)).alloc (.cells #[.int .i64 (k : Int), .int .u8 t, .int .u16 v] 95)) hz
                  refine hg1.block z hbz.lt (fun e => ?_)
                  exact hbz.ne_own ((HPq.out.alloc (.cells #[.int .u8 t, .int .u16 v] 93)).alloc (.cells #[.int .i64 (k : Int), .int .u8 t, .int .u16 v] 95)) (by decide) e
                clear ho1 hg1 HAq HSq HPq HNw hnu
                go_wp2
                go_roundw
                case rel => exact ⟨q + 1, m2 + 1, gc1, go1, by omega, by go_num, rfl, by have := HM2.out; omega, by have := HM2.out; show m2 + 1 = m + (q + 1); omega, HAn, HSn, HPn⟩
                case measure => simp [intOf]; omega
              · have hqm : q = M := by omega
                subst hqm
                have hqi : ¬ (q : Int) < (q : Int) := by omega
                have HPn : Hid (wr.ownsRow w.heap.size 95 3 (.slice po2 m2 pc2) m2 (ltCells (pt (k + 1)))) := by
                  have z := HPq.out
                  rw [List.take_of_length_le (by rw [HM.out]; exact Nat.le_refl _)] at z
                  unfold Hid
                  rw [HPk'.out]
                  exact z
                have HLn2 : Hid ((pt (k + 1)).length = m2) := by
                  unfold Hid
                  rw [HPk'.out, List.length_append, HLn.out, HM2.out]
                  simp [lettersOf, HM.out]
                go_wp2
                go_roundw
                case rel => exact ⟨k + 1, m2, pc2, po2, by omega, by go_num, rfl, by have := HM2.out; omega, HLn2, HAq, HPn⟩
                case measure => simp [intOf]; omega
          · have hkn : k = N := by omega
            have HA3 : Hid (HAft w hb tb cap vs { H with frames := n1, ts := H.posted dl 0 } wr) := by
              have q := HA.out
              rw [hkn, HTu.out] at q
              unfold Hid
              rw [HPz.out]
              exact q
            have HP3 : Hid (wr.ownsRow w.heap.size 95 3 (.slice po m pc) m (ltCells (H.post dl))) := by
              have q := HP.out
              rw [hkn, HPo.out] at q
              exact q
            have HL3 : Hid ((H.post dl).length = m) := by
              have q := HLn.out
              rw [hkn, HPo.out] at q
              exact q
            have hki : ¬ (k : Int) < (N : Int) := by omega
            have hm16 : m ≤ 16 := by omega
            clear HA HP HLn HPt HP0 HPo HTu HFr HOkC HDr
            go_upto_region 21 with fail
            go_loopw [77] (fun i wr => ∃ k : Nat, k ≤ m ∧ i = .int .i64 k ∧ Hid (HAft w hb tb cap vs { H with frames := n1, ts := H.posted dl k } wr) ∧ Hid (wr.ownsRow w.heap.size 95 3 (.slice po m pc) m (ltCells (H.post dl))))
              (fun i _ => m - (intOf i).toNat)
            case atStart => exact ⟨0, Nat.zero_le _, rfl, HA3.out, HP3.out⟩
            case round =>
              obtain ⟨j, hj, rfl, HA, HP⟩ := hrel
              clear HA3 HP3
              by_cases hlj : j < m
              · obtain ⟨L, hL⟩ : ∃ L, (H.post dl)[j]? = some L := ⟨(H.post dl)[j]'(by have := HL3.out; omega), List.getElem?_eq_getElem (by have := HL3.out; omega)⟩
                obtain ⟨s0, s1, s2⟩ := ltCells_at (H.post dl) j _ hL
                obtain ⟨gp, rfl, p0, p1, p2⟩ := own_three HP.out s0 s1 s2
                obtain ⟨⟨o1, o2⟩, o3, o4⟩ := HOkL.out L (List.mem_of_getElem? hL)
                have HPj := HPs.out j L hL
                obtain ⟨snd, t, v⟩ := L
                simp only at p0 p1 p2 o1 o2 o3 o4
                have hji : (j : Int) < (m : Int) := by omega
                have hj0 : (0 : Int) ≤ (j : Int) := by omega
                have hgp : gp < wr.heap.size := World.block_lt_of_cell? _ _ p0
                have hnp : H.posted dl j ≠ [] := by
                  intro e
                  have h1 := HPl.out j
                  rw [e] at h1
                  have h2 := HN.out
                  exact HNe.out (List.eq_nil_of_length_eq_zero (by rw [h2, ← h1]; rfl))
                have HC : Hid (∀ ob, Calls Try.prog 35 #[.pointer (some ⟨hb, 0, none⟩), .agg #[.int .i64 snd, .int .u8 t, .int .u16 v]] (wr.alloc ob) fun e w' => e = .returned (.tuple #[]) ∧ HAft w hb tb cap vs { H with frames := n1, ts := H.posted dl (j + 1) } w' ∧ w'.ownsRow w.heap.size 95 3 (.slice (some ⟨gp, 0, none⟩) m pc) m (ltCells (H.post dl))) := by
                  intro ob
                  obtain ⟨vs1, a1, a2, a3⟩ := HA.out.alloc hnp ob
                  refine (deliver_any a1 hnp (snd, t, v) o1 o2 o3 o4 (by show (H.posted dl j).length ≤ _; rw [HPl.out]; omega) (HOkP.out j)).mono ?_
                  rintro e w2 ⟨rfl, ha⟩
                  refine ⟨rfl, ?_, ?_⟩
                  · rw [HPj]
                    exact HAft.trans a2 a3 ha
                  · obtain ⟨vs2, d1, d2, d3⟩ := ha
                    exact a1.kept_own hnp d2 (HP.out.alloc ob) (by decide) (by decide) (by decide) (by decide)
                clear hL s0 s1 s2 HPj hnp
                go_wp2_with fail
                refine (HC.out _).mono ?_
                rintro e w2 ⟨rfl, ha, hp⟩
                have HA2 : Hid (HAft w hb tb cap vs { H with frames := n1, ts := H.posted dl (j + 1) } w2) := ha
                have HP2 : Hid (w2.ownsRow w.heap.size 95 3 (.slice (some ⟨gp, 0, none⟩) m pc) m (ltCells (H.post dl))) := hp
                clear ha hp HA HP HC
                go_wp2
                go_roundw
                case rel => exact ⟨j + 1, by omega, by go_num, HA2, HP2⟩
                case measure => simp [intOf]; omega
              · have hjm : j = m := by omega
                subst hjm
                have hji : ¬ (j : Int) < (j : Int) := by omega
                go_wp2
                go_ret
                rw [HE.out.1, HEn.out, HL3.out]
                exact ⟨rfl, HA.out⟩
end
end Go.Proofs.Ytidaflmmldefcaa
