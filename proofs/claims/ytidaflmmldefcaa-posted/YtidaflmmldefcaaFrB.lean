/-
  The walk of deliver.
-/
import Derived.Test.YtidaflmmldefcaaFrA
namespace Go.Proofs.Ytidaflmmldefcaa
open Go.RowKit
set_option linter.unusedVariables false

section
variable {w w' : World} {hb tb cap : Nat} {H : Hs} {vs : List Vs}

theorem HAft.host_ne {H' : Hs} (h : HAft w hb tb cap vs H' w') : ∃ vs', HostAt w' hb tb cap H' vs' := by
  obtain ⟨vs', h1, _⟩ := h
  exact ⟨vs', h1⟩
/-- One method more. -/
theorem HAft.then {w1 : World} {H1 : Hs} (h : HAft w hb tb cap vs H w1) (k : ∀ vs1, HostAt w1 hb tb cap H vs1 → HAft w1 hb tb cap vs1 H1 w') : HAft w hb tb cap vs H1 w' := by
  obtain ⟨vs1, a1, a2, a3⟩ := h
  exact HAft.trans a2 a3 (k vs1 a1)

set_option maxHeartbeats 8000000 in
theorem deliver_any (h : HostAt w hb tb cap H vs) (hne : H.ts ≠ []) (L : Lt) (hs0 : 0 ≤ L.1) (hs1 : L.1 ≤ 200) (ht0 : 0 ≤ L.2.1) (ht1 : L.2.1 ≤ 255) (hl : H.ts.length ≤ 100000) (hok : ∀ x ∈ H.ts, x.box.length ≤ 100000 ∧ x.log.length ≤ 100000 ∧ 0 ≤ x.sub ∧ x.sub ≤ 255) :
    Calls Try.prog 35 #[.pointer (some ⟨hb, 0, none⟩), .agg #[.int .i64 L.1, .int .u8 L.2.1, .int .u16 L.2.2]] w fun e w' => e = .returned (.tuple #[]) ∧ HAft w hb tb cap vs { H with ts := deliver H.frames H.ts L } w' := by
  obtain ⟨snd, topic, value⟩ := L
  simp only at hs0 hs1 ht0 ht1 ⊢
  obtain ⟨f, hf⟩ : ∃ f : Nat → Tn → Tn, f = fun i x => x.get i H.frames (snd, topic, value) := ⟨_, rfl⟩
  have HD : Hid (deliver H.frames H.ts (snd, topic, value) = upTo f H.ts.length H.ts) := by unfold Hid; rw [upTo_all, hf]; rfl
  have HF : Hid (∀ i x, f i x = if (i : Int) = snd then x else x.receive H.frames snd topic value) := by intro i x; rw [hf]; rfl
  have HOk : Hid (∀ x ∈ H.ts, x.box.length ≤ 100000 ∧ x.log.length ≤ 100000 ∧ 0 ≤ x.sub ∧ x.sub ≤ 255) := hok
  obtain ⟨n, hn⟩ : ∃ n, n = H.ts.length := ⟨_, rfl⟩
  have Hn : Hid (H.ts.length = n) := hn.symm
  obtain ⟨W, hW⟩ : ∃ W, W = w.alloc (.cells #[.int .i64 snd, .int .u8 topic, .int .u16 value] 95) := ⟨_, rfl⟩
  have htb : tb < w.heap.size := by
    cases hts : H.ts with
    | nil => exact absurd hts hne
    | cons x r => exact h.tb_lt (i := 0) (x := x) (by rw [hts]; rfl)
  have hbW : Below w.heap.size w W := by rw [hW]; exact (Below.refl _ _).alloc (Nat.le_refl _) _
  have HHW : Hid (HostAt W hb tb cap H vs) := h.below hbW htb
  have HKW : Hid (Kept (ownOf hb tb vs) w W) := Kept.of_below hbW
  have HLW : Hid (Blk W w.heap.size #[.int .i64 snd, .int .u8 topic, .int .u16 value] 95) := by unfold Hid; rw [hW]; exact Blk.new w _ 95
  have HNe : Hid (H.ts ≠ []) := hne
  have c2 : w.cell? ⟨hb, 2, none⟩ = some (.slice (some ⟨tb, 0, none⟩) n cap) := by rw [h.host.cell 2, hn]; rfl
  have d2 : W.cell? ⟨hb, 2, none⟩ = some (.slice (some ⟨tb, 0, none⟩) n cap) := by rw [HHW.out.host.cell 2, hn]; rfl
  have hhb := h.host.lt
  have hhn : ¬ hb = w.heap.size := by omega
  rw [← hn] at hl HD
  clear h hf hn hok hne hbW
  go_enter Try.func35, Try.ntmps35
  go_wp2_with fail
  rw [← hW]
  go_loopw [10] (fun i wr => ∃ k : Nat, k ≤ n ∧ i = .int .i64 k ∧ Hid (HAft W hb tb cap vs { H with ts := upTo f k H.ts } wr) ∧ Hid (Blk wr w.heap.size #[.int .i64 snd, .int .u8 topic, .int .u16 value] 95))
    (fun i _ => n - (intOf i).toNat)
  case atStart => exact ⟨0, Nat.zero_le _, rfl, by rw [upTo_zero]; exact HAft.refl HHW.out, HLW.out⟩
  case round =>
    obtain ⟨k, hk, rfl, HA, HL⟩ := hrel
    by_cases hlt : k < n
    · obtain ⟨x, hx⟩ : ∃ x, H.ts[k]? = some x := ⟨H.ts[k]'(by have := Hn.out; omega), List.getElem?_eq_getElem (by have := Hn.out; omega)⟩
      obtain ⟨vs1, a1, a2, a3⟩ := HA.out
      have hx1 : ({ H with ts := upTo f k H.ts } : Hs).ts[k]? = some x := by show (upTo f k H.ts)[k]? = _; rw [upTo_get]; exact hx
      obtain ⟨v, hv, ht⟩ := a1.at hx1
      have hlen : (upTo f k H.ts).length = n := by rw [upTo_length]; exact Hn.out
      have r2 : wr.cell? ⟨hb, 2, none⟩ = some (.slice (some ⟨tb, 0, none⟩) n cap) := by rw [a1.host.cell 2, ← hlen]; rfl
      have r1 : wr.cell? ⟨hb, 1, none⟩ = some (.int .i64 H.frames) := by rw [a1.host.cell 1]; rfl
      have l0 : wr.cell? ⟨w.heap.size, 0, none⟩ = some (.int .i64 snd) := by rw [HL.out.cell 0]; rfl
      have l1 : wr.cell? ⟨w.heap.size, 1, none⟩ = some (.int .u8 topic) := by rw [HL.out.cell 1]; rfl
      have l2 : wr.cell? ⟨w.heap.size, 2, none⟩ = some (.int .u16 value) := by rw [HL.out.cell 2]; rfl
      have hki : (k : Int) < (n : Int) := by omega
      have hk0 : (0 : Int) ≤ (k : Int) := by omega
      by_cases hks : (k : Int) = snd
      · have hb' : ((k : Int) != snd) = false := by simpa using hks
        have HS : Hid (upTo f (k + 1) H.ts = upTo f k H.ts) := upTo_keep f hx (by rw [HF.out, if_pos hks])
        clear hx hx1 hv ht hlen a1 a2 a3
        go_wp2
        go_roundw
        case rel => exact ⟨k + 1, by omega, by go_num, by rw [HS.out]; exact HA.out, HL.out⟩
        case measure => simp [intOf]; omega
      · have hb' : ((k : Int) != snd) = true := by simpa using hks
        have HS : Hid (upTo f (k + 1) H.ts = (upTo f k H.ts).set k (x.receive H.frames snd topic value)) := by
          unfold Hid
          rw [← upTo_step f hx, HF.out, if_neg hks]
        have HC : Hid (∀ u, Below wr.heap.size wr u → Calls Try.prog 44 #[.pointer (some ⟨tb, k * 21, none⟩), .int .i64 H.frames, .agg #[.int .i64 snd, .int .u8 topic, .int .u16 value]] u fun e w' => e = .returned (.tuple #[]) ∧ HAft W hb tb cap vs { H with ts := upTo f (k + 1) H.ts } w' ∧ Blk w' w.heap.size #[.int .i64 snd, .int .u8 topic, .int .u16 value] 95) := by
          intro u hu
          obtain ⟨o1, o2, o3, o4⟩ := HOk.out x (List.mem_of_getElem? hx)
          have htu := ht.below hu
          have hho := a1.below hu ht.slot.lt
          refine (receive_any htu H.frames snd topic value o1 o2 hs0 hs1 ht0 ht1 o3 o4).mono ?_
          rintro e w2 ⟨rfl, nv', bv', lv', b1, b2, b3, b4⟩
          obtain ⟨q1, q2, q3⟩ := hho.upd hx1 hv b1 b2 b3 b4
          refine ⟨rfl, ?_, b2.blk htu (HL.out.below hu HL.out.lt) (by decide) (by decide) (by decide)⟩
          rw [HS.out]
          refine HAft.trans a2 a3 (HAft.trans (Kept.of_below hu) (fun k q => Or.inl q) ⟨_, q1, q2, q3⟩)
        clear hx hx1 hv ht hlen a1 a2 a3
        go_upto_region 5 with fail
        go_region_with (go_at_call 44; refine (HC.out _ (by first | exact Below.refl _ _ | exact (Below.refl _ _).drew)).mono ?_; rintro e w2 ⟨rfl, ha, hl2⟩; have HA2 : Hid (HAft W hb tb cap vs { H with ts := upTo f (k + 1) H.ts } w2) := ha; have HL2 : Hid (Blk w2 w.heap.size #[.int .i64 snd, .int .u8 topic, .int .u16 value] 95) := hl2; clear ha hl2)
        all_goals
          go_wp2
          go_roundw
          case rel => exact ⟨k + 1, by omega, by go_num, HA2.out, HL2.out⟩
          case measure => simp [intOf]; omega
    · have hkn : k = n := by omega
      subst hkn
      have hki : ¬ (k : Int) < (k : Int) := by omega
      go_wp2
      go_end0
      refine ⟨rfl, ?_⟩
      rw [HD.out]
      exact HAft.trans HKW.out (fun k q => Or.inl q) HA.out
end
end Go.Proofs.Ytidaflmmldefcaa
