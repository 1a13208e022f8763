/-
  The walk of receive.
-/
import Derived.Test.YtidaflmmldefcaaJTen
import Derived.Deep.RegionWith
import Derived.Deep.Cut
import Derived.Deep.CutRange
namespace Go.Proofs.Ytidaflmmldefcaa
open Go.RowKit
set_option linter.unusedVariables false

/-- A letter comes. -/
def Tn.receive (x : Tn) (n snd topic value : Int) : Tn :=
  if x.phase = 1 ∧ bitOf x.sub topic = true then
    (if x.share ≤ (x.waiting (snd + 1) : Int) then x.note n 3 topic value else { x with box := x.box ++ [⟨2, snd + 1, value, topic⟩] })
  else x

set_option maxHeartbeats 8000000 in
theorem receive_any {w : World} {tb o : Nat} {x : Tn} {nv bv lv : Value} (h : TenAt w tb o x nv bv lv) (n snd topic value : Int) (hl : x.box.length ≤ 100000) (hll : x.log.length ≤ 100000) (hs0 : 0 ≤ snd) (hs1 : snd ≤ 200) (ht0 : 0 ≤ topic) (ht1 : topic ≤ 255) (hb0 : 0 ≤ x.sub) (hb1 : x.sub ≤ 255) :
    Calls Try.prog 44 #[.pointer (some ⟨tb, o, none⟩), .int .i64 n, .agg #[.int .i64 snd, .int .u8 topic, .int .u16 value]] w fun e w' => e = .returned (.tuple #[]) ∧ TAft w tb o bv lv (x.receive n snd topic value) w' := by
  have HT : Hid (TenAt w tb o x nv bv lv) := h
  have htb := h.slot.lt
  have hne : ¬ tb = w.heap.size := by omega
  have c4 := h.slot.cell 4 rfl
  have c5 := h.slot.cell 5 rfl
  have c7 := h.slot.cell 7 rfl
  have fz : ∀ i, w.frozen? ⟨tb, i, none⟩ = false := fun i => h.slot.free i
  have HSame : Hid (∀ q, TAft w tb o bv lv x ((w.alloc (.cells #[.int .i64 snd, .int .u8 topic, .int .u16 value] 95)).drewN q)) := fun q =>
    ⟨nv, bv, lv, (h.alloc _).drewN q, ((TFr.refl _ _ _ _ _).alloc htb _).drewN q, Moved.refl _ _, Moved.refl _ _⟩
  have HBit : Hid (∀ u, Calls Try.prog 41 #[.int .u8 x.sub, .int .u8 topic] u fun e w' => e = .returned (.bool (bitOf x.sub topic)) ∧ u = w') := fun u => hasBit_any x.sub topic u hb0 hb1 ht0 ht1
  by_cases hp : x.phase = 1
  · obtain ⟨on, hon⟩ : ∃ on, on = bitOf x.sub topic := ⟨_, rfl⟩
    rw [← hon] at HBit
    rw [hp] at c7
    cases on with
    | false =>
      have HE : Hid (x.receive n snd topic value = x) := by unfold Hid Tn.receive; rw [if_neg (by rw [← hon]; simp)]
      clear h hon hp
      go_enter Try.func44, Try.ntmps44
      go_wp2_with fail
      go_quiet ((go_at_call 41; exact (HBit.out _).mono fun _ _ h => ⟨h.1, _, h.2.symm⟩))
      go_wp2
      refine bodyPost_ret (v := .tuple #[]) (by simp [results, Try.results44]) rfl ⟨rfl, ?_⟩
      rw [HE.out]
      exact HSame.out _
    | true =>
      have HE : Hid (x.receive n snd topic value = if x.share ≤ (x.waiting (snd + 1) : Int) then x.note n 3 topic value else { x with box := x.box ++ [⟨2, snd + 1, value, topic⟩] }) := by unfold Hid Tn.receive; rw [if_pos ⟨hp, hon.symm⟩]
      have hw1 : IntKind.i64.wrap (snd + 1) = snd + 1 := by rw [IntKind.wrap_i64]; omega
      have hw2 : IntKind.u8.wrap (snd + 1) = snd + 1 := by rw [IntKind.wrap_u8]; omega
      have hw3 : IntKind.u16.wrap topic = topic := by rw [IntKind.wrap_u16]; omega
      clear h hon hp
      go_enter Try.func44, Try.ntmps44
      go_wp2_with fail
      go_quiet ((go_at_call 41; exact (HBit.out _).mono fun _ _ h => ⟨h.1, _, h.2.symm⟩))
      go_upto_region 3 with fail
      obtain ⟨W, hW⟩ : ∃ W, W = (w.alloc (.cells #[.int .i64 snd, .int .u8 topic, .int .u16 value] 95)).drewN nq := ⟨_, rfl⟩
      have HTW : Hid (TenAt W tb o x nv bv lv) := by unfold Hid; rw [hW]; exact (HT.out.alloc _).drewN nq
      have HFW : Hid (TFr w W tb o bv lv) := by unfold Hid; rw [hW]; exact ((TFr.refl _ _ _ _ _).alloc htb _).drewN nq
      have HLW : Hid (Blk W w.heap.size #[.int .i64 snd, .int .u8 topic, .int .u16 value] 95) := by unfold Hid; rw [hW]; exact Blk.new w _ 95
      have hsW : w.heap.size ≤ W.heap.size := HFW.out.kept.size
      rw [← hW]
      clear hW c4 c5 c7 fz HSame
      have HWt : Hid (∀ u, Below W.heap.size W u → Calls Try.prog 51 #[.pointer (some ⟨tb, o, none⟩), .int .u8 (snd + 1)] u fun e w' => e = .returned (.int .i64 (x.waiting (snd + 1) : Int)) ∧ Below u.heap.size u w') := fun u hu => waiting_any (HTW.out.below hu) (snd + 1) hl
      have HC5 : Hid (∀ u, Below W.heap.size W u → u.cell? ⟨tb, o + 5, none⟩ = some (.int .i64 x.share)) := fun u hu => (HTW.out.below hu).slot.cell 5 rfl
      have c5 := HC5.out W (Below.refl _ _)
      go_cut [36] from 28 to 36 (fun c wx => c = .bool (decide (x.share ≤ (x.waiting (snd + 1) : Int))) ∧ Hid (Below W.heap.size W wx))
      case first =>
        go_region_with (go_at_call 51; refine (HWt.out _ (by first | exact Below.refl _ _ | exact (Below.refl _ _).drew)).mono ?_; rintro e w1 ⟨rfl, hb1⟩; have hb2 : Hid (Below W.heap.size W w1) := ⟨hb1.os, hb1.tape, hb1.output, hb1.size, hb1.block⟩; have q5 := HC5.out w1 hb2.out; clear hb1)
        all_goals (try go_wp2_with fail)
        all_goals go_meet
        all_goals exact ⟨rfl, hb2.out⟩
      case rest =>
        obtain ⟨rfl, HBc⟩ := hcut
        have HTc : Hid (TenAt wc tb o x nv bv lv) := HTW.out.below HBc.out
        have HFc : Hid (TFr w wc tb o bv lv) := HFW.out.trans (TFr.of_below HBc.out HTW.out.slot.lt) (Moved.refl _ _) (Moved.refl _ _)
        have hL := HLW.out.below HBc.out HLW.out.lt
        have l0 : wc.cell? ⟨w.heap.size, 0, none⟩ = some (.int .i64 snd) := by rw [hL.cell 0]; rfl
        have l1 : wc.cell? ⟨w.heap.size, 1, none⟩ = some (.int .u8 topic) := by rw [hL.cell 1]; rfl
        have l2 : wc.cell? ⟨w.heap.size, 2, none⟩ = some (.int .u16 value) := by rw [hL.cell 2]; rfl
        have hsc : w.heap.size ≤ wc.heap.size := HFc.out.kept.size
        have hLc : ¬ w.heap.size = wc.heap.size := by have := hL.lt; omega
        clear hL c5
        by_cases hq : x.share ≤ (x.waiting (snd + 1) : Int)
        · have hd : decide (x.share ≤ (x.waiting (snd + 1) : Int)) = true := by simpa using hq
          rw [hd]
          have HE2 : Hid (x.receive n snd topic value = x.note n 3 topic value) := by unfold Hid; rw [HE.out, if_pos hq]
          clear hq hd
          go_wp2_with fail
          refine (note_any HTc.out n 3 topic value hll).mono ?_
          rintro e w2 ⟨rfl, ha⟩
          have HA : Hid (TAft w tb o bv lv (x.note n 3 topic value) w2) := TAft.trans HFc.out (Moved.refl _ _) (Moved.refl _ _) ha
          clear ha
          go_wp2
          refine bodyPost_ret (v := .tuple #[]) (by simp [results, Try.results44]) rfl ⟨rfl, ?_⟩
          rw [HE2.out]
          exact HA.out
        · have hd : decide (x.share ≤ (x.waiting (snd + 1) : Int)) = false := by simpa using hq
          rw [hd]
          have HE2 : Hid (x.receive n snd topic value = { x with box := x.box ++ [⟨2, snd + 1, value, topic⟩] }) := by unfold Hid; rw [HE.out, if_neg hq]
          clear hq hd
          obtain ⟨ao, cap, hv, _⟩ := HTc.out.box.shape
          subst hv
          have c17 := HTc.out.slot.cell 17 rfl
          have htc : ¬ tb = wc.heap.size := by have := HTc.out.slot.lt; omega
          have r17 : ∀ ob, (wc.alloc ob).cell? ⟨tb, o + 17, none⟩ = some (.slice ao x.box.length cap) := fun ob => (HTc.out.alloc ob).slot.cell 17 rfl
          have g17 : ∀ ob, (wc.alloc ob).frozen? ⟨tb, o + 17, none⟩ = false := fun ob => (HTc.out.alloc ob).slot.free _
          have fz : ∀ i, wc.frozen? ⟨tb, i, none⟩ = false := fun i => HTc.out.slot.free i
          have HTd : Hid (TenAt ((wc.alloc (.cells #[.int .u8 2, .int .u8 (snd + 1), .int .u16 value, .int .u8 topic] 58)).drew) tb o x nv (.slice ao x.box.length cap) lv) := (HTc.out.alloc _).drew
          have hnw : Hid (∀ j q, (Ev.mk 2 (snd + 1) value topic).cells[j]? = some q → ((wc.alloc (.cells #[.int .u8 2, .int .u8 (snd + 1), .int .u16 value, .int .u8 topic] 58)).drew).cell? ((⟨wc.heap.size, 0, none⟩ : Addr).add j) = some q) := new_four wc _ _ _ _ _
          have HKEY : Hid (∀ a1 c1 w3, BoxAt w3 (.slice a1 (x.box.length + 1) c1) (x.box ++ [⟨2, snd + 1, value, topic⟩]) → ((wc.alloc (.cells #[.int .u8 2, .int .u8 (snd + 1), .int .u16 value, .int .u8 topic] 58)).drew).grownBy w3 (Value.ownBlock (.slice ao x.box.length cap)) → Moved ((wc.alloc (.cells #[.int .u8 2, .int .u8 (snd + 1), .int .u16 value, .int .u8 topic] 58)).drew) (.slice ao x.box.length cap) (.slice a1 (x.box.length + 1) c1) →
              w3.cell? ⟨tb, o + 17, none⟩ = some (.slice ao x.box.length cap) ∧ w3.frozen? ⟨tb, o + 17, none⟩ = false ∧ Hid (TAft w tb o (.slice ao x.box.length cap) lv { x with box := x.box ++ [⟨2, snd + 1, value, topic⟩] } (w3.setCell ⟨tb, o + 17, none⟩ (.slice a1 (x.box.length + 1) c1)))) := by
            intro a1 c1 w3 hb3 hg3 hm3
            have hs3 := (HTd.out.grow_box hg3).1
            refine ⟨hs3.cell 17 rfl, hs3.free _, nv, _, lv, HTd.out.joined hb3 hg3, ?_, ?_, Moved.refl _ _⟩
            · refine TFr.set ?_ 17 (by decide) _
              exact ((HFc.out.alloc HTc.out.slot.lt _).drew).grow hg3 (fun z hz => Or.inl (Or.inl hz.symm)) HTd.out.box_tb HTd.out.slot.lt
            · intro z hz
              rcases hm3 z hz with e | e
              · exact Or.inl e
              · refine Or.inr ?_
                have e2 : wc.heap.size + 1 ≤ z := by simpa using e
                omega
          clear HBit HE HWt HC5
          go_wp2_with fail
          go_region_law (refine step_append_box rfl (.tmp 51) (.tmp 60) rfl (.slice ao x.box.length cap) x.box ⟨2, snd + 1, value, topic⟩ (by simp [Act.eval]) HTd.out.box hl ⟨wc.heap.size, 0, none⟩ 1 (by simp [Act.eval]) hnw.out ?_; intro a1 c1 w3 hb3 hg3 hm3; obtain ⟨q17, p17, HZ⟩ := HKEY.out a1 c1 w3 hb3 hg3 hm3; clear hb3 hg3 hm3)
          all_goals go_wp2
          all_goals go_end0
          all_goals exact ⟨rfl, by rw [HE2.out]; exact HZ.out⟩
  · have hpb : (x.phase != 1) = true := by simpa using hp
    have HE : Hid (x.receive n snd topic value = x) := by unfold Hid Tn.receive; rw [if_neg (fun q => hp q.1)]
    clear h hp
    go_enter Try.func44, Try.ntmps44
    go_wp2_with fail
    go_quiet (fail)
    go_wp2
    refine bodyPost_ret (v := .tuple #[]) (by simp [results, Try.results44]) rfl ⟨rfl, ?_⟩
    rw [HE.out]
    exact HSame.out _
end Go.Proofs.Ytidaflmmldefcaa
