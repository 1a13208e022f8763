/-
  The walk of Posted.
-/
import Derived.Test.YtidaflmmldefcaaPosM
import Derived.Test.YtidaflmmldefcaaTwn
namespace Go.Proofs.Ytidaflmmldefcaa
open Go.RowKit
set_option linter.unusedVariables false

/-- A host of the two, behind f frames. -/
def PosIn (base : Nat) (ms : List Mf) (n : Nat) (s : Int) (hp tb cap : Nat) (u : World) (f : Nat) : Prop := ∃ H vs, HostAt u hp tb cap H vs ∧ HI ms H ∧ (∀ k, ownOf hp tb vs k → base ≤ k) ∧ Post n s f H

section
variable {w u u' : World} {hp tb cap n f : Nat} {s : Int} {ms : List Mf}
theorem PosIn.below (h : PosIn w.heap.size ms n s hp tb cap u f) (hm : 1 ≤ ms.length) (hb : Below u.heap.size u u') : PosIn w.heap.size ms n s hp tb cap u' f := by
  obtain ⟨H, vs, h1, h2, h3, h4⟩ := h
  exact ⟨H, vs, h1.below hb (h1.tbl (h2.ne hm)), h2, h3, h4⟩
theorem PosIn.frame_any (h : PosIn w.heap.size ms n s hp tb cap u f) (hm : 1 ≤ ms.length) (hm4 : ms.length ≤ 4) (h1n : 1 ≤ n) (h4n : n ≤ 4) (hf : f < 200) (hu : Below w.heap.size w u) :
    Calls Try.prog 16 #[.pointer (some ⟨hp, 0, none⟩), .slice none 0 0] u fun e w' => e = .returned (.int .i64 0) ∧ PosIn w.heap.size ms n s hp tb cap w' (f + 1) ∧ Below w.heap.size w w' := by
  obtain ⟨H, vs, h1, h2, h3, h4⟩ := h
  have e0 : H.frameE = 0 := by unfold Hs.frameE; rw [if_neg (by have := h4.frames; omega)]
  have q := Go.Proofs.Ytidaflmmldefcaa.frame_any h1 (h2.ne hm) none 0 [] (h2.fit hm4 (fun l hl => by simp at hl)) (Nat.zero_le _) (DrsK.nil _ _ _)
  rw [e0] at q
  refine q.mono ?_
  rintro e w' ⟨rfl, vs', a1, a2, a3⟩
  refine ⟨rfl, ⟨_, vs', a1, h2.frame hm4 (fun l hl => by simp at hl), fun z r => ?_, h4.frame h1n h4n hf⟩, hu.trans (a2.below hu.size h3)⟩
  rcases a3 z r with e | e
  · exact h3 z e
  · exact Nat.le_trans hu.size e
/-- What the one that hears has. -/
theorem PosIn.both_any (h : PosIn w.heap.size ms n s hp tb cap u f) (hm : 1 ≤ ms.length) (hm4 : ms.length ≤ 4) : ∃ x vals, PB s f (n * f) vals x ∧ x.log.length ≤ 6000 ∧ vals.length ≤ 19 ∧
    Calls Try.prog 19 #[.pointer (some ⟨hp, 0, none⟩), .int .i64 1] u (fun e w' => ∃ ao c, e = .returned (.slice ao x.log.length c) ∧ w'.ownsRow 0 56 4 (.slice ao x.log.length c) x.log.length (enCells x.log) ∧ Below u.heap.size u w') ∧
    ∀ u2, Below u.heap.size u u2 → Calls Try.prog 15 #[.pointer (some ⟨hp, 0, none⟩), .int .i64 1] u2 (fun e w' => ∃ ao c, e = .returned (.slice ao vals.length c) ∧ w'.ownsRow 0 58 4 (.slice ao vals.length c) vals.length (evCells (vals.map msgEv)) ∧ Below u2.heap.size u2 w') := by
  obtain ⟨H, vs, h1, h2, h3, h4⟩ := h
  obtain ⟨x, vals, hx, hpb⟩ := h4.two
  have hle : H.ts.length ≤ 100000 := by have := h2.len; omega
  have hti := h2.ten 1 x hx
  have hll : x.log.length ≤ 6000 := by
    have a1 := hti.llen
    have a2 := h2.frames
    omega
  have hbl := hti.blen hm4
  have hbe : x.box.length = vals.length := by rw [hpb.box, List.length_map]
  refine ⟨x, vals, hpb, hll, by omega, ?_, ?_⟩
  · refine (hlog_any h1 1 hx hle (by omega)).mono ?_
    rintro e w' ⟨rv, rfl, ho, hb⟩
    obtain ⟨ao, c, rfl⟩ := own_is ho
    exact ⟨ao, c, rfl, own_zero ho, hb⟩
  · intro u2 hu2
    refine (hbox_any (h1.below hu2 (h1.tb_lt hx)) 1 hx hle (by omega)).mono ?_
    rintro e w' ⟨rv, rfl, ho, hb⟩
    obtain ⟨ao, c, rfl⟩ := own_is ho
    have ho2 := own_zero ho
    rw [hbe, hpb.box] at ho2
    exact ⟨ao, c, by rw [hbe], ho2, hb⟩
end

theorem two_row {w : World} {g : Nat} {a b : Mf} (h : Blk w g #[.string a.prog, .int .i64 a.fuel, .int .u8 a.routes, .int .u8 a.pub, .int .u8 a.sub, .int .i64 a.share, .int .i64 a.back, .string b.prog, .int .i64 b.fuel, .int .u8 b.routes, .int .u8 b.pub, .int .u8 b.sub, .int .i64 b.share, .int .i64 b.back] 41) : MfRow w g 0 [a, b] := by
  intro i m hm j v hv
  have hj : j < 7 := (Array.getElem?_eq_some_iff.1 hv).1
  rw [h.cell]
  match i, hm with
  | 0, hm =>
    simp at hm
    subst hm
    rcases (show j = 0 ∨ j = 1 ∨ j = 2 ∨ j = 3 ∨ j = 4 ∨ j = 5 ∨ j = 6 by omega) with rfl | rfl | rfl | rfl | rfl | rfl | rfl <;> exact hv
  | 1, hm =>
    simp at hm
    subst hm
    rcases (show j = 0 ∨ j = 1 ∨ j = 2 ∨ j = 3 ∨ j = 4 ∨ j = 5 ∨ j = 6 by omega) with rfl | rfl | rfl | rfl | rfl | rfl | rfl <;> exact hv
  | i + 2, hm => simp at hm

theorem insB_row {w : World} {g : Nat} (h : Blk w g #[.int .u8 20, .int .i64 0, .int .u8 3, .int .i64 1] 52) : InsRow w g 0 codeB := by
  intro i x hx
  have hi : i < 2 := by
    have := (List.getElem?_eq_some_iff.1 hx).1
    simpa [codeB] using this
  rw [h.cell, h.cell]
  rcases (show i = 0 ∨ i = 1 by omega) with rfl | rfl
  all_goals
    simp only [codeB] at hx
    simp at hx
    subst hx
    exact ⟨rfl, rfl⟩

/-- The last value ahead of the k-th that waits. -/
def lastTo (l : Int) (vals : List Int) (k : Nat) : Int := if k = 0 then l else vals.getD (k - 1) 0

theorem tally_le : ∀ (l : List En), (tally l).got + (tally l).lost ≤ l.length := by
  intro l
  have key : ∀ (l : List En) (t : Tally), (l.foldl tally1 t).got + (l.foldl tally1 t).lost ≤ t.got + t.lost + l.length := by
    intro l
    induction l with
    | nil => intro t; simp
    | cons e r ih =>
      intro t
      rw [List.foldl_cons]
      refine Nat.le_trans (ih _) ?_
      have : (tally1 t e).got + (tally1 t e).lost ≤ t.got + t.lost + 1 := by
        unfold tally1
        split
        · simp only; omega
        · split
          · simp only; omega
          · omega
      simp only [List.length_cons]
      omega
  have := key l ⟨0, 0, 0⟩
  unfold tally
  simpa using this

set_option maxRecDepth 100000 in
set_option maxHeartbeats 32000000 in
theorem postedLaw_any (c sh fr : Int) (w : World) (hc : in64 c) (hsh : in64 sh) (hfr : in64 fr) :
    Calls Try.prog 5 #[.int .i64 c, .int .i64 sh, .int .i64 fr] w fun e w' => e = .returned (.bool true) ∧ Below w.heap.size w w' := by
  obtain ⟨i0, hi, hz0, hz1, hz2⟩ := info_parts info28
  have P0 : Hid (∀ u : World, Calls Try.prog 10 #[.int .i64 c, .int .i64 4] u fun e w' => e = .returned (.int .i64 (H.pk c 4)) ∧ u = w') := fun u => pick_any c 4 u hc.1 hc.2 (by decide) (by decide)
  have P1 : Hid (∀ u : World, Calls Try.prog 10 #[.int .i64 sh, .int .i64 3] u fun e w' => e = .returned (.int .i64 (H.pk sh 3)) ∧ u = w') := fun u => pick_any sh 3 u hsh.1 hsh.2 (by decide) (by decide)
  have P2 : Hid (∀ u : World, Calls Try.prog 10 #[.int .i64 fr, .int .i64 200] u fun e w' => e = .returned (.int .i64 (H.pk fr 200)) ∧ u = w') := fun u => pick_any fr 200 u hfr.1 hfr.2 (by decide) (by decide)
  have h0 := H.pk_range c 4 (by decide)
  have h1 := H.pk_range sh 3 (by decide)
  have h2 := H.pk_range fr 200 (by decide)
  generalize H.pk c 4 = pc at P0 h0
  generalize H.pk sh 3 = ps at P1 h1
  obtain ⟨mo, hmo⟩ : ∃ mo : Nat, H.pk fr 200 = (mo : Int) := Int.eq_ofNat_of_zero_le h2.1
  rw [hmo] at P2 h2
  obtain ⟨n, hn⟩ : ∃ n : Nat, 1 + pc = (n : Int) := Int.eq_ofNat_of_zero_le (by omega)
  have hw0 : IntKind.i64.wrap (1 + pc) = (n : Int) := by rw [IntKind.wrap_i64]; omega
  obtain ⟨s, hs⟩ : ∃ s, s = 1 + ps := ⟨_, rfl⟩
  have hw1 : IntKind.i64.wrap (1 + ps) = s := by rw [IntKind.wrap_i64]; omega
  have hn1 : 1 ≤ n := by omega
  have hn4 : n ≤ 4 := by omega
  have hs1 : 1 ≤ s := by omega
  have hs3 : s ≤ 3 := by omega
  have hmo2 : mo < 200 := by omega
  clear hmo hc hsh hfr hn hs
  go_enter Try.func5, Try.ntmps5
  go_wp2_with fail
  refine (P0.out _).mono ?_
  rintro e w' ⟨rfl, rfl⟩
  go_wp2_with fail
  go_loopw [8, 9] (fun v i wr => ∃ (k cv : Nat) (bo : Option Addr), k ≤ n ∧ v = .slice bo (2 * k) cv ∧ i = .int .i64 k ∧ Hid (wr.ownsRow w.heap.size 52 2 (.slice bo (2 * k) cv) (2 * k) (insCells (codeA k))) ∧ Hid (Below w.heap.size w wr))
    (fun _ i _ => n - (intOf i).toNat)
  case atStart => exact ⟨0, 0, none, Nat.zero_le _, rfl, rfl, World.ownsRow_nil _ _ _ _, Below.refl _ _⟩
  case round =>
    obtain ⟨k, cv, bo, hk, rfl, rfl, HO, HB⟩ := hrel
    have hsz := HB.out.size
    by_cases hlt : k < n
    · have hki : (k : Int) < (n : Int) := by omega
      have hk0 : (0 : Int) ≤ (k : Int) := by omega
      have HNw : Hid (∀ jj u, [Value.int .u8 19, .int .i64 0, .int .u8 25, .int .i64 2][jj]? = some u → (wr.alloc (.cells #[.int .u8 19, .int .i64 0, .int .u8 25, .int .i64 2] 52)).cell? ((⟨wr.heap.size, 0, none⟩ : Addr).add jj) = some u) := new_cells1 wr #[.int .u8 19, .int .i64 0, .int .u8 25, .int .i64 2] 52
      obtain ⟨k2, hk2⟩ : ∃ k2, k2 = 2 * k := ⟨_, rfl⟩
      have HK2 : Hid (2 * k = k2) := hk2.symm
      have hk28 : k2 ≤ 8 := by omega
      rw [← hk2] at HO ⊢
      clear hk2
      go_wp2_with (at_builtin; refine wpList_append_own_at _ rfl (.tmp 35) (.tmp 38) 38 rfl w.heap.size 52 i0 (.agg #[.int .u8 0, .int .i64 0]) 2 16 Try.underlying38 hi hz0 hz1 hz2 rfl (by decide) _ k2 _ rfl (HO.out.alloc _) ⟨wr.heap.size, 0, none⟩ 2 2 [.int .u8 19, .int .i64 0, .int .u8 25, .int .i64 2] rfl rfl HNw.out (by intro u hu; simp at hu; rcases hu with rfl | rfl | rfl | rfl <;> rfl) (by unfold maxLen; omega) (by omega) (by simp; omega) ?_)
      intro g1 w2 ho1 hg1 _ _
      obtain ⟨go1, gc1, rfl⟩ := own_is ho1
      have HO2 : Hid (w2.ownsRow w.heap.size 52 2 (.slice go1 (k2 + 2) gc1) (k2 + 2) (insCells (codeA (k + 1)))) := by
        unfold Hid
        have e : insCells (codeA (k + 1)) = insCells (codeA k) ++ [.int .u8 19, .int .i64 0, .int .u8 25, .int .i64 2] := by
          show insCells (codeA k ++ [(19, 0), (25, 2)]) = _
          simp [insCells]
        rw [e]
        exact ho1
      have HB2 : Hid (Below w.heap.size w w2) := (HB.out.alloc hsz _).grown hg1 (by simp; omega) (fun z hz => (HO.out.lt z hz).1)
      have HE2 : Hid (k2 + 2 = 2 * (k + 1)) := by have := HK2.out; unfold Hid; omega
      clear ho1 hg1 HO HB HNw
      go_wp2
      go_roundw
      case rel => exact ⟨k + 1, gc1, go1, by omega, by rw [← HE2.out], by go_num, by rw [← HE2.out]; exact HO2, HB2⟩
      case measure => simp [intOf]; omega
    · have hkn : k = n := by omega
      have HO1 : Hid (wr.ownsRow w.heap.size 52 2 (.slice bo (2 * n) cv) (2 * n) (insCells (codeA n))) := by
        have q := HO.out
        rw [hkn] at q
        exact q
      obtain ⟨g, rfl⟩ : ∃ g, bo = some ⟨g, 0, none⟩ := by
        rcases HO1.out.2 with ⟨_, h0⟩ | ⟨g, cp, cur, hv, _⟩
        · omega
        · simp only [Value.slice.injEq] at hv
          exact ⟨g, hv.1⟩
      have hki : ¬ (k : Int) < (n : Int) := by omega
      obtain ⟨pA, hpA⟩ : ∃ pA, pA = progA n := ⟨_, rfl⟩
      obtain ⟨pB, hpB⟩ : ∃ pB, pB = progB := ⟨_, rfl⟩
      have HPr : Hid (progA n = pA ∧ progB = pB) := ⟨hpA.symm, hpB.symm⟩
      have HEn : Hid (Calls Try.prog 12 #[.slice (some ⟨g, 0, none⟩) (2 * k) cv] wr fun e w' => e = .returned (.tuple #[.string pA, .int .i64 0]) ∧ Below wr.heap.size wr w') := by
        rw [hkn]
        have hl := codeA_length n
        have q := enc_mid g 0 (2 * n) cv (codeA n) wr (by omega) (by omega) hl (own_insRow HO1.out hl)
        have e1 : encS (2 * n) (codeA n) = pA := HPr.out.1
        have e2 : encE (2 * n) (codeA n) = 0 := by unfold encE; rw [if_pos (codeA_ok hn1 hn4)]
        rw [e1, e2] at q
        exact q
      clear hkn hpA hpB HO HO1
      go_wp2_with fail
      refine HEn.out.mono ?_
      rintro e w2 ⟨rfl, hb2⟩
      have HB2 : Hid (Below w.heap.size w w2) := HB.out.trans (hb2.mono HB.out.size)
      have HEb : Hid (Calls Try.prog 12 #[.slice (some ⟨w2.heap.size, 0, none⟩) 2 2] (w2.alloc (.cells #[.int .u8 20, .int .i64 0, .int .u8 3, .int .i64 1] 52)) fun e w' => e = .returned (.tuple #[.string pB, .int .i64 0]) ∧ Below w.heap.size w w') := by
        have q := enc_mid w2.heap.size 0 2 2 codeB (w2.alloc (.cells #[.int .u8 20, .int .i64 0, .int .u8 3, .int .i64 1] 52)) (by decide) (by decide) rfl (insB_row (Blk.new w2 _ 52))
        have e1 : encS 2 codeB = pB := HPr.out.2
        have e2 : encE 2 codeB = 0 := by unfold encE; rw [if_pos codeB_ok]
        rw [e1, e2] at q
        refine q.mono fun e w' z => ⟨z.1, ?_⟩
        have hba := HB2.out.alloc HB2.out.size (.cells #[.int .u8 20, .int .i64 0, .int .u8 3, .int .i64 1] 52)
        exact hba.trans (z.2.mono hba.size)
      clear hb2 HB HEn
      go_wp2_with fail
      refine HEb.out.mono ?_
      rintro e w3 ⟨rfl, hb3⟩
      have HB3 : Hid (Below w.heap.size w w3) := hb3
      clear hb3 HB2 HEb
      go_wp2_with fail
      refine (P1.out _).mono ?_
      rintro e w' ⟨rfl, rfl⟩
      obtain ⟨W, hW⟩ : ∃ W, W = w3.alloc (.cells #[.string pA, .int .i64 8, .int .u8 1, .int .u8 4, .int .u8 0, .int .i64 1, .int .i64 1, .string pB, .int .i64 2, .int .u8 1, .int .u8 0, .int .u8 12, .int .i64 s, .int .i64 1] 41) := ⟨_, rfl⟩
      have HBW : Hid (Below w.heap.size w W) := by unfold Hid; rw [hW]; exact HB3.out.alloc HB3.out.size _
      obtain ⟨ms, hms⟩ : ∃ ms, ms = [mfA n, mfB s] := ⟨_, rfl⟩
      have HM : Hid (1 ≤ ms.length ∧ ms.length ≤ 4) := by unfold Hid; rw [hms]; exact (by decide : 1 ≤ 2 ∧ 2 ≤ 4)
      have HG : Hid (∀ m ∈ ms, m.good) := by
        intro m hm
        rw [hms] at hm
        simp at hm
        rcases hm with rfl | rfl
        · exact mfA_good hn1 hn4
        · exact mfB_good ⟨hs1, hs3⟩
      have HPo : Hid (Post n s 1 (openHs ms)) := by unfold Hid; rw [hms]; exact Post.opened hn1 hn4 ⟨hs1, hs3⟩
      have HOp : Hid (Calls Try.prog 8 #[.slice (some ⟨w3.heap.size, 0, none⟩) 2 2] W fun e w' => ∃ hb' tb cap vs, e = .returned (.pointer (some ⟨hb', 0, none⟩)) ∧ HostAt w' hb' tb cap (openHs ms) vs ∧ (∀ k, ownOf hb' tb vs k → W.heap.size ≤ k) ∧ Below W.heap.size W w') := by
        have hb : Blk W w3.heap.size #[.string pA, .int .i64 8, .int .u8 1, .int .u8 4, .int .u8 0, .int .i64 1, .int .i64 1, .string pB, .int .i64 2, .int .u8 1, .int .u8 0, .int .u8 12, .int .i64 s, .int .i64 1] 41 := by rw [hW]; exact Blk.new w3 _ 41
        have hr : MfRow W w3.heap.size 0 ms := by
          rw [hms]
          refine two_row ?_
          rw [← HPr.out.1, ← HPr.out.2] at hb
          exact hb
        have q := opened_any w3.heap.size 0 2 ms W HM.out.1 HM.out.2 HG.out hr hb.lt
        have hl : ms.length = 2 := by rw [hms]; rfl
        rw [hl] at q
        exact q
      go_wp2_with fail
      rw [← hW]
      refine HOp.out.mono ?_
      rintro e w4 ⟨hp, tb, cap, vs, rfl, hh4, ho4, hb4⟩
      have HB4 : Hid (Below w.heap.size w w4) := HBW.out.trans (hb4.mono HBW.out.size)
      have HP4 : Hid (PosIn w.heap.size ms n s hp tb cap w4 1) := ⟨openHs ms, vs, hh4, openHs_ok HG.out HM.out.2, fun k q => Nat.le_trans HBW.out.size (ho4 k q), HPo.out⟩
      clear hh4 ho4 hb4 HOp HBW HPo hW hms HPr HB3
      go_wp2_with fail
      refine (P2.out _).mono ?_
      rintro e w' ⟨rfl, rfl⟩
      clear P0 P1 P2
      go_wp2_with fail
      go_loopw [17] (fun i wr => ∃ j : Nat, j ≤ mo ∧ i = .int .i64 j ∧ Hid (PosIn w.heap.size ms n s hp tb cap wr (j + 1)) ∧ Hid (Below w.heap.size w wr))
        (fun i _ => mo - (intOf i).toNat)
      case atStart => exact ⟨0, Nat.zero_le _, rfl, HP4.out, HB4.out⟩
      case round =>
        obtain ⟨j, hj, rfl, HP, HB⟩ := hrel
        clear HP4 HB4
        by_cases hlj : j < mo
        · have HFr : Hid (Calls Try.prog 16 #[.pointer (some ⟨hp, 0, none⟩), .slice none 0 0] wr fun e w' => e = .returned (.int .i64 0) ∧ PosIn w.heap.size ms n s hp tb cap w' (j + 1 + 1) ∧ Below w.heap.size w w') := HP.out.frame_any HM.out.1 HM.out.2 hn1 hn4 (by omega) HB.out
          have hji : (j : Int) < (mo : Int) := by omega
          have hj0 : (0 : Int) ≤ (j : Int) := by omega
          go_wp2_with fail
          refine HFr.out.mono ?_
          rintro e w5 ⟨rfl, hp5, hb5⟩
          have HP5 : Hid (PosIn w.heap.size ms n s hp tb cap w5 (j + 1 + 1)) := hp5
          have HB5 : Hid (Below w.heap.size w w5) := hb5
          clear hp5 hb5 HFr HP HB
          go_wp2
          go_roundw
          case rel => exact ⟨j + 1, by omega, by go_num, HP5, HB5⟩
          case measure => simp [intOf]; omega
        · have hjm : j = mo := by omega
          have hji : ¬ (j : Int) < (mo : Int) := by omega
          obtain ⟨x, vals, hpb, hll, hvl, hlog, hbox⟩ := HP.out.both_any HM.out.1 HM.out.2
          rw [hjm] at hpb
          obtain ⟨L, hL⟩ : ∃ L, L = x.log.length := ⟨_, rfl⟩
          obtain ⟨V, hV⟩ : ∃ V, V = vals.length := ⟨_, rfl⟩
          have HLV : Hid (x.log.length = L ∧ vals.length = V) := ⟨hL.symm, hV.symm⟩
          have HLg : Hid (Calls Try.prog 19 #[.pointer (some ⟨hp, 0, none⟩), .int .i64 1] wr (fun e w' => ∃ ao c, e = .returned (.slice ao L c) ∧ w'.ownsRow 0 56 4 (.slice ao L c) L (enCells x.log) ∧ Below wr.heap.size wr w')) := by rw [hL]; exact hlog
          have HBx : Hid (∀ u2, Below wr.heap.size wr u2 → Calls Try.prog 15 #[.pointer (some ⟨hp, 0, none⟩), .int .i64 1] u2 (fun e w' => ∃ ao c, e = .returned (.slice ao V c) ∧ w'.ownsRow 0 58 4 (.slice ao V c) V (evCells (vals.map msgEv)) ∧ Below u2.heap.size u2 w')) := by rw [hV]; exact hbox
          have HPb : Hid (PB s (mo + 1) (n * (mo + 1)) vals x) := hpb
          have hl6 : L ≤ 6000 := by omega
          have hv19 : V ≤ 19 := by omega
          clear hlog hbox hpb hL hV hll hvl hjm HP
          go_wp2_with fail
          refine HLg.out.mono ?_
          rintro e w5 ⟨lo, lc, rfl, ho5, hb5⟩
          have HO5 : Hid (w5.ownsRow 0 56 4 (.slice lo L lc) L (enCells x.log)) := ho5
          have HX5 : Hid (Below wr.heap.size wr w5) := hb5
          have HB5 : Hid (Below w.heap.size w w5) := HB.out.trans (hb5.mono HB.out.size)
          clear ho5 hb5 HLg
          obtain ⟨wz, hwz⟩ : ∃ wz, wz = wr := ⟨_, rfl⟩
          rw [← hwz] at HBx HX5 HB
          clear hwz
          go_wp2_with fail
          go_loopw [19, 20, 21, 84] (fun a b d i wr => ∃ (k : Nat) (t : Tally), k ≤ L ∧ i = .int .i64 k ∧ a = .int .i64 (t.got : Int) ∧ b = .int .i64 t.last ∧ d = .int .i64 (t.lost : Int) ∧ t.got ≤ k ∧ t.lost ≤ k ∧ Hid (tally (x.log.take k) = t) ∧ Hid (Below w5.heap.size w5 wr))
            (fun _ _ _ i _ => L - (intOf i).toNat)
          case atStart => exact ⟨0, ⟨0, 0, 0⟩, Nat.zero_le _, rfl, rfl, rfl, rfl, Nat.le_refl _, Nat.le_refl _, rfl, Below.refl _ _⟩
          case round =>
            obtain ⟨q, ⟨tg, tl, tx⟩, hq, rfl, rfl, rfl, rfl, htg, htx, HT, HBq⟩ := hrel
            simp only at htg htx
            have hszq := HBq.out.size
            by_cases hlq : q < L
            · obtain ⟨e, he⟩ : ∃ e, x.log[q]? = some e := ⟨x.log[q]'(by have := HLV.out.1; omega), List.getElem?_eq_getElem (by have := HLV.out.1; omega)⟩
              have sc := enCells_at x.log q e he
              obtain ⟨g5, rfl, c0, c1, c2, c3⟩ := own_four (own_below' HO5.out HBq.out (Nat.le_refl _)) (sc 0 (by decide)) (sc 1 (by decide)) (sc 2 (by decide)) (sc 3 (by decide))
              have HTn : Hid (tally (x.log.take (q + 1)) = tally1 ⟨tg, tl, tx⟩ e) := by
                unfold Hid
                rw [List.take_add_one, he]
                show tally (x.log.take q ++ [e]) = _
                rw [tally_snoc, HT.out]
              have HOr : Hid (isLost e = false → isGot e = true → tl ≤ e.b ∧ e.b ≤ e.frame ∧ 0 ≤ e.b ∧ e.frame ≤ 1000) := by
                intro a1 a2
                have z := HPb.out.order q e he a1 a2
                rw [HT.out] at z
                exact z
              obtain ⟨ef, ek, ea, eb⟩ := e
              simp only at HTn HOr
              have hqi : (q : Int) < (L : Int) := by omega
              have hq0 : (0 : Int) ≤ (q : Int) := by omega
              clear he sc
              have HBn : Hid (∀ ob, Below w5.heap.size w5 (wr.alloc ob)) := fun ob => HBq.out.alloc hszq ob
              by_cases k3 : ek = 3
              · subst k3
                by_cases a2 : ea = 2
                · subst a2
                  have HZ : Hid (tally (x.log.take (q + 1)) = ⟨tg, tl, tx + 1⟩) := HTn.out
                  go_wp2
                  go_roundw
                  case rel => exact ⟨q + 1, ⟨tg, tl, tx + 1⟩, by omega, by go_num, rfl, rfl, by go_num, by simp only; omega, by simp only; omega, HZ, HBn.out _⟩
                  case measure => simp [intOf]; omega
                · have hab : (ea == 2) = false := by rw [beq_eq_false_iff_ne]; exact a2
                  have HZ : Hid (tally (x.log.take (q + 1)) = ⟨tg, tl, tx⟩) := by
                    unfold Hid
                    rw [HTn.out]
                    unfold tally1
                    rw [if_neg (by simp [isLost, a2]), if_neg (by simp [isGot])]
                  go_wp2
                  go_roundw
                  case rel => exact ⟨q + 1, ⟨tg, tl, tx⟩, by omega, by go_num, rfl, rfl, rfl, by simp only; omega, by simp only; omega, HZ, HBn.out _⟩
                  case measure => simp [intOf]; omega
              · have hk3 : (ek == 3) = false := by rw [beq_eq_false_iff_ne]; exact k3
                by_cases k0 : ek = 0
                · subst k0
                  by_cases a2 : ea = 2
                  · subst a2
                    obtain ⟨z1, z2, z3, z4⟩ := HOr.out rfl rfl
                    have HZ : Hid (tally (x.log.take (q + 1)) = ⟨tg + 1, eb, tx⟩) := HTn.out
                    have hbw : IntKind.i64.wrap eb = eb := by rw [IntKind.wrap_i64]; omega
                    have hd1 : decide (eb < tl) = false := dec_no (by omega)
                    have hd2 : decide (ef < eb) = false := dec_no (by omega)
                    have hd3 : ¬ eb < tl := by omega
                    have hd4 : ¬ ef < eb := by omega
                    go_wp2
                    go_roundw
                    case rel => exact ⟨q + 1, ⟨tg + 1, eb, tx⟩, by omega, by go_num, by go_num, by go_num, rfl, by simp only; omega, by simp only; omega, HZ, HBn.out _⟩
                    case measure => simp [intOf]; omega
                  · have hab : (ea == 2) = false := by rw [beq_eq_false_iff_ne]; exact a2
                    have HZ : Hid (tally (x.log.take (q + 1)) = ⟨tg, tl, tx⟩) := by
                      unfold Hid
                      rw [HTn.out]
                      unfold tally1
                      rw [if_neg (by simp [isLost]), if_neg (by simp [isGot, a2])]
                    go_wp2
                    go_roundw
                    case rel => exact ⟨q + 1, ⟨tg, tl, tx⟩, by omega, by go_num, rfl, rfl, rfl, by simp only; omega, by simp only; omega, HZ, HBn.out _⟩
                    case measure => simp [intOf]; omega
                · have hk0 : (ek == 0) = false := by rw [beq_eq_false_iff_ne]; exact k0
                  have HZ : Hid (tally (x.log.take (q + 1)) = ⟨tg, tl, tx⟩) := by
                    unfold Hid
                    rw [HTn.out]
                    unfold tally1
                    rw [if_neg (by simp [isLost, k3]), if_neg (by simp [isGot, k0])]
                  go_wp2
                  go_roundw
                  case rel => exact ⟨q + 1, ⟨tg, tl, tx⟩, by omega, by go_num, rfl, rfl, rfl, by simp only; omega, by simp only; omega, HZ, HBn.out _⟩
                  case measure => simp [intOf]; omega
            · have hqi : ¬ (q : Int) < (L : Int) := by omega
              have HTe : Hid (tally x.log = ⟨tg, tl, tx⟩) := by
                have z := HT.out
                rw [List.take_of_length_le (by have := HLV.out.1; omega)] at z
                exact z
              have HSm : Hid (tg + tx + V = n * (mo + 1)) := by
                have z := HPb.out.all
                rw [HTe.out, HLV.out.2] at z
                exact z
              have hVs : (V : Int) ≤ s := by
                have z := HPb.out.few
                rw [HLV.out.2] at z
                exact z
              have htgl : tg ≤ 6000 := by omega
              have htxl : tx ≤ 6000 := by omega
              have hBx2 : Below wz.heap.size wz wr := HX5.out.trans (HBq.out.mono HX5.out.size)
              have HBx2 : Hid (Calls Try.prog 15 #[.pointer (some ⟨hp, 0, none⟩), .int .i64 1] wr (fun e w' => ∃ ao c, e = .returned (.slice ao V c) ∧ w'.ownsRow 0 58 4 (.slice ao V c) V (evCells (vals.map msgEv)) ∧ Below wr.heap.size wr w')) := HBx.out wr hBx2
              have HBr : Hid (Below w.heap.size w wr) := HB5.out.trans (HBq.out.mono HB5.out.size)
              clear hBx2 HBx HT HBq HO5 HX5
              go_wp2_with fail
              refine HBx2.out.mono ?_
              rintro e w6 ⟨bo, bc, rfl, ho6, hb6⟩
              have HO6 : Hid (w6.ownsRow 0 58 4 (.slice bo V bc) V (evCells (vals.map msgEv))) := ho6
              have HB6 : Hid (Below w.heap.size w w6) := HBr.out.trans (hb6.mono HBr.out.size)
              clear ho6 hb6 HBx2 HBr
              go_wp2_with fail
              go_loopw [20, 131] (fun b i wr => ∃ (k : Nat) (l : Int), k ≤ V ∧ i = .int .i64 k ∧ b = .int .i64 l ∧ Hid (lastTo tl vals k = l) ∧ Hid (Below w6.heap.size w6 wr))
                (fun _ i _ => V - (intOf i).toNat)
              case atStart => exact ⟨0, tl, Nat.zero_le _, rfl, rfl, rfl, Below.refl _ _⟩
              case round =>
                obtain ⟨y, ly, hy, rfl, rfl, HLy, HBy⟩ := hrel
                have hszy := HBy.out.size
                by_cases hly : y < V
                · obtain ⟨v, hv⟩ : ∃ v, vals[y]? = some v := ⟨vals[y]'(by have := HLV.out.2; omega), List.getElem?_eq_getElem (by have := HLV.out.2; omega)⟩
                  have hmv : (vals.map msgEv)[y]? = some (msgEv v) := by rw [List.getElem?_map, hv]; rfl
                  have sc := evCells_at (vals.map msgEv) y (msgEv v) hmv
                  obtain ⟨g6, rfl, c0, c1, c2, c3⟩ := own_four (own_below' HO6.out HBy.out (Nat.le_refl _)) (sc 0 (by decide)) (sc 1 (by decide)) (sc 2 (by decide)) (sc 3 (by decide))
                  simp only [msgEv] at c0 c1 c2 c3
                  have hvm := List.mem_of_getElem? hv
                  have hfrom := HPb.out.from_ v hvm
                  rw [HTe.out] at hfrom
                  simp only at hfrom
                  have hlast := HPb.out.last.1
                  rw [HTe.out] at hlast
                  simp only at hlast
                  have hupto := HPb.out.upto v hvm
                  have hlv : ly ≤ v := by
                    rw [← HLy.out]
                    unfold lastTo
                    split
                    · exact hfrom
                    · rename_i hy0
                      have hy1 : y - 1 < vals.length := by have := HLV.out.2; omega
                      have e1 : vals[y - 1]? = some (vals[y - 1]) := List.getElem?_eq_getElem hy1
                      rw [List.getD_eq_getElem?_getD, e1]
                      have hpw := List.pairwise_iff_getElem.1 HPb.out.sorted (y - 1) y hy1 (by have := HLV.out.2; omega) (by omega)
                      have e2 : vals[y]'(by have := HLV.out.2; omega) = v := (List.getElem?_eq_some_iff.1 hv).2
                      rw [e2] at hpw
                      exact hpw
                  have HLn : Hid (lastTo tl vals (y + 1) = v) := by
                    unfold Hid lastTo
                    rw [if_neg (by omega), Nat.add_sub_cancel, List.getD_eq_getElem?_getD, hv]
                    rfl
                  have hvw : IntKind.i64.wrap v = v := by rw [IntKind.wrap_i64]; omega
                  have hd1 : decide (v < ly) = false := dec_no (by omega)
                  have hd2 : ¬ v < ly := by omega
                  have hyi : (y : Int) < (V : Int) := by omega
                  have hy0 : (0 : Int) ≤ (y : Int) := by omega
                  have HBn : Hid (∀ ob, Below w6.heap.size w6 (wr.alloc ob)) := fun ob => HBy.out.alloc hszy ob
                  clear hv hmv sc hvm hfrom hlast hupto hlv
                  go_wp2
                  go_roundw
                  case rel => exact ⟨y + 1, v, by omega, by go_num, by go_num, HLn, HBn.out _⟩
                  case measure => simp [intOf]; omega
                · have hyi : ¬ (y : Int) < (V : Int) := by omega
                  have HBe : Hid (Below w.heap.size w wr) := HB6.out.trans (HBy.out.mono HB6.out.size)
                  have e1 : IntKind.i64.wrap ((tg : Int) + (tx : Int)) = (tg : Int) + (tx : Int) := by rw [IntKind.wrap_i64]; omega
                  have e2 : IntKind.i64.wrap ((tg : Int) + (tx : Int) + (V : Int)) = (tg : Int) + (tx : Int) + (V : Int) := by rw [IntKind.wrap_i64]; omega
                  have e3 : IntKind.i64.wrap ((mo : Int) + 1) = (mo : Int) + 1 := by rw [IntKind.wrap_i64]; omega
                  obtain ⟨pn, hpn⟩ : ∃ pn : Int, pn = (n : Int) * ((mo : Int) + 1) := ⟨_, rfl⟩
                  have hpe : pn = (tg : Int) + (tx : Int) + (V : Int) := by
                    have z := HSm.out
                    have z2 : ((tg + tx + V : Nat) : Int) = ((n * (mo + 1) : Nat) : Int) := by rw [z]
                    rw [hpn]
                    push_cast at z2
                    omega
                  have e4 : IntKind.i64.wrap ((n : Int) * ((mo : Int) + 1)) = (tg : Int) + (tx : Int) + (V : Int) := by
                    rw [← hpn, hpe, IntKind.wrap_i64]
                    omega
                  clear hpn hpe
                  go_wp2
                  go_ret
                  exact ⟨rfl, HBe.out⟩
end Go.Proofs.Ytidaflmmldefcaa
