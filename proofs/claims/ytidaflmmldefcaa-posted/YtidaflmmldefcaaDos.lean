/-
  The walk of does.
-/
import Derived.Test.YtidaflmmldefcaaNewB
import Derived.Test.YtidaflmmldefcaaGst
namespace Go.Proofs.Ytidaflmmldefcaa
open Go.RowKit
set_option linter.unusedVariables false

/-- A step on a host. -/
def Hs.does (H : Hs) (kind a : Int) (dl : List (List Int)) : Hs :=
  if Go.Proofs.Ytidaflmmldefcaa.H.pk kind 3 = 0 then H.navigate (Go.Proofs.Ytidaflmmldefcaa.H.pk a 4)
  else if Go.Proofs.Ytidaflmmldefcaa.H.pk kind 3 = 1 then H.click (Go.Proofs.Ytidaflmmldefcaa.H.pk a 400) else H.frame dl

theorem HI.does {ms : List Mf} {H : Hs} (h : HI ms H) (hm : ms.length ≤ 4) (kind a : Int) {dl : List (List Int)} (hd : ∀ l ∈ dl, InR l) : HI ms (H.does kind a dl) := by
  unfold Hs.does
  split
  · exact h.navigate _ (Go.Proofs.Ytidaflmmldefcaa.H.pk_range a 4 (by decide)).1
  · split
    · exact h.click _
    · exact h.frame hm hd

theorem clickE_is (H : Hs) (id : Int) : H.clickE id = 0 ∨ H.clickE id = 7 ∨ H.clickE id = 8 := by
  unfold Hs.clickE
  split
  · exact Or.inr (Or.inl rfl)
  · split
    · unfold Tn.clickE
      split
      · split
        · unfold Tn.takeClickE
          split
          · exact Or.inr (Or.inr rfl)
          · exact Or.inl rfl
        · exact Or.inr (Or.inl rfl)
      · exact Or.inr (Or.inl rfl)
    · exact Or.inr (Or.inl rfl)

section
variable {w w' : World} {hb tb cap : Nat} {H : Hs} {vs : List Vs}

theorem hnavigate_any (h : HostAt w hb tb cap H vs) (hne : H.ts ≠ []) (r : Int) (hr0 : 0 ≤ r) (hr : r < 4) : Calls Try.prog 25 #[.pointer (some ⟨hb, 0, none⟩), .int .u8 r] w fun e w' => e = .returned (.int .i64 0) ∧ HAft w hb tb cap vs (H.navigate r) w' := by
  have h1 : hb ≠ tb := by
    cases hts : H.ts with
    | nil => exact absurd hts hne
    | cons x q =>
      obtain ⟨v, _, ht⟩ := h.at (i := 0) (x := x) (by rw [hts]; rfl)
      obtain ⟨cur, z, _⟩ := ht.slot
      exact fun e => z.ne h.host (by decide) e.symm
  refine (navigate_any h r h1 ?_).mono ?_
  · intro v hv
    obtain ⟨i, hi⟩ := List.mem_iff_getElem?.1 hv
    have hl := (List.getElem?_eq_some_iff.1 hi).1
    have ht := h.ten i _ v (List.getElem?_eq_getElem (by rw [← h.len]; exact hl)) hi
    refine ⟨fun e => ?_, fun e => h.host.ne_own ht.log (by decide) e.symm⟩
    obtain ⟨cur, q⟩ := ht.box.blk e
    exact q.ne h.host (by decide) rfl
  · rintro e w1 ⟨rfl, h2, h3⟩
    exact ⟨by rw [if_neg (by omega)], vs, h2, h3, fun k q => Or.inl q⟩

set_option maxHeartbeats 8000000 in
theorem does_any {ms : List Mf} (h : HostAt w hb tb cap H vs) (hi : HI ms H) (hm : ms.length ≤ 4) (hne : H.ts ≠ []) (kind a : Int) (hk : in64 kind) (ha : in64 a) (dao : Option Addr) (dcap : Nat) (dl : List (List Int)) (hdl : dl.length ≤ maxLen) (hd : DrsK (ownOf hb tb vs) w dao dl) (hr : ∀ l ∈ dl, InR l) :
    Calls Try.prog 9 #[.pointer (some ⟨hb, 0, none⟩), .agg #[.int .i64 kind, .int .i64 a, .slice dao dl.length dcap]] w fun e w' => e = .returned (.bool true) ∧ HAft w hb tb cap vs (H.does kind a dl) w' := by
  obtain ⟨W, hW⟩ : ∃ W, W = w.alloc (.cells #[.int .i64 kind, .int .i64 a, .slice dao dl.length dcap] 31) := ⟨_, rfl⟩
  have hbW : Below w.heap.size w W := by rw [hW]; exact (Below.refl _ _).alloc (Nat.le_refl _) _
  have HK0 : Hid (Kept (ownOf hb tb vs) w W) := Kept.of_below hbW
  have hW0 := h.below hbW (h.tbl hne)
  have HX : Hid (Blk W w.heap.size #[.int .i64 kind, .int .i64 a, .slice dao dl.length dcap] 31) := by unfold Hid; rw [hW]; exact Blk.new w _ 31
  have c0 : W.cell? ⟨w.heap.size, 0, none⟩ = some (.int .i64 kind) := by rw [HX.out.cell 0]; rfl
  have c1 : W.cell? ⟨w.heap.size, 1, none⟩ = some (.int .i64 a) := by rw [HX.out.cell 1]; rfl
  have c2 : W.cell? ⟨w.heap.size, 2, none⟩ = some (.slice dao dl.length dcap) := by rw [HX.out.cell 2]; rfl
  have P1 : Hid (∀ u : World, Calls Try.prog 10 #[.int .i64 kind, .int .i64 3] u fun e w' => e = .returned (.int .i64 (Go.Proofs.Ytidaflmmldefcaa.H.pk kind 3)) ∧ u = w') := fun u => pick_any kind 3 u hk.1 hk.2 (by decide) (by decide)
  have P2 : Hid (∀ u : World, Calls Try.prog 10 #[.int .i64 a, .int .i64 4] u fun e w' => e = .returned (.int .i64 (Go.Proofs.Ytidaflmmldefcaa.H.pk a 4)) ∧ u = w') := fun u => pick_any a 4 u ha.1 ha.2 (by decide) (by decide)
  have P3 : Hid (∀ u : World, Calls Try.prog 10 #[.int .i64 a, .int .i64 400] u fun e w' => e = .returned (.int .i64 (Go.Proofs.Ytidaflmmldefcaa.H.pk a 400)) ∧ u = w') := fun u => pick_any a 400 u ha.1 ha.2 (by decide) (by decide)
  have qk := Go.Proofs.Ytidaflmmldefcaa.H.pk_range kind 3 (by decide)
  have q4 := Go.Proofs.Ytidaflmmldefcaa.H.pk_range a 4 (by decide)
  have q400 := Go.Proofs.Ytidaflmmldefcaa.H.pk_range a 400 (by decide)
  have hle : H.ts.length ≤ 100000 := by have := hi.len; omega
  have C1 : Hid (Calls Try.prog 25 #[.pointer (some ⟨hb, 0, none⟩), .int .u8 (Go.Proofs.Ytidaflmmldefcaa.H.pk a 4)] W fun e w' => e = .returned (.int .i64 0) ∧ HAft W hb tb cap vs (H.navigate (Go.Proofs.Ytidaflmmldefcaa.H.pk a 4)) w') := hnavigate_any hW0 hne _ q4.1 q4.2
  have C2 : Hid (Calls Try.prog 14 #[.pointer (some ⟨hb, 0, none⟩), .int .i64 (Go.Proofs.Ytidaflmmldefcaa.H.pk a 400)] W fun e w' => e = .returned (.int .i64 (H.clickE (Go.Proofs.Ytidaflmmldefcaa.H.pk a 400))) ∧ HAft W hb tb cap vs (H.click (Go.Proofs.Ytidaflmmldefcaa.H.pk a 400)) w') := hclick_any hW0 _ (by omega) (by omega) hle (hi.clickOk hm)
  have C3 : Hid (Calls Try.prog 16 #[.pointer (some ⟨hb, 0, none⟩), .slice dao dl.length dcap] W fun e w' => e = .returned (.int .i64 H.frameE) ∧ HAft W hb tb cap vs (H.frame dl) w') := frame_any hW0 hne dao dcap dl (hi.fit hm hr) hdl (hd.step HK0.out (fun k q => Or.inl q))
  have HDo : Hid (H.does kind a dl = if Go.Proofs.Ytidaflmmldefcaa.H.pk kind 3 = 0 then H.navigate (Go.Proofs.Ytidaflmmldefcaa.H.pk a 4) else if Go.Proofs.Ytidaflmmldefcaa.H.pk kind 3 = 1 then H.click (Go.Proofs.Ytidaflmmldefcaa.H.pk a 400) else H.frame dl) := rfl
  have HCe := show Hid _ from clickE_is H (Go.Proofs.Ytidaflmmldefcaa.H.pk a 400)
  have HFe : Hid (H.frameE = 0 ∨ H.frameE = 9) := by
    unfold Hid Hs.frameE
    split
    · exact Or.inr rfl
    · exact Or.inl rfl
  generalize Go.Proofs.Ytidaflmmldefcaa.H.pk kind 3 = pk at *
  generalize Go.Proofs.Ytidaflmmldefcaa.H.pk a 4 = p4 at *
  generalize Go.Proofs.Ytidaflmmldefcaa.H.pk a 400 = p400 at *
  have w4 : IntKind.u8.wrap p4 = p4 := by rw [IntKind.wrap_u8]; omega
  generalize H.clickE p400 = ce at C2 HCe
  generalize H.frameE = fe at C3 HFe
  clear h hi hd hr hW0 hbW hk ha
  go_enter Try.func9, Try.ntmps9
  go_upto_region 1 with fail
  rw [← hW]
  clear hW
  go_wp2_with fail
  refine (P1.out _).mono ?_
  rintro e w1 ⟨rfl, rfl⟩
  by_cases h0 : pk = 0
  · have HE : Hid (H.does kind a dl = H.navigate p4) := by unfold Hid; rw [HDo.out, if_pos h0]
    subst h0
    go_wp2_with fail
    refine (P2.out _).mono ?_
    rintro e w1 ⟨rfl, rfl⟩
    go_wp2_with fail
    refine C1.out.mono ?_
    rintro e w2 ⟨rfl, ha2⟩
    have HA2 : Hid (HAft w hb tb cap vs (H.navigate p4) w2) := HAft.trans HK0.out (fun k q => Or.inl q) ha2
    clear ha2
    go_wp2
    go_ret
    exact ⟨rfl, by rw [HE.out]; exact HA2.out⟩
  · have hb0 : (pk == 0) = false := by rw [beq_eq_false_iff_ne]; exact h0
    by_cases h1 : pk = 1
    · have HE : Hid (H.does kind a dl = H.click p400) := by unfold Hid; rw [HDo.out, if_neg h0, if_pos h1]
      subst h1
      go_wp2_with fail
      refine (P3.out _).mono ?_
      rintro e w1 ⟨rfl, rfl⟩
      go_wp2_with fail
      refine C2.out.mono ?_
      rintro e w2 ⟨rfl, ha2⟩
      have HA2 : Hid (HAft w hb tb cap vs (H.click p400) w2) := HAft.trans HK0.out (fun k q => Or.inl q) ha2
      clear ha2
      rcases HCe.out with rfl | rfl | rfl
      all_goals
        go_wp2
        go_ret
        exact ⟨rfl, by rw [HE.out]; exact HA2.out⟩
    · have HE : Hid (H.does kind a dl = H.frame dl) := by unfold Hid; rw [HDo.out, if_neg h0, if_neg h1]
      have hb1 : (pk == 1) = false := by rw [beq_eq_false_iff_ne]; exact h1
      go_wp2_with fail
      refine C3.out.mono ?_
      rintro e w2 ⟨rfl, ha2⟩
      have HA2 : Hid (HAft w hb tb cap vs (H.frame dl) w2) := HAft.trans HK0.out (fun k q => Or.inl q) ha2
      clear ha2
      rcases HFe.out with rfl | rfl
      all_goals
        go_wp2
        go_ret
        exact ⟨rfl, by rw [HE.out]; exact HA2.out⟩
end
end Go.Proofs.Ytidaflmmldefcaa
