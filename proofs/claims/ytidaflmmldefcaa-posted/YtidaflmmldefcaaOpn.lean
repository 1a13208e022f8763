/-
  The walk of opened.
-/
import Derived.Test.YtidaflmmldefcaaNewB
import Derived.Test.YtidaflmmldefcaaOpnM
namespace Go.Proofs.Ytidaflmmldefcaa
open Go.RowKit
set_option linter.unusedVariables false

/-- A host behind its first frame. -/
def openHs (ms : List Mf) : Hs := (newHs ms).frame []
theorem openHs_ok {ms : List Mf} (hg : ∀ m ∈ ms, m.good) (hm : ms.length ≤ 4) : HI ms (openHs ms) := (newHs_ok hg).frame hm (fun l hl => by simp at hl)

set_option maxRecDepth 100000 in
set_option maxHeartbeats 8000000 in
theorem opened_any (b off ncap : Nat) (ms : List Mf) (w : World) (hl0 : 1 ≤ ms.length) (hl4 : ms.length ≤ 4) (hg : ∀ m ∈ ms, m.good) (hr : MfRow w b off ms) (hb : b < w.heap.size) :
    Calls Try.prog 8 #[.slice (some ⟨b, off, none⟩) ms.length ncap] w fun e w' => ∃ hb' tb cap vs, e = .returned (.pointer (some ⟨hb', 0, none⟩)) ∧ HostAt w' hb' tb cap (openHs ms) vs ∧ (∀ k, ownOf hb' tb vs k → w.heap.size ≤ k) ∧ Below w.heap.size w w' := by
  have HNew : Hid (Calls Try.prog 24 #[.slice (some ⟨b, off, none⟩) ms.length ncap] w fun e w' => ∃ hb' tb cap vs, e = .returned (.tuple #[.pointer (some ⟨hb', 0, none⟩), .int .i64 0]) ∧ HostAt w' hb' tb cap (newHs ms) vs ∧ (∀ k, ownOf hb' tb vs k → w.heap.size ≤ k) ∧ Below w.heap.size w w') := new_any b off ncap ms w hl0 hl4 hg hr hb
  have HI0 : Hid (HI ms (newHs ms)) := newHs_ok hg
  have HI1 : Hid (HI ms (openHs ms)) := openHs_ok hg hl4
  have HSe : Hid (∀ x ∈ (openHs ms).ts, Seen x) := opened_seen ms
  have HNe : Hid ((newHs ms).ts ≠ []) := by
    intro e
    have := congrArg List.length e
    simp [newHs] at this
    subst this
    simp at hl0
  obtain ⟨n, hn⟩ : ∃ n, n = ms.length := ⟨_, rfl⟩
  have Hn : Hid (ms.length = n) := hn.symm
  have HR : Hid (MfRow w b off ms) := hr
  have HFe : Hid ((newHs ms).frameE = 0) := rfl
  rw [← hn] at hl0 hl4 HNew ⊢
  clear hn hg hr
  go_enter Try.func8, Try.ntmps8
  go_wp2_with fail
  refine HNew.out.mono ?_
  rintro e w1 ⟨hp, tb, cap, vs, rfl, hh, ho, hb1⟩
  have HH1 : Hid (HostAt w1 hp tb cap (newHs ms) vs) := hh
  have HO1 : Hid (∀ k, ownOf hp tb vs k → w.heap.size ≤ k) := ho
  have HB1 : Hid (Below w.heap.size w w1) := hb1
  clear hh ho hb1 HNew
  have HFr : Hid (Calls Try.prog 16 #[.pointer (some ⟨hp, 0, none⟩), .slice none 0 0] w1 fun e w' => e = .returned (.int .i64 0) ∧ HAft w1 hp tb cap vs (openHs ms) w') := by
    have q := frame_any HH1.out HNe.out none 0 [] (HI0.out.fit (by rw [Hn.out]; exact hl4) (fun l hl => by simp at hl)) (Nat.zero_le _) (DrsK.nil _ _ _)
    rw [HFe.out] at q
    exact q
  go_wp2_with fail
  refine HFr.out.mono ?_
  rintro e w2 ⟨rfl, vs2, hh2, hk2, ho2⟩
  have HH2 : Hid (HostAt w2 hp tb cap (openHs ms) vs2) := hh2
  have HO2 : Hid (∀ k, ownOf hp tb vs2 k → w.heap.size ≤ k) := fun k q => by
    rcases ho2 k q with e | e
    · exact HO1.out k e
    · exact Nat.le_trans HB1.out.size e
  have HB2 : Hid (Below w.heap.size w w2) := HB1.out.trans (hk2.below HB1.out.size HO1.out)
  clear hh2 hk2 ho2 HFr HH1 HO1 HB1
  have HNe2 : Hid ((openHs ms).ts ≠ []) := by
    intro e
    have h1 := HI1.out.len
    rw [e, Hn.out] at h1
    have : (0 : Nat) = n := h1
    omega
  go_wp2_with fail
  go_loopw [6] (fun i wr => ∃ k : Nat, k ≤ n ∧ i = .int .i64 k ∧ Hid (HostAt wr hp tb cap (openHs ms) vs2) ∧ Hid (Below w.heap.size w wr))
    (fun i _ => n - (intOf i).toNat)
  case atStart => exact ⟨0, Nat.zero_le _, rfl, HH2.out, HB2.out⟩
  case round =>
    obtain ⟨k, hk, rfl, HH, HB⟩ := hrel
    have hsz := HB.out.size
    clear HH2 HB2
    by_cases hlt : k < n
    · obtain ⟨m, hm⟩ : ∃ m, ms[k]? = some m := ⟨ms[k]'(by have := Hn.out; omega), List.getElem?_eq_getElem (by have := Hn.out; omega)⟩
      obtain ⟨x, hx⟩ : ∃ x, (openHs ms).ts[k]? = some x := ⟨(openHs ms).ts[k]'(by have := Hn.out; have := HI1.out.len; omega), List.getElem?_eq_getElem (by have := Hn.out; have := HI1.out.len; omega)⟩
      have hti := HI1.out.ten k x hx
      have hmx : m = x.mf := by
        have q := hti.mf
        rw [hm] at q
        exact Option.some.inj q
      have hll : x.log.length ≤ 100000 := by
        have := hti.llen
        have := HI1.out.frames
        omega
      have hsl : (openHs ms).ts.length ≤ 100000 := by have := Hn.out; have := HI1.out.len; omega
      have hrow := (HR.out.below HB.out hb) k m hm
      have c2 : wr.cell? ⟨b, off + k * 7 + 2, none⟩ = some (.int .u8 x.routes) := by rw [hmx] at hrow; exact hrow 2 _ rfl
      have hrr := hti.good.routes
      simp only [Tn.mf] at hrr
      have hand : bits BinOp.and IntKind.u8 x.routes 1 = x.routes % 2 := and_one_u8 x.routes hrr.1 (by omega)
      have hsn := HSe.out x (List.mem_of_getElem? hx)
      have CP : Hid (Calls Try.prog 18 #[.pointer (some ⟨hp, 0, none⟩), .int .i64 k] wr fun e w' => e = .returned (.int .u8 x.phase) ∧ wr = w') := phase_any HH.out k hx hsl
      have CL : Hid (Calls Try.prog 19 #[.pointer (some ⟨hp, 0, none⟩), .int .i64 k] wr fun e w' => ∃ rv, e = .returned rv ∧ w'.ownsRow wr.heap.size 56 4 rv x.log.length (enCells x.log) ∧ Below wr.heap.size wr w') := hlog_any HH.out k hx hsl hll
      have hki : (k : Int) < (n : Int) := by omega
      have hk0 : (0 : Int) ≤ (k : Int) := by omega
      have hbw : b < wr.heap.size := by omega
      have HC2 : Hid (∀ u, Below wr.heap.size wr u → u.cell? ⟨b, off + k * 7 + 2, none⟩ = some (.int .u8 x.routes)) := fun u hu => (hu.cell hbw).trans c2
      obtain ⟨L, hL⟩ : ∃ L, L = x.log.length := ⟨_, rfl⟩
      rw [← hL] at CL
      by_cases hon : x.routes % 2 = 1
      · obtain ⟨s1, s2⟩ := hsn.1 hon
        have hp0 : (x.phase == 0) = false := by rw [beq_eq_false_iff_ne]; exact s1
        have hL0 : ((L : Int) == 0) = false := by
          rw [beq_eq_false_iff_ne, hL]
          intro e
          exact s2 (List.eq_nil_of_length_eq_zero (by omega))
        rw [hon] at hand
        clear hm hx hti hmx hrow hsn s1 s2 hL hll c2
        go_wp2_with fail
        refine CP.out.mono ?_
        rintro e w3 ⟨rfl, rfl⟩
        go_wp2_with fail
        refine CL.out.mono ?_
        rintro e w3 ⟨rv, rfl, ho3, hb3⟩
        obtain ⟨ro, rc, rfl⟩ := own_is ho3
        have d2 := HC2.out w3 hb3
        have HH3 : Hid (HostAt w3 hp tb cap (openHs ms) vs2) := HH.out.below hb3 (HH.out.tbl HNe2.out)
        have HB3 : Hid (Below w.heap.size w w3) := HB.out.trans (hb3.mono hsz)
        clear ho3 hb3 HC2 CP CL
        go_wp2
        go_roundw
        case rel => exact ⟨k + 1, by omega, by go_num, HH3, HB3⟩
        case measure => simp [intOf]; omega
      · obtain ⟨s1, s2⟩ := hsn.2 hon
        have hL0 : L = 0 := by rw [hL, s2]; rfl
        have hr0 : x.routes % 2 = 0 := by omega
        rw [hr0] at hand
        rw [s1] at CP
        subst hL0
        clear hm hx hti hmx hrow hsn s1 s2 hL hll c2
        go_wp2_with fail
        refine CP.out.mono ?_
        rintro e w3 ⟨rfl, rfl⟩
        go_wp2_with fail
        refine CL.out.mono ?_
        rintro e w3 ⟨rv, rfl, ho3, hb3⟩
        obtain ⟨ro, rc, rfl⟩ := own_is ho3
        have d2 := HC2.out w3 hb3
        have HH3 : Hid (HostAt w3 hp tb cap (openHs ms) vs2) := HH.out.below hb3 (HH.out.tbl HNe2.out)
        have HB3 : Hid (Below w.heap.size w w3) := HB.out.trans (hb3.mono hsz)
        clear ho3 hb3 HC2 CP CL
        go_wp2
        go_roundw
        case rel => exact ⟨k + 1, by omega, by go_num, HH3, HB3⟩
        case measure => simp [intOf]; omega
    · have hkn : k = n := by omega
      subst hkn
      have hki : ¬ (k : Int) < (k : Int) := by omega
      go_wp2
      go_ret
      first
        | exact ⟨hp, tb, cap, vs2, rfl, HH.out, HO2.out, HB.out⟩
        | exact ⟨hp, rfl, tb, cap, vs2, HH.out, HO2.out, HB.out⟩
end Go.Proofs.Ytidaflmmldefcaa
