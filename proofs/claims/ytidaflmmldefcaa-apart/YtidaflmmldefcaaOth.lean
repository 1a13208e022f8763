/-
  The walk of other.
-/
import Derived.Test.YtidaflmmldefcaaApM
namespace Go.Proofs.Ytidaflmmldefcaa
open Go.RowKit
set_option linter.unusedVariables false

/-- A list of draws: where it lies. -/
structure Dr where
  eo : Option Addr
  ec : Nat
  ds : List Int
def Dr.val (d : Dr) : Value := .slice d.eo d.ds.length d.ec
structure Dr.ok (w : World) (d : Dr) : Prop where
  len : d.ds.length ≤ maxLen
  rng : InR d.ds
  row : ∃ bd o2, (0 < d.ds.length → d.eo = some ⟨bd, o2, none⟩ ∧ bd < w.heap.size) ∧ U16Row w bd o2 d.ds
theorem Dr.ok.nil (w : World) : Dr.ok w ⟨none, 0, []⟩ := ⟨Nat.zero_le _, fun v hv => by simp at hv, 0, 0, fun h => absurd h (Nat.lt_irrefl 0), fun i x hx => by simp at hx⟩
/-- It stays as long as what came in does. -/
theorem Dr.ok.at {w z : World} {d : Dr} (h : d.ok w) (hz : Below w.heap.size w z) : DrawsAt z d.eo d.ds.length d.ds z.heap.size := by
  obtain ⟨h1, h2, bd, o2, h3, h4⟩ := h
  refine ⟨rfl, h1, ?_, h2⟩
  by_cases h0 : 0 < d.ds.length
  · obtain ⟨e1, e2⟩ := h3 h0
    exact ⟨bd, o2, fun _ => ⟨e1, Nat.lt_of_lt_of_le e2 hz.size⟩, h4.below hz e2⟩
  · have : d.ds = [] := List.eq_nil_of_length_eq_zero (by omega)
    rw [this]
    exact ⟨0, 0, fun q => absurd q (Nat.lt_irrefl 0), fun i x hx => by simp at hx⟩

def drVals (l : List Dr) : List Value := l.map Dr.val
/-- What other hands back. -/
def otherEnd (dl : List (List Int)) (t : Nat) (own : List Int) (w0 w : World) (e : Ending) (w' : World) : Prop :=
  ∃ (ao : Option Addr) (c : Nat) (acc : List Dr), e = .returned (.slice ao 4 c) ∧ acc.length = 4 ∧ (∀ d ∈ acc, d.ok w0) ∧ (∀ i d, acc[i]? = some d → d.ds = if i = t then own else drawsOf dl i) ∧ w'.ownsRow w.heap.size 63 1 (.slice ao 4 c) 4 (drVals acc) ∧ Below w.heap.size w w'

theorem info63 : (Try.prog.info? 63).map (fun i => (i.zero, i.size, i.bytes)) = some (some (.slice none 0 0), 1, 24) := by kernel_rfl

set_option maxHeartbeats 8000000 in
theorem other_any (dao : Option Addr) (dcap : Nat) (dl : List (List Int)) (t : Nat) (ow : Dr) (w0 w : World) (h0w : Below w0.heap.size w0 w) (hdl : dl.length ≤ maxLen) (hd : DrIn w0 dao dl) (ho : ow.ok w0) (ht : t < 4) :
    Calls Try.prog 22 #[.slice dao dl.length dcap, .int .i64 t, .slice ow.eo ow.ds.length ow.ec] w fun e w' => otherEnd dl t ow.ds w0 w e w' := by
  obtain ⟨i0, hi, hz0, hz1, hz2⟩ := info_parts info63
  have HD : Hid (DrIn w0 dao dl) := hd
  have HO : Hid (ow.ok w0) := ho
  have H0w : Hid (Below w0.heap.size w0 w) := h0w
  obtain ⟨n, hn⟩ : ∃ n, n = dl.length := ⟨_, rfl⟩
  have Hn : Hid (dl.length = n) := hn.symm
  have hmx : n ≤ 9223372036854775807 := by rw [hn]; unfold maxLen at hdl; omega
  rw [← hn]
  clear hn hd ho hdl h0w
  go_enter Try.func22, Try.ntmps22
  go_wp2_with fail
  go_loopw [7, 8] (fun v i wr => ∃ (k cv : Nat) (bo : Option Addr) (acc : List Dr), v = .slice bo k cv ∧ k ≤ 4 ∧ i = .int .i64 k ∧ Hid (acc.length = k) ∧ Hid (∀ d ∈ acc, d.ok w0) ∧ Hid (∀ i d, acc[i]? = some d → d.ds = if i = t then ow.ds else drawsOf dl i) ∧ Hid (wr.ownsRow w.heap.size 63 1 (.slice bo k cv) k (drVals acc)) ∧ Hid (Below w.heap.size w wr))
    (fun _ i _ => 4 - (intOf i).toNat)
  case atStart => exact ⟨0, 0, none, [], rfl, by omega, rfl, rfl, fun d hd => by simp at hd, fun i d hd => by simp at hd, World.ownsRow_nil _ _ _ _, Below.refl _ _⟩
  case round =>
    obtain ⟨k, cv, bo, acc, rfl, hk, rfl, HL, HOk, HE, HR, HB⟩ := hrel
    have hsz := HB.out.size
    by_cases hlt : k < 4
    · -- one more
      have step : ∀ d : Dr, d.ok w0 → (d.ds = if k = t then ow.ds else drawsOf dl k) → Hid (∀ go1 gc1 w2, World.ownsRow w2 w.heap.size 63 1 (.slice go1 (k + 1) gc1) (k + 1) (drVals acc ++ [d.val]) → (wr.alloc (.cells #[d.val] 63)).grownBy w2 (Value.ownBlock (.slice bo k cv)) → ∃ acc' : List Dr, acc'.length = k + 1 ∧ (∀ d ∈ acc', d.ok w0) ∧ (∀ i d, acc'[i]? = some d → d.ds = if i = t then ow.ds else drawsOf dl i) ∧ w2.ownsRow w.heap.size 63 1 (.slice go1 (k + 1) gc1) (k + 1) (drVals acc') ∧ Below w.heap.size w w2) := by
        intro d hdo hde go1 gc1 w2 ho2 hg2
        refine ⟨acc ++ [d], by rw [List.length_append, HL.out]; rfl, ?_, ?_, ?_, ?_⟩
        · intro x hx
          rcases List.mem_append.1 hx with hx | hx
          · exact HOk.out x hx
          · rw [List.mem_singleton] at hx
            subst hx
            exact hdo
        · intro i x hx
          by_cases hi2 : i < acc.length
          · rw [List.getElem?_append_left hi2] at hx
            exact HE.out i x hx
          · rw [List.getElem?_append_right (by omega)] at hx
            have hik : i = k := by
              have := (List.getElem?_eq_some_iff.1 hx).1
              have h2 := HL.out
              simp at this
              omega
            subst hik
            have h2 := HL.out
            rw [h2, Nat.sub_self] at hx
            simp at hx
            subst hx
            exact hde
        · unfold drVals
          rw [List.map_append]
          exact ho2
        · exact (HB.out.alloc hsz _).grown hg2 (by simp; omega) (fun z hz => (HR.out.lt z hz).1)
      have hki : (k : Int) < 4 := by omega
      have hk0 : (0 : Int) ≤ (k : Int) := by omega
      by_cases hkt : k = t
      · have ST := step ow HO.out (by rw [if_pos hkt])
        have HNw : Hid (∀ jj u, [Value.slice ow.eo ow.ds.length ow.ec][jj]? = some u → (wr.alloc (.cells #[.slice ow.eo ow.ds.length ow.ec] 63)).cell? ((⟨wr.heap.size, 0, none⟩ : Addr).add jj) = some u) := new_cells1 wr #[.slice ow.eo ow.ds.length ow.ec] 63
        unfold Dr.val at ST
        obtain ⟨eo, ec, ds⟩ := ow
        simp only at ST HNw
        generalize ds.length = dn at ST HNw
        have hkb : ((k : Int) == (t : Int)) = true := by simp [hkt]
        clear step hkt
        by_cases hkn : k < n
        · obtain ⟨dk, hdk⟩ : ∃ x, dl[k]? = some x := ⟨dl[k]'(by have := Hn.out; omega), List.getElem?_eq_getElem (by have := Hn.out; omega)⟩
          obtain ⟨g, off, eo2, ec2, rfl, hg, hc, _⟩ := HD.out k dk hdk
          have cc := ((H0w.out.trans (HB.out.mono H0w.out.size)).cell (p := ⟨g, off + k, none⟩) hg).trans hc
          have hkni : (k : Int) < (n : Int) := by omega
          clear hdk hc
          go_wp2_with (at_builtin; refine wpList_append_own_at _ rfl (.tmp 26) (.tmp 28) 29 rfl w.heap.size 63 i0 (.slice none 0 0) 1 24 Try.underlying29 hi hz0 hz1 hz2 rfl (by decide) _ k _ rfl (HR.out.alloc _) ⟨wr.heap.size, 0, none⟩ 1 1 [.slice eo dn ec] rfl rfl HNw.out (by intro u hu; simp at hu; rcases hu with rfl; rfl) (by unfold maxLen; omega) (by omega) (by simp; omega) ?_)
          intro g1 w2 ho1 hg1 _ _
          obtain ⟨go1, gc1, rfl⟩ := own_is ho1
          obtain ⟨acc', a1, a2, a3, a4, a5⟩ := ST.out go1 gc1 w2 ho1 hg1
          have A1 : Hid (acc'.length = k + 1) := a1
          have A2 : Hid (∀ d ∈ acc', d.ok w0) := a2
          have A3 := show Hid _ from a3
          have A4 := show Hid _ from a4
          have A5 : Hid (Below w.heap.size w w2) := a5
          clear ho1 hg1 a1 a2 a3 a4 a5 ST HR HNw
          go_wp2
          go_roundw
          case rel => exact ⟨k + 1, gc1, go1, acc', rfl, by omega, by go_num, A1, A2, A3, A4, A5⟩
          case measure => simp [intOf]; omega
        · have hkni : ¬ (k : Int) < (n : Int) := by omega
          go_wp2_with (at_builtin; refine wpList_append_own_at _ rfl (.tmp 26) (.tmp 28) 29 rfl w.heap.size 63 i0 (.slice none 0 0) 1 24 Try.underlying29 hi hz0 hz1 hz2 rfl (by decide) _ k _ rfl (HR.out.alloc _) ⟨wr.heap.size, 0, none⟩ 1 1 [.slice eo dn ec] rfl rfl HNw.out (by intro u hu; simp at hu; rcases hu with rfl; rfl) (by unfold maxLen; omega) (by omega) (by simp; omega) ?_)
          intro g1 w2 ho1 hg1 _ _
          obtain ⟨go1, gc1, rfl⟩ := own_is ho1
          obtain ⟨acc', a1, a2, a3, a4, a5⟩ := ST.out go1 gc1 w2 ho1 hg1
          have A1 : Hid (acc'.length = k + 1) := a1
          have A2 : Hid (∀ d ∈ acc', d.ok w0) := a2
          have A3 := show Hid _ from a3
          have A4 := show Hid _ from a4
          have A5 : Hid (Below w.heap.size w w2) := a5
          clear ho1 hg1 a1 a2 a3 a4 a5 ST HR HNw
          go_wp2
          go_roundw
          case rel => exact ⟨k + 1, gc1, go1, acc', rfl, by omega, by go_num, A1, A2, A3, A4, A5⟩
          case measure => simp [intOf]; omega
      · have hkb : ((k : Int) == (t : Int)) = false := by rw [beq_eq_false_iff_ne]; omega
        by_cases hkn : k < n
        · obtain ⟨dk, hdk⟩ : ∃ x, dl[k]? = some x := ⟨dl[k]'(by have := Hn.out; omega), List.getElem?_eq_getElem (by have := Hn.out; omega)⟩
          obtain ⟨g, off, eo, ec, rfl, hg, hc, q1, q2, q3⟩ := HD.out k dk hdk
          have cc := ((H0w.out.trans (HB.out.mono H0w.out.size)).cell (p := ⟨g, off + k, none⟩) hg).trans hc
          have ST := step ⟨eo, ec, dk⟩ ⟨q1, q2, q3⟩ (by rw [if_neg hkt]; unfold drawsOf; rw [List.getD_eq_getElem?_getD, hdk]; rfl)
          unfold Dr.val at ST
          simp only at ST
          generalize dk.length = dn at ST cc
          have HNw : Hid (∀ jj u, [Value.slice eo dn ec][jj]? = some u → (wr.alloc (.cells #[.slice eo dn ec] 63)).cell? ((⟨wr.heap.size, 0, none⟩ : Addr).add jj) = some u) := new_cells1 wr #[.slice eo dn ec] 63
          have hkni : (k : Int) < (n : Int) := by omega
          clear hdk hc q1 q2 q3 step hkt
          go_wp2_with (at_builtin; refine wpList_append_own_at _ rfl (.tmp 26) (.tmp 28) 29 rfl w.heap.size 63 i0 (.slice none 0 0) 1 24 Try.underlying29 hi hz0 hz1 hz2 rfl (by decide) _ k _ rfl (HR.out.alloc _) ⟨wr.heap.size, 0, none⟩ 1 1 [.slice eo dn ec] rfl rfl HNw.out (by intro u hu; simp at hu; rcases hu with rfl; rfl) (by unfold maxLen; omega) (by omega) (by simp; omega) ?_)
          intro g1 w2 ho1 hg1 _ _
          obtain ⟨go1, gc1, rfl⟩ := own_is ho1
          obtain ⟨acc', a1, a2, a3, a4, a5⟩ := ST.out go1 gc1 w2 ho1 hg1
          have A1 : Hid (acc'.length = k + 1) := a1
          have A2 : Hid (∀ d ∈ acc', d.ok w0) := a2
          have A3 := show Hid _ from a3
          have A4 := show Hid _ from a4
          have A5 : Hid (Below w.heap.size w w2) := a5
          clear ho1 hg1 a1 a2 a3 a4 a5 ST HR HNw
          go_wp2
          go_roundw
          case rel => exact ⟨k + 1, gc1, go1, acc', rfl, by omega, by go_num, A1, A2, A3, A4, A5⟩
          case measure => simp [intOf]; omega
        · have hkni : ¬ (k : Int) < (n : Int) := by omega
          have ST := step ⟨none, 0, []⟩ (Dr.ok.nil w0) (by rw [if_neg hkt]; unfold drawsOf; rw [List.getD_eq_getElem?_getD, List.getElem?_eq_none (by have := Hn.out; omega)]; rfl)
          unfold Dr.val at ST
          simp only [List.length_nil] at ST
          have HNw : Hid (∀ jj u, [Value.slice none 0 0][jj]? = some u → (wr.alloc (.cells #[.slice none 0 0] 63)).cell? ((⟨wr.heap.size, 0, none⟩ : Addr).add jj) = some u) := new_cells1 wr #[.slice none 0 0] 63
          clear step hkt
          go_wp2_with (at_builtin; refine wpList_append_own_at _ rfl (.tmp 26) (.tmp 28) 29 rfl w.heap.size 63 i0 (.slice none 0 0) 1 24 Try.underlying29 hi hz0 hz1 hz2 rfl (by decide) _ k _ rfl (HR.out.alloc _) ⟨wr.heap.size, 0, none⟩ 1 1 [.slice none 0 0] rfl rfl HNw.out (by intro u hu; simp at hu; rcases hu with rfl; rfl) (by unfold maxLen; omega) (by omega) (by simp; omega) ?_)
          intro g1 w2 ho1 hg1 _ _
          obtain ⟨go1, gc1, rfl⟩ := own_is ho1
          obtain ⟨acc', a1, a2, a3, a4, a5⟩ := ST.out go1 gc1 w2 ho1 hg1
          have A1 : Hid (acc'.length = k + 1) := a1
          have A2 : Hid (∀ d ∈ acc', d.ok w0) := a2
          have A3 := show Hid _ from a3
          have A4 := show Hid _ from a4
          have A5 : Hid (Below w.heap.size w w2) := a5
          clear ho1 hg1 a1 a2 a3 a4 a5 ST HR HNw
          go_wp2
          go_roundw
          case rel => exact ⟨k + 1, gc1, go1, acc', rfl, by omega, by go_num, A1, A2, A3, A4, A5⟩
          case measure => simp [intOf]; omega
    · have hk4 : k = 4 := by omega
      subst hk4
      go_wp2
      go_ret
      exact ⟨bo, cv, acc, rfl, HL.out, HOk.out, HE.out, HR.out, HB.out⟩
end Go.Proofs.Ytidaflmmldefcaa
