/-
  The walk of shown.
-/
import Derived.Test.YtcaeeaiodbjacaaGrown
import Derived.Test.YtcaeeaiodbjacaaPlanW
namespace Go.Proofs.Ytcaeeaiodbjacaa
open Go.RowKit
set_option linter.unusedVariables false

theorem info27 : (Try.prog.info? 27).map (fun i => (i.zero, i.size, i.bytes)) = some (some (.agg #[.int .u16 0, .string ⟨#[]⟩]), 2, 24) := by kernel_rfl

def shCells (l : List T.Sh) : List Value := l.flatMap fun x => [.int .u16 x.1, .string x.2]

theorem shCells_snoc (l : List T.Sh) (x : T.Sh) : shCells (l ++ [x]) = shCells l ++ [.int .u16 x.1, .string x.2] := by simp [shCells]

theorem shCells_at : ∀ (l : List T.Sh) (i : Nat) (x : T.Sh), l[i]? = some x → (shCells l)[i * 2]? = some (.int .u16 x.1) ∧ (shCells l)[i * 2 + 1]? = some (.string x.2)
  | [], i, x, h => by simp at h
  | y :: r, 0, x, h => by
    simp at h; subst h
    exact ⟨rfl, rfl⟩
  | y :: r, i + 1, x, h => by
    have := shCells_at r i x (by simpa using h)
    have e : shCells (y :: r) = .int .u16 y.1 :: .string y.2 :: shCells r := rfl
    rw [e, show (i + 1) * 2 = i * 2 + 2 by omega]
    simpa using this

theorem own_sh {w : World} {base : Nat} {v : Value} {l : List T.Sh} (h : w.ownsRow base 27 2 v l.length (shCells l)) :
    ∃ ao cap, v = .slice ao l.length cap ∧ l.length ≤ cap ∧ l.length ≤ maxLen ∧ ShAt w ao l := by
  rcases h.2 with ⟨hv, h0⟩ | ⟨g, cap, cur, hv, hb, hh, h1, h2, h3⟩
  · have : l = [] := List.eq_nil_of_length_eq_zero h0
    subst this
    exact ⟨none, 0, hv, by simp, by simp, Or.inl rfl⟩
  · subst hv
    refine ⟨some ⟨g, 0, none⟩, cap, rfl, h1, by omega, Or.inr ⟨g, 0, rfl, lt_of_block hh, ?_⟩⟩
    intro i x hx
    obtain ⟨q0, q1⟩ := shCells_at l i x hx
    have hi : i < l.length := (List.getElem?_eq_some_iff.1 hx).1
    refine ⟨?_, ?_⟩
    · rw [Nat.zero_add, h.cellAt (i * 2) (by omega)]; exact q0
    · rw [Nat.zero_add, h.cellAt (i * 2 + 1) (by omega)]; exact q1

namespace T
def clashK (l : List Sh) (k : Int) : Bool := l.any fun y => decide (y.1 = k)
end T

/-- Shows that are on their way. -/
structure Shows (l : List T.Sh) : Prop where
  few : l.length ≤ 8
  right : ∀ x ∈ l, T.isText (T.bts x.2) = true ∧ 0 ≤ x.1 ∧ x.1 < 20
  far : l.Pairwise (fun x y => x.1 ≠ y.1)

theorem Shows.nil : Shows [] := ⟨by simp, by simp, List.Pairwise.nil⟩

theorem Shows.step {l : List T.Sh} (h : Shows l) (hl : l.length < 8) (q r : Int) (hq : 0 ≤ q ∧ q < 20) (hc : T.clashK l q = false) : Shows (l ++ [(q, T.lett r)]) := by
  refine ⟨by simp; omega, ?_, ?_⟩
  · intro x hx
    rcases List.mem_append.1 hx with hx | hx
    · exact h.right x hx
    · rw [List.mem_singleton] at hx
      subst hx
      exact ⟨T.lett_text r, hq⟩
  · rw [List.pairwise_append]
    refine ⟨h.far, by simp, ?_⟩
    intro x hx y hy
    rw [List.mem_singleton] at hy
    subst hy
    simp only [T.clashK, List.any_eq_false, decide_eq_true_eq] at hc
    exact hc x hx

theorem Shows.okSh {l : List T.Sh} (h : Shows l) : T.okSh l := ⟨h.few, fun x hx => (h.right x hx).1, h.far⟩

theorem Shows.ok {l : List T.Sh} (h : Shows l) : shOk l := fun x hx => by
  obtain ⟨h1, h2, h3⟩ := h.right x hx
  have := T.isText_len h1
  rw [T.bts_length] at this
  exact ⟨by omega, by unfold maxLen; omega⟩

/-- What shown hands back. -/
def shEnd (w : World) (e : Ending) (w' : World) : Prop := ∃ v l, e = .returned v ∧ Shows l ∧ w'.ownsRow w.heap.size 27 2 v l.length (shCells l) ∧ Below w.heap.size w w'

theorem Blk.set2 {w : World} {b : Nat} {x y : Value} {t : TypeId} (h : Blk w b #[x, y] t) (x' y' : Value) :
    Blk ((w.setCell ⟨b, 0, none⟩ x').setCell ⟨b, 1, none⟩ y') b #[x', y'] t := by
  have h1 := (h.set 0 x').set 1 y'
  simpa using h1

theorem held_one {wr w' : World} {a : Addr} {x : Value} (hb : a.block < wr.heap.size) (hc : wr.cell? a = some x) (h : Below wr.heap.size wr w') : Below wr.heap.size wr w' ∧ w'.cell? a = some x :=
  ⟨h, (h.cell hb).trans hc⟩

set_option maxRecDepth 100000 in
set_option maxHeartbeats 4000000 in
theorem shown_any (ao : Option Addr) (cap : Nat) (raw : List Int) (w : World) (hmax : raw.length ≤ 4611686018427387904) (hraw : rawOk raw) (hat : IntAt w ao raw) :
    Calls Try.prog 27 #[.slice ao raw.length cap] w fun e w' => shEnd w e w' := by
  obtain ⟨n, hn⟩ : ∃ n, n = raw.length := ⟨_, rfl⟩
  have Hn : Hid (raw.length = n) := hn.symm
  rw [← hn]
  rw [← hn] at hmax
  have HA : Hid (IntAt w ao raw) := hat
  have HW : Hid (rawOk raw) := hraw
  clear hn hat hraw
  obtain ⟨i0, hi, hz0, hz1, hz2⟩ := info_parts info27
  go_enter Try.func27, Try.ntmps27
  go_wp2
  go_loopw [3, 4] (fun v i wr => ∃ (k cv : Nat) (bo : Option Addr) (acc : List T.Sh), v = .slice bo acc.length cv ∧ k ≤ n ∧ i = .int .i64 k ∧ wr.ownsRow w.heap.size 27 2 (.slice bo acc.length cv) acc.length (shCells acc) ∧ Below w.heap.size w wr ∧ Hid (Shows acc))
    (fun _ i _ => n + 2 - (intOf i).toNat)
  case atStart => exact ⟨0, 0, none, [], rfl, by omega, rfl, World.ownsRow_nil _ _ _ _, Below.refl _ _, Shows.nil⟩
  case round =>
    obtain ⟨k, cv, bo, acc, rfl, hk, rfl, hown, hbel, HG⟩ := hrel
    have HO : Hid (wr.ownsRow w.heap.size 27 2 (.slice bo acc.length cv) acc.length (shCells acc)) := hown
    have HB : Hid (Below w.heap.size w wr) := hbel
    have hsz := hbel.size
    have hfew := HG.out.few
    obtain ⟨m, hm⟩ : ∃ m, m = acc.length := ⟨_, rfl⟩
    have Hm : Hid (acc.length = m) := hm.symm
    rw [← hm] at HO hfew ⊢
    clear hown hbel hm
    by_cases hlt : k < n
    · by_cases h10 : m < 8
      · obtain ⟨x, hx⟩ : ∃ x, raw[k]? = some x := ⟨raw[k]'(by have := Hn.out; omega), List.getElem?_eq_getElem (by have := Hn.out; omega)⟩
        obtain ⟨b, off, rfl, hbl, hr⟩ : ∃ b off, ao = some ⟨b, off, none⟩ ∧ b < w.heap.size ∧ IntRow w b off raw := HA.out.resolve_left (by rintro rfl; simp at hx)
        obtain ⟨hx0, hx1⟩ := HW.out x (List.mem_of_getElem? hx)
        have c0 := (hr.below HB.out hbl) k _ hx
        have hbw : b < wr.heap.size := by omega
        have hq := T.pk_range x 20 (by omega)
        have hdiv : -9223372036854775808 ≤ x.tdiv 20 ∧ x.tdiv 20 ≤ 9223372036854775807 := by
          have h1 := Int.tdiv_eq_ediv (a := x) (b := 20)
          have h2 : Int.sign 20 = 1 := rfl
          rw [h2] at h1
          split at h1 <;> omega
        obtain ⟨q, hqe⟩ : ∃ q, q = T.pk x 20 := ⟨_, rfl⟩
        have P2 : Hid (∀ u : World, Calls Try.prog 30 #[.int .i64 x, .int .i64 20] u fun e w' => e = .returned (.int .i64 q) ∧ u = w') := by
          intro u; rw [hqe]; exact pick_any x 20 u hx0 hx1 (by omega) (by omega)
        obtain ⟨hd0, hd1⟩ := hdiv
        rw [← hqe] at hq
        have hi0 : (k : Int) < (n : Int) := by omega
        have h01 : (0 : Int) ≤ (k : Int) := by omega
        have e16 : IntKind.u16.wrap q = q := by
          simp only [IntKind.wrap, IntKind.bits, IntKind.signed]
          simp
          omega
        have HC : Hid (wr.cell? ⟨b, off + k, none⟩ = some (.int .i64 x)) := c0
        clear hx hr hqe
        go_upto_region 5 with fail
        go_cut [5] from 8 to 53 (fun v wx => ∃ (g : Nat) (r : Int), v = .pointer (some ⟨g, 0, none⟩) ∧ Blk wx g #[.int .u16 q, .string (T.lett r)] 27 ∧ wr.heap.size ≤ g ∧ Below wr.heap.size wr wx)
        case first =>
          go_region_held3 (fun w' => Below wr.heap.size wr w' ∧ w'.cell? ⟨b, off + k, none⟩ = some (.int .i64 x)) ((refine held_one hbw HC.out ?_; (repeat (with_reducible first | exact hw1 | exact Below.refl _ _ | refine Below.drew ?_ | refine Below.alloc ?_ (by first | exact Nat.le_refl _ | omega | (simp; done) | (simp; omega)) _ | refine Below.setCell ?_ (by first | exact Nat.le_refl _ | omega | (simp; done) | (simp; omega)) _))))
            (first
              | (go_at_call 46; refine (letters_any _ _ ?_ ?_).mono ?_; (first | exact hd0 | (rw [IntKind.wrap_i64]; omega) | omega); (first | exact hd1 | (rw [IntKind.wrap_i64]; omega) | omega); rintro e w1 ⟨rfl, hb1⟩; have hw1 : Below wr.heap.size wr w1 := (show Below wr.heap.size wr _ ∧ _ by assumption).1.trans (hb1.mono (show Below wr.heap.size wr _ ∧ _ by assumption).1.size); have hs1 := hw1.size; (try (have hz1 : Blk w1 wr.heap.size #[.int .u16 0, .string ⟨#[]⟩] 27 := blk_new_drew hb1; have z0 := hz1.cell 0; have z1 := hz1.cell 1; have f0 := hz1.free 0; have f1 := hz1.free 1; simp at z0 z1)))
              | (go_at_call 30; refine (P2.out _).mono ?_; rintro e w1 ⟨rfl, rfl⟩))
          all_goals (try go_wp2_with fail)
          all_goals go_meet
          all_goals first
            | exact ⟨w1.heap.size, _, rfl, Blk.new w1 _ 27, hs1, hw1.alloc hs1 _⟩
            | exact ⟨wr.heap.size, _, rfl, hz1.set2 _ _, Nat.le_refl _, (hw1.setCell (Nat.le_refl _) _).setCell (Nat.le_refl _) _⟩
        case rest =>
          obtain ⟨g, r, rfl, hxg, hgl, hbc⟩ := hcut
          have hown : wc.ownsRow w.heap.size 27 2 (.slice bo m cv) m (shCells acc) := own_below' HO.out hbc (Nat.le_refl _)
          have hbcw : Below w.heap.size w wc := HB.out.trans (hbc.mono hsz)
          have HOc : Hid (wc.ownsRow w.heap.size 27 2 (.slice bo m cv) m (shCells acc)) := hown
          have HBc : Hid (Below w.heap.size w wc) := hbcw
          have HXc : Hid (Blk wc g #[.int .u16 q, .string (T.lett r)] 27) := hxg
          have hg0 := hxg.cell 0
          have hg1 := hxg.cell 1
          have hgf := hxg.lt
          simp at hg0 hg1
          have HNR : Hid (ShAt wc bo acc) := by
            have h1 := hown
            rw [← Hm.out] at h1
            obtain ⟨ao', cap', e1, _, _, h2⟩ := own_sh h1
            simp only [Value.slice.injEq] at e1
            obtain ⟨rfl, _, rfl⟩ := e1
            exact h2
          have hszc := hbcw.size
          clear hown hbcw hxg hbc HO HB c0 HC P2 e16 hd0 hd1 h01
          go_wp2_with fail
          go_loopw [6, 7] (fun o i w2 => ∃ (j qn : Nat) (ob : Bool), j ≤ m ∧ i = .int .i64 j ∧ w2 = wc.drewN qn ∧ o = .bool ob ∧ Hid (T.clashK (acc.take j) q = !ob))
            (fun _ i _ => m - (intOf i).toNat)
          case atStart => exact ⟨0, 0, true, Nat.zero_le _, rfl, rfl, rfl, rfl⟩
          case round =>
            obtain ⟨j, qn, ob, hj, rfl, rfl, rfl, HQ⟩ := hrel
            by_cases hjm : j < m
            · obtain ⟨z, hz⟩ : ∃ x, acc[j]? = some x := ⟨acc[j]'(by have := Hm.out; omega), List.getElem?_eq_getElem (by have := Hm.out; omega)⟩
              obtain ⟨b2, f2, rfl, hb2, hr2⟩ : ∃ b off, bo = some ⟨b, off, none⟩ ∧ b < wc.heap.size ∧ ShRow wc b off acc := HNR.out.resolve_left (by rintro rfl; simp at hz)
              obtain ⟨z1, z2⟩ := z
              obtain ⟨d0, d1⟩ := hr2 j _ hz
              simp only at d0 d1
              have HS : Hid (T.clashK (acc.take (j + 1)) q = (T.clashK (acc.take j) q || decide (z1 = q))) := by
                unfold Hid T.clashK
                rw [List.take_add_one, hz]
                simp
              have hji : (j : Int) < (m : Int) := by omega
              have hj0 : (0 : Int) ≤ (j : Int) := by omega
              clear hz hr2
              cases ob with
              | false =>
                have hcl : T.clashK (acc.take j) q = true := HQ.out
                have HT : Hid (T.clashK (acc.take (j + 1)) q = true) := by unfold Hid; rw [HS.out, hcl]; rfl
                clear hcl
                go_wp2_with fail
                go_quiet (fail)
                go_wp2
                go_roundw
                case rel => exact ⟨j + 1, _, _, by omega, by go_num, by first | rfl | simp, rfl, HT.out⟩
                case measure => simp [intOf]; omega
              | true =>
                have hcl : T.clashK (acc.take j) q = false := HQ.out
                by_cases h1 : z1 = q
                · have HT : Hid (T.clashK (acc.take (j + 1)) q = true) := by unfold Hid; rw [HS.out, hcl]; simp [h1]
                  subst h1
                  have hb3 : ((z1 : Int) != z1) = false := by simp
                  have hb4 : ((z1 : Int) == z1) = true := by simp
                  go_wp2_with fail
                  go_quiet (fail)
                  go_wp2
                  go_roundw
                  case rel => exact ⟨j + 1, _, _, by omega, by go_num, by first | rfl | simp, rfl, HT.out⟩
                  case measure => simp [intOf]; omega
                · have hb1 : (z1 == q) = false := by rw [beq_eq_false_iff_ne]; exact h1
                  have hb1n : (z1 != q) = true := by simp [h1]
                  have HT : Hid (T.clashK (acc.take (j + 1)) q = false) := by unfold Hid; rw [HS.out, hcl]; simp [h1]
                  clear h1
                  go_wp2_with fail
                  go_quiet (fail)
                  go_wp2
                  go_roundw
                  case rel => exact ⟨j + 1, _, _, by omega, by go_num, by first | rfl | simp, rfl, HT.out⟩
                  case measure => simp [intOf]; omega
            · have hjm2 : j = m := by omega
              subst hjm2
              have HF : Hid (acc.take j = acc) := List.take_of_length_le (by have := Hm.out; omega)
              rw [HF.out] at HQ
              have hbd : Below w.heap.size w (wc.drewN qn) := below_drewN HBc.out qn
              have HOd0 : Hid ((wc.drewN qn).ownsRow w.heap.size 27 2 (.slice bo j cv) j (shCells acc)) := own_below' HOc.out (below_drewN (Below.refl _ _) qn) (Nat.le_refl _)
              have hxd : Blk (wc.drewN qn) g #[.int .u16 q, .string (T.lett r)] 27 := HXc.out.below (below_drewN (Below.refl (g + 1) wc) qn) (by omega)
              generalize wc.drewN qn = wd at hbd HOd0 hxd ⊢
              have HBd : Hid (Below w.heap.size w wd) := hbd
              have hsd := hbd.size
              have d0 := hxd.cell 0
              have d1 := hxd.cell 1
              have hgd := hxd.lt
              simp at d0 d1
              clear hg0 hg1 hgf HXc HOc HBc HNR hbd hxd hszc hgl
              cases ob with
              | false =>
                go_wp2
                go_roundw
                case rel =>
                  exact ⟨k + 1, cv, bo, acc, by rw [Hm.out], by omega, by go_num, by rw [Hm.out]; exact HOd0.out, HBd.out, HG⟩
                case measure => simp [intOf]; omega
              | true =>
                have hcl : T.clashK acc q = false := HQ.out
                have HG' : Hid (Shows (acc ++ [(q, T.lett r)])) := HG.out.step (by have := Hm.out; omega) q r hq hcl
                clear hcl
                go_wp2_with (at_builtin; refine wpList_append_own _ rfl (.tmp 50) (.tmp 52) 23 rfl w.heap.size 27 i0 (.agg #[.int .u16 0, .string ⟨#[]⟩]) 2 24 Try.underlying23 hi hz0 hz1 hz2 rfl (by decide) _ _ _ rfl (HOd0.out.alloc _) ⟨wd.heap.size, 0, none⟩ 1 1 [.int .u16 q, .string (T.lett r)] rfl rfl (new_two _ _ _ _) (by intro u hu; simp at hu; rcases hu with rfl | rfl <;> rfl) (by unfold maxLen; omega) (by omega) (by simp; omega) ?_)
                intro v3 w3 hown3 hg3 _
                have hb3 : Below w.heap.size w w3 := below_app (HBd.out.alloc hsd _) hg3 (HOd0.out.alloc _) (Nat.le_refl _) (by simp; omega)
                obtain ⟨g3, cap3, hv3⟩ : ∃ g3 cap3, v3 = .slice (some ⟨g3, 0, none⟩) (j + 1) cap3 := by
                  rcases hown3.2 with ⟨_, h⟩ | ⟨g3, cap3, _, h, _⟩
                  · omega
                  · exact ⟨g3, cap3, h⟩
                have HV : Hid (v3 = .slice (some ⟨g3, 0, none⟩) (j + 1) cap3) := hv3
                have HB3 : Hid (Below w.heap.size w w3) := hb3
                have HO3 : Hid (w3.ownsRow w.heap.size 27 2 v3 (j + 1) (shCells acc ++ [.int .u16 q, .string (T.lett r)])) := hown3
                clear hown3 hg3 hb3 HOd0 HBd hv3
                go_wp2
                go_roundw
                case rel =>
                  have hl : (acc ++ [(q, T.lett r)]).length = j + 1 := by simp [Hm.out]
                  refine ⟨k + 1, cap3, some ⟨g3, 0, none⟩, acc ++ [(q, T.lett r)], by rw [hl]; exact HV.out, by omega, by go_num, ?_, HB3.out, HG'⟩
                  rw [hl, shCells_snoc, ← HV.out]
                  exact HO3.out
                case measure => simp [intOf]; omega
      · have hb10 : ¬ (m : Int) < 8 := by omega
        have hlt' : (k : Int) < (n : Int) := by omega
        go_wp2
        go_ret
        exact ⟨_, acc, rfl, HG.out, by rw [Hm.out]; exact HO.out, HB.out⟩
    · have hlt' : ¬ (k : Int) < (n : Int) := by omega
      go_wp2
      go_ret
      exact ⟨_, acc, rfl, HG.out, by rw [Hm.out]; exact HO.out, HB.out⟩

end Go.Proofs.Ytcaeeaiodbjacaa
