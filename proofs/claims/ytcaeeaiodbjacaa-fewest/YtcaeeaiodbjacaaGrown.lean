/-
  The walk of grown.
-/
import Derived.Test.YtcaeeaiodbjacaaTextF
import Derived.Test.YtcaeeaiodbjacaaNodeC
import Derived.Deep.RegionHeld3
import Derived.Deep.DeepCutAuto
namespace Go.Proofs.Ytcaeeaiodbjacaa
open Go.RowKit
set_option linter.unusedVariables false

/-- Ints lie in memory from ⟨b, off⟩ on. -/
def IntRow (w : World) (b off : Nat) (l : List Int) : Prop := ∀ i x, l[i]? = some x → w.cell? ⟨b, off + i, none⟩ = some (.int .i64 x)

theorem IntRow.below {B : Nat} {w w' : World} {b off : Nat} {l : List Int} (h : IntRow w b off l) (hb : Below B w w') (hl : b < B) : IntRow w' b off l :=
  fun i x hx => (hb.cell hl).trans (h i x hx)

def IntAt (w : World) (ao : Option Addr) (l : List Int) : Prop := l = [] ∨ ∃ b off, ao = some ⟨b, off, none⟩ ∧ b < w.heap.size ∧ IntRow w b off l

theorem IntAt.below {B : Nat} {w w' : World} {ao : Option Addr} {l : List Int} (h : IntAt w ao l) (hb : Below B w w') (hB : w.heap.size ≤ B) (hs : w.heap.size ≤ w'.heap.size) : IntAt w' ao l := by
  rcases h with h | ⟨b, off, e, hl, h⟩
  · exact Or.inl h
  · exact Or.inr ⟨b, off, e, by omega, h.below hb (by omega)⟩

def rawOk (l : List Int) : Prop := ∀ x ∈ l, -9223372036854775808 ≤ x ∧ x ≤ 9223372036854775807

/-- A tree of few nodes that is on its way. -/
structure Grows (g : List T.Nd) : Prop where
  few : g.length ≤ 10
  right : ∀ x ∈ g, T.okNd x = true ∧ T.inGo x
  far : g.Pairwise T.apart

theorem Grows.nil : Grows [] := ⟨by simp, by simp, List.Pairwise.nil⟩

theorem Grows.step {g : List T.Nd} (h : Grows g) (hl : g.length < 10) (p q r : Int) (hp : 0 ≤ p ∧ p < 16) (hq : 0 ≤ q ∧ q < 20) (hc : T.clash g (1 + p, q, T.lett r) = false) : Grows (g ++ [(1 + p, q, T.lett r)]) := by
  refine ⟨by simp; omega, ?_, ?_⟩
  · intro x hx
    rcases List.mem_append.1 hx with hx | hx
    · exact h.right x hx
    · rw [List.mem_singleton] at hx
      subst hx
      refine ⟨?_, ?_⟩
      · simp only [T.okNd, Bool.and_eq_true, decide_eq_true_eq]
        exact ⟨by omega, T.lett_text r⟩
      · show 0 ≤ 1 + p ∧ 1 + p ≤ 255 ∧ 0 ≤ q ∧ q ≤ 65535
        omega
  · rw [List.pairwise_append]
    refine ⟨h.far, by simp, ?_⟩
    intro x hx y hy
    rw [List.mem_singleton] at hy
    subst hy
    exact (T.clash_iff g _).1 hc x hx

theorem Grows.tree {g : List T.Nd} (h : Grows g) : T.isTree g = true := (T.isTree_iff g).2 ⟨by have := h.few; omega, fun x hx => (h.right x hx).1, h.far⟩

theorem Grows.ok {g : List T.Nd} (h : Grows g) : ndOk g := fun x hx => ⟨(h.right x hx).2, by have := T.okNd_size (h.right x hx).1; unfold maxLen; omega⟩

/-- What grown hands back. -/
def growEnd (w : World) (e : Ending) (w' : World) : Prop := ∃ v g, e = .returned v ∧ Grows g ∧ w'.ownsRow w.heap.size 60 3 v g.length (ndCells g) ∧ Below w.heap.size w w'

theorem blk_new_drew {w w1 : World} {cs : Array Value} {t : TypeId} (h : Below (w.drew.alloc (.cells cs t)).heap.size (w.drew.alloc (.cells cs t)) w1) : Blk w1 w.heap.size cs t :=
  (show Blk (w.drew.alloc (.cells cs t)) w.heap.size cs t from Blk.new w.drew cs t).below h (by simp)

theorem Blk.set3 {w : World} {b : Nat} {x y z : Value} {t : TypeId} (h : Blk w b #[x, y, z] t) (x' y' z' : Value) :
    Blk (((w.setCell ⟨b, 0, none⟩ x').setCell ⟨b, 1, none⟩ y').setCell ⟨b, 2, none⟩ z') b #[x', y', z'] t := by
  have h1 := ((h.set 0 x').set 1 y').set 2 z'
  simpa using h1

theorem held_two {wr w' : World} {a a' : Addr} {x y : Value} (hb : a.block < wr.heap.size) (hc : wr.cell? a = some x ∧ wr.cell? a' = some y) (h : Below wr.heap.size wr w') (hb' : a'.block < wr.heap.size) : Below wr.heap.size wr w' ∧ w'.cell? a = some x ∧ w'.cell? a' = some y :=
  ⟨h, (h.cell hb).trans hc.1, (h.cell hb').trans hc.2⟩

set_option maxRecDepth 100000 in
set_option maxHeartbeats 4000000 in
theorem grown_any (ao : Option Addr) (cap : Nat) (raw : List Int) (w : World) (hmax : raw.length ≤ 4611686018427387904) (hraw : rawOk raw) (hat : IntAt w ao raw) :
    Calls Try.prog 29 #[.slice ao raw.length cap] w fun e w' => growEnd w e w' := by
  obtain ⟨n, hn⟩ : ∃ n, n = raw.length := ⟨_, rfl⟩
  have Hn : Hid (raw.length = n) := hn.symm
  rw [← hn]
  rw [← hn] at hmax
  have HA : Hid (IntAt w ao raw) := hat
  have HW : Hid (rawOk raw) := hraw
  clear hn hat hraw
  obtain ⟨i0, hi, hz0, hz1, hz2⟩ := info_parts info60
  go_enter Try.func29, Try.ntmps29
  go_wp2
  go_loopw [3, 4] (fun v i wr => ∃ (k cv : Nat) (bo : Option Addr) (acc : List T.Nd), v = .slice bo acc.length cv ∧ k ≤ n ∧ i = .int .i64 k ∧ wr.ownsRow w.heap.size 60 3 (.slice bo acc.length cv) acc.length (ndCells acc) ∧ Below w.heap.size w wr ∧ Hid (Grows acc))
    (fun _ i _ => n + 2 - (intOf i).toNat)
  case atStart => exact ⟨0, 0, none, [], rfl, by omega, rfl, World.ownsRow_nil _ _ _ _, Below.refl _ _, Grows.nil⟩
  case round =>
    obtain ⟨k, cv, bo, acc, rfl, hk, rfl, hown, hbel, HG⟩ := hrel
    have HO : Hid (wr.ownsRow w.heap.size 60 3 (.slice bo acc.length cv) acc.length (ndCells acc)) := hown
    have HB : Hid (Below w.heap.size w wr) := hbel
    have hsz := hbel.size
    have hfew := HG.out.few
    obtain ⟨m, hm⟩ : ∃ m, m = acc.length := ⟨_, rfl⟩
    have Hm : Hid (acc.length = m) := hm.symm
    rw [← hm] at HO hfew ⊢
    clear hown hbel hm
    by_cases hlt : k + 1 < n
    · by_cases h10 : m < 10
      · obtain ⟨x, hx⟩ : ∃ x, raw[k]? = some x := ⟨raw[k]'(by have := Hn.out; omega), List.getElem?_eq_getElem (by have := Hn.out; omega)⟩
        obtain ⟨y, hy⟩ : ∃ x, raw[k + 1]? = some x := ⟨raw[k + 1]'(by have := Hn.out; omega), List.getElem?_eq_getElem (by have := Hn.out; omega)⟩
        obtain ⟨b, off, rfl, hbl, hr⟩ : ∃ b off, ao = some ⟨b, off, none⟩ ∧ b < w.heap.size ∧ IntRow w b off raw := HA.out.resolve_left (by rintro rfl; simp at hx)
        obtain ⟨hx0, hx1⟩ := HW.out x (List.mem_of_getElem? hx)
        obtain ⟨hy0, hy1⟩ := HW.out y (List.mem_of_getElem? hy)
        have c0 := (hr.below HB.out hbl) k _ hx
        have c1 := (hr.below HB.out hbl) (k + 1) _ hy
        have hbw : b < wr.heap.size := by omega
        have hp := T.pk_range x 16 (by omega)
        have hq := T.pk_range y 20 (by omega)
        have hdiv : -9223372036854775808 ≤ y.tdiv 20 ∧ y.tdiv 20 ≤ 9223372036854775807 := by
          have h1 := Int.tdiv_eq_ediv (a := y) (b := 20)
          have h2 : Int.sign 20 = 1 := rfl
          rw [h2] at h1
          split at h1 <;> omega
        obtain ⟨p, hpe⟩ : ∃ p, p = T.pk x 16 := ⟨_, rfl⟩
        obtain ⟨q, hqe⟩ : ∃ q, q = T.pk y 20 := ⟨_, rfl⟩
        have P1 : Hid (∀ u : World, Calls Try.prog 30 #[.int .i64 x, .int .i64 16] u fun e w' => e = .returned (.int .i64 p) ∧ u = w') := by
          intro u; rw [hpe]; exact pick_any x 16 u hx0 hx1 (by omega) (by omega)
        have P2 : Hid (∀ u : World, Calls Try.prog 30 #[.int .i64 y, .int .i64 20] u fun e w' => e = .returned (.int .i64 q) ∧ u = w') := by
          intro u; rw [hqe]; exact pick_any y 20 u hy0 hy1 (by omega) (by omega)
        obtain ⟨hd0, hd1⟩ := hdiv
        rw [← hpe] at hp
        rw [← hqe] at hq
        have hi0 : (k : Int) < (n : Int) := by omega
        have hi1 : (k : Int) + 1 < (n : Int) := by omega
        have hwk1 : IntKind.i64.wrap ((k : Int) + 1) = (k : Int) + 1 := by rw [IntKind.wrap_i64]; omega
        have h01 : (0 : Int) ≤ (k : Int) + 1 := by omega
        have e8 : IntKind.u8.wrap (IntKind.i64.wrap (1 + p)) = 1 + p := by
          rw [IntKind.wrap_i64]
          simp only [IntKind.wrap, IntKind.bits, IntKind.signed]
          simp
          omega
        have e16 : IntKind.u16.wrap q = q := by
          simp only [IntKind.wrap, IntKind.bits, IntKind.signed]
          simp
          omega
        have HC : Hid (wr.cell? ⟨b, off + k, none⟩ = some (.int .i64 x) ∧ wr.cell? ⟨b, off + (k + 1), none⟩ = some (.int .i64 y)) := ⟨c0, c1⟩
        clear hx hy hr hpe hqe
        go_upto_region 5 with fail
        go_cut [5] from 8 to 73 (fun v wx => ∃ (g : Nat) (r : Int), v = .pointer (some ⟨g, 0, none⟩) ∧ Blk wx g #[.int .u8 (1 + p), .int .u16 q, .string (T.lett r)] 60 ∧ wr.heap.size ≤ g ∧ Below wr.heap.size wr wx)
        case first =>
          go_region_held3 (fun w' => Below wr.heap.size wr w' ∧ w'.cell? ⟨b, off + k, none⟩ = some (.int .i64 x) ∧ w'.cell? ⟨b, off + (k + 1), none⟩ = some (.int .i64 y)) ((refine held_two hbw HC.out ?_ hbw; (repeat (with_reducible first | exact hw1 | exact Below.refl _ _ | refine Below.drew ?_ | refine Below.alloc ?_ (by first | exact Nat.le_refl _ | omega | (simp; done) | (simp; omega)) _ | refine Below.setCell ?_ (by first | exact Nat.le_refl _ | omega | (simp; done) | (simp; omega)) _))))
            (first
              | (go_at_call 46; refine (letters_any _ _ ?_ ?_).mono ?_; (first | exact hd0 | (rw [IntKind.wrap_i64]; omega) | omega); (first | exact hd1 | (rw [IntKind.wrap_i64]; omega) | omega); rintro e w1 ⟨rfl, hb1⟩; have hw1 : Below wr.heap.size wr w1 := (show Below wr.heap.size wr _ ∧ _ ∧ _ by assumption).1.trans (hb1.mono (show Below wr.heap.size wr _ ∧ _ ∧ _ by assumption).1.size); have hs1 := hw1.size; (try (have hz1 : Blk w1 wr.heap.size #[.int .u8 0, .int .u16 0, .string ⟨#[]⟩] 60 := blk_new_drew hb1; have z0 := hz1.cell 0; have z1 := hz1.cell 1; have z2 := hz1.cell 2; have f0 := hz1.free 0; have f1 := hz1.free 1; have f2 := hz1.free 2; simp at z0 z1 z2)))
              | (go_at_call_of 30 x; refine (P1.out _).mono ?_; rintro e w1 ⟨rfl, rfl⟩)
              | (go_at_call_of 30 y; refine (P2.out _).mono ?_; rintro e w1 ⟨rfl, rfl⟩))
          all_goals (try go_wp2_with fail)
          all_goals go_meet
          all_goals first
            | exact ⟨w1.heap.size, _, rfl, Blk.new w1 _ 60, hs1, hw1.alloc hs1 _⟩
            | exact ⟨wr.heap.size, _, rfl, hz1.set3 _ _ _, Nat.le_refl _, ((hw1.setCell (Nat.le_refl _) _).setCell (Nat.le_refl _) _).setCell (Nat.le_refl _) _⟩
        case rest =>
          obtain ⟨g, r, rfl, hxg, hgl, hbc⟩ := hcut
          have hown : wc.ownsRow w.heap.size 60 3 (.slice bo m cv) m (ndCells acc) := own_below' HO.out hbc (Nat.le_refl _)
          have hbcw : Below w.heap.size w wc := HB.out.trans (hbc.mono hsz)
          have HOc : Hid (wc.ownsRow w.heap.size 60 3 (.slice bo m cv) m (ndCells acc)) := hown
          have HBc : Hid (Below w.heap.size w wc) := hbcw
          have HXc : Hid (Blk wc g #[.int .u8 (1 + p), .int .u16 q, .string (T.lett r)] 60) := hxg
          have hg0 := hxg.cell 0
          have hg1 := hxg.cell 1
          have hg2 := hxg.cell 2
          have hgf := hxg.lt
          simp at hg0 hg1 hg2
          have HNR : Hid (NodeAt wc bo acc) := by
            have h1 := hown
            rw [← Hm.out] at h1
            obtain ⟨ao', cap', e1, _, _, h2⟩ := own_node h1
            simp only [Value.slice.injEq] at e1
            obtain ⟨rfl, _, rfl⟩ := e1
            exact h2
          have hszc := hbcw.size
          clear hown hbcw hxg hbc HO HB c0 c1 HC P1 P2 e8 e16 hd0 hd1 hwk1 h01
          go_wp2_with fail
          go_loopw [6, 7] (fun o i w2 => ∃ (j qn : Nat) (ob : Bool), j ≤ m ∧ i = .int .i64 j ∧ w2 = wc.drewN qn ∧ o = .bool ob ∧ Hid (T.clash (acc.take j) (1 + p, q, T.lett r) = !ob))
            (fun _ i _ => m - (intOf i).toNat)
          case atStart => exact ⟨0, 0, true, Nat.zero_le _, rfl, rfl, rfl, rfl⟩
          case round =>
            obtain ⟨j, qn, ob, hj, rfl, rfl, rfl, HQ⟩ := hrel
            by_cases hjm : j < m
            · obtain ⟨z, hz⟩ : ∃ x, acc[j]? = some x := ⟨acc[j]'(by have := Hm.out; omega), List.getElem?_eq_getElem (by have := Hm.out; omega)⟩
              obtain ⟨b2, f2, rfl, hb2, hr2⟩ : ∃ b off, bo = some ⟨b, off, none⟩ ∧ b < wc.heap.size ∧ NodeRow wc b off acc := HNR.out.resolve_left (by rintro rfl; simp at hz)
              obtain ⟨z1, z2, z3⟩ := z
              obtain ⟨d0, d1, d2⟩ := hr2 j _ hz
              simp only at d0 d1 d2
              have HS : Hid (T.clash (acc.take (j + 1)) (1 + p, q, T.lett r) = (T.clash (acc.take j) (1 + p, q, T.lett r) || decide (z1 = 1 + p ∨ z2 = q))) := by
                unfold Hid T.clash
                rw [List.take_add_one, hz]
                simp
              have hji : (j : Int) < (m : Int) := by omega
              have hj0 : (0 : Int) ≤ (j : Int) := by omega
              clear hz hr2
              cases ob with
              | false =>
                have hcl : T.clash (acc.take j) (1 + p, q, T.lett r) = true := HQ.out
                have HT : Hid (T.clash (acc.take (j + 1)) (1 + p, q, T.lett r) = true) := by unfold Hid; rw [HS.out, hcl]; rfl
                clear hcl
                go_wp2_with fail
                go_quiet (fail)
                go_wp2
                go_roundw
                case rel => exact ⟨j + 1, _, _, by omega, by go_num, by first | rfl | simp, rfl, HT.out⟩
                case measure => simp [intOf]; omega
              | true =>
                have hcl : T.clash (acc.take j) (1 + p, q, T.lett r) = false := HQ.out
                by_cases h1 : z1 = 1 + p
                · have HT : Hid (T.clash (acc.take (j + 1)) (1 + p, q, T.lett r) = true) := by unfold Hid; rw [HS.out, hcl]; simp [h1]
                  have hb1 : (!(z1 == 1 + p)) = false := by simp [h1]
                  subst h1
                  have hb3 : ((1 + p : Int) != 1 + p) = false := by simp
                  have hb4 : ((1 + p : Int) == 1 + p) = true := by simp
                  go_wp2_with fail
                  go_quiet (fail)
                  go_wp2
                  go_roundw
                  case rel => exact ⟨j + 1, _, _, by omega, by go_num, by first | rfl | simp, rfl, HT.out⟩
                  case measure => simp [intOf]; omega
                · have hb1 : (z1 == 1 + p) = false := by rw [beq_eq_false_iff_ne]; exact h1
                  have hb1n : (z1 != 1 + p) = true := by simp [h1]
                  by_cases h2 : z2 = q
                  · have HT : Hid (T.clash (acc.take (j + 1)) (1 + p, q, T.lett r) = true) := by unfold Hid; rw [HS.out, hcl]; simp [h2]
                    subst h2
                    have hb3 : ((z2 : Int) != z2) = false := by simp
                    have hb4 : ((z2 : Int) == z2) = true := by simp
                    clear h1
                    go_wp2_with fail
                    go_quiet (fail)
                    go_wp2
                    go_roundw
                    case rel => exact ⟨j + 1, _, _, by omega, by go_num, by first | rfl | simp, rfl, HT.out⟩
                    case measure => simp [intOf]; omega
                  · have hb2' : (z2 == q) = false := by rw [beq_eq_false_iff_ne]; exact h2
                    have hb2n : (z2 != q) = true := by simp [h2]
                    have HT : Hid (T.clash (acc.take (j + 1)) (1 + p, q, T.lett r) = false) := by unfold Hid; rw [HS.out, hcl]; simp [h1, h2]
                    clear h1 h2
                    go_wp2_with fail
                    go_quiet (fail)
                    go_wp2
                    go_roundw
                    case rel => exact ⟨j + 1, _, _, by omega, by go_num, by first | rfl | simp, rfl, HT.out⟩
                    case measure => simp [intOf]; omega
            · have hjm2 : j = m := by omega
              subst hjm2
              have HF : Hid (acc.take j = acc) := List.take_of_length_le (by have := Hm.out; omega)
              rw [HF.out] at HQ
              have hbd : Below w.heap.size w (wc.drewN qn) := below_drewN HBc.out qn
              have HOd0 : Hid ((wc.drewN qn).ownsRow w.heap.size 60 3 (.slice bo j cv) j (ndCells acc)) := own_below' HOc.out (below_drewN (Below.refl _ _) qn) (Nat.le_refl _)
              have hxd : Blk (wc.drewN qn) g #[.int .u8 (1 + p), .int .u16 q, .string (T.lett r)] 60 := HXc.out.below (below_drewN (Below.refl (g + 1) wc) qn) (by omega)
              generalize wc.drewN qn = wd at hbd HOd0 hxd ⊢
              have HBd : Hid (Below w.heap.size w wd) := hbd
              have hsd := hbd.size
              have d0 := hxd.cell 0
              have d1 := hxd.cell 1
              have d2 := hxd.cell 2
              have hgd := hxd.lt
              simp at d0 d1 d2
              clear hg0 hg1 hg2 hgf HXc HOc HBc HNR hbd hxd hszc hgl
              cases ob with
              | false =>
                go_wp2
                go_roundw
                case rel =>
                  exact ⟨k + 2, cv, bo, acc, by rw [Hm.out], by omega, by go_num, by rw [Hm.out]; exact HOd0.out, HBd.out, HG⟩
                case measure => simp [intOf]; omega
              | true =>
                have hcl : T.clash acc (1 + p, q, T.lett r) = false := HQ.out
                have HG' : Hid (Grows (acc ++ [(1 + p, q, T.lett r)])) := HG.out.step (by have := Hm.out; omega) p q r hp hq hcl
                clear hcl
                go_wp2_with (at_builtin; refine wpList_append_own _ rfl (.tmp 70) (.tmp 72) 22 rfl w.heap.size 60 i0 (.agg #[.int .u8 0, .int .u16 0, .string ⟨#[]⟩]) 3 24 Try.underlying22 hi hz0 hz1 hz2 rfl (by decide) _ _ _ rfl (HOd0.out.alloc _) ⟨wd.heap.size, 0, none⟩ 1 1 [.int .u8 (1 + p), .int .u16 q, .string (T.lett r)] rfl rfl (new_three _ _ _ _ _) (by intro u hu; simp at hu; rcases hu with rfl | rfl | rfl <;> rfl) (by unfold maxLen; omega) (by omega) (by simp; omega) ?_)
                intro v3 w3 hown3 hg3 _
                have hb3 : Below w.heap.size w w3 := below_app (HBd.out.alloc hsd _) hg3 (HOd0.out.alloc _) (Nat.le_refl _) (by simp; omega)
                obtain ⟨g3, cap3, hv3⟩ : ∃ g3 cap3, v3 = .slice (some ⟨g3, 0, none⟩) (j + 1) cap3 := by
                  rcases hown3.2 with ⟨_, h⟩ | ⟨g3, cap3, _, h, _⟩
                  · omega
                  · exact ⟨g3, cap3, h⟩
                have HV : Hid (v3 = .slice (some ⟨g3, 0, none⟩) (j + 1) cap3) := hv3
                have HB3 : Hid (Below w.heap.size w w3) := hb3
                have HO3 : Hid (w3.ownsRow w.heap.size 60 3 v3 (j + 1) (ndCells acc ++ [.int .u8 (1 + p), .int .u16 q, .string (T.lett r)])) := hown3
                clear hown3 hg3 hb3 HOd0 HBd hv3
                go_wp2
                go_roundw
                case rel =>
                  have hl : (acc ++ [(1 + p, q, T.lett r)]).length = j + 1 := by simp [Hm.out]
                  refine ⟨k + 2, cap3, some ⟨g3, 0, none⟩, acc ++ [(1 + p, q, T.lett r)], by rw [hl]; exact HV.out, by omega, by go_num, ?_, HB3.out, HG'⟩
                  rw [hl, ndCells_snoc, ← HV.out]
                  exact HO3.out
                case measure => simp [intOf]; omega
      · have hb10 : ¬ (m : Int) < 10 := by omega
        have hlt' : (k : Int) + 1 < (n : Int) := by omega
        go_wp2
        go_ret
        exact ⟨_, acc, rfl, HG.out, by rw [Hm.out]; exact HO.out, HB.out⟩
    · have hlt' : ¬ (k : Int) + 1 < (n : Int) := by omega
      go_wp2
      go_ret
      exact ⟨_, acc, rfl, HG.out, by rw [Hm.out]; exact HO.out, HB.out⟩

end Go.Proofs.Ytcaeeaiodbjacaa
