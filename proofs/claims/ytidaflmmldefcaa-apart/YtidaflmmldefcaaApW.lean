/-
  The walk of Apart.
-/
import Derived.Test.YtidaflmmldefcaaApS
import Derived.Deep.CutBlock
namespace Go.Proofs.Ytidaflmmldefcaa
open Go.RowKit
set_option linter.unusedVariables false

/-- Ints that came in. -/
def IntRow (w : World) (b off : Nat) (l : List Int) : Prop := ∀ i x, l[i]? = some x → w.cell? ⟨b, off + i, none⟩ = some (.int .i64 x)
theorem IntRow.below {B : Nat} {w w' : World} {b off : Nat} {l : List Int} (h : IntRow w b off l) (hb : Below B w w') (hl : b < B) : IntRow w' b off l :=
  fun i x hx => (hb.cell hl).trans (h i x hx)
def IntAt (w : World) (ao : Option Addr) (l : List Int) : Prop := l = [] ∨ ∃ b off, ao = some ⟨b, off, none⟩ ∧ b < w.heap.size ∧ IntRow w b off l

/-- What stands at the beginning of a round. -/
structure Pair (ms ms' : List Mf) (kb : Nat → Bool) (G H : Hs) : Prop where
  one : HI ms G
  two : HI ms' H
  twin : Twin kb G H

set_option maxRecDepth 100000 in
set_option maxHeartbeats 32000000 in
theorem apartLaw_any (ga sa ca : Option Addr) (gcap scap ccap : Nat) (gl : List Gs) (t : Int) (bad : Gs) (sl : List St) (cl : List Int) (ow : Dr) (w : World) (hgl : gl.length ≤ maxLen) (hsl : sl.length ≤ maxLen) (hcl : cl.length ≤ maxLen) (ht : in64 t) (hga : GsAt w ga gl) (hbad : bad.ok w) (hsa : StAt w sa sl) (hca : IntAt w ca cl) (hcr : ∀ c ∈ cl, in64 c) (how : ow.ok w) :
    Calls Try.prog 6 #[.slice ga gl.length gcap, .int .i64 t, .agg bad.arr, .slice sa sl.length scap, .slice ca cl.length ccap, .slice ow.eo ow.ds.length ow.ec] w fun e w' => e = .returned (.bool true) ∧ Below w.heap.size w w' := by
  obtain ⟨i0, hi, hz0, hz1, hz2⟩ := info_parts info41
  obtain ⟨bco, bn, bcap, braw, bg⟩ := bad
  obtain ⟨hbc, hbn⟩ := hbad
  simp only at hbc hbn
  unfold Gs.arr
  simp only
  obtain ⟨W0, hW0⟩ : ∃ W, W = w.alloc (.cells #[.slice bco bn bcap, .int .i64 bg.fu, .int .i64 bg.ro, .int .i64 bg.pu, .int .i64 bg.su, .int .i64 bg.sh, .int .i64 bg.ba] 61) := ⟨_, rfl⟩
  have HB0 : Hid (Below w.heap.size w W0) := by unfold Hid; rw [hW0]; exact (Below.refl _ _).alloc (Nat.le_refl _) _
  have HX0 : Hid (Blk W0 w.heap.size #[.slice bco bn bcap, .int .i64 bg.fu, .int .i64 bg.ro, .int .i64 bg.pu, .int .i64 bg.su, .int .i64 bg.sh, .int .i64 bg.ba] 61) := by unfold Hid; rw [hW0]; exact Blk.new w _ 61
  have HTn : Hid (Calls Try.prog 7 #[.slice ga gl.length gcap, .int .i64 4] W0 fun e w' => ∃ v ms, e = .returned v ∧ 1 ≤ ms.length ∧ ms.length ≤ 4 ∧ (∀ m ∈ ms, m.good) ∧ w'.ownsRow W0.heap.size 41 7 v ms.length (mfCells ms) ∧ Below W0.heap.size W0 w') := tenants_any ga gcap gl 4 W0 (by decide) (by decide) (hga.below HB0.out) hgl
  have HTb : Hid (∀ u, Below w.heap.size w u → Calls Try.prog 20 #[.agg #[.slice bco bn bcap, .int .i64 bg.fu, .int .i64 bg.ro, .int .i64 bg.pu, .int .i64 bg.su, .int .i64 bg.sh, .int .i64 bg.ba]] u fun e w' => ∃ m : Mf, e = .returned (.agg m.arr) ∧ m.good ∧ Below u.heap.size u w') := fun u hu => tenant_any bco bn bcap braw bg u (hbc.below hu) hbn
  have HSa : Hid (StAt w sa sl) := hsa
  have HCa : Hid (IntAt w ca cl) := hca
  have HCr : Hid (∀ c ∈ cl, in64 c) := hcr
  have HOw : Hid (ow.ok w) := how
  obtain ⟨N, hN⟩ : ∃ N, N = sl.length := ⟨_, rfl⟩
  have HN : Hid (sl.length = N) := hN.symm
  have hmx : N ≤ 9223372036854775807 := by rw [hN]; unfold maxLen at hsl; omega
  obtain ⟨CL, hCL⟩ : ∃ CL, CL = cl.length := ⟨_, rfl⟩
  have HCL : Hid (cl.length = CL) := hCL.symm
  have hcmx : CL ≤ 9223372036854775807 := by rw [hCL]; unfold maxLen at hcl; omega
  obtain ⟨GL, hGL⟩ : ∃ GL, GL = gl.length := ⟨_, rfl⟩
  rw [← hGL] at HTn ⊢
  rw [← hN, ← hCL]
  obtain ⟨ht0, ht1⟩ := ht
  clear hga hsa hca hcr how hN hgl hsl hcl hGL hCL hbc hbn
  go_enter Try.func6, Try.ntmps6
  go_upto_region 1 with fail
  rw [← hW0]
  clear hW0
  go_wp2_with fail
  refine HTn.out.mono ?_
  rintro e w1 ⟨v, ms, rfl, hm1, hm4, hg, ho1, hb1⟩
  obtain ⟨n, hn⟩ : ∃ n, n = ms.length := ⟨_, rfl⟩
  have Hn : Hid (ms.length = n) := hn.symm
  have HG : Hid (∀ m ∈ ms, m.good) := hg
  have HM : Hid (1 ≤ ms.length ∧ ms.length ≤ 4) := ⟨hm1, hm4⟩
  obtain ⟨g, lc, rfl⟩ : ∃ g lc, v = .slice (some ⟨g, 0, none⟩) n lc := by
    rcases ho1.2 with ⟨_, h0⟩ | ⟨g, cp, cur, hv, _⟩
    · omega
    · exact ⟨g, cp, by rw [hn]; exact hv⟩
  rw [← hn] at ho1 hm1 hm4
  have HO1 : Hid (w1.ownsRow w.heap.size 41 7 (.slice (some ⟨g, 0, none⟩) n lc) n (mfCells ms)) := own_weak ho1 HB0.out.size
  have HB1 : Hid (Below w.heap.size w w1) := HB0.out.trans (hb1.mono HB0.out.size)
  have HX1 : Hid (Blk w1 w.heap.size #[.slice bco bn bcap, .int .i64 bg.fu, .int .i64 bg.ro, .int .i64 bg.pu, .int .i64 bg.su, .int .i64 bg.sh, .int .i64 bg.ba] 61) := HX0.out.below hb1 HX0.out.lt
  clear ho1 hb1 hg hn HTn HX0 HB0
  have P0 : Hid (Calls Try.prog 10 #[.int .i64 t, .int .i64 (n : Int)] w1 fun e w' => e = .returned (.int .i64 (H.pk t (n : Int))) ∧ w1 = w') := pick_any t n w1 ht0 ht1 (by omega) (by omega)
  have hpt := H.pk_range t (n : Int) (by omega)
  obtain ⟨T, hT⟩ : ∃ T : Nat, H.pk t (n : Int) = (T : Int) := Int.eq_ofNat_of_zero_le hpt.1
  rw [hT] at P0 hpt
  have hTn : T < n := by omega
  clear hT
  go_wp2_with fail
  refine P0.out.mono ?_
  rintro e w' ⟨rfl, rfl⟩
  clear P0 hpt
  obtain ⟨gm, hgm⟩ : ∃ gm, gm = w1.heap.size := ⟨_, rfl⟩
  have HOs : Hid (∀ j v, (mfCells ms)[j]? = some v → w1.cell? ((⟨g, 0, none⟩ : Addr).add j) = some v) := fun j v hj => World.ownsRow.cells HO1.out rfl j v hj
  have hgl1 : g < w1.heap.size := (HO1.out.lt g rfl).2
  go_wp2_with (refine wpList_make_full _ rfl _ _ 24 rfl w1.heap.size 41 i0 (.agg #[.string ⟨#[]⟩, .int .i64 0, .int .u8 0, .int .u8 0, .int .u8 0, .int .i64 0, .int .i64 0]) 7 Try.underlying24 hi hz0 hz1 _ _ _ _ n rfl rfl rfl rfl (by rw [hz2]; omega) (by unfold maxLen; omega) (Nat.le_refl _) ?_)
  intro w2 ho2 hg2
  rw [← hgm] at ho2 ⊢
  obtain ⟨cur, hcur⟩ := own_cur ho2
  have hcs : cur.size = n * 7 := by
    rcases ho2.2 with ⟨hv, h0⟩ | ⟨g', cp, cur', hv, _, hh, h1, h2, h3, h4⟩
    · simp at hv
    · simp only [Value.slice.injEq, Option.some.injEq, Addr.mk.injEq, and_true, true_and] at hv
      obtain ⟨rfl, rfl⟩ := hv
      unfold Blk at hcur
      rw [hh] at hcur
      simp at hcur
      rw [← hcur]
      exact h3
  have HB2 : Hid (Below w1.heap.size w1 w2) := (Below.refl _ _).grown hg2 (Nat.le_refl _) (fun k hk => by cases hk)
  have hcopy := run_copy_seven w2 gm n n ⟨g, 0, none⟩ lc cur (mfCells ms) hcur (by rw [mfCells_length, Hn.out]) (fun j v hj => by
    have q := HOs.out j v hj
    have hb : ((⟨g, 0, none⟩ : Addr).add j).block < w1.heap.size := by rw [Addr.add_lit]; exact hgl1
    exact (HB2.out.cell hb).trans q) (by rw [mfCells_length, Hn.out, hcs]; exact Nat.le_refl _) (mfCells_one ms)
  have hdrop : cur.toList.drop (mfCells ms).length = [] := List.drop_eq_nil_of_le (by rw [mfCells_length, Hn.out]; simp; omega)
  rw [hdrop, List.append_nil] at hcopy
  obtain ⟨w3, hw3⟩ : ∃ w3, w3 = w2.setRow gm (mfCells ms).toArray := ⟨_, rfl⟩
  have HG3 : Hid (Blk w3 gm (mfCells ms).toArray 41) := by unfold Hid; rw [hw3]; exact setRow_heap w2 gm cur _ 41 (0, 0) hcur
  have HB3 : Hid (Below w1.heap.size w1 w3) := by unfold Hid; rw [hw3]; exact below_setRow HB2.out (by omega) _
  rw [← hw3] at hcopy
  clear ho2 hg2 hcur hcs hdrop hw3 HB2
  have HX3 : Hid (Blk w3 w.heap.size #[.slice bco bn bcap, .int .i64 bg.fu, .int .i64 bg.ro, .int .i64 bg.pu, .int .i64 bg.su, .int .i64 bg.sh, .int .i64 bg.ba] 61) := HX1.out.below HB3.out HX1.out.lt
  have HBw3 : Hid (Below w.heap.size w w3) := HB1.out.trans (HB3.out.mono HB1.out.size)
  have HO3 : Hid (w3.ownsRow w.heap.size 41 7 (.slice (some ⟨g, 0, none⟩) n lc) n (mfCells ms)) := own_below' HO1.out HB3.out (Nat.le_refl _)
  have c0 : w3.cell? ⟨w.heap.size, 0, none⟩ = some (.slice bco bn bcap) := by rw [HX3.out.cell 0]; rfl
  have c1 : w3.cell? ⟨w.heap.size, 1, none⟩ = some (.int .i64 bg.fu) := by rw [HX3.out.cell 1]; rfl
  have c2 : w3.cell? ⟨w.heap.size, 2, none⟩ = some (.int .i64 bg.ro) := by rw [HX3.out.cell 2]; rfl
  have c3 : w3.cell? ⟨w.heap.size, 3, none⟩ = some (.int .i64 bg.pu) := by rw [HX3.out.cell 3]; rfl
  have c4 : w3.cell? ⟨w.heap.size, 4, none⟩ = some (.int .i64 bg.su) := by rw [HX3.out.cell 4]; rfl
  have c5 : w3.cell? ⟨w.heap.size, 5, none⟩ = some (.int .i64 bg.sh) := by rw [HX3.out.cell 5]; rfl
  have c6 : w3.cell? ⟨w.heap.size, 6, none⟩ = some (.int .i64 bg.ba) := by rw [HX3.out.cell 6]; rfl
  have hgmw : w.heap.size ≤ gm := by have := HB1.out.size; omega
  have hggm : g < gm := by omega
  clear hgm HOs HO1 HX1 HB1 HB3 hgl1
  go_wp2_with fail
  refine (HTb.out w3 HBw3.out).mono ?_
  rintro e w4 ⟨mb, rfl, hmb, hb4⟩
  have HMb : Hid mb.good := hmb
  have HB4 : Hid (Below w.heap.size w w4) := HBw3.out.trans (hb4.mono HBw3.out.size)
  have HG4 : Hid (Blk w4 gm (mfCells ms).toArray 41) := HG3.out.below hb4 HG3.out.lt
  have HO4 : Hid (w4.ownsRow w.heap.size 41 7 (.slice (some ⟨g, 0, none⟩) n lc) n (mfCells ms)) := own_below' HO3.out hb4 (Nat.le_refl _)
  clear hmb hb4 HX3 HBw3 HO3 HG3 c0 c1 c2 c3 c4 c5 c6 HTb hcopy
  obtain ⟨mT, hmT⟩ : ∃ m, ms[T]? = some m := ⟨ms[T]'(by have := Hn.out; omega), List.getElem?_eq_getElem (by have := Hn.out; omega)⟩
  have HMT : Hid (ms[T]? = some mT) := hmT
  have hcell : ∀ j v, mT.arr[j]? = some v → w4.cell? ⟨gm, T * 7 + j, none⟩ = some v := fun j v hv => by
    have q := blk_mfRow HG4.out T mT hmT j v hv
    rw [Nat.zero_add] at q
    exact q
  have d0 : w4.cell? ⟨gm, T * 7, none⟩ = some (.string mT.prog) := hcell 0 _ rfl
  have d1 : w4.cell? ⟨gm, T * 7 + 1, none⟩ = some (.int .i64 mT.fuel) := hcell 1 _ rfl
  have d6 : w4.cell? ⟨gm, T * 7 + 6, none⟩ = some (.int .i64 mT.back) := hcell 6 _ rfl
  have fz : ∀ i, w4.frozen? ⟨gm, i, none⟩ = false := fun i => HG4.out.free i
  have hgml : gm < w4.heap.size := HG4.out.lt
  have hgne : ¬ gm = w4.heap.size := by omega
  have hTi : (T : Int) < (n : Int) := by omega
  have hT0 : (0 : Int) ≤ (T : Int) := by omega
  obtain ⟨pr, fu, ro, pu, su, sh, ba⟩ := mb
  unfold Mf.arr
  simp only
  clear hcell hmT
  go_upto_region 9 with fail
  obtain ⟨W5, hW5⟩ : ∃ W, W = (((w4.setCell ⟨gm, T * 7, none⟩ (.string pr)).setCell ⟨gm, T * 7 + 1, none⟩ (.int .i64 fu)).setCell ⟨gm, T * 7 + 6, none⟩ (.int .i64 ba)).alloc (.cells #[.string pr, .int .i64 fu, .int .u8 ro, .int .u8 pu, .int .u8 su, .int .i64 sh, .int .i64 ba] 41) := ⟨_, rfl⟩
  rw [← hW5]
  obtain ⟨ms', hms'⟩ : ∃ ms' : List Mf, ms' = ms.set T (mT.with ⟨pr, fu, ro, pu, su, sh, ba⟩) := ⟨_, rfl⟩
  have HB5 : Hid (Below w.heap.size w W5) := by
    unfold Hid; rw [hW5]
    have q := ((HB4.out.setCell (show w.heap.size ≤ (⟨gm, T * 7, none⟩ : Addr).block from hgmw) (.string pr)).setCell (show w.heap.size ≤ (⟨gm, T * 7 + 1, none⟩ : Addr).block from hgmw) (.int .i64 fu)).setCell (show w.heap.size ≤ (⟨gm, T * 7 + 6, none⟩ : Addr).block from hgmw) (.int .i64 ba)
    exact q.alloc q.size _
  have HG5 : Hid (Blk W5 gm (mfCells ms').toArray 41) := by
    unfold Hid; rw [hW5]
    have q := ((HG4.out.set (T * 7) (.string pr)).set (T * 7 + 1) (.int .i64 fu)).set (T * 7 + 6) (.int .i64 ba)
    have e : ((((mfCells ms).toArray.setIfInBounds (T * 7) (.string pr)).setIfInBounds (T * 7 + 1) (.int .i64 fu)).setIfInBounds (T * 7 + 6) (.int .i64 ba)) = (mfCells ms').toArray := by
      rw [hms', ← mfCells_with ms T mT _ HMT.out]
      simp
    rw [e] at q
    exact q.below ((Below.refl _ _).alloc (Nat.le_refl _) _) q.lt
  have HO5 : Hid (W5.ownsRow w.heap.size 41 7 (.slice (some ⟨g, 0, none⟩) n lc) n (mfCells ms)) := by
    unfold Hid; rw [hW5]
    have hn : Value.ownBlock (.slice (some ⟨g, 0, none⟩) n lc) ≠ some gm := by simp [Value.ownBlock]; omega
    exact (ownsRow_setCell_other (ownsRow_setCell_other (ownsRow_setCell_other HO4.out hn _) hn _) hn _).alloc _
  have HMs' : Hid (1 ≤ ms'.length ∧ ms'.length ≤ 4) := by unfold Hid; rw [hms']; simpa using HM.out
  have HMn' : Hid (ms'.length = n) := by unfold Hid; rw [hms']; simpa using Hn.out
  have HAl : Hid (Alike2 ms ms' ∧ ∀ u, u ≠ T → ms'[u]? = ms[u]?) := by unfold Hid; rw [hms']; exact with_alike ms T mT _ HMT.out
  have HG' : Hid (∀ m ∈ ms', m.good) := by unfold Hid; rw [hms']; exact with_goods HG.out HMT.out HMb.out
  clear hW5 hms' HB4 HG4 HO4 d0 d1 d6 fz hgne hgml
  have HOp1 : Hid (Calls Try.prog 8 #[.slice (some ⟨g, 0, none⟩) n lc] W5 fun e w' => ∃ hb' tb cap vs, e = .returned (.pointer (some ⟨hb', 0, none⟩)) ∧ HostAt w' hb' tb cap (openHs ms) vs ∧ (∀ k, ownOf hb' tb vs k → W5.heap.size ≤ k) ∧ Below W5.heap.size W5 w') := by
    have q := opened_any g 0 lc ms W5 HM.out.1 HM.out.2 HG.out (own_mfRow HO5.out) (HO5.out.lt g rfl).2
    rw [Hn.out] at q
    exact q
  go_wp2_with fail
  refine HOp1.out.mono ?_
  rintro e w6 ⟨hp, tb, cap, vs, rfl, hh6, ho6, hb6⟩
  have HH6 : Hid (HostAt w6 hp tb cap (openHs ms) vs ∧ ∀ k, ownOf hp tb vs k → W5.heap.size ≤ k) := ⟨hh6, ho6⟩
  have HB6 : Hid (Below w.heap.size w w6) := HB5.out.trans (hb6.mono HB5.out.size)
  have HG6 : Hid (Blk w6 gm (mfCells ms').toArray 41) := HG5.out.below hb6 HG5.out.lt
  have HO6 : Hid (w6.ownsRow w.heap.size 41 7 (.slice (some ⟨g, 0, none⟩) n lc) n (mfCells ms)) := own_below' HO5.out hb6 (Nat.le_refl _)
  have HS5 : Hid (w.heap.size ≤ W5.heap.size) := HB5.out.size
  have HOp2 : Hid (Calls Try.prog 8 #[.slice (some ⟨gm, 0, none⟩) n n] w6 fun e w' => ∃ hb' tb cap vs, e = .returned (.pointer (some ⟨hb', 0, none⟩)) ∧ HostAt w' hb' tb cap (openHs ms') vs ∧ (∀ k, ownOf hb' tb vs k → w6.heap.size ≤ k) ∧ Below w6.heap.size w6 w') := by
    have q := opened_any gm 0 n ms' w6 HMs'.out.1 HMs'.out.2 HG'.out (blk_mfRow HG6.out) HG6.out.lt
    rw [HMn'.out] at q
    exact q
  clear hh6 ho6 hb6 HOp1 HO5 HG5 HB5
  go_wp2_with fail
  refine HOp2.out.mono ?_
  rintro e w7 ⟨hq, tc, cbp, vs2, rfl, hh7, ho7, hb7⟩
  have HNe : Hid ((openHs ms).ts ≠ [] ∧ (openHs ms').ts ≠ []) := ⟨(openHs_ok HG.out HM.out.2).ne HM.out.1, (openHs_ok HG'.out HMs'.out.2).ne HMs'.out.1⟩
  have HT7 : Hid (Two w.heap.size hp tb cap hq tc cbp w7 (openHs ms) (openHs ms')) := by
    refine ⟨vs, vs2, HH6.out.1.below hb7 (HH6.out.1.tbl HNe.out.1), hh7, fun k q => Nat.le_trans HS5.out (HH6.out.2 k q), fun k q => Nat.le_trans HB6.out.size (ho7 k q), fun k q r => ?_⟩
    have h1 := HH6.out.1.own_lt HNe.out.1 q
    have h2 := ho7 k r
    omega
  have HB7 : Hid (Below w.heap.size w w7) := HB6.out.trans (hb7.mono HB6.out.size)
  have HO7 : Hid (w7.ownsRow w.heap.size 41 7 (.slice (some ⟨g, 0, none⟩) n lc) n (mfCells ms)) := own_below' HO6.out hb7 (Nat.le_refl _)
  have HRc : Hid (Calls Try.prog 21 #[.slice (some ⟨g, 0, none⟩) n lc, .int .i64 T] w7 fun e w' => reachEnd ms T n w7 e w') := by
    have q := reached_any g 0 lc ms T w7 HM.out.1 HM.out.2 (by rw [Hn.out]; exact hTn) (own_mfRow HO7.out) (HO7.out.lt g rfl).2
    rw [Hn.out] at q
    exact q
  clear hh7 ho7 hb7 HOp2 HH6 HO6 HG6 HB6
  go_wp2_with fail
  refine HRc.out.mono ?_
  rintro e w8 ⟨gB, B, rfl, hBl, hBk, hcl8, hb8⟩
  have HBl : Hid (B.length = n) := hBl
  have HBk8 : Hid (Blk w8 gB (boolCells B) 4) := hBk
  have HB8 : Hid (Below w.heap.size w w8) := HB7.out.trans (hb8.mono HB7.out.size)
  have HSe : Hid (Sep (clear T B) ms ∧ Sep (clear T B) ms') := hcl8.sep HG.out (by rw [hBl, Hn.out]) HAl.out.1 HAl.out.2
  have HT8 : Hid (Two w.heap.size hp tb cap hq tc cbp w8 (openHs ms) (openHs ms')) := HT7.out.below HNe.out.1 HNe.out.2 hb8
  have HP8 : Hid (Pair ms ms' (clear T B) (openHs ms) (openHs ms')) := ⟨openHs_ok HG.out HM.out.2, openHs_ok HG'.out HMs'.out.2, Twin.opened HG.out HG'.out HM.out.2 HAl.out.1 HSe.out.1 HSe.out.2 (fun u hu => HAl.out.2 u (clear_ne hu))⟩
  clear hBl hBk hcl8 hb8 HRc HT7 HB7 HO7 HNe HMT HMb hggm hgmw
  go_wp2_with fail
  go_loopw [73] (fun i wr => ∃ (k : Nat) (G H' : Hs), k ≤ N ∧ i = .int .i64 k ∧ Hid (Two w.heap.size hp tb cap hq tc cbp wr G H') ∧ Hid (Pair ms ms' (clear T B) G H') ∧ Hid (Below w.heap.size w wr) ∧ Hid (Blk wr gB (boolCells B) 4))
    (fun i _ => N - (intOf i).toNat)
  case atStart => exact ⟨0, openHs ms, openHs ms', Nat.zero_le _, rfl, HT8.out, HP8.out, HB8.out, HBk8.out⟩
  case round =>
    obtain ⟨k, G, H', hk, rfl, HT, HP, HB, HBk⟩ := hrel
    clear HT8 HP8 HB8 HBk8
    by_cases hlt : k < N
    · obtain ⟨x, hx⟩ : ∃ x, sl[k]? = some x := ⟨sl[k]'(by have := HN.out; omega), List.getElem?_eq_getElem (by have := HN.out; omega)⟩
      obtain ⟨b, off, rfl, hbl, hr⟩ : ∃ b off, sa = some ⟨b, off, none⟩ ∧ b < w.heap.size ∧ StRow w b off sl := HSa.out.1.resolve_left (by rintro rfl; simp at hx)
      have hxo := HSa.out.2 x (List.mem_of_getElem? hx)
      obtain ⟨c0, c1, c2⟩ := (hr.below HB.out hbl) k x hx
      obtain ⟨kd, ax, dao, dcap, dl⟩ := x
      simp only at c0 c1 c2
      have HXo : Hid (St.ok w ⟨kd, ax, dao, dcap, dl⟩) := hxo
      obtain ⟨DL, hDL⟩ : ∃ DL, DL = dl.length := ⟨_, rfl⟩
      have HDL : Hid (dl.length = DL) := hDL.symm
      rw [← hDL] at c2
      have hki : (k : Int) < (N : Int) := by omega
      have hk0 : (0 : Int) ≤ (k : Int) := by omega
      obtain ⟨W, hW⟩ : ∃ W, W = wr.alloc (.cells #[.int .i64 kd, .int .i64 ax, .slice dao DL dcap] 31) := ⟨_, rfl⟩
      have HXW : Hid (Blk W wr.heap.size #[.int .i64 kd, .int .i64 ax, .slice dao DL dcap] 31) := by unfold Hid; rw [hW]; exact Blk.new wr _ 31
      have hbWr : Below wr.heap.size wr W := by rw [hW]; exact (Below.refl _ _).alloc (Nat.le_refl _) _
      have HBW : Hid (Below w.heap.size w W) := HB.out.trans (hbWr.mono HB.out.size)
      have HTW : Hid (Two w.heap.size hp tb cap hq tc cbp W G H') := HT.out.below (HP.out.one.ne HM.out.1) (HP.out.two.ne HMs'.out.1) hbWr
      have HBkW : Hid (Blk W gB (boolCells B) 4) := HBk.out.below hbWr HBk.out.lt
      clear hx hr hxo hDL hbWr HT HB HBk
      go_upto_region 18 with fail
      rw [← hW]
      obtain ⟨A, hA⟩ : ∃ A, A = wr.heap.size := ⟨_, rfl⟩
      rw [← hA] at HXW ⊢
      clear hW hA c0 c1 c2
      have e0 : W.cell? ⟨A, 0, none⟩ = some (.int .i64 kd) := by rw [HXW.out.cell 0]; rfl
      have e1 : W.cell? ⟨A, 1, none⟩ = some (.int .i64 ax) := by rw [HXW.out.cell 1]; rfl
      have e2 : W.cell? ⟨A, 2, none⟩ = some (.slice dao DL dcap) := by rw [HXW.out.cell 2]; rfl
      have HD1 : Hid (Calls Try.prog 9 #[.pointer (some ⟨hp, 0, none⟩), .agg #[.int .i64 kd, .int .i64 ax, .slice dao DL dcap]] W fun e w' => e = .returned (.bool true) ∧ Two w.heap.size hp tb cap hq tc cbp w' (G.does kd ax dl) H' ∧ Below w.heap.size W w' ∧ Keeps W w') := by
        have q := HTW.out.does_left HP.out.one HM.out.1 HM.out.2 (HP.out.two.ne HMs'.out.1) HBW.out.size kd ax HXo.out.kind HXo.out.a dao dcap dl HXo.out.len (HXo.out.dr.toT HBW.out) HXo.out.rng
        rw [HDL.out] at q
        exact q
      go_wp2_with fail
      refine HD1.out.mono ?_
      rintro e w9 ⟨rfl, ht9, hb9, hk9⟩
      have HT9 : Hid (Two w.heap.size hp tb cap hq tc cbp w9 (G.does kd ax dl) H') := ht9
      have HB9 : Hid (Below w.heap.size w w9) := HBW.out.trans hb9
      have HX9 : Hid (Blk w9 A #[.int .i64 kd, .int .i64 ax, .slice dao DL dcap] 31) := hk9 _ _ _ (by decide) (by decide) (by decide) (by decide) HXW.out
      have HBk9 : Hid (Blk w9 gB (boolCells B) 4) := hk9 _ _ _ (by decide) (by decide) (by decide) (by decide) HBkW.out
      have HG9 : Hid (HI ms (G.does kd ax dl)) := HP.out.one.does HM.out.2 kd ax HXo.out.rng
      clear ht9 hb9 hk9 HD1 HTW HBW HXW HBkW e0 e1 e2
      have e0 : w9.cell? ⟨A, 0, none⟩ = some (.int .i64 kd) := by rw [HX9.out.cell 0]; rfl
      have e1 : w9.cell? ⟨A, 1, none⟩ = some (.int .i64 ax) := by rw [HX9.out.cell 1]; rfl
      have e2 : w9.cell? ⟨A, 2, none⟩ = some (.slice dao DL dcap) := by rw [HX9.out.cell 2]; rfl
      have P1 : Hid (∀ u : World, Calls Try.prog 10 #[.int .i64 kd, .int .i64 3] u fun e w' => e = .returned (.int .i64 (H.pk kd 3)) ∧ u = w') := fun u => pick_any kd 3 u HXo.out.kind.1 HXo.out.kind.2 (by decide) (by decide)
      have P2 : Hid (∀ u : World, Calls Try.prog 10 #[.int .i64 ax, .int .i64 400] u fun e w' => e = .returned (.int .i64 (H.pk ax 400)) ∧ u = w') := fun u => pick_any ax 400 u HXo.out.a.1 HXo.out.a.2 (by decide) (by decide)
      have hqk := H.pk_range kd 3 (by decide)
      have hqa := H.pk_range ax 400 (by decide)
      have HDo : Hid (∀ X : Hs, X.does kd ax dl = if H.pk kd 3 = 0 then X.navigate (H.pk ax 4) else if H.pk kd 3 = 1 then X.click (H.pk ax 400) else X.frame dl) := fun X => rfl
      obtain ⟨QK, hQK⟩ : ∃ q, q = H.pk kd 3 := ⟨_, rfl⟩
      obtain ⟨QA, hQA⟩ : ∃ q, q = H.pk ax 400 := ⟨_, rfl⟩
      rw [← hQK] at P1 hqk HDo
      rw [← hQA] at P2 hqa HDo
      clear hQK hQA
      obtain ⟨tq, htq⟩ : ∃ tq : Nat, QA / 100 = (tq : Int) := Int.eq_ofNat_of_zero_le (by omega)
      have hdv : QA.tdiv 100 = (tq : Int) := by rw [Int.tdiv_eq_ediv_of_nonneg hqa.1]; exact htq
      have hdw : IntKind.i64.wrap (tq : Int) = (tq : Int) := by rw [IntKind.wrap_i64]; omega
      have HTq : Hid ((QA / 100).toNat = tq) := by unfold Hid; rw [htq]; rfl
      clear htq
      go_wp2_with fail
      refine (P1.out _).mono ?_
      rintro e w' ⟨rfl, rfl⟩
      go_upto_block 2 with fail
      go_cut [22] from 86 to 109 (fun v wx => v = .bool true ∧ ∃ H2 : Hs, Hid (Two w.heap.size hp tb cap hq tc cbp wx (G.does kd ax dl) H2) ∧ Hid (HI ms' H2) ∧ Hid (Twin (clear T B) (G.does kd ax dl) H2) ∧ Hid (Below w.heap.size w wx) ∧ Hid (Blk wx gB (boolCells B) 4))
      case first =>
        by_cases h0 : QK = 0
        · have HE : Hid (∀ X : Hs, X.does kd ax dl = X.navigate (H.pk ax 4)) := fun X => by rw [HDo.out, if_pos h0]
          have HD2 : Hid (Calls Try.prog 9 #[.pointer (some ⟨hq, 0, none⟩), .agg #[.int .i64 kd, .int .i64 ax, .slice dao DL dcap]] w9 fun e w' => e = .returned (.bool true) ∧ Two w.heap.size hp tb cap hq tc cbp w' (G.does kd ax dl) (H'.does kd ax dl) ∧ Below w.heap.size w9 w' ∧ Keeps w9 w') := by
            have q := HT9.out.does_right HP.out.two HMs'.out.1 HMs'.out.2 (HG9.out.ne HM.out.1) HB9.out.size kd ax HXo.out.kind HXo.out.a dao dcap dl HXo.out.len (HXo.out.dr.toT HB9.out) HXo.out.rng
            rw [HDL.out] at q
            exact q
          subst h0
          go_wp2_with fail
          refine HD2.out.mono ?_
          rintro e w10 ⟨rfl, ht10, hb10, hk10⟩
          have HZ : Hid (∃ H2 : Hs, Hid (Two w.heap.size hp tb cap hq tc cbp w10 (G.does kd ax dl) H2) ∧ Hid (HI ms' H2) ∧ Hid (Twin (clear T B) (G.does kd ax dl) H2) ∧ Hid (Below w.heap.size w w10) ∧ Hid (Blk w10 gB (boolCells B) 4)) := by
            refine ⟨H'.does kd ax dl, ht10, HP.out.two.does HMs'.out.2 kd ax HXo.out.rng, ?_, HB9.out.trans hb10, hk10 _ _ _ (by decide) (by decide) (by decide) (by decide) HBk9.out⟩
            unfold Hid
            rw [HE.out, HE.out]
            exact HP.out.twin.navigate _
          clear ht10 hb10 hk10 HD2
          go_wp2_with fail
          go_meet
          exact ⟨rfl, HZ.out⟩
        · have hb0 : (QK == 0) = false := by rw [beq_eq_false_iff_ne]; exact h0
          by_cases h1 : QK = 1
          · have HE : Hid (∀ X : Hs, X.does kd ax dl = X.click QA) := fun X => by rw [HDo.out, if_neg h0, if_pos h1]
            subst h1
            go_wp2_with fail
            refine (P2.out _).mono ?_
            rintro e w' ⟨rfl, rfl⟩
            by_cases hqt : tq = T
            · have hqb : ((tq : Int) != (T : Int)) = false := by simp [hqt]
              have HZ : Hid (∃ H2 : Hs, Hid (Two w.heap.size hp tb cap hq tc cbp w9 (G.does kd ax dl) H2) ∧ Hid (HI ms' H2) ∧ Hid (Twin (clear T B) (G.does kd ax dl) H2) ∧ Hid (Below w.heap.size w w9) ∧ Hid (Blk w9 gB (boolCells B) 4)) := by
                refine ⟨H', HT9.out, HP.out.two, ?_, HB9.out, HBk9.out⟩
                unfold Hid
                rw [HE.out]
                exact HP.out.twin.clickL _ (by rw [HTq.out, hqt]; exact clear_t T B)
              clear hqt
              go_wp2_with fail
              go_meet
              exact ⟨rfl, HZ.out⟩
            · have hqb : ((tq : Int) != (T : Int)) = true := by simp; omega
              have HD2 : Hid (Calls Try.prog 9 #[.pointer (some ⟨hq, 0, none⟩), .agg #[.int .i64 kd, .int .i64 ax, .slice dao DL dcap]] w9 fun e w' => e = .returned (.bool true) ∧ Two w.heap.size hp tb cap hq tc cbp w' (G.does kd ax dl) (H'.does kd ax dl) ∧ Below w.heap.size w9 w' ∧ Keeps w9 w') := by
                have q := HT9.out.does_right HP.out.two HMs'.out.1 HMs'.out.2 (HG9.out.ne HM.out.1) HB9.out.size kd ax HXo.out.kind HXo.out.a dao dcap dl HXo.out.len (HXo.out.dr.toT HB9.out) HXo.out.rng
                rw [HDL.out] at q
                exact q
              clear hqt
              go_wp2_with fail
              refine HD2.out.mono ?_
              rintro e w10 ⟨rfl, ht10, hb10, hk10⟩
              have HZ : Hid (∃ H2 : Hs, Hid (Two w.heap.size hp tb cap hq tc cbp w10 (G.does kd ax dl) H2) ∧ Hid (HI ms' H2) ∧ Hid (Twin (clear T B) (G.does kd ax dl) H2) ∧ Hid (Below w.heap.size w w10) ∧ Hid (Blk w10 gB (boolCells B) 4)) := by
                refine ⟨H'.does kd ax dl, ht10, HP.out.two.does HMs'.out.2 kd ax HXo.out.rng, ?_, HB9.out.trans hb10, hk10 _ _ _ (by decide) (by decide) (by decide) (by decide) HBk9.out⟩
                unfold Hid
                rw [HE.out, HE.out]
                exact HP.out.twin.click _
              clear ht10 hb10 hk10 HD2
              go_wp2_with fail
              go_meet
              exact ⟨rfl, HZ.out⟩
          · have hb1 : (QK == 1) = false := by rw [beq_eq_false_iff_ne]; exact h1
            have HE : Hid (G.does kd ax dl = G.frame dl) := by unfold Hid; rw [HDo.out, if_neg h0, if_neg h1]
            have HOt : Hid (Calls Try.prog 22 #[.slice dao DL dcap, .int .i64 T, .slice ow.eo ow.ds.length ow.ec] w9 fun e w' => otherEnd dl T ow.ds w w9 e w') := by
              have q := other_any dao dcap dl T ow w w9 HB9.out HXo.out.len HXo.out.dr HOw.out (by omega)
              rw [HDL.out] at q
              exact q
            go_wp2_with fail
            refine HOt.out.mono ?_
            rintro e w10 ⟨oo, oc, acc, rfl, hal, haok, hae, hao, hb10⟩
            have hne' := HP.out.two.ne HMs'.out.1
            have hb10w : Below w.heap.size w w10 := HB9.out.trans (hb10.mono HB9.out.size)
            have hin : ∀ l ∈ acc.map (·.ds), InR l := by
              intro l hl
              obtain ⟨d, hd, rfl⟩ := List.mem_map.1 hl
              exact (haok d hd).rng
            have HD3 : Hid (Calls Try.prog 9 #[.pointer (some ⟨hq, 0, none⟩), .agg #[.int .i64 2, .int .i64 0, .slice oo 4 oc]] w10 fun e w' => e = .returned (.bool true) ∧ Two w.heap.size hp tb cap hq tc cbp w' (G.does kd ax dl) (H'.does 2 0 (acc.map (·.ds))) ∧ Below w.heap.size w10 w' ∧ Keeps w10 w') := by
              have ht10 := HT9.out.below (HG9.out.ne HM.out.1) hne' hb10
              have hds : DrsT w.heap.size hq tc cbp H' w10 oo (acc.map (·.ds)) := by
                refine drs_other (c := oc) (b2 := w9.heap.size) hne' haok hb10w ?_
                rw [hal]
                exact hao
              have q := ht10.does_right HP.out.two HMs'.out.1 HMs'.out.2 (HG9.out.ne HM.out.1) hb10w.size 2 0 ⟨by decide, by decide⟩ ⟨by decide, by decide⟩ oo oc (acc.map (·.ds)) (by rw [List.length_map, hal]; decide) hds hin
              rw [List.length_map, hal] at q
              exact q
            have HTw : Hid (Twin (clear T B) (G.does kd ax dl) (H'.does 2 0 (acc.map (·.ds))) ∧ HI ms' (H'.does 2 0 (acc.map (·.ds)))) := by
              refine ⟨?_, HP.out.two.does HMs'.out.2 2 0 hin⟩
              rw [HE.out]
              have e2 : H'.does 2 0 (acc.map (·.ds)) = H'.frame (acc.map (·.ds)) := rfl
              rw [e2]
              refine HP.out.twin.frame HP.out.one HP.out.two HM.out.2 HAl.out.1 HSe.out.1 HSe.out.2 HXo.out.rng hin ?_
              intro u hu hul
              have hu4 : u < acc.length := by have := HM.out.2; omega
              have hx : acc[u]? = some acc[u] := List.getElem?_eq_getElem hu4
              have e3 := hae u _ hx
              rw [if_neg (clear_ne hu)] at e3
              have e4 : drawsOf (acc.map (·.ds)) u = acc[u].ds := by
                unfold drawsOf
                rw [List.getD_eq_getElem?_getD, List.getElem?_map, hx]
                rfl
              rw [e4]
              exact e3
            have HB10 : Hid (Below w.heap.size w w10) := hb10w
            have HBk10 : Hid (Blk w10 gB (boolCells B) 4) := HBk9.out.below hb10 HBk9.out.lt
            clear hal haok hae hao hb10 hb10w hne' hin HOt
            go_wp2_with fail
            refine HD3.out.mono ?_
            rintro e w11 ⟨rfl, ht11, hb11, hk11⟩
            have HZ : Hid (∃ H2 : Hs, Hid (Two w.heap.size hp tb cap hq tc cbp w11 (G.does kd ax dl) H2) ∧ Hid (HI ms' H2) ∧ Hid (Twin (clear T B) (G.does kd ax dl) H2) ∧ Hid (Below w.heap.size w w11) ∧ Hid (Blk w11 gB (boolCells B) 4)) :=
              ⟨_, ht11, HTw.out.2, HTw.out.1, HB10.out.trans hb11, hk11 _ _ _ (by decide) (by decide) (by decide) (by decide) HBk10.out⟩
            clear ht11 hb11 hk11 HD3
            go_wp2_with fail
            go_meet
            exact ⟨rfl, HZ.out⟩
      case rest =>
        obtain ⟨rfl, H2, HT2, HI2, HW2, HB2, HK2⟩ := hcut
        obtain ⟨G2, hG2⟩ : ∃ G2, G2 = G.does kd ax dl := ⟨_, rfl⟩
        rw [← hG2] at HT2 HW2 HG9
        clear hG2 HT9 HB9 HX9 HBk9 HP HXo HDL P1 P2 HDo HTq e0 e1 e2 hdv hdw hqk hqa
        go_upto_if 112 with fail
        go_cut [22] from 112 to 130 (fun v wx => v = .bool true ∧ ∃ H3 : Hs, Hid (Two w.heap.size hp tb cap hq tc cbp wx G2 H3) ∧ Hid (HI ms' H3) ∧ Hid (Twin (clear T B) G2 H3) ∧ Hid (Below w.heap.size w wx) ∧ Hid (Blk wx gB (boolCells B) 4))
        case first =>
          by_cases hc0 : CL = 0
          · subst hc0
            go_wp2_with fail
            go_meet
            exact ⟨rfl, H2, HT2, HI2, HW2, HB2, HK2⟩
          · obtain ⟨j, hj⟩ : ∃ j, j = k % CL := ⟨_, rfl⟩
            have hjl : j < CL := by rw [hj]; exact Nat.mod_lt _ (by omega)
            obtain ⟨c, hc⟩ : ∃ c, cl[j]? = some c := ⟨cl[j]'(by have := HCL.out; omega), List.getElem?_eq_getElem (by have := HCL.out; omega)⟩
            obtain ⟨cb, coff, rfl, hcbl, hcrow⟩ : ∃ b off, ca = some ⟨b, off, none⟩ ∧ b < w.heap.size ∧ IntRow w b off cl := HCa.out.resolve_left (by rintro rfl; simp at hc)
            have hcc := (hcrow.below HB2.out hcbl) j c hc
            have hcin := HCr.out c (List.mem_of_getElem? hc)
            have hmod : (k : Int).tmod (CL : Int) = (j : Int) := by rw [Int.tmod_eq_emod_of_nonneg (by omega), hj]; rfl
            have hmw : IntKind.i64.wrap (j : Int) = (j : Int) := by rw [IntKind.wrap_i64]; omega
            have hcz : ((CL : Int) == 0) = false := by rw [beq_eq_false_iff_ne]; omega
            have hcp : (0 : Int) < (CL : Int) := by omega
            have hcp2 : 0 < CL := by omega
            have hji : (j : Int) < (CL : Int) := by omega
            have hj0 : (0 : Int) ≤ (j : Int) := by omega
            have P3 : Hid (∀ u : World, Calls Try.prog 10 #[.int .i64 c, .int .i64 100] u fun e w' => e = .returned (.int .i64 (H.pk c 100)) ∧ u = w') := fun u => pick_any c 100 u hcin.1 hcin.2 (by decide) (by decide)
            have hpc := H.pk_range c 100 (by decide)
            generalize H.pk c 100 = pc at P3 hpc
            have hw1 : IntKind.i64.wrap (100 * (T : Int)) = 100 * (T : Int) := by rw [IntKind.wrap_i64]; omega
            have hw2 : IntKind.i64.wrap (100 * (T : Int) + pc) = 100 * (T : Int) + pc := by rw [IntKind.wrap_i64]; omega
            obtain ⟨id, hid⟩ : ∃ id, id = 100 * (T : Int) + pc := ⟨_, rfl⟩
            have hidr : 0 ≤ id ∧ id < 400 := by omega
            have HE : Hid (H2.does 1 id [] = H2.click id) := by
              unfold Hid
              have e1 : H2.does 1 id [] = H2.click (H.pk id 400) := rfl
              have e2 : H.pk id 400 = id := by
                unfold H.pk
                rw [if_neg (by omega)]
                omega
              rw [e1, e2]
            have HT' : Hid ((id / 100).toNat = T) := by unfold Hid; omega
            have HD4 : Hid (Calls Try.prog 9 #[.pointer (some ⟨hq, 0, none⟩), .agg #[.int .i64 1, .int .i64 (100 * (T : Int) + pc), .slice none 0 0]] wc fun e w' => e = .returned (.bool true) ∧ Two w.heap.size hp tb cap hq tc cbp w' G2 (H2.does 1 id []) ∧ Below w.heap.size wc w' ∧ Keeps wc w') := by
              rw [← hid]
              exact HT2.out.does_right HI2.out HMs'.out.1 HMs'.out.2 (HG9.out.ne HM.out.1) HB2.out.size 1 id ⟨by decide, by decide⟩ ⟨by omega, by omega⟩ none 0 [] (Nat.zero_le _) (DrsT.nil none) (fun l hl => by simp at hl)
            clear hj hc hcrow hid hcin hc0
            go_wp2_with fail
            refine (P3.out _).mono ?_
            rintro e w' ⟨rfl, rfl⟩
            go_wp2_with fail
            refine HD4.out.mono ?_
            rintro e w10 ⟨rfl, ht10, hb10, hk10⟩
            have HZ : Hid (∃ H3 : Hs, Hid (Two w.heap.size hp tb cap hq tc cbp w10 G2 H3) ∧ Hid (HI ms' H3) ∧ Hid (Twin (clear T B) G2 H3) ∧ Hid (Below w.heap.size w w10) ∧ Hid (Blk w10 gB (boolCells B) 4)) := by
              refine ⟨H2.does 1 id [], ht10, HI2.out.does HMs'.out.2 1 id (fun l hl => by simp at hl), ?_, HB2.out.trans hb10, hk10 _ _ _ (by decide) (by decide) (by decide) (by decide) HK2.out⟩
              unfold Hid
              rw [HE.out]
              exact HW2.out.clickR _ (by rw [HT'.out]; exact clear_t T B)
            clear ht10 hb10 hk10 HD4
            go_wp2_with fail
            go_meet
            exact ⟨rfl, HZ.out⟩
        case rest =>
          obtain ⟨rfl, H3, HT3, HI3, HW3, HB3, HK3⟩ := hcut
          clear HT2 HI2 HW2 HB2 HK2
          go_wp2_with fail
          go_loopw [139] (fun i wr => ∃ j : Nat, j ≤ n ∧ i = .int .i64 j ∧ Hid (Two w.heap.size hp tb cap hq tc cbp wr G2 H3) ∧ Hid (Below w.heap.size w wr) ∧ Hid (Blk wr gB (boolCells B) 4))
            (fun i _ => n - (intOf i).toNat)
          case atStart => exact ⟨0, Nat.zero_le _, rfl, HT3.out, HB3.out, HK3.out⟩
          case round =>
            obtain ⟨j, hj, rfl, HTj, HBj, HKj⟩ := hrel
            clear HT3 HB3 HK3
            by_cases hlj : j < n
            · have hji : (j : Int) < (n : Int) := by omega
              have hj0 : (0 : Int) ≤ (j : Int) := by omega
              by_cases hjT : j = T
              · have hjb : ((j : Int) == (T : Int)) = true := by simp [hjT]
                clear hjT
                go_wp2
                go_roundw
                case rel => exact ⟨j + 1, by omega, by go_num, HTj, HBj, HKj⟩
                case measure => simp [intOf]; omega
              · have hjb : ((j : Int) == (T : Int)) = false := by rw [beq_eq_false_iff_ne]; omega
                obtain ⟨bj, hbj⟩ : ∃ x, B[j]? = some x := ⟨B[j]'(by have := HBl.out; omega), List.getElem?_eq_getElem (by have := HBl.out; omega)⟩
                have cj : wr.cell? ⟨gB, j, none⟩ = some (.bool bj) := by rw [HKj.out.cell j]; unfold boolCells; simp [hbj]
                cases bj with
                | true =>
                  clear hjT hbj
                  go_wp2
                  go_roundw
                  case rel => exact ⟨j + 1, by omega, by go_num, HTj, HBj, HKj⟩
                  case measure => simp [intOf]; omega
                | false =>
                  have hcl : clear T B j = true := by
                    simp only [clear, Bool.and_eq_true, decide_eq_true_eq, Bool.not_eq_true']
                    refine ⟨hjT, ?_⟩
                    rw [List.getD_eq_getElem?_getD, hbj]
                    rfl
                  have HTx : Hid (Calls Try.prog 23 #[.pointer (some ⟨hp, 0, none⟩), .pointer (some ⟨hq, 0, none⟩), .int .i64 j] wr fun e w' => e = .returned (.bool true) ∧ Below wr.heap.size wr w') := HTj.out.twins_any HG9.out HI3.out HM.out.2 HMs'.out.2 HW3.out j (by rw [Hn.out]; exact hlj) hcl
                  clear hjT hbj hcl
                  go_wp2_with fail
                  refine HTx.out.mono ?_
                  rintro e w10 ⟨rfl, hb10⟩
                  have HT4 : Hid (Two w.heap.size hp tb cap hq tc cbp w10 G2 H3) := HTj.out.below (HG9.out.ne HM.out.1) (HI3.out.ne HMs'.out.1) hb10
                  have HB4 : Hid (Below w.heap.size w w10) := HBj.out.trans (hb10.mono HBj.out.size)
                  have HK4 : Hid (Blk w10 gB (boolCells B) 4) := HKj.out.below hb10 HKj.out.lt
                  clear hb10 HTx HTj HBj HKj cj
                  go_wp2
                  go_roundw
                  case rel => exact ⟨j + 1, by omega, by go_num, HT4, HB4, HK4⟩
                  case measure => simp [intOf]; omega
            · have hji : ¬ (j : Int) < (n : Int) := by omega
              go_wp2
              go_roundw
              case rel => exact ⟨k + 1, G2, H3, by omega, by go_num, HTj, ⟨HG9.out, HI3.out, HW3.out⟩, HBj, HKj⟩
              case measure => simp [intOf]; omega
    · have hki : ¬ (k : Int) < (N : Int) := by omega
      go_wp2
      go_ret
      exact ⟨rfl, HB.out⟩
end Go.Proofs.Ytidaflmmldefcaa
