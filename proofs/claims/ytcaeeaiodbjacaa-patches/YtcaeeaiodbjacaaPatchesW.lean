/-
  The walk of Patches.
-/
import Derived.Test.YtcaeeaiodbjacaaPlansW
import Derived.Test.YtcaeeaiodbjacaaPtC
import Derived.Test.YtcaeeaiodbjacaaApplyR
namespace Go.Proofs.Ytcaeeaiodbjacaa
open Go.RowKit
set_option linter.unusedVariables false

/-- The patch that stands in the spare room. -/
def sparePt : T.Pt := (0, 0, 200, 0, ⟨#[]⟩)

set_option maxRecDepth 100000 in
set_option maxHeartbeats 8000000 in
theorem patches_walk (vl : Value) (so : Option Addr) (sc : Nat) (old : List T.Nd) (shows : List T.Pt) (w : World) (hl : shows.length ≤ 3518437208780) (ha : PtAt w so shows) (hn0 : so = none → shows = [] ∧ sc = 0)
    (HL : Hid (Calls Try.prog 10 #[vl] w fun e w1 => ∃ vr, e = .returned vr ∧ Below w.heap.size w w1 ∧ Hid (∀ (u : World) (g : Nat), Below w1.heap.size w1 u → PtAt u (some ⟨g, 0, none⟩) shows → Calls Try.prog 18 #[vr, .slice (some ⟨g, 0, none⟩) shows.length (shows.length + 1)] u fun e w' => applyEnd old shows u e w') ∧ Hid (∀ u : World, Below w1.heap.size w1 u → Calls Try.prog 16 #[vr, vl] u fun e w' => e = .returned (.bool true) ∧ Below u.heap.size u w')))
    (HR : Hid (∀ u : World, Below w.heap.size w u → Calls Try.prog 19 #[vl, .slice so shows.length sc] u fun e w' => refApplyEnd old shows u e w')) :
    Calls Try.prog 4 #[vl, .slice so shows.length sc] w fun e w' => e = .returned (.bool true) ∧ Below w.heap.size w w' := by
  obtain ⟨i0, hi, hz0, hz1, hz2⟩ := info_parts infoPt
  obtain ⟨n, hn⟩ : ∃ n, n = shows.length := ⟨_, rfl⟩
  have Hn : Hid (shows.length = n) := hn.symm
  rw [← hn] at hl HL HR ⊢
  have HA : Hid (PtAt w so shows) := ha
  have HN0 : Hid (so = none → shows = [] ∧ sc = 0) := hn0
  clear hn ha hn0
  go_enter Try.func4, Try.ntmps4
  go_wp2_with fail
  refine HL.out.mono ?_
  rintro e w1 ⟨vr, rfl, hb1, HP, HK⟩
  have B1 : Hid (Below w.heap.size w w1) := hb1
  clear hb1 HL
  go_wp2_with (at_make; refine wpList_make_full _ rfl (.tmp 25) (.tmp 25) 44 rfl w1.heap.size 46 i0 (.agg #[.int .u8 0, .int .u8 0, .int .i64 0, .int .u16 0, .string ⟨#[]⟩]) 5 Try.underlying44 hi hz0 hz1 .i64 .i64 _ _ (n + 1) rfl rfl (by first | rfl | go_num | (simp; omega) | omega) (by first | rfl | go_num | (simp; omega) | omega) (by rw [hz2]; omega) (by unfold maxLen; omega) (Nat.le_refl _) ?_)
  intro w2 ho2 hg2
  obtain ⟨cur, hcur, hcs⟩ : ∃ cur : Array Value, w2.heap[w1.heap.size]? = some (.cells cur 46 (0, 0)) ∧ cur.toList = (madeCells #[.int .u8 0, .int .u8 0, .int .i64 0, .int .u16 0, .string ⟨#[]⟩] ((n + 1) * 5)).toList := by
    rcases ho2.2 with ⟨h, _⟩ | ⟨g, cp, cur, h, _, h2, _, _, h5, h6⟩
    · simp at h
    · simp only [Value.slice.injEq, Option.some.injEq, Addr.mk.injEq, and_true, true_and] at h
      obtain ⟨rfl, rfl⟩ := h
      refine ⟨cur, h2, ?_⟩
      rw [← h6, List.take_of_length_le (by simp [h5])]
  have hnl : (ptCells shows).length = n * 5 := by rw [ptCells_length, Hn.out]
  have hcz : cur.size = (n + 1) * 5 := by
    have := congrArg List.length hcs
    simpa [madeCells] using this
  have hdrop : cur.toList.drop (ptCells shows).length = [.int .u8 0, .int .u8 0, .int .i64 0, .int .u16 0, .string ⟨#[]⟩] := by rw [hcs, hnl]; exact made_last5 _ _ _ _ _ n
  have hb2 : Below w1.heap.size w1 w2 := (Below.refl _ _).grown hg2 (Nat.le_refl _) (by simp)
  have hsrc : (so = none ∧ n = 0 ∧ sc = 0) ∨ ∃ a, so = some a ∧ ∀ j v, (ptCells shows)[j]? = some v → w2.cell? (a.add j) = some v := by
    cases so with
    | none =>
      obtain ⟨h1, h2⟩ := HN0.out rfl
      exact Or.inl ⟨rfl, by rw [← Hn.out, h1]; rfl, h2⟩
    | some a =>
      refine Or.inr ⟨a, rfl, ?_⟩
      intro j v hj
      rcases HA.out with h | ⟨b, off, e, hb, hr⟩
      · subst h; simp [ptCells] at hj
      · simp only [Option.some.injEq] at e
        subst e
        have h1 := ptRow_cells (hr.below (B1.out.trans (hb2.mono B1.out.size)) hb) j v hj
        exact h1
  have B2 : Hid (Below w1.heap.size w1 w2) := hb2
  have HCUR : Hid (w2.heap[w1.heap.size]? = some (.cells cur 46 (0, 0))) := hcur
  have HNL : Hid ((ptCells shows).length = n * 5) := hnl
  have HDR : Hid (cur.toList.drop (ptCells shows).length = [.int .u8 0, .int .u8 0, .int .i64 0, .int .u16 0, .string ⟨#[]⟩]) := hdrop
  have HFIT : Hid ((ptCells shows).length ≤ cur.size) := by unfold Hid; rw [hnl, hcz]; omega
  have hcopy := run_copy_pt w2 w1.heap.size n (n + 1) so sc cur (ptCells shows) hcur hnl hsrc HFIT.out (ptCells_one shows)
  rw [hdrop] at hcopy
  have hblk : Blk (w2.setRow w1.heap.size (ptCells shows ++ ([.int .u8 0, .int .u8 0, .int .i64 0, .int .u16 0, .string ⟨#[]⟩] : List Value)).toArray) w1.heap.size (ptCells shows ++ ([.int .u8 0, .int .u8 0, .int .i64 0, .int .u16 0, .string ⟨#[]⟩] : List Value)).toArray 46 := setRow_heap w2 w1.heap.size cur _ 46 (0, 0) HCUR.out
  have hbel : Below w1.heap.size w1 (w2.setRow w1.heap.size (ptCells shows ++ ([.int .u8 0, .int .u8 0, .int .i64 0, .int .u16 0, .string ⟨#[]⟩] : List Value)).toArray) := below_setRow B2.out (Nat.le_refl _) _
  clear ho2 hg2 hcur hcs hnl hcz hdrop hsrc hb2
  generalize w2.setRow w1.heap.size (ptCells shows ++ ([.int .u8 0, .int .u8 0, .int .i64 0, .int .u16 0, .string ⟨#[]⟩] : List Value)).toArray = w3 at hcopy hblk hbel
  have c1 : w3.cell? ⟨w1.heap.size, n * 5 + 2, none⟩ = some (.int .i64 0) := by
    rw [hblk.cell, ← HNL.out]
    simp
  have f1 := hblk.free (n * 5 + 2)
  have h3 := hblk.set (n * 5 + 2) (.int .i64 200)
  have e3 : (ptCells shows ++ ([.int .u8 0, .int .u8 0, .int .i64 0, .int .u16 0, .string ⟨#[]⟩] : List Value)).toArray.setIfInBounds (n * 5 + 2) (.int .i64 200) = (ptCells (shows ++ [sparePt])).toArray := by
    rw [ptCells_snoc, ← HNL.out]
    apply Array.ext'
    simp [sparePt]
  rw [e3] at h3
  obtain ⟨g, hgd⟩ : ∃ g, g = w1.heap.size := ⟨_, rfl⟩
  have Hg : Hid (g = w1.heap.size) := hgd
  have B3 : Hid (Below w1.heap.size w1 (w3.setCell ⟨w1.heap.size, n * 5 + 2, none⟩ (.int .i64 200))) := hbel.setCell (Nat.le_refl _) _
  have HBLK : Hid (Blk (w3.setCell ⟨w1.heap.size, n * 5 + 2, none⟩ (.int .i64 200)) g (ptCells (shows ++ [sparePt])).toArray 46) := by unfold Hid; rw [hgd]; exact h3
  have hni : (n : Int) < (n : Int) + 1 := by omega
  clear hblk hbel h3 e3 HCUR HDR HFIT B2
  go_wp2_with fail
  rw [← hgd] at B3 HBLK ⊢
  obtain ⟨w4, hw4⟩ : ∃ w4, w4 = w3.setCell ⟨g, n * 5 + 2, none⟩ (.int .i64 200) := ⟨_, rfl⟩
  rw [← hw4] at B3 HBLK ⊢
  clear hw4 c1 f1 hcopy hgd
  have HSh : Hid (∀ u : World, Below w4.heap.size w4 u → PtAt u (some ⟨g, 0, none⟩) shows) := by
    intro u hu
    have h := HBLK.out.below hu HBLK.out.lt
    exact Or.inr ⟨g, 0, rfl, h.lt, (ptRow_of h rfl).front⟩
  have hs4 : w1.heap.size ≤ w4.heap.size := B3.out.size
  have B4 : Hid (Below w1.heap.size w1 w4) := by unfold Hid; rw [← Hg.out]; exact B3.out
  clear B3
  -- the first
  refine (HP.out w4 g B4.out (HSh.out w4 (Below.refl _ _))).mono ?_
  rintro e w5 ⟨va, rfl, ha5, hb5⟩
  obtain ⟨ao, ac, rfl, _, _⟩ := own_at' ha5
  have HA5 : Hid (w5.ownsRow w4.heap.size 60 3 (.slice ao (T.applyO old shows).length ac) (T.applyO old shows).length (ndCells (T.applyO old shows))) := ha5
  have B5 : Hid (Below w4.heap.size w4 w5) := hb5
  clear ha5 hb5
  have hlen := applyO_len old shows
  obtain ⟨pe, hpe⟩ : ∃ pe, pe = T.applyE old shows := ⟨_, rfl⟩
  have Hpe : Hid (T.applyE old shows = pe) := hpe.symm
  obtain ⟨pl, hpl⟩ : ∃ pl, pl = T.applyO old shows := ⟨_, rfl⟩
  have Hpl : Hid (T.applyO old shows = pl) := hpl.symm
  obtain ⟨k, hk⟩ : ∃ k, k = pl.length := ⟨_, rfl⟩
  have Hk : Hid (pl.length = k) := hk.symm
  rw [← hpl, ← hk] at HA5 hlen ⊢
  rw [← hpe]
  clear hpe hpl hk
  go_wp2_with fail
  -- the second
  refine (HP.out w5 g (B4.out.trans (B5.out.mono hs4)) (HSh.out w5 B5.out)).mono ?_
  rintro e w6 ⟨vc, rfl, hc6, hb6⟩
  rw [Hpl.out, Hk.out] at hc6
  rw [Hpe.out]
  obtain ⟨co, cc, rfl⟩ := own_is hc6
  have HT6 : Hid (Two w6 w4.heap.size ao co k k ac cc pl pl) := Two.of HA5.out Hk.out hb6 hc6 Hk.out B5.out.size
  have B6 : Hid (Below w4.heap.size w4 w6) := B5.out.trans (hb6.mono B5.out.size)
  clear hc6 hb6 HP HA5 B5
  go_wp2_with fail
  -- the document's
  refine (HR.out w6 (B1.out.trans ((B4.out.trans (B6.out.mono hs4)).mono B1.out.size))).mono ?_
  rintro e w7 ⟨dO, dc, rfl, hd7, hb7⟩
  rw [Hpl.out] at hd7
  rw [Hpl.out, Hk.out, Hpe.out]
  have HD7 : Hid (NodeAt w7 dO pl) := hd7
  have HT7 : Hid (Two w7 w4.heap.size ao co k k ac cc pl pl) := HT6.out.below hb7
  have B7 : Hid (Below w4.heap.size w4 w7) := B6.out.trans (hb7.mono B6.out.size)
  clear hd7 hb7 HR HT6 B6
  have S1 : Hid (Calls Try.prog 13 #[.slice ao k ac, .slice dO k dc] w7 fun e w' => e = .returned (.bool true) ∧ Below w7.heap.size w7 w') := by
    unfold Hid
    have := sameN_any ao dO ac dc pl pl w7 (by have := Hk.out; unfold maxLen; omega) (by have := Hk.out; unfold maxLen; omega) (own_at HT7.out.one Hk.out).1 HD7.out
    rw [Hk.out] at this
    simpa using this
  have S2 : Hid (∀ u, Below w7.heap.size w7 u → Calls Try.prog 13 #[.slice co k cc, .slice dO k dc] u fun e w' => e = .returned (.bool true) ∧ Below u.heap.size u w') := by
    intro u hu
    have := sameN_any co dO cc dc pl pl u (by have := Hk.out; unfold maxLen; omega) (by have := Hk.out; unfold maxLen; omega) ((own_at HT7.out.two Hk.out).1.below hu (Nat.le_refl _) hu.size) (HD7.out.below hu (Nat.le_refl _) hu.size)
    rw [Hk.out] at this
    simpa using this
  clear HD7
  go_wp2_with fail
  refine S1.out.mono ?_
  rintro e w8 ⟨rfl, hb8⟩
  have C8 : Hid (Below w7.heap.size w7 w8) := hb8
  clear hb8 S1
  go_wp2_with fail
  refine (S2.out w8 C8.out).mono ?_
  rintro e w9 ⟨rfl, hb9⟩
  have HT9 : Hid (Two w9 w4.heap.size ao co k k ac cc pl pl) := HT7.out.below (C8.out.trans (hb9.mono C8.out.size))
  have B9 : Hid (Below w4.heap.size w4 w9) := B7.out.trans ((C8.out.trans (hb9.mono C8.out.size)).mono B7.out.size)
  have hs9 := B9.out.size
  clear hb9 S2 C8 HT7 B7
  -- the books
  have HB9 : Hid (Blk (w9.alloc (.cells #[.slice none 0 0, .slice none 0 0, .slice none 0 0, .bool false, .slice none 0 0, .slice none 0 0, .slice none 0 0, .slice none 0 0, .slice none 0 0, .slice none 0 0] 39)) w9.heap.size emptyBook 39) := Blk.new w9 _ 39
  have HTa : Hid (Two (w9.alloc (.cells #[.slice none 0 0, .slice none 0 0, .slice none 0 0, .bool false, .slice none 0 0, .slice none 0 0, .slice none 0 0, .slice none 0 0, .slice none 0 0, .slice none 0 0] 39)) w4.heap.size ao co k k ac cc pl pl) := HT9.out.below ((Below.refl _ _).alloc (Nat.le_refl _) _)
  have B10 : Hid (Below w4.heap.size w4 (w9.alloc (.cells #[.slice none 0 0, .slice none 0 0, .slice none 0 0, .bool false, .slice none 0 0, .slice none 0 0, .slice none 0 0, .slice none 0 0, .slice none 0 0, .slice none 0 0] 39))) := B9.out.alloc hs9 _
  clear HT9 B9
  go_wp2_with fail
  refine (keep_first HB9.out HTa.out hs9 (by simp; omega) hlen).mono ?_
  rintro e w11 ⟨rfl, hm11, hb11⟩
  have HM11 : Hid (MidBook w11 w4.heap.size w9.heap.size ao co k k ac cc pl pl) := hm11
  have B11 : Hid (Below w4.heap.size w4 w11) := B10.out.trans hb11
  clear hm11 hb11 HB9 HTa B10
  go_wp2_with fail
  refine (keep_second HM11.out hs9 B11.out.size hlen hlen).mono ?_
  rintro e w12 ⟨rfl, hm12, hb12⟩
  have HM12 : Hid (LastBook w12 w4.heap.size w9.heap.size co k cc pl) := hm12
  have B12 : Hid (Below w4.heap.size w4 w12) := B11.out.trans hb12
  clear hm12 hb12 HM11 B11
  go_wp2_with fail
  refine (ends_last HM12.out hs9 B12.out.size hlen).mono ?_
  rintro e w13 ⟨rfl, hb13⟩
  have B13 : Hid (Below w4.heap.size w4 w13) := B12.out.trans hb13
  clear hb13 HM12 B12
  have t1 : (pe == pe) = true := by simp
  have t2 : (pe != pe) = false := by simp
  have HRow : Hid (PtRow w13 g 0 (shows ++ [sparePt])) := ptRow_of (HBLK.out.below B13.out HBLK.out.lt) rfl
  have HA13 : Hid (PtAt w13 so shows) := by
    have hb : Below w.heap.size w w13 := B1.out.trans ((B4.out.trans (B13.out.mono hs4)).mono B1.out.size)
    exact HA.out.below hb (Nat.le_refl _) hb.size
  go_wp2_with fail
  go_loopw [18] (fun i wr => ∃ (kk q : Nat), kk ≤ n ∧ i = .int .i64 kk ∧ wr = w13.drewN q)
    (fun i _ => n - (intOf i).toNat)
  case atStart => exact ⟨0, 0, Nat.zero_le _, rfl, rfl⟩
  case round =>
    obtain ⟨kk, q, hkk, rfl, rfl⟩ := hrel
    by_cases hlt : kk < n
    · obtain ⟨x, hx⟩ : ∃ x, shows[kk]? = some x := ⟨shows[kk]'(by have := Hn.out; omega), List.getElem?_eq_getElem (by have := Hn.out; omega)⟩
      obtain ⟨b, off, rfl, hbl, hr⟩ : ∃ b off, so = some ⟨b, off, none⟩ ∧ b < w13.heap.size ∧ PtRow w13 b off shows := HA13.out.resolve_left (by rintro rfl; simp at hx)
      obtain ⟨c0, c1, c2, c3, c4⟩ := HRow.out.front kk _ hx
      obtain ⟨d0, d1, d2, d3, d4⟩ := hr kk _ hx
      obtain ⟨x1, x2, x3, x4, x5⟩ := x
      rw [Nat.zero_add] at c0 c1 c2 c3 c4
      simp only at c0 c1 c2 c3 c4 d0 d1 d2 d3 d4
      have hi : (kk : Int) < (n : Int) := by omega
      have hi2 : (kk : Int) < (n : Int) + 1 := by omega
      have h0 : (0 : Int) ≤ (kk : Int) := by omega
      have s1 : (x1 == x1) = true := by simp
      have s2 : (x2 == x2) = true := by simp
      have s3 : (x3 == x3) = true := by simp
      have s4 : (x4 == x4) = true := by simp
      have s5 : (x5.toList == x5.toList) = true := by simp
      clear hx hr
      go_wp2_with fail
      go_quiet (fail)
      go_wp2
      go_roundw
      case rel => exact ⟨kk + 1, _, by omega, by go_num, by first | rfl | simp⟩
      case measure => simp [intOf]; omega
    · have hi : ¬ (kk : Int) < (n : Int) := by omega
      have Bq : Hid (Below w4.heap.size w4 (w13.drewN q)) := below_drewN B13.out q
      go_wp2_with fail
      refine (HK.out _ (B4.out.trans (Bq.out.mono hs4))).mono ?_
      rintro e w14 ⟨rfl, hb14⟩
      have hb414 : Below w4.heap.size w4 w14 := Bq.out.trans (hb14.mono Bq.out.size)
      have HEnd : Hid (Below w.heap.size w w14) := B1.out.trans ((B4.out.trans (hb414.mono hs4)).mono B1.out.size)
      have hq : PtRow w14 g 0 (shows ++ [sparePt]) := ptRow_of (HBLK.out.below hb414 HBLK.out.lt) rfl
      obtain ⟨q0, q1, q2, q3, q4⟩ := hq n sparePt (by rw [← Hn.out]; simp)
      rw [Nat.zero_add] at q0 q1 q2 q3 q4
      simp only [sparePt] at q0 q1 q2 q3 q4
      clear hb14 hb414 hq HK HBLK HSh HRow HA13 Bq B13
      go_wp2
      go_ret
      exact ⟨rfl, HEnd.out⟩

end Go.Proofs.Ytcaeeaiodbjacaa
