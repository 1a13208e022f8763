/-
  The walk of Plans.
-/
import Derived.Test.YtcaeeaiodbjacaaBookP
import Derived.Test.YtcaeeaiodbjacaaShowC
import Derived.Test.YtcaeeaiodbjacaaPlanR
import Derived.Test.YtcaeeaiodbjacaaMarksW
namespace Go.Proofs.Ytcaeeaiodbjacaa
open Go.RowKit
set_option linter.unusedVariables false

theorem planO_len (old : List T.Nd) (shows : List T.Sh) : (T.planO old shows).length ≤ 16 := by
  unfold T.planO
  split
  · rename_i h
    unfold T.planOk at h
    simp only [Bool.and_eq_true] at h
    exact ((T.isTree_iff _).1 h.2).1
  · simp

/-- The show that stands in the spare room. -/
def spareSh : T.Sh := (200, ⟨#[]⟩)

/-- What is known of two equal answers and the document's. -/
theorem own_at' {w : World} {base : Nat} {v : Value} {l : List T.Nd} (h : w.ownsRow base 60 3 v l.length (ndCells l)) : ∃ ao cap, v = .slice ao l.length cap ∧ l.length ≤ cap ∧ NodeAt w ao l := by
  obtain ⟨ao, cap, e, h1, _, h2⟩ := own_node h
  exact ⟨ao, cap, e, h1, h2⟩

set_option maxRecDepth 100000 in
set_option maxHeartbeats 8000000 in
theorem plans_walk (vl : Value) (so : Option Addr) (sc : Nat) (old : List T.Nd) (shows : List T.Sh) (w : World) (hl : shows.length ≤ 5864062014800) (ha : ShAt w so shows) (hn0 : so = none → shows = [] ∧ sc = 0)
    (HL : Hid (Calls Try.prog 10 #[vl] w fun e w1 => ∃ vr, e = .returned vr ∧ Below w.heap.size w w1 ∧ Hid (∀ (u : World) (g : Nat), Below w1.heap.size w1 u → ShAt u (some ⟨g, 0, none⟩) shows → Calls Try.prog 11 #[vr, .slice (some ⟨g, 0, none⟩) shows.length (shows.length + 1)] u fun e w' => planEnd old shows u e w') ∧ Hid (∀ u : World, Below w1.heap.size w1 u → Calls Try.prog 16 #[vr, vl] u fun e w' => e = .returned (.bool true) ∧ Below u.heap.size u w')))
    (HR : Hid (∀ u : World, Below w.heap.size w u → Calls Try.prog 12 #[vl, .slice so shows.length sc] u fun e w' => planEnd old shows u e w')) :
    Calls Try.prog 3 #[vl, .slice so shows.length sc] w fun e w' => e = .returned (.bool true) ∧ Below w.heap.size w w' := by
  obtain ⟨i0, hi, hz0, hz1, hz2⟩ := info_parts infoSh
  obtain ⟨n, hn⟩ : ∃ n, n = shows.length := ⟨_, rfl⟩
  have Hn : Hid (shows.length = n) := hn.symm
  rw [← hn] at hl HL HR ⊢
  have HA : Hid (ShAt w so shows) := ha
  have HN0 : Hid (so = none → shows = [] ∧ sc = 0) := hn0
  clear hn ha hn0
  go_enter Try.func3, Try.ntmps3
  go_wp2_with fail
  refine HL.out.mono ?_
  rintro e w1 ⟨vr, rfl, hb1, HP, HK⟩
  have B1 : Hid (Below w.heap.size w w1) := hb1
  clear hb1 HL
  go_wp2_with (at_make; refine wpList_make_full _ rfl (.tmp 25) (.tmp 25) 23 rfl w1.heap.size 27 i0 (.agg #[.int .u16 0, .string ⟨#[]⟩]) 2 Try.underlying23 hi hz0 hz1 .i64 .i64 _ _ (n + 1) rfl rfl (by first | rfl | go_num | (simp; omega) | omega) (by first | rfl | go_num | (simp; omega) | omega) (by rw [hz2]; omega) (by unfold maxLen; omega) (Nat.le_refl _) ?_)
  intro w2 ho2 hg2
  obtain ⟨cur, hcur, hcs⟩ : ∃ cur : Array Value, w2.heap[w1.heap.size]? = some (.cells cur 27 (0, 0)) ∧ cur.toList = (madeCells #[.int .u16 0, .string ⟨#[]⟩] ((n + 1) * 2)).toList := by
    rcases ho2.2 with ⟨h, _⟩ | ⟨g, cp, cur, h, _, h2, _, _, h5, h6⟩
    · simp at h
    · simp only [Value.slice.injEq, Option.some.injEq, Addr.mk.injEq, and_true, true_and] at h
      obtain ⟨rfl, rfl⟩ := h
      refine ⟨cur, h2, ?_⟩
      rw [← h6, List.take_of_length_le (by simp [h5])]
  have hnl : (shCells shows).length = n * 2 := by rw [shCells_length, Hn.out]
  have hcz : cur.size = (n + 1) * 2 := by
    have := congrArg List.length hcs
    simpa [madeCells] using this
  have hdrop : cur.toList.drop (shCells shows).length = [.int .u16 0, .string ⟨#[]⟩] := by rw [hcs, hnl]; exact made_last2 _ _ n
  have hb2 : Below w1.heap.size w1 w2 := (Below.refl _ _).grown hg2 (Nat.le_refl _) (by simp)
  have hsrc : (so = none ∧ n = 0 ∧ sc = 0) ∨ ∃ a, so = some a ∧ ∀ j v, (shCells shows)[j]? = some v → w2.cell? (a.add j) = some v := by
    cases so with
    | none =>
      obtain ⟨h1, h2⟩ := HN0.out rfl
      exact Or.inl ⟨rfl, by rw [← Hn.out, h1]; rfl, h2⟩
    | some a =>
      refine Or.inr ⟨a, rfl, ?_⟩
      intro j v hj
      rcases HA.out with h | ⟨b, off, e, hb, hr⟩
      · subst h; simp [shCells] at hj
      · simp only [Option.some.injEq] at e
        subst e
        have h1 := shRow_cells (hr.below (B1.out.trans (hb2.mono B1.out.size)) hb) j v hj
        exact h1
  have B2 : Hid (Below w1.heap.size w1 w2) := hb2
  have HCUR : Hid (w2.heap[w1.heap.size]? = some (.cells cur 27 (0, 0))) := hcur
  have HNL : Hid ((shCells shows).length = n * 2) := hnl
  have HDR : Hid (cur.toList.drop (shCells shows).length = [.int .u16 0, .string ⟨#[]⟩]) := hdrop
  have HFIT : Hid ((shCells shows).length ≤ cur.size) := by unfold Hid; rw [hnl, hcz]; omega
  have hcopy := run_copy_sh w2 w1.heap.size n (n + 1) so sc cur (shCells shows) hcur hnl hsrc HFIT.out (shCells_one shows)
  rw [hdrop] at hcopy
  have hblk : Blk (w2.setRow w1.heap.size (shCells shows ++ ([.int .u16 0, .string ⟨#[]⟩] : List Value)).toArray) w1.heap.size (shCells shows ++ ([.int .u16 0, .string ⟨#[]⟩] : List Value)).toArray 27 := setRow_heap w2 w1.heap.size cur _ 27 (0, 0) HCUR.out
  have hbel : Below w1.heap.size w1 (w2.setRow w1.heap.size (shCells shows ++ ([.int .u16 0, .string ⟨#[]⟩] : List Value)).toArray) := below_setRow B2.out (Nat.le_refl _) _
  clear ho2 hg2 hcur hcs hnl hcz hdrop hsrc hb2
  generalize w2.setRow w1.heap.size (shCells shows ++ ([.int .u16 0, .string ⟨#[]⟩] : List Value)).toArray = w3 at hcopy hblk hbel
  have c1 : w3.cell? ⟨w1.heap.size, n * 2, none⟩ = some (.int .u16 0) := by
    rw [hblk.cell, ← HNL.out]
    simp
  have f1 := hblk.free (n * 2)
  have h3 := hblk.set (n * 2) (.int .u16 200)
  have e3 : (shCells shows ++ ([.int .u16 0, .string ⟨#[]⟩] : List Value)).toArray.setIfInBounds (n * 2) (.int .u16 200) = (shCells (shows ++ [spareSh])).toArray := by
    rw [shCells_snoc, ← HNL.out]
    apply Array.ext'
    simp [spareSh]
  rw [e3] at h3
  obtain ⟨g, hgd⟩ : ∃ g, g = w1.heap.size := ⟨_, rfl⟩
  have Hg : Hid (g = w1.heap.size) := hgd
  have B3 : Hid (Below w1.heap.size w1 (w3.setCell ⟨w1.heap.size, n * 2, none⟩ (.int .u16 200))) := hbel.setCell (Nat.le_refl _) _
  have HBLK : Hid (Blk (w3.setCell ⟨w1.heap.size, n * 2, none⟩ (.int .u16 200)) g (shCells (shows ++ [spareSh])).toArray 27) := by unfold Hid; rw [hgd]; exact h3
  have hni : (n : Int) < (n : Int) + 1 := by omega
  clear hblk hbel h3 e3 HCUR HDR HFIT B2
  go_wp2_with fail
  rw [← hgd] at B3 HBLK ⊢
  obtain ⟨w4, hw4⟩ : ∃ w4, w4 = w3.setCell ⟨g, n * 2, none⟩ (.int .u16 200) := ⟨_, rfl⟩
  rw [← hw4] at B3 HBLK ⊢
  clear hw4 c1 f1 hcopy hgd
  have HSh : Hid (∀ u : World, Below w4.heap.size w4 u → ShAt u (some ⟨g, 0, none⟩) shows) := by
    intro u hu
    have h := HBLK.out.below hu HBLK.out.lt
    exact Or.inr ⟨g, 0, rfl, h.lt, (shRow_of h rfl).front⟩
  have hs4 : w1.heap.size ≤ w4.heap.size := B3.out.size
  have B4 : Hid (Below w1.heap.size w1 w4) := by unfold Hid; rw [← Hg.out]; exact B3.out
  clear B3
  -- the first
  refine (HP.out w4 g B4.out (HSh.out w4 (Below.refl _ _))).mono ?_
  rintro e w5 ⟨va, rfl, ha5, hb5⟩
  obtain ⟨ao, ac, rfl, _, _⟩ := own_at' ha5
  have HA5 : Hid (w5.ownsRow w4.heap.size 60 3 (.slice ao (T.planO old shows).length ac) (T.planO old shows).length (ndCells (T.planO old shows))) := ha5
  have B5 : Hid (Below w4.heap.size w4 w5) := hb5
  clear ha5 hb5
  have hlen := planO_len old shows
  obtain ⟨pe, hpe⟩ : ∃ pe, pe = T.planE old shows := ⟨_, rfl⟩
  have Hpe : Hid (T.planE old shows = pe) := hpe.symm
  obtain ⟨pl, hpl⟩ : ∃ pl, pl = T.planO old shows := ⟨_, rfl⟩
  have Hpl : Hid (T.planO old shows = pl) := hpl.symm
  obtain ⟨k, hk⟩ : ∃ k, k = pl.length := ⟨_, rfl⟩
  have Hk : Hid (pl.length = k) := hk.symm
  rw [← hpl, ← hk] at HA5 hlen ⊢
  rw [← hpe]
  clear hpe hpl hk
  go_wp2_with fail
  -- the second
  refine (HP.out w5 g (B4.out.trans (B5.out.mono hs4)) (HSh.out w5 B5.out)).mono ?_
  rintro e w6 ⟨vc, rfl, hc6, hb6⟩
  rw [Hpl.out, Hk.out] at hc6
  rw [Hpe.out]
  obtain ⟨co, cc, rfl⟩ := own_is hc6
  have HT6 : Hid (Two w6 w4.heap.size ao co k k ac cc pl pl) := Two.of HA5.out Hk.out hb6 hc6 Hk.out B5.out.size
  have B6 : Hid (Below w4.heap.size w4 w6) := B5.out.trans (hb6.mono B5.out.size)
  clear hc6 hb6 HP HA5 B5
  go_wp2_with fail
  -- the document's
  refine (HR.out w6 (B1.out.trans ((B4.out.trans (B6.out.mono hs4)).mono B1.out.size))).mono ?_
  rintro e w7 ⟨vd, rfl, hd7, hb7⟩
  rw [Hpl.out, Hk.out] at hd7
  rw [Hpe.out]
  obtain ⟨dO, dc, rfl⟩ := own_is hd7
  have HD7 : Hid (NodeAt w7 dO pl) := (own_at hd7 Hk.out).1
  have HT7 : Hid (Two w7 w4.heap.size ao co k k ac cc pl pl) := HT6.out.below hb7
  have B7 : Hid (Below w4.heap.size w4 w7) := B6.out.trans (hb7.mono B6.out.size)
  clear hd7 hb7 HR HT6 B6
  have S1 : Hid (Calls Try.prog 13 #[.slice ao k ac, .slice dO k dc] w7 fun e w' => e = .returned (.bool true) ∧ Below w7.heap.size w7 w') := by
    unfold Hid
    have := sameN_any ao dO ac dc pl pl w7 (by have := Hk.out; unfold maxLen; omega) (by have := Hk.out; unfold maxLen; omega) (own_at HT7.out.one Hk.out).1 HD7.out
    rw [Hk.out] at this
    simpa using this
  have S2 : Hid (∀ u, Below w7.heap.size w7 u → Calls Try.prog 13 #[.slice co k cc, .slice dO k dc] u fun e w' => e = .returned (.bool true) ∧ Below u.heap.size u w') := by
    intro u hu
    have := sameN_any co dO cc dc pl pl u (by have := Hk.out; unfold maxLen; omega) (by have := Hk.out; unfold maxLen; omega) ((own_at HT7.out.two Hk.out).1.below hu (Nat.le_refl _) hu.size) (HD7.out.below hu (Nat.le_refl _) hu.size)
    rw [Hk.out] at this
    simpa using this
  clear HD7
  go_wp2_with fail
  refine S1.out.mono ?_
  rintro e w8 ⟨rfl, hb8⟩
  have C8 : Hid (Below w7.heap.size w7 w8) := hb8
  clear hb8 S1
  go_wp2_with fail
  refine (S2.out w8 C8.out).mono ?_
  rintro e w9 ⟨rfl, hb9⟩
  have HT9 : Hid (Two w9 w4.heap.size ao co k k ac cc pl pl) := HT7.out.below (C8.out.trans (hb9.mono C8.out.size))
  have B9 : Hid (Below w4.heap.size w4 w9) := B7.out.trans ((C8.out.trans (hb9.mono C8.out.size)).mono B7.out.size)
  have hs9 := B9.out.size
  clear hb9 S2 C8 HT7 B7
  -- the books
  have HB9 : Hid (Blk (w9.alloc (.cells #[.slice none 0 0, .slice none 0 0, .slice none 0 0, .bool false, .slice none 0 0, .slice none 0 0, .slice none 0 0, .slice none 0 0, .slice none 0 0, .slice none 0 0] 39)) w9.heap.size emptyBook 39) := Blk.new w9 _ 39
  have HTa : Hid (Two (w9.alloc (.cells #[.slice none 0 0, .slice none 0 0, .slice none 0 0, .bool false, .slice none 0 0, .slice none 0 0, .slice none 0 0, .slice none 0 0, .slice none 0 0, .slice none 0 0] 39)) w4.heap.size ao co k k ac cc pl pl) := HT9.out.below ((Below.refl _ _).alloc (Nat.le_refl _) _)
  have B10 : Hid (Below w4.heap.size w4 (w9.alloc (.cells #[.slice none 0 0, .slice none 0 0, .slice none 0 0, .bool false, .slice none 0 0, .slice none 0 0, .slice none 0 0, .slice none 0 0, .slice none 0 0, .slice none 0 0] 39))) := B9.out.alloc hs9 _
  clear HT9 B9
  go_wp2_with fail
  refine (keep_first HB9.out HTa.out hs9 (by simp; omega) hlen).mono ?_
  rintro e w11 ⟨rfl, hm11, hb11⟩
  have HM11 : Hid (MidBook w11 w4.heap.size w9.heap.size ao co k k ac cc pl pl) := hm11
  have B11 : Hid (Below w4.heap.size w4 w11) := B10.out.trans hb11
  clear hm11 hb11 HB9 HTa B10
  go_wp2_with fail
  refine (keep_second HM11.out hs9 B11.out.size hlen hlen).mono ?_
  rintro e w12 ⟨rfl, hm12, hb12⟩
  have HM12 : Hid (LastBook w12 w4.heap.size w9.heap.size co k cc pl) := hm12
  have B12 : Hid (Below w4.heap.size w4 w12) := B11.out.trans hb12
  clear hm12 hb12 HM11 B11
  go_wp2_with fail
  refine (ends_last HM12.out hs9 B12.out.size hlen).mono ?_
  rintro e w13 ⟨rfl, hb13⟩
  have B13 : Hid (Below w4.heap.size w4 w13) := B12.out.trans hb13
  clear hb13 HM12 B12
  have t1 : (pe == pe) = true := by simp
  have t2 : (pe != pe) = false := by simp
  go_wp2_with fail
  refine (HK.out w13 (B4.out.trans (B13.out.mono hs4))).mono ?_
  rintro e w14 ⟨rfl, hb14⟩
  have B14 : Hid (Below w4.heap.size w4 w14) := B13.out.trans (hb14.mono B13.out.size)
  clear hb14 HK B13
  have HSm : Hid (Calls Try.prog 17 #[.slice (some ⟨g, 0, none⟩) n (n + 1), .slice so n sc] w14 fun e w' => e = .returned (.bool true) ∧ Below w14.heap.size w14 w') := by
    have hb : Below w.heap.size w w14 := B1.out.trans ((B4.out.trans (B14.out.mono hs4)).mono B1.out.size)
    have := sameSh_any (some ⟨g, 0, none⟩) so (n + 1) sc shows w14 (by rw [Hn.out]; unfold maxLen; omega) (HSh.out w14 B14.out) (HA.out.below hb (Nat.le_refl _) hb.size)
    rw [Hn.out] at this
    exact this
  go_wp2_with fail
  refine HSm.out.mono ?_
  rintro e w15 ⟨rfl, hb15⟩
  have hb415 : Below w4.heap.size w4 w15 := B14.out.trans (hb15.mono B14.out.size)
  have HEnd : Hid (Below w.heap.size w w15) := B1.out.trans ((B4.out.trans (hb415.mono hs4)).mono B1.out.size)
  have hq : ShRow w15 g 0 (shows ++ [spareSh]) := shRow_of (HBLK.out.below hb415 HBLK.out.lt) rfl
  obtain ⟨q0, q1⟩ := hq n spareSh (by rw [← Hn.out]; simp)
  rw [Nat.zero_add] at q0 q1
  simp only [spareSh] at q0 q1
  clear hb15 hb415 hq HSm B14 HBLK HSh
  go_wp2
  go_ret
  exact ⟨rfl, HEnd.out⟩

end Go.Proofs.Ytcaeeaiodbjacaa
