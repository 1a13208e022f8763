/-
  The walk of Guest.tenant.
-/
import Derived.Test.YtidaflmmldefcaaNewA
import Derived.Test.YtidaflmmldefcaaJCodeW
import Derived.Deep.RegionHeld3
import Derived.Deep.DeepCutAuto
import Derived.Laws.Rows
namespace Go.Proofs.Ytidaflmmldefcaa
open Go.RowKit
set_option linter.unusedVariables false

/-- A guest in raw numbers, but for its code. -/
structure Gn where
  fu : Int
  ro : Int
  pu : Int
  su : Int
  sh : Int
  ba : Int
def in64 (x : Int) : Prop := -9223372036854775808 ≤ x ∧ x ≤ 9223372036854775807
structure Gn.ok (g : Gn) : Prop where
  fu : in64 g.fu
  ro : in64 g.ro
  pu : in64 g.pu
  su : in64 g.su
  sh : in64 g.sh
  ba : in64 g.ba
/-- Where a guest's code lies. -/
structure CodeAt (w : World) (ao : Option Addr) (n : Nat) (raw : List (Int × Int)) : Prop where
  at_ : ∃ b off, (0 < n → ao = some ⟨b, off, none⟩ ∧ b < w.heap.size) ∧ InsRow w b off raw
  len : raw.length = n
  max : n ≤ maxLen
  ok : rawOk raw

theorem CodeAt.below {w w' : World} {ao : Option Addr} {n : Nat} {raw : List (Int × Int)} (h : CodeAt w ao n raw) (hb : Below w.heap.size w w') : CodeAt w' ao n raw := by
  obtain ⟨⟨b, off, h1, h2⟩, h3, h4, h5⟩ := h
  by_cases hn : 0 < n
  · obtain ⟨e, hl⟩ := h1 hn
    refine ⟨⟨b, off, fun _ => ⟨e, Nat.lt_of_lt_of_le hl hb.size⟩, ?_⟩, h3, h4, h5⟩
    exact h2.below hb hl
  · have : raw = [] := List.eq_nil_of_length_eq_zero (by omega)
    subst this
    exact ⟨⟨b, off, fun q => absurd q hn, fun i x hx => by simp at hx⟩, h3, h4, h5⟩

theorem held_three {wr w' : World} {a b c : Addr} {x y z : Value} (ha : a.block < wr.heap.size) (hb : b.block < wr.heap.size) (hc : c.block < wr.heap.size) (hq : wr.cell? a = some x ∧ wr.cell? b = some y ∧ wr.cell? c = some z) (h : Below wr.heap.size wr w') : Below wr.heap.size wr w' ∧ w'.cell? a = some x ∧ w'.cell? b = some y ∧ w'.cell? c = some z :=
  ⟨h, (h.cell ha).trans hq.1, (h.cell hb).trans hq.2.1, (h.cell hc).trans hq.2.2⟩

theorem Blk.set7 {w : World} {b : Nat} {x0 x1 x2 x3 x4 x5 x6 : Value} {t : TypeId} (h : Blk w b #[x0, x1, x2, x3, x4, x5, x6] t) (y0 y1 y2 y3 y4 y5 y6 : Value) :
    Blk (((((((w.setCell ⟨b, 0, none⟩ y0).setCell ⟨b, 1, none⟩ y1).setCell ⟨b, 2, none⟩ y2).setCell ⟨b, 3, none⟩ y3).setCell ⟨b, 4, none⟩ y4).setCell ⟨b, 5, none⟩ y5).setCell ⟨b, 6, none⟩ y6) b #[y0, y1, y2, y3, y4, y5, y6] t := by
  have h0 : Blk _ b #[y0, x1, x2, x3, x4, x5, x6] t := h.set 0 y0
  have h1 : Blk _ b #[y0, y1, x2, x3, x4, x5, x6] t := h0.set 1 y1
  have h2 : Blk _ b #[y0, y1, y2, x3, x4, x5, x6] t := h1.set 2 y2
  have h3 : Blk _ b #[y0, y1, y2, y3, x4, x5, x6] t := h2.set 3 y3
  have h4 : Blk _ b #[y0, y1, y2, y3, y4, x5, x6] t := h3.set 4 y4
  have h5 : Blk _ b #[y0, y1, y2, y3, y4, y5, x6] t := h4.set 5 y5
  have h6 : Blk _ b #[y0, y1, y2, y3, y4, y5, y6] t := h5.set 6 y6
  exact h6
theorem below_7 {B : Nat} {w0 w : World} {b : Nat} (h : Below B w0 w) (hb : B ≤ b) (y0 y1 y2 y3 y4 y5 y6 : Value) :
    Below B w0 (((((((w.setCell ⟨b, 0, none⟩ y0).setCell ⟨b, 1, none⟩ y1).setCell ⟨b, 2, none⟩ y2).setCell ⟨b, 3, none⟩ y3).setCell ⟨b, 4, none⟩ y4).setCell ⟨b, 5, none⟩ y5).setCell ⟨b, 6, none⟩ y6) :=
  ((((((h.setCell hb _).setCell hb _).setCell hb _).setCell hb _).setCell hb _).setCell hb _).setCell hb _

/-- The manifest of a guest. -/
def Gn.mf (g : Gn) (t : ByteArray) : Mf := ⟨t, 1 + H.pk g.fu 1000, H.pk g.ro 16, H.pk g.pu 16, H.pk g.su 16, 1 + H.pk g.sh 3, 1 + H.pk g.ba 8⟩
theorem Gn.good (g : Gn) {t : ByteArray} {l : List (Int × Int)} (ht : t.size ≤ 200) (hd : H.decode (H.bts t) = (l, 0, 0)) : (g.mf t).good := by
  have q : ∀ x n : Int, 0 < n → 0 ≤ H.pk x n ∧ H.pk x n < n := fun x n hn => H.pk_range x n hn
  refine ⟨Nat.le_trans ht (by decide), by show (H.decode (H.bts t)).2.1 = 0; rw [hd], ?_, q _ 16 (by decide), q _ 16 (by decide), q _ 16 (by decide), ?_, ?_⟩
  · have := q g.fu 1000 (by decide)
    show 1 ≤ 1 + H.pk g.fu 1000 ∧ 1 + H.pk g.fu 1000 ≤ 1000
    omega
  · have := q g.sh 3 (by decide)
    show 1 ≤ 1 + H.pk g.sh 3 ∧ 1 + H.pk g.sh 3 ≤ 3
    omega
  · have := q g.ba 8 (by decide)
    show 1 ≤ 1 + H.pk g.ba 8 ∧ 1 + H.pk g.ba 8 ≤ 8
    omega

set_option maxRecDepth 100000 in
set_option maxHeartbeats 8000000 in
theorem tenant_any (ao : Option Addr) (n cap : Nat) (raw : List (Int × Int)) (g : Gn) (w : World) (hc : CodeAt w ao n raw) (hg : g.ok) :
    Calls Try.prog 20 #[.agg #[.slice ao n cap, .int .i64 g.fu, .int .i64 g.ro, .int .i64 g.pu, .int .i64 g.su, .int .i64 g.sh, .int .i64 g.ba]] w fun e w' => ∃ m : Mf, e = .returned (.agg m.arr) ∧ m.good ∧ Below w.heap.size w w' := by
  have HTx : Hid (∀ u, Below w.heap.size w u → Calls Try.prog 36 #[.slice ao n cap] u fun e w' => textEnd u e w') := by
    intro u hu
    obtain ⟨⟨b, off, h1, h2⟩, h3, h4, h5⟩ := hc.below hu
    exact text_any ao b off n cap raw u (fun q => (h1 q).1) h3 h4 h5 h2
  obtain ⟨⟨f0, f1⟩, ⟨r0, r1⟩, ⟨p0, p1⟩, ⟨s0, s1⟩, ⟨h0, h1⟩, ⟨b0, b1⟩⟩ := hg
  have HGd := fun (t : ByteArray) (l : List (Int × Int)) => Gn.good g (t := t) (l := l)
  have HGd' : Hid (∀ (t : ByteArray) (l : List (Int × Int)), t.size ≤ 200 → H.decode (H.bts t) = (l, 0, 0) → (g.mf t).good) := HGd
  obtain ⟨fu, ro, pu, su, sh, ba⟩ := g
  unfold Gn.mf at HGd'
  simp only at f0 f1 r0 r1 p0 p1 s0 s1 h0 h1 b0 b1 HGd' ⊢
  have P1 : Hid (∀ u : World, Calls Try.prog 10 #[.int .i64 fu, .int .i64 1000] u fun e w' => e = .returned (.int .i64 (H.pk fu 1000)) ∧ u = w') := fun u => pick_any fu 1000 u f0 f1 (by decide) (by decide)
  have P2 : Hid (∀ u : World, Calls Try.prog 10 #[.int .i64 sh, .int .i64 3] u fun e w' => e = .returned (.int .i64 (H.pk sh 3)) ∧ u = w') := fun u => pick_any sh 3 u h0 h1 (by decide) (by decide)
  have P3 : Hid (∀ u : World, Calls Try.prog 10 #[.int .i64 ba, .int .i64 8] u fun e w' => e = .returned (.int .i64 (H.pk ba 8)) ∧ u = w') := fun u => pick_any ba 8 u b0 b1 (by decide) (by decide)
  have P4 : Hid (∀ u : World, Calls Try.prog 10 #[.int .i64 ro, .int .i64 16] u fun e w' => e = .returned (.int .i64 (H.pk ro 16)) ∧ u = w') := fun u => pick_any ro 16 u r0 r1 (by decide) (by decide)
  have P5 : Hid (∀ u : World, Calls Try.prog 10 #[.int .i64 pu, .int .i64 16] u fun e w' => e = .returned (.int .i64 (H.pk pu 16)) ∧ u = w') := fun u => pick_any pu 16 u p0 p1 (by decide) (by decide)
  have P6 : Hid (∀ u : World, Calls Try.prog 10 #[.int .i64 su, .int .i64 16] u fun e w' => e = .returned (.int .i64 (H.pk su 16)) ∧ u = w') := fun u => pick_any su 16 u s0 s1 (by decide) (by decide)
  have q1 := H.pk_range fu 1000 (by decide)
  have q2 := H.pk_range sh 3 (by decide)
  have q3 := H.pk_range ba 8 (by decide)
  have q4 := H.pk_range ro 16 (by decide)
  have q5 := H.pk_range pu 16 (by decide)
  have q6 := H.pk_range su 16 (by decide)
  generalize H.pk fu 1000 = a1 at *
  generalize H.pk sh 3 = a2 at *
  generalize H.pk ba 8 = a3 at *
  generalize H.pk ro 16 = a4 at *
  generalize H.pk pu 16 = a5 at *
  generalize H.pk su 16 = a6 at *
  have w1 : IntKind.i64.wrap (1 + a1) = 1 + a1 := by rw [IntKind.wrap_i64]; omega
  have w2 : IntKind.i64.wrap (1 + a2) = 1 + a2 := by rw [IntKind.wrap_i64]; omega
  have w3 : IntKind.i64.wrap (1 + a3) = 1 + a3 := by rw [IntKind.wrap_i64]; omega
  have w4 : IntKind.u8.wrap a4 = a4 := by rw [IntKind.wrap_u8]; omega
  have w5 : IntKind.u8.wrap a5 = a5 := by rw [IntKind.wrap_u8]; omega
  have w6 : IntKind.u8.wrap a6 = a6 := by rw [IntKind.wrap_u8]; omega
  clear hc HGd f0 f1 r0 r1 p0 p1 s0 s1 h0 h1 b0 b1
  obtain ⟨W, hW⟩ : ∃ W, W = (w.alloc (.cells #[.slice ao n cap, .int .i64 fu, .int .i64 ro, .int .i64 pu, .int .i64 su, .int .i64 sh, .int .i64 ba] 61)).alloc (.cells #[.string ⟨#[]⟩, .int .i64 0, .int .u8 0, .int .u8 0, .int .u8 0, .int .i64 0, .int .i64 0] 41) := ⟨_, rfl⟩
  have HBW : Hid (Below w.heap.size w W) := by unfold Hid; rw [hW]; exact ((Below.refl _ _).alloc (Nat.le_refl _) _).alloc (by simp) _
  have HGW : Hid (Blk W w.heap.size #[.slice ao n cap, .int .i64 fu, .int .i64 ro, .int .i64 pu, .int .i64 su, .int .i64 sh, .int .i64 ba] 61) := by
    unfold Hid; rw [hW]
    exact (Blk.new w _ 61).below ((Below.refl _ _).alloc (Nat.le_refl _) _) (by simp)
  have HRW : Hid (Blk W (w.heap.size + 1) #[.string ⟨#[]⟩, .int .i64 0, .int .u8 0, .int .u8 0, .int .u8 0, .int .i64 0, .int .i64 0] 41) := by
    unfold Hid; rw [hW]
    have q := Blk.new (w.alloc (.cells #[.slice ao n cap, .int .i64 fu, .int .i64 ro, .int .i64 pu, .int .i64 su, .int .i64 sh, .int .i64 ba] 61)) #[.string ⟨#[]⟩, .int .i64 0, .int .u8 0, .int .u8 0, .int .u8 0, .int .i64 0, .int .i64 0] 41
    simpa using q
  have hsW : W.heap.size = w.heap.size + 2 := by rw [hW]; simp
  have c0 : W.cell? ⟨w.heap.size, 0, none⟩ = some (.slice ao n cap) := by rw [HGW.out.cell 0]; rfl
  go_enter Try.func20, Try.ntmps20
  go_upto_region 1 with fail
  rw [← hW]
  clear hW
  go_wp2_with fail
  refine (HTx.out W HBW.out).mono ?_
  rintro e W2 ⟨t, l, rfl, hl1, hdec, ht, hb2⟩
  have HGood : Hid (Mf.good ⟨t, 1 + a1, a4, a5, a6, 1 + a2, 1 + a3⟩) := HGd'.out t l ht hdec
  have HB2 : Hid (Below w.heap.size w W2) := HBW.out.trans (hb2.mono (by omega))
  have HG2 : Hid (Blk W2 w.heap.size #[.slice ao n cap, .int .i64 fu, .int .i64 ro, .int .i64 pu, .int .i64 su, .int .i64 sh, .int .i64 ba] 61) := HGW.out.below hb2 (by omega)
  have HR2 : Hid (Blk W2 (w.heap.size + 1) #[.string ⟨#[]⟩, .int .i64 0, .int .u8 0, .int .u8 0, .int .u8 0, .int .i64 0, .int .i64 0] 41) := HRW.out.below hb2 (by omega)
  have hs2 : w.heap.size + 2 ≤ W2.heap.size := by have := hb2.size; omega
  have hgl := HG2.out.lt
  have d1 : W2.cell? ⟨w.heap.size, 1, none⟩ = some (.int .i64 fu) := by rw [HG2.out.cell 1]; rfl
  have d5 : W2.cell? ⟨w.heap.size, 5, none⟩ = some (.int .i64 sh) := by rw [HG2.out.cell 5]; rfl
  have d6 : W2.cell? ⟨w.heap.size, 6, none⟩ = some (.int .i64 ba) := by rw [HG2.out.cell 6]; rfl
  have HC : Hid (W2.cell? ⟨w.heap.size, 1, none⟩ = some (.int .i64 fu) ∧ W2.cell? ⟨w.heap.size, 5, none⟩ = some (.int .i64 sh) ∧ W2.cell? ⟨w.heap.size, 6, none⟩ = some (.int .i64 ba)) := ⟨d1, d5, d6⟩
  clear hb2 hdec ht hl1 HBW HGW HRW c0 HTx HGd' hsW
  go_upto_region 2 with fail
  go_cut [5] from 12 to 25 (fun v wx => ∃ g : Nat, v = .pointer (some ⟨g, 0, none⟩) ∧ Hid (Blk wx g #[.string t, .int .i64 (1 + a1), .int .u8 0, .int .u8 0, .int .u8 0, .int .i64 (1 + a2), .int .i64 (1 + a3)] 41) ∧ W2.heap.size ≤ g ∧ Hid (Below W2.heap.size W2 wx))
  case first =>
    go_region_held3 (fun w' => Below W2.heap.size W2 w' ∧ w'.cell? ⟨w.heap.size, 1, none⟩ = some (.int .i64 fu) ∧ w'.cell? ⟨w.heap.size, 5, none⟩ = some (.int .i64 sh) ∧ w'.cell? ⟨w.heap.size, 6, none⟩ = some (.int .i64 ba)) ((refine held_three hgl hgl hgl HC.out ?_; (repeat (with_reducible first | exact Below.refl _ _ | refine Below.drew ?_ | refine Below.alloc ?_ (by first | exact Nat.le_refl _ | omega | (simp; done) | (simp; omega)) _ | refine Below.setCell ?_ (by first | exact Nat.le_refl _ | omega | (simp; done) | (simp; omega)) _))))
      (first
        | (go_at_call_of 10 fu; refine (P1.out _).mono ?_; rintro e w1 ⟨rfl, rfl⟩)
        | (go_at_call_of 10 sh; refine (P2.out _).mono ?_; rintro e w1 ⟨rfl, rfl⟩)
        | (go_at_call_of 10 ba; refine (P3.out _).mono ?_; rintro e w1 ⟨rfl, rfl⟩))
    all_goals (try go_wp2_with fail)
    all_goals go_meet
    all_goals exact ⟨W2.heap.size, rfl, Blk.new W2 _ 41, Nat.le_refl _, ((Below.refl _ _).alloc (Nat.le_refl _) _).drew⟩
  case rest =>
    obtain ⟨g, rfl, HGc, hgl2, HBc⟩ := hcut
    have HXc : Hid (Blk wc w.heap.size #[.slice ao n cap, .int .i64 fu, .int .i64 ro, .int .i64 pu, .int .i64 su, .int .i64 sh, .int .i64 ba] 61) := HG2.out.below HBc.out hgl
    have HRc : Hid (Blk wc (w.heap.size + 1) #[.string ⟨#[]⟩, .int .i64 0, .int .u8 0, .int .u8 0, .int .u8 0, .int .i64 0, .int .i64 0] 41) := HR2.out.below HBc.out HR2.out.lt
    have HBw : Hid (Below w.heap.size w wc) := HB2.out.trans (HBc.out.mono (by omega))
    have n1 : ¬ w.heap.size = g := by omega
    have n2 : ¬ w.heap.size + 1 = g := by omega
    have n3 : ¬ g = w.heap.size := by omega
    have n4 : ¬ g = w.heap.size + 1 := by omega
    have e2 : wc.cell? ⟨w.heap.size, 2, none⟩ = some (.int .i64 ro) := by rw [HXc.out.cell 2]; rfl
    have e3 : wc.cell? ⟨w.heap.size, 3, none⟩ = some (.int .i64 pu) := by rw [HXc.out.cell 3]; rfl
    have e4 : wc.cell? ⟨w.heap.size, 4, none⟩ = some (.int .i64 su) := by rw [HXc.out.cell 4]; rfl
    have k0 : wc.cell? ⟨g, 0, none⟩ = some (.string t) := by rw [HGc.out.cell 0]; rfl
    have k1 : wc.cell? ⟨g, 1, none⟩ = some (.int .i64 (1 + a1)) := by rw [HGc.out.cell 1]; rfl
    have k2 : wc.cell? ⟨g, 2, none⟩ = some (.int .u8 0) := by rw [HGc.out.cell 2]; rfl
    have k3 : wc.cell? ⟨g, 3, none⟩ = some (.int .u8 0) := by rw [HGc.out.cell 3]; rfl
    have k4 : wc.cell? ⟨g, 4, none⟩ = some (.int .u8 0) := by rw [HGc.out.cell 4]; rfl
    have k5 : wc.cell? ⟨g, 5, none⟩ = some (.int .i64 (1 + a2)) := by rw [HGc.out.cell 5]; rfl
    have k6 : wc.cell? ⟨g, 6, none⟩ = some (.int .i64 (1 + a3)) := by rw [HGc.out.cell 6]; rfl
    have z0 : wc.cell? ⟨w.heap.size + 1, 0, none⟩ = some (.string ⟨#[]⟩) := by rw [HRc.out.cell 0]; rfl
    have z1 : wc.cell? ⟨w.heap.size + 1, 1, none⟩ = some (.int .i64 0) := by rw [HRc.out.cell 1]; rfl
    have z2 : wc.cell? ⟨w.heap.size + 1, 2, none⟩ = some (.int .u8 0) := by rw [HRc.out.cell 2]; rfl
    have z3 : wc.cell? ⟨w.heap.size + 1, 3, none⟩ = some (.int .u8 0) := by rw [HRc.out.cell 3]; rfl
    have z4 : wc.cell? ⟨w.heap.size + 1, 4, none⟩ = some (.int .u8 0) := by rw [HRc.out.cell 4]; rfl
    have z5 : wc.cell? ⟨w.heap.size + 1, 5, none⟩ = some (.int .i64 0) := by rw [HRc.out.cell 5]; rfl
    have z6 : wc.cell? ⟨w.heap.size + 1, 6, none⟩ = some (.int .i64 0) := by rw [HRc.out.cell 6]; rfl
    have fz : ∀ i, wc.frozen? ⟨g, i, none⟩ = false := fun i => HGc.out.free i
    have fy : ∀ i, wc.frozen? ⟨w.heap.size + 1, i, none⟩ = false := fun i => HRc.out.free i
    clear HC d1 d5 d6 P1 P2 P3
    go_wp2_with fail
    refine (P4.out _).mono ?_
    rintro e w3 ⟨rfl, rfl⟩
    go_wp2_with fail
    refine (P5.out _).mono ?_
    rintro e w3 ⟨rfl, rfl⟩
    go_wp2_with fail
    refine (P6.out _).mono ?_
    rintro e w3 ⟨rfl, rfl⟩
    have hR3 : Blk (((wc.setCell ⟨g, 2, none⟩ (.int .u8 a4)).setCell ⟨g, 3, none⟩ (.int .u8 a5)).setCell ⟨g, 4, none⟩ (.int .u8 a6)) (w.heap.size + 1) #[.string ⟨#[]⟩, .int .i64 0, .int .u8 0, .int .u8 0, .int .u8 0, .int .i64 0, .int .i64 0] 41 := ((HRc.out.of_block (Below.heap_setCell _ _ _ _ n2)).of_block (Below.heap_setCell _ _ _ _ n2)).of_block (Below.heap_setCell _ _ _ _ n2)
    have HR4 := show Hid _ from hR3.set7 (.string t) (.int .i64 (1 + a1)) (.int .u8 a4) (.int .u8 a5) (.int .u8 a6) (.int .i64 (1 + a2)) (.int .i64 (1 + a3))
    clear hR3
    go_wp2
    (try simp only [Exit.inBlock, Exit.then])
    refine bodyPost_ret (v := .agg #[.string t, .int .i64 (1 + a1), .int .u8 a4, .int .u8 a5, .int .u8 a6, .int .i64 (1 + a2), .int .i64 (1 + a3)]) (results_cell_row rfl _ _ (w.heap.size + 1) 41 _ (0, 0) _ rfl HR4.out Try.underlying41 rfl (by kernel_rfl)) rfl ?_
    refine ⟨⟨t, 1 + a1, a4, a5, a6, 1 + a2, 1 + a3⟩, rfl, HGood.out, ?_⟩
    refine below_7 ?_ (by omega) _ _ _ _ _ _ _
    exact ((HBw.out.setCell (by simp only; omega) _).setCell (by simp only; omega) _).setCell (by simp only; omega) _
end Go.Proofs.Ytidaflmmldefcaa
