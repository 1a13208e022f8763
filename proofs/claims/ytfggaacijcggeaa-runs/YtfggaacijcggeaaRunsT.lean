/-
  The walk of Runs: its second half.
-/
import Derived.Test.YtfggaacijcggeaaRunsL
import Derived.Test.YtfggaacijcggeaaROut
import Derived.Test.YtfggaacijcggeaaROutc
import Derived.Test.YtfggaacijcggeaaRKept
import Derived.BigQuiet
import Derived.Deep.Cut
namespace Go.Proofs.Ytfggaacijcggeaa
open Go.RowKit
set_option linter.unusedVariables false

/-- What stands behind a region. -/
def behind (k : Nat) : Code → Option Code
  | .seq a b => match a with
    | .region n _ _ => if n = k then some b else behind k b
    | .seq x y => match behind k (.seq x y) with
      | some c => some c
      | none => behind k b
    | _ => behind k b
  | .block _ c => behind k c
  | .scope c => behind k c
  | _ => none

set_option maxRecDepth 1000000 in
set_option maxHeartbeats 16000000 in
theorem runs_tail {code other : ByteArray} {ds : List Int} {w w6 w12 : World} {fu k0 k1 k2 k3 k4 k5 k6 k7 what by_ arg src route r1 r2 f1 f2 a10 a11 a12 a13 a14 a15 a16 a17 a20 a21 a22 a23 a24 a25 a26 a27 : Int} {da so1 do1 so2 do2 : Option Addr} {n dc g Y A B zb8 zb11 n1 n2 m1 m2 s1 s2 d1 d2 sc1 dc1 sc2 dc2 : Nat} {L1 L2 : List (Int × ByteArray)} {T1 T2 : List (Int × Int)} {v1 v2 : Value}
    {u3 u5 u6 u14 u17 u18 u19 u20 u21 u22 u23 u24 u25 u26 u27 u28 u29 u30 u31 u32 u33 u34 u35 u36 u37 u38 u39 u40 u41 u42 u43 u44 u45 u46 u47 u48 u49 u50 u51 u52 u53 u54 u55 u56 u57 u58 u59 u60 u61 u62 u63 u64 u65 u66 u67 u68 u69 u70 u71 u72 u73 u74 u75 u76 u77 u78 u79 u80 u81 u82 u83 u84 u85 u86 u87 u88 u89 u90 u91 u92 u93 u94 u95 u96 u97 u98 u99 u100 u101 u102 u103 u104 u105 u106 u107 u108 u109 u110 u111 u112 u113 u114 u115 u116 u117 u118 u119 u120 u121 u122 u123 u124 u125 u126 u127 u128 u129 u130 u131 u132 u133 u134 u135 u136 u137 u138 u139 u140 u141 u142 u143 u144 u145 u146 u147 u148 u149 u150 u151 u152 u153 u154 u155 u156 u157 u158 : Value}
    (HV1 : Hid (∀ (g : Nat) (W : World), Drawn W { fuel := fu, c0 := k0, c1 := k1, c2 := k2, c3 := k3, c4 := k4, c5 := k5, c6 := k6, c7 := k7, what := what, by_ := by_, arg := arg, src := src, route := route, ao := some ⟨g, 0, none⟩, n := n, cap := n + 1 } ds W.heap.size → Calls Try.prog 13 #[.string code, .agg #[.int .i64 fu, .int .u16 k0, .int .u16 k1, .int .u16 k2, .int .u16 k3, .int .u16 k4, .int .u16 k5, .int .u16 k6, .int .u16 k7, .int .u8 what, .int .u8 by_, .int .u16 arg, .int .u8 src, .int .u8 route, .slice (some ⟨g, 0, none⟩) n (n + 1)]] W fun e w' => ∃ sv dv, e = .returned (.tuple #[.agg #[.int .u8 f1, .int .i64 (s1 : Int), .int .i64 (d1 : Int), .int .u16 a10, .int .u16 a11, .int .u16 a12, .int .u16 a13, .int .u16 a14, .int .u16 a15, .int .u16 a16, .int .u16 a17, sv, dv], .int .i64 r1]) ∧ w'.ownsRow W.heap.size 62 2 sv n1 (showCells L1) ∧ w'.ownsRow W.heap.size 85 2 dv m1 (sendCells T1) ∧ Below W.heap.size W w'))
    (HV2 : Hid (∀ (g : Nat) (W : World), Drawn W { fuel := fu, c0 := k0, c1 := k1, c2 := k2, c3 := k3, c4 := k4, c5 := k5, c6 := k6, c7 := k7, what := what, by_ := by_, arg := arg, src := src, route := route, ao := some ⟨g, 0, none⟩, n := n, cap := n + 1 } ds W.heap.size → Calls Try.prog 13 #[.string other, .agg #[.int .i64 fu, .int .u16 k0, .int .u16 k1, .int .u16 k2, .int .u16 k3, .int .u16 k4, .int .u16 k5, .int .u16 k6, .int .u16 k7, .int .u8 what, .int .u8 by_, .int .u16 arg, .int .u8 src, .int .u8 route, .slice (some ⟨g, 0, none⟩) n (n + 1)]] W fun e w' => ∃ sv dv, e = .returned (.tuple #[.agg #[.int .u8 f2, .int .i64 (s2 : Int), .int .i64 (d2 : Int), .int .u16 a20, .int .u16 a21, .int .u16 a22, .int .u16 a23, .int .u16 a24, .int .u16 a25, .int .u16 a26, .int .u16 a27, sv, dv], .int .i64 r2]) ∧ w'.ownsRow W.heap.size 62 2 sv n2 (showCells L2) ∧ w'.ownsRow W.heap.size 85 2 dv m2 (sendCells T2) ∧ Below W.heap.size W w'))
    (HR2 : Hid (∀ (W : World), Drawn W { fuel := fu, c0 := k0, c1 := k1, c2 := k2, c3 := k3, c4 := k4, c5 := k5, c6 := k6, c7 := k7, what := what, by_ := by_, arg := arg, src := src, route := route, ao := da, n := n, cap := dc } ds W.heap.size → Calls Try.prog 14 #[.string other, .agg #[.int .i64 fu, .int .u16 k0, .int .u16 k1, .int .u16 k2, .int .u16 k3, .int .u16 k4, .int .u16 k5, .int .u16 k6, .int .u16 k7, .int .u8 what, .int .u8 by_, .int .u16 arg, .int .u8 src, .int .u8 route, .slice da n dc]] W fun e w' => ∃ sv dv, e = .returned (.tuple #[.agg #[.int .u8 f2, .int .i64 (s2 : Int), .int .i64 (d2 : Int), .int .u16 a20, .int .u16 a21, .int .u16 a22, .int .u16 a23, .int .u16 a24, .int .u16 a25, .int .u16 a26, .int .u16 a27, sv, dv], .int .i64 r2]) ∧ w'.ownsRow W.heap.size 62 2 sv n2 (showCells L2) ∧ w'.ownsRow W.heap.size 85 2 dv m2 (sendCells T2) ∧ Below W.heap.size W w'))
    (HS1 : Hid (∀ (sv dv sv2 dv2 : Value) (b1 b2 : Nat) (w : World), w.ownsRow b1 62 2 sv n1 (showCells L1) → w.ownsRow b1 85 2 dv m1 (sendCells T1) → w.ownsRow b2 62 2 sv2 n1 (showCells L1) → w.ownsRow b2 85 2 dv2 m1 (sendCells T1) → Calls Try.prog 15 #[.agg #[.int .u8 f1, .int .i64 (s1 : Int), .int .i64 (d1 : Int), .int .u16 a10, .int .u16 a11, .int .u16 a12, .int .u16 a13, .int .u16 a14, .int .u16 a15, .int .u16 a16, .int .u16 a17, sv, dv], .agg #[.int .u8 f1, .int .i64 (s1 : Int), .int .i64 (d1 : Int), .int .u16 a10, .int .u16 a11, .int .u16 a12, .int .u16 a13, .int .u16 a14, .int .u16 a15, .int .u16 a16, .int .u16 a17, sv2, dv2]] w fun e w' => e = .returned (.bool true) ∧ Below w.heap.size w w'))
    (HS2 : Hid (∀ (sv dv sv2 dv2 : Value) (b1 b2 : Nat) (w : World), w.ownsRow b1 62 2 sv n2 (showCells L2) → w.ownsRow b1 85 2 dv m2 (sendCells T2) → w.ownsRow b2 62 2 sv2 n2 (showCells L2) → w.ownsRow b2 85 2 dv2 m2 (sendCells T2) → Calls Try.prog 15 #[.agg #[.int .u8 f2, .int .i64 (s2 : Int), .int .i64 (d2 : Int), .int .u16 a20, .int .u16 a21, .int .u16 a22, .int .u16 a23, .int .u16 a24, .int .u16 a25, .int .u16 a26, .int .u16 a27, sv, dv], .agg #[.int .u8 f2, .int .i64 (s2 : Int), .int .i64 (d2 : Int), .int .u16 a20, .int .u16 a21, .int .u16 a22, .int .u16 a23, .int .u16 a24, .int .u16 a25, .int .u16 a26, .int .u16 a27, sv2, dv2]] w fun e w' => e = .returned (.bool true) ∧ Below w.heap.size w w'))
    (HU2 : Hid (∀ (sv dv : Value) (base : Nat) (c : Int) (w : World), base ≤ w.heap.size → w.ownsRow base 62 2 sv n2 (showCells L2) → w.ownsRow base 85 2 dv m2 (sendCells T2) → Calls Try.prog 16 #[.agg #[.int .u8 f2, .int .i64 (s2 : Int), .int .i64 (d2 : Int), .int .u16 a20, .int .u16 a21, .int .u16 a22, .int .u16 a23, .int .u16 a24, .int .u16 a25, .int .u16 a26, .int .u16 a27, sv, dv], .int .u16 c] w fun e w' => outsEnd sv.ownBlock dv.ownBlock c w e w'))
    (HDo : Hid (∀ W, Below w6.heap.size w6 W → Drawn W { fuel := fu, c0 := k0, c1 := k1, c2 := k2, c3 := k3, c4 := k4, c5 := k5, c6 := k6, c7 := k7, what := what, by_ := by_, arg := arg, src := src, route := route, ao := some ⟨g, 0, none⟩, n := n, cap := n + 1 } ds W.heap.size))
    (HDi : Hid (∀ W, Below w6.heap.size w6 W → Drawn W { fuel := fu, c0 := k0, c1 := k1, c2 := k2, c3 := k3, c4 := k4, c5 := k5, c6 := k6, c7 := k7, what := what, by_ := by_, arg := arg, src := src, route := route, ao := da, n := n, cap := dc } ds W.heap.size))
    (HGd : Hid (∀ W, Below w6.heap.size w6 W → ∀ i x, ds[i]? = some x → W.cell? ⟨g, i, none⟩ = some (.int .u16 x)))
    (HX6 : Hid (Blk w6 w.heap.size #[.int .i64 fu, .int .u16 k0, .int .u16 k1, .int .u16 k2, .int .u16 k3, .int .u16 k4, .int .u16 k5, .int .u16 k6, .int .u16 k7, .int .u8 what, .int .u8 by_, .int .u16 arg, .int .u8 src, .int .u8 route, .slice da n dc] 39))
    (HY6 : Hid (Blk w6 Y #[.int .i64 fu, .int .u16 k0, .int .u16 k1, .int .u16 k2, .int .u16 k3, .int .u16 k4, .int .u16 k5, .int .u16 k6, .int .u16 k7, .int .u8 what, .int .u8 by_, .int .u16 arg, .int .u8 src, .int .u8 route, .slice (some ⟨g, 0, none⟩) n (n + 1)] 39))
    (HG6 : Hid (Blk w6 g (u16s ds ++ ([.int .u16 200] : List Value)).toArray 33))
    (HB6 : Hid (Below w.heap.size w w6))
    (hs6 : w.heap.size ≤ w6.heap.size)
    (HNL : Hid ((u16s ds).length = n))
    (Hn : Hid (ds.length = n))
    (hn : n ≤ 70368744175616)
    (hAB : ¬ B = A)
    (hA6 : w6.heap.size ≤ A)
    (BK12 : Hid (Below w6.heap.size w6 w12))
    (HQ12 : Hid (Outs w12 zb11 200 v1 v2))
    (HA12 : Hid (Blk w12 A #[.int .u8 f1, .int .i64 (s1 : Int), .int .i64 (d1 : Int), .int .u16 a10, .int .u16 a11, .int .u16 a12, .int .u16 a13, .int .u16 a14, .int .u16 a15, .int .u16 a16, .int .u16 a17, .slice so1 n1 sc1, .slice do1 m1 dc1] 43))
    (HB12 : Hid (Blk w12 B #[.int .u8 f1, .int .i64 (s1 : Int), .int .i64 (d1 : Int), .int .u16 a10, .int .u16 a11, .int .u16 a12, .int .u16 a13, .int .u16 a14, .int .u16 a15, .int .u16 a16, .int .u16 a17, .slice so2 n1 sc2, .slice do2 m1 dc2] 43))
    (RW2c : Hid (w12.ownsRow zb8 62 2 (.slice so2 n1 sc2) n1 (showCells L1) ∧ w12.ownsRow zb8 85 2 (.slice do2 m1 dc2) m1 (sendCells T1))) :
    Code.wp Try.prog ((Try.f4.body.bind (behind 12)).getD .skip) (bodyPost Try.prog Try.f4 fun e w' => e = .returned (.bool true) ∧ Below w.heap.size w w') ⟨#[.string code, .agg #[.int .i64 fu, .int .u16 k0, .int .u16 k1, .int .u16 k2, .int .u16 k3, .int .u16 k4, .int .u16 k5, .int .u16 k6, .int .u16 k7, .int .u8 what, .int .u8 by_, .int .u16 arg, .int .u8 src, .int .u8 route, .slice da n dc], .string other, u3, .pointer (some ⟨w.heap.size, 0, none⟩), u5, u6, .int .i64 (n : Int), .slice (some ⟨g, 0, none⟩) (n + 1) (n + 1), .pointer (some ⟨Y, 0, none⟩), .pointer (some ⟨A, 0, none⟩), .int .i64 r1, .pointer (some ⟨B, 0, none⟩), .int .i64 r1, u14, v1, v2, u17, u18, u19, u20, u21, u22, u23, u24, u25, u26, u27, u28, u29, u30, u31, u32, u33, u34, u35, u36, u37, u38, u39, u40, u41, u42, u43, u44, u45, u46, u47, u48, u49, u50, u51, u52, u53, u54, u55, u56, u57, u58, u59, u60, u61, u62, u63, u64, u65, u66, u67, u68, u69, u70, u71, u72, u73, u74, u75, u76, u77, u78, u79, u80, u81, u82, u83, u84, u85, u86, u87, u88, u89, u90, u91, u92, u93, u94, u95, u96, u97, u98, u99, u100, u101, u102, u103, u104, u105, u106, u107, u108, u109, u110, u111, u112, u113, u114, u115, u116, u117, u118, u119, u120, u121, u122, u123, u124, u125, u126, u127, u128, u129, u130, u131, u132, u133, u134, u135, u136, u137, u138, u139, u140, u141, u142, u143, u144, u145, u146, u147, u148, u149, u150, u151, u152, u153, u154, u155, u156, u157, u158], []⟩ w12 := by
  conv => arg 2; whnf
  have hni : (n : Int) < (n : Int) + 1 := by omega
  have hpos : (0 : Int) ≤ (n : Int) := by omega
  have t1 : (r1 != r1) = false := by simp
  have t2 : (r2 != r2) = false := by simp
  have hYp := HY6.out.below BK12.out HY6.out.lt
  have y0 : w12.cell? ⟨Y, 0, none⟩ = some (.int .i64 fu) := by rw [hYp.cell 0]; rfl
  have y1 : w12.cell? ⟨Y, 1, none⟩ = some (.int .u16 k0) := by rw [hYp.cell 1]; rfl
  have y2 : w12.cell? ⟨Y, 2, none⟩ = some (.int .u16 k1) := by rw [hYp.cell 2]; rfl
  have y3 : w12.cell? ⟨Y, 3, none⟩ = some (.int .u16 k2) := by rw [hYp.cell 3]; rfl
  have y4 : w12.cell? ⟨Y, 4, none⟩ = some (.int .u16 k3) := by rw [hYp.cell 4]; rfl
  have y5 : w12.cell? ⟨Y, 5, none⟩ = some (.int .u16 k4) := by rw [hYp.cell 5]; rfl
  have y6 : w12.cell? ⟨Y, 6, none⟩ = some (.int .u16 k5) := by rw [hYp.cell 6]; rfl
  have y7 : w12.cell? ⟨Y, 7, none⟩ = some (.int .u16 k6) := by rw [hYp.cell 7]; rfl
  have y8 : w12.cell? ⟨Y, 8, none⟩ = some (.int .u16 k7) := by rw [hYp.cell 8]; rfl
  have y9 : w12.cell? ⟨Y, 9, none⟩ = some (.int .u8 what) := by rw [hYp.cell 9]; rfl
  have y10 : w12.cell? ⟨Y, 10, none⟩ = some (.int .u8 by_) := by rw [hYp.cell 10]; rfl
  have y11 : w12.cell? ⟨Y, 11, none⟩ = some (.int .u16 arg) := by rw [hYp.cell 11]; rfl
  have y12 : w12.cell? ⟨Y, 12, none⟩ = some (.int .u8 src) := by rw [hYp.cell 12]; rfl
  have y13 : w12.cell? ⟨Y, 13, none⟩ = some (.int .u8 route) := by rw [hYp.cell 13]; rfl
  have y14 : w12.cell? ⟨Y, 14, none⟩ = some (.slice (some ⟨g, 0, none⟩) n (n + 1)) := by rw [hYp.cell 14]; rfl
  clear hYp
  go_wp2_with fail
  refine (HV2.out g w12 (HDo.out w12 BK12.out)).mono ?_
  rintro e w13 ⟨sv, dv, rfl, hs, hd, hb⟩
  obtain ⟨so3, sc3, rfl⟩ := own_shape hs
  obtain ⟨do3, dc3, rfl⟩ := own_shape hd
  have RW3 : Hid (w13.ownsRow w12.heap.size 62 2 (.slice so3 n2 sc3) n2 (showCells L2) ∧ w13.ownsRow w12.heap.size 85 2 (.slice do3 m2 dc3) m2 (sendCells T2)) := ⟨hs, hd⟩
  have HB12_13 : Hid (Below w12.heap.size w12 w13) := hb
  have BK13 : Hid (Below w6.heap.size w6 w13) := BK12.out.trans (hb.mono BK12.out.size)
  have hz12_13 := hb.size
  clear hs hd hb
  clear y0 y1 y2 y3 y4 y5 y6 y7 y8 y9 y10 y11 y12 y13 y14
  obtain ⟨w14, hw14⟩ : ∃ w14, w14 = w13.alloc (.cells #[.int .u8 f2, .int .i64 (s2 : Int), .int .i64 (d2 : Int), .int .u16 a20, .int .u16 a21, .int .u16 a22, .int .u16 a23, .int .u16 a24, .int .u16 a25, .int .u16 a26, .int .u16 a27, .slice so3 n2 sc3, .slice do3 m2 dc3] 43) := ⟨_, rfl⟩
  have HB13_14 : Hid (Below w13.heap.size w13 w14) := by unfold Hid; rw [hw14]; exact (Below.refl _ _).alloc (Nat.le_refl _) _
  have HC : Hid (Blk w14 w13.heap.size #[.int .u8 f2, .int .i64 (s2 : Int), .int .i64 (d2 : Int), .int .u16 a20, .int .u16 a21, .int .u16 a22, .int .u16 a23, .int .u16 a24, .int .u16 a25, .int .u16 a26, .int .u16 a27, .slice so3 n2 sc3, .slice do3 m2 dc3] 43) := by unfold Hid; rw [hw14]; exact Blk.new w13 _ 43
  go_upto_region 14 with fail
  rw [← hw14]
  clear hw14
  have BK14 : Hid (Below w6.heap.size w6 w14) := BK13.out.trans (HB13_14.out.mono BK13.out.size)
  have hz13_14 : w13.heap.size < w14.heap.size := HC.out.lt
  obtain ⟨C, hC⟩ : ∃ x, x = w13.heap.size := ⟨_, rfl⟩
  rw [← hC] at HC ⊢
  have hC1 : w13.heap.size ≤ C := by omega
  have hC2 : C < w14.heap.size := by omega
  clear hC
  have hXp := HX6.out.below BK14.out HX6.out.lt
  have x0 : w14.cell? ⟨w.heap.size, 0, none⟩ = some (.int .i64 fu) := by rw [hXp.cell 0]; rfl
  have x1 : w14.cell? ⟨w.heap.size, 1, none⟩ = some (.int .u16 k0) := by rw [hXp.cell 1]; rfl
  have x2 : w14.cell? ⟨w.heap.size, 2, none⟩ = some (.int .u16 k1) := by rw [hXp.cell 2]; rfl
  have x3 : w14.cell? ⟨w.heap.size, 3, none⟩ = some (.int .u16 k2) := by rw [hXp.cell 3]; rfl
  have x4 : w14.cell? ⟨w.heap.size, 4, none⟩ = some (.int .u16 k3) := by rw [hXp.cell 4]; rfl
  have x5 : w14.cell? ⟨w.heap.size, 5, none⟩ = some (.int .u16 k4) := by rw [hXp.cell 5]; rfl
  have x6 : w14.cell? ⟨w.heap.size, 6, none⟩ = some (.int .u16 k5) := by rw [hXp.cell 6]; rfl
  have x7 : w14.cell? ⟨w.heap.size, 7, none⟩ = some (.int .u16 k6) := by rw [hXp.cell 7]; rfl
  have x8 : w14.cell? ⟨w.heap.size, 8, none⟩ = some (.int .u16 k7) := by rw [hXp.cell 8]; rfl
  have x9 : w14.cell? ⟨w.heap.size, 9, none⟩ = some (.int .u8 what) := by rw [hXp.cell 9]; rfl
  have x10 : w14.cell? ⟨w.heap.size, 10, none⟩ = some (.int .u8 by_) := by rw [hXp.cell 10]; rfl
  have x11 : w14.cell? ⟨w.heap.size, 11, none⟩ = some (.int .u16 arg) := by rw [hXp.cell 11]; rfl
  have x12 : w14.cell? ⟨w.heap.size, 12, none⟩ = some (.int .u8 src) := by rw [hXp.cell 12]; rfl
  have x13 : w14.cell? ⟨w.heap.size, 13, none⟩ = some (.int .u8 route) := by rw [hXp.cell 13]; rfl
  have x14 : w14.cell? ⟨w.heap.size, 14, none⟩ = some (.slice da n dc) := by rw [hXp.cell 14]; rfl
  clear hXp
  go_wp2_with fail
  refine (HR2.out w14 (HDi.out w14 BK14.out)).mono ?_
  rintro e w15 ⟨sv, dv, rfl, hs, hd, hb⟩
  obtain ⟨so4, sc4, rfl⟩ := own_shape hs
  obtain ⟨do4, dc4, rfl⟩ := own_shape hd
  have RW4 : Hid (w15.ownsRow w14.heap.size 62 2 (.slice so4 n2 sc4) n2 (showCells L2) ∧ w15.ownsRow w14.heap.size 85 2 (.slice do4 m2 dc4) m2 (sendCells T2)) := ⟨hs, hd⟩
  have HB14_15 : Hid (Below w14.heap.size w14 w15) := hb
  have BK15 : Hid (Below w6.heap.size w6 w15) := BK14.out.trans (hb.mono BK14.out.size)
  have hz14_15 := hb.size
  clear hs hd hb
  clear x0 x1 x2 x3 x4 x5 x6 x7 x8 x9 x10 x11 x12 x13 x14
  have HC15 := show Hid (Blk w15 C _ 43) from HC.out.below HB14_15.out HC.out.lt
  obtain ⟨w16, hw16⟩ : ∃ w16, w16 = w15.alloc (.cells #[.int .u8 f2, .int .i64 (s2 : Int), .int .i64 (d2 : Int), .int .u16 a20, .int .u16 a21, .int .u16 a22, .int .u16 a23, .int .u16 a24, .int .u16 a25, .int .u16 a26, .int .u16 a27, .slice so4 n2 sc4, .slice do4 m2 dc4] 43) := ⟨_, rfl⟩
  have HB15_16 : Hid (Below w15.heap.size w15 w16) := by unfold Hid; rw [hw16]; exact (Below.refl _ _).alloc (Nat.le_refl _) _
  have HD : Hid (Blk w16 w15.heap.size #[.int .u8 f2, .int .i64 (s2 : Int), .int .i64 (d2 : Int), .int .u16 a20, .int .u16 a21, .int .u16 a22, .int .u16 a23, .int .u16 a24, .int .u16 a25, .int .u16 a26, .int .u16 a27, .slice so4 n2 sc4, .slice do4 m2 dc4] 43) := by unfold Hid; rw [hw16]; exact Blk.new w15 _ 43
  go_upto_region 15 with fail
  rw [← hw16]
  clear hw16
  have BK16 : Hid (Below w6.heap.size w6 w16) := BK15.out.trans (HB15_16.out.mono BK15.out.size)
  have hz15_16 : w15.heap.size < w16.heap.size := HD.out.lt
  obtain ⟨D, hD⟩ : ∃ x, x = w15.heap.size := ⟨_, rfl⟩
  rw [← hD] at HD ⊢
  have hD1 : w15.heap.size ≤ D := by omega
  have hD2 : D < w16.heap.size := by omega
  clear hD
  have HC16 := show Hid (Blk w16 C _ 43) from HC15.out.below HB15_16.out HC15.out.lt
  have hp := HC16.out
  have p0 : w16.cell? ⟨C, 0, none⟩ = some (.int .u8 f2) := by rw [hp.cell 0]; rfl
  have p1 : w16.cell? ⟨C, 1, none⟩ = some (.int .i64 (s2 : Int)) := by rw [hp.cell 1]; rfl
  have p2 : w16.cell? ⟨C, 2, none⟩ = some (.int .i64 (d2 : Int)) := by rw [hp.cell 2]; rfl
  have p3 : w16.cell? ⟨C, 3, none⟩ = some (.int .u16 a20) := by rw [hp.cell 3]; rfl
  have p4 : w16.cell? ⟨C, 4, none⟩ = some (.int .u16 a21) := by rw [hp.cell 4]; rfl
  have p5 : w16.cell? ⟨C, 5, none⟩ = some (.int .u16 a22) := by rw [hp.cell 5]; rfl
  have p6 : w16.cell? ⟨C, 6, none⟩ = some (.int .u16 a23) := by rw [hp.cell 6]; rfl
  have p7 : w16.cell? ⟨C, 7, none⟩ = some (.int .u16 a24) := by rw [hp.cell 7]; rfl
  have p8 : w16.cell? ⟨C, 8, none⟩ = some (.int .u16 a25) := by rw [hp.cell 8]; rfl
  have p9 : w16.cell? ⟨C, 9, none⟩ = some (.int .u16 a26) := by rw [hp.cell 9]; rfl
  have p10 : w16.cell? ⟨C, 10, none⟩ = some (.int .u16 a27) := by rw [hp.cell 10]; rfl
  have p11 : w16.cell? ⟨C, 11, none⟩ = some (.slice so3 n2 sc3) := by rw [hp.cell 11]; rfl
  have p12 : w16.cell? ⟨C, 12, none⟩ = some (.slice do3 m2 dc3) := by rw [hp.cell 12]; rfl
  have hq := HD.out
  have q0 : w16.cell? ⟨D, 0, none⟩ = some (.int .u8 f2) := by rw [hq.cell 0]; rfl
  have q1 : w16.cell? ⟨D, 1, none⟩ = some (.int .i64 (s2 : Int)) := by rw [hq.cell 1]; rfl
  have q2 : w16.cell? ⟨D, 2, none⟩ = some (.int .i64 (d2 : Int)) := by rw [hq.cell 2]; rfl
  have q3 : w16.cell? ⟨D, 3, none⟩ = some (.int .u16 a20) := by rw [hq.cell 3]; rfl
  have q4 : w16.cell? ⟨D, 4, none⟩ = some (.int .u16 a21) := by rw [hq.cell 4]; rfl
  have q5 : w16.cell? ⟨D, 5, none⟩ = some (.int .u16 a22) := by rw [hq.cell 5]; rfl
  have q6 : w16.cell? ⟨D, 6, none⟩ = some (.int .u16 a23) := by rw [hq.cell 6]; rfl
  have q7 : w16.cell? ⟨D, 7, none⟩ = some (.int .u16 a24) := by rw [hq.cell 7]; rfl
  have q8 : w16.cell? ⟨D, 8, none⟩ = some (.int .u16 a25) := by rw [hq.cell 8]; rfl
  have q9 : w16.cell? ⟨D, 9, none⟩ = some (.int .u16 a26) := by rw [hq.cell 9]; rfl
  have q10 : w16.cell? ⟨D, 10, none⟩ = some (.int .u16 a27) := by rw [hq.cell 10]; rfl
  have q11 : w16.cell? ⟨D, 11, none⟩ = some (.slice so4 n2 sc4) := by rw [hq.cell 11]; rfl
  have q12 : w16.cell? ⟨D, 12, none⟩ = some (.slice do4 m2 dc4) := by rw [hq.cell 12]; rfl
  clear hp hq
  have HB13_16 : Hid (Below w13.heap.size w13 w16) := HB13_14.out.trans ((HB14_15.out.trans (HB15_16.out.mono hz14_15)).mono (Nat.le_of_lt hz13_14))
  have RW3a : Hid (w16.ownsRow w12.heap.size 62 2 (.slice so3 n2 sc3) n2 (showCells L2) ∧ w16.ownsRow w12.heap.size 85 2 (.slice do3 m2 dc3) m2 (sendCells T2)) := ⟨own_below' RW3.out.1 HB13_16.out (Nat.le_refl _), own_below' RW3.out.2 HB13_16.out (Nat.le_refl _)⟩
  have RW4a : Hid (w16.ownsRow w14.heap.size 62 2 (.slice so4 n2 sc4) n2 (showCells L2) ∧ w16.ownsRow w14.heap.size 85 2 (.slice do4 m2 dc4) m2 (sendCells T2)) := ⟨own_below' RW4.out.1 HB15_16.out (Nat.le_refl _), own_below' RW4.out.2 HB15_16.out (Nat.le_refl _)⟩
  go_wp2_with fail
  refine (HS2.out _ _ _ _ w12.heap.size w14.heap.size w16 RW3a.out.1 RW3a.out.2 RW4a.out.1 RW4a.out.2).mono ?_
  rintro e w17 ⟨rfl, hb⟩
  have HB12_16 : Hid (Below w12.heap.size w12 w16) := HB12_13.out.trans (HB13_16.out.mono hz12_13)
  have hz12_16 := HB12_16.out.size
  have HB12_17 : Hid (Below w12.heap.size w12 w17) := HB12_16.out.trans (hb.mono hz12_16)
  have HB16_17 : Hid (Below w16.heap.size w16 w17) := hb
  have BK17 : Hid (Below w6.heap.size w6 w17) := BK16.out.trans (hb.mono BK16.out.size)
  have hz16_17 := hb.size
  clear hb
  clear p0 p1 p2 p3 p4 p5 p6 p7 p8 p9 p10 p11 p12
  clear q0 q1 q2 q3 q4 q5 q6 q7 q8 q9 q10 q11 q12
  have HC17 := show Hid (Blk w17 C _ 43) from HC16.out.below HB16_17.out HC16.out.lt
  have RW3b : Hid (w17.ownsRow w12.heap.size 62 2 (.slice so3 n2 sc3) n2 (showCells L2) ∧ w17.ownsRow w12.heap.size 85 2 (.slice do3 m2 dc3) m2 (sendCells T2)) := ⟨own_below' RW3a.out.1 HB16_17.out (Nat.le_refl _), own_below' RW3a.out.2 HB16_17.out (Nat.le_refl _)⟩
  have SL3 : Hid (∀ k, some k = Value.ownBlock (.slice so3 n2 sc3) ∨ some k = Value.ownBlock (.slice do3 m2 dc3) → w12.heap.size ≤ k) := by
    intro k hk
    rcases hk with hk | hk
    · exact (RW3.out.1.lt k hk.symm).1
    · exact (RW3.out.2.lt k hk.symm).1
  have HQ17 : Hid (Outs w17 zb11 200 v1 v2) := HQ12.out.below HB12_17.out
  clear RW3 RW3a RW4 RW4a HC HC15 HC16 HD
  go_wp2_with fail
  refine (kept_any _ 200 v1 v2 w17 HQ17.out).mono ?_
  rintro e w17' ⟨rfl, rfl⟩
  have hp := HC17.out
  have p0 : w17.cell? ⟨C, 0, none⟩ = some (.int .u8 f2) := by rw [hp.cell 0]; rfl
  have p1 : w17.cell? ⟨C, 1, none⟩ = some (.int .i64 (s2 : Int)) := by rw [hp.cell 1]; rfl
  have p2 : w17.cell? ⟨C, 2, none⟩ = some (.int .i64 (d2 : Int)) := by rw [hp.cell 2]; rfl
  have p3 : w17.cell? ⟨C, 3, none⟩ = some (.int .u16 a20) := by rw [hp.cell 3]; rfl
  have p4 : w17.cell? ⟨C, 4, none⟩ = some (.int .u16 a21) := by rw [hp.cell 4]; rfl
  have p5 : w17.cell? ⟨C, 5, none⟩ = some (.int .u16 a22) := by rw [hp.cell 5]; rfl
  have p6 : w17.cell? ⟨C, 6, none⟩ = some (.int .u16 a23) := by rw [hp.cell 6]; rfl
  have p7 : w17.cell? ⟨C, 7, none⟩ = some (.int .u16 a24) := by rw [hp.cell 7]; rfl
  have p8 : w17.cell? ⟨C, 8, none⟩ = some (.int .u16 a25) := by rw [hp.cell 8]; rfl
  have p9 : w17.cell? ⟨C, 9, none⟩ = some (.int .u16 a26) := by rw [hp.cell 9]; rfl
  have p10 : w17.cell? ⟨C, 10, none⟩ = some (.int .u16 a27) := by rw [hp.cell 10]; rfl
  have p11 : w17.cell? ⟨C, 11, none⟩ = some (.slice so3 n2 sc3) := by rw [hp.cell 11]; rfl
  have p12 : w17.cell? ⟨C, 12, none⟩ = some (.slice do3 m2 dc3) := by rw [hp.cell 12]; rfl
  clear hp
  go_wp2_with fail
  refine (HU2.out _ _ w12.heap.size 201 w17 HB12_17.out.size RW3b.out.1 RW3b.out.2).mono ?_
  rintro e w18 ⟨v3, v4, rfl, hou, hk⟩
  have HQ18 : Hid (Outs w18 w17.heap.size 201 v3 v4) := hou
  have HB12_18 : Hid (Below w12.heap.size w12 w18) := HB12_17.out.trans (hk.below HB12_17.out.size (fun k q => SL3.out k q))
  have BK18 : Hid (Below w6.heap.size w6 w18) := BK12.out.trans (HB12_18.out.mono BK12.out.size)
  clear hou hk RW3b SL3 HC17 HQ17 HB16_17 HB13_16 HB12_16 HB12_17
  clear p0 p1 p2 p3 p4 p5 p6 p7 p8 p9 p10 p11 p12
  have hYp := HY6.out.below BK18.out HY6.out.lt
  have y0 : w18.cell? ⟨Y, 0, none⟩ = some (.int .i64 fu) := by rw [hYp.cell 0]; rfl
  have y1 : w18.cell? ⟨Y, 1, none⟩ = some (.int .u16 k0) := by rw [hYp.cell 1]; rfl
  have y2 : w18.cell? ⟨Y, 2, none⟩ = some (.int .u16 k1) := by rw [hYp.cell 2]; rfl
  have y3 : w18.cell? ⟨Y, 3, none⟩ = some (.int .u16 k2) := by rw [hYp.cell 3]; rfl
  have y4 : w18.cell? ⟨Y, 4, none⟩ = some (.int .u16 k3) := by rw [hYp.cell 4]; rfl
  have y5 : w18.cell? ⟨Y, 5, none⟩ = some (.int .u16 k4) := by rw [hYp.cell 5]; rfl
  have y6 : w18.cell? ⟨Y, 6, none⟩ = some (.int .u16 k5) := by rw [hYp.cell 6]; rfl
  have y7 : w18.cell? ⟨Y, 7, none⟩ = some (.int .u16 k6) := by rw [hYp.cell 7]; rfl
  have y8 : w18.cell? ⟨Y, 8, none⟩ = some (.int .u16 k7) := by rw [hYp.cell 8]; rfl
  have y9 : w18.cell? ⟨Y, 9, none⟩ = some (.int .u8 what) := by rw [hYp.cell 9]; rfl
  have y10 : w18.cell? ⟨Y, 10, none⟩ = some (.int .u8 by_) := by rw [hYp.cell 10]; rfl
  have y11 : w18.cell? ⟨Y, 11, none⟩ = some (.int .u16 arg) := by rw [hYp.cell 11]; rfl
  have y12 : w18.cell? ⟨Y, 12, none⟩ = some (.int .u8 src) := by rw [hYp.cell 12]; rfl
  have y13 : w18.cell? ⟨Y, 13, none⟩ = some (.int .u8 route) := by rw [hYp.cell 13]; rfl
  have y14 : w18.cell? ⟨Y, 14, none⟩ = some (.slice (some ⟨g, 0, none⟩) n (n + 1)) := by rw [hYp.cell 14]; rfl
  clear hYp
  go_wp2_with fail
  refine (HV1.out g w18 (HDo.out w18 BK18.out)).mono ?_
  rintro e w19 ⟨sv, dv, rfl, hs, hd, hb⟩
  obtain ⟨so5, sc5, rfl⟩ := own_shape hs
  obtain ⟨do5, dc5, rfl⟩ := own_shape hd
  have RW5 : Hid (w19.ownsRow w18.heap.size 62 2 (.slice so5 n1 sc5) n1 (showCells L1) ∧ w19.ownsRow w18.heap.size 85 2 (.slice do5 m1 dc5) m1 (sendCells T1)) := ⟨hs, hd⟩
  have HB18_19 : Hid (Below w18.heap.size w18 w19) := hb
  have BK19 : Hid (Below w6.heap.size w6 w19) := BK18.out.trans (hb.mono BK18.out.size)
  have hz18_19 := hb.size
  clear hs hd hb
  clear y0 y1 y2 y3 y4 y5 y6 y7 y8 y9 y10 y11 y12 y13 y14
  have HB12_19 : Hid (Below w12.heap.size w12 w19) := HB12_18.out.trans (HB18_19.out.mono HB12_18.out.size)
  have HA19 := show Hid (Blk w19 A _ 43) from HA12.out.below HB12_19.out HA12.out.lt
  have HB19 := show Hid (Blk w19 B _ 43) from HB12.out.below HB12_19.out HB12.out.lt
  have RW2d : Hid (w19.ownsRow zb8 62 2 (.slice so2 n1 sc2) n1 (showCells L1) ∧ w19.ownsRow zb8 85 2 (.slice do2 m1 dc2) m1 (sendCells T1)) := ⟨own_below' RW2c.out.1 HB12_19.out (Nat.le_refl _), own_below' RW2c.out.2 HB12_19.out (Nat.le_refl _)⟩
  have HQ19 : Hid (Outs w19 zb11 200 v1 v2) := HQ12.out.below HB12_19.out
  have HP19 : Hid (Outs w19 w17.heap.size 201 v3 v4) := HQ18.out.below HB18_19.out
  obtain ⟨w20, hw20⟩ : ∃ w20, w20 = (((((((((((((w19.setCell ⟨A, 0, none⟩ (.int .u8 f1)).setCell ⟨A, 1, none⟩ (.int .i64 (s1 : Int))).setCell ⟨A, 2, none⟩ (.int .i64 (d1 : Int))).setCell ⟨A, 3, none⟩ (.int .u16 a10)).setCell ⟨A, 4, none⟩ (.int .u16 a11)).setCell ⟨A, 5, none⟩ (.int .u16 a12)).setCell ⟨A, 6, none⟩ (.int .u16 a13)).setCell ⟨A, 7, none⟩ (.int .u16 a14)).setCell ⟨A, 8, none⟩ (.int .u16 a15)).setCell ⟨A, 9, none⟩ (.int .u16 a16)).setCell ⟨A, 10, none⟩ (.int .u16 a17)).setCell ⟨A, 11, none⟩ (.slice so5 n1 sc5)).setCell ⟨A, 12, none⟩ (.slice do5 m1 dc5)) := ⟨_, rfl⟩
  have HK20 : Hid (Kept (fun k => k = A) w19 w20) := by unfold Hid; rw [hw20]; exact kept_13 (Kept.refl _ _) _ _ _ _ _ _ _ _ _ _ _ _ _
  have HA20 : Hid (Blk w20 A #[.int .u8 f1, .int .i64 (s1 : Int), .int .i64 (d1 : Int), .int .u16 a10, .int .u16 a11, .int .u16 a12, .int .u16 a13, .int .u16 a14, .int .u16 a15, .int .u16 a16, .int .u16 a17, .slice so5 n1 sc5, .slice do5 m1 dc5] 43) := by unfold Hid; rw [hw20]; exact blk_13 HA19.out _ _ _ _ _ _ _ _ _ _ _ _ _
  have hp := HA19.out
  have p0 : w19.cell? ⟨A, 0, none⟩ = some (.int .u8 f1) := by rw [hp.cell 0]; rfl
  have p1 : w19.cell? ⟨A, 1, none⟩ = some (.int .i64 (s1 : Int)) := by rw [hp.cell 1]; rfl
  have p2 : w19.cell? ⟨A, 2, none⟩ = some (.int .i64 (d1 : Int)) := by rw [hp.cell 2]; rfl
  have p3 : w19.cell? ⟨A, 3, none⟩ = some (.int .u16 a10) := by rw [hp.cell 3]; rfl
  have p4 : w19.cell? ⟨A, 4, none⟩ = some (.int .u16 a11) := by rw [hp.cell 4]; rfl
  have p5 : w19.cell? ⟨A, 5, none⟩ = some (.int .u16 a12) := by rw [hp.cell 5]; rfl
  have p6 : w19.cell? ⟨A, 6, none⟩ = some (.int .u16 a13) := by rw [hp.cell 6]; rfl
  have p7 : w19.cell? ⟨A, 7, none⟩ = some (.int .u16 a14) := by rw [hp.cell 7]; rfl
  have p8 : w19.cell? ⟨A, 8, none⟩ = some (.int .u16 a15) := by rw [hp.cell 8]; rfl
  have p9 : w19.cell? ⟨A, 9, none⟩ = some (.int .u16 a16) := by rw [hp.cell 9]; rfl
  have p10 : w19.cell? ⟨A, 10, none⟩ = some (.int .u16 a17) := by rw [hp.cell 10]; rfl
  have p11 : w19.cell? ⟨A, 11, none⟩ = some (.slice so1 n1 sc1) := by rw [hp.cell 11]; rfl
  have p12 : w19.cell? ⟨A, 12, none⟩ = some (.slice do1 m1 dc1) := by rw [hp.cell 12]; rfl
  have pf : ∀ i, w19.frozen? ⟨A, i, none⟩ = false := fun i => hp.free i
  clear hp
  go_upto_region 19 with fail
  rw [← hw20]
  clear hw20 pf
  clear p0 p1 p2 p3 p4 p5 p6 p7 p8 p9 p10 p11 p12
  have HB20 := show Hid (Blk w20 B _ 43) from HB19.out.of_block (HK20.out.block B HB19.out.lt hAB)
  have RW2e : Hid (w20.ownsRow zb8 62 2 (.slice so2 n1 sc2) n1 (showCells L1) ∧ w20.ownsRow zb8 85 2 (.slice do2 m1 dc2) m1 (sendCells T1)) := ⟨own_kept43 HK20.out HA19.out (by decide) RW2d.out.1, own_kept43 HK20.out HA19.out (by decide) RW2d.out.2⟩
  have RW5e : Hid (w20.ownsRow w18.heap.size 62 2 (.slice so5 n1 sc5) n1 (showCells L1) ∧ w20.ownsRow w18.heap.size 85 2 (.slice do5 m1 dc5) m1 (sendCells T1)) := ⟨own_kept43 HK20.out HA19.out (by decide) RW5.out.1, own_kept43 HK20.out HA19.out (by decide) RW5.out.2⟩
  have HQ20 : Hid (Outs w20 zb11 200 v1 v2) := HQ19.out.kept43 HK20.out HA19.out
  have HP20 : Hid (Outs w20 w17.heap.size 201 v3 v4) := HP19.out.kept43 HK20.out HA19.out
  have BK20 : Hid (Below w6.heap.size w6 w20) := BK19.out.trans (HK20.out.below BK19.out.size (fun k q => by omega))
  clear RW2c RW2d RW5 HQ12 HQ18 HQ19 HP19 HA12 HA19 HB12 HB19 HK20
  have hp := HA20.out
  have p0 : w20.cell? ⟨A, 0, none⟩ = some (.int .u8 f1) := by rw [hp.cell 0]; rfl
  have p1 : w20.cell? ⟨A, 1, none⟩ = some (.int .i64 (s1 : Int)) := by rw [hp.cell 1]; rfl
  have p2 : w20.cell? ⟨A, 2, none⟩ = some (.int .i64 (d1 : Int)) := by rw [hp.cell 2]; rfl
  have p3 : w20.cell? ⟨A, 3, none⟩ = some (.int .u16 a10) := by rw [hp.cell 3]; rfl
  have p4 : w20.cell? ⟨A, 4, none⟩ = some (.int .u16 a11) := by rw [hp.cell 4]; rfl
  have p5 : w20.cell? ⟨A, 5, none⟩ = some (.int .u16 a12) := by rw [hp.cell 5]; rfl
  have p6 : w20.cell? ⟨A, 6, none⟩ = some (.int .u16 a13) := by rw [hp.cell 6]; rfl
  have p7 : w20.cell? ⟨A, 7, none⟩ = some (.int .u16 a14) := by rw [hp.cell 7]; rfl
  have p8 : w20.cell? ⟨A, 8, none⟩ = some (.int .u16 a15) := by rw [hp.cell 8]; rfl
  have p9 : w20.cell? ⟨A, 9, none⟩ = some (.int .u16 a16) := by rw [hp.cell 9]; rfl
  have p10 : w20.cell? ⟨A, 10, none⟩ = some (.int .u16 a17) := by rw [hp.cell 10]; rfl
  have p11 : w20.cell? ⟨A, 11, none⟩ = some (.slice so5 n1 sc5) := by rw [hp.cell 11]; rfl
  have p12 : w20.cell? ⟨A, 12, none⟩ = some (.slice do5 m1 dc5) := by rw [hp.cell 12]; rfl
  have hq := HB20.out
  have q0 : w20.cell? ⟨B, 0, none⟩ = some (.int .u8 f1) := by rw [hq.cell 0]; rfl
  have q1 : w20.cell? ⟨B, 1, none⟩ = some (.int .i64 (s1 : Int)) := by rw [hq.cell 1]; rfl
  have q2 : w20.cell? ⟨B, 2, none⟩ = some (.int .i64 (d1 : Int)) := by rw [hq.cell 2]; rfl
  have q3 : w20.cell? ⟨B, 3, none⟩ = some (.int .u16 a10) := by rw [hq.cell 3]; rfl
  have q4 : w20.cell? ⟨B, 4, none⟩ = some (.int .u16 a11) := by rw [hq.cell 4]; rfl
  have q5 : w20.cell? ⟨B, 5, none⟩ = some (.int .u16 a12) := by rw [hq.cell 5]; rfl
  have q6 : w20.cell? ⟨B, 6, none⟩ = some (.int .u16 a13) := by rw [hq.cell 6]; rfl
  have q7 : w20.cell? ⟨B, 7, none⟩ = some (.int .u16 a14) := by rw [hq.cell 7]; rfl
  have q8 : w20.cell? ⟨B, 8, none⟩ = some (.int .u16 a15) := by rw [hq.cell 8]; rfl
  have q9 : w20.cell? ⟨B, 9, none⟩ = some (.int .u16 a16) := by rw [hq.cell 9]; rfl
  have q10 : w20.cell? ⟨B, 10, none⟩ = some (.int .u16 a17) := by rw [hq.cell 10]; rfl
  have q11 : w20.cell? ⟨B, 11, none⟩ = some (.slice so2 n1 sc2) := by rw [hq.cell 11]; rfl
  have q12 : w20.cell? ⟨B, 12, none⟩ = some (.slice do2 m1 dc2) := by rw [hq.cell 12]; rfl
  clear hp hq
  go_wp2_with fail
  refine (HS1.out _ _ _ _ w18.heap.size zb8 w20 RW5e.out.1 RW5e.out.2 RW2e.out.1 RW2e.out.2).mono ?_
  rintro e w21 ⟨rfl, hb⟩
  have HQ21 : Hid (Outs w21 zb11 200 v1 v2) := HQ20.out.below hb
  have HP21 : Hid (Outs w21 w17.heap.size 201 v3 v4) := HP20.out.below hb
  have BK21 : Hid (Below w6.heap.size w6 w21) := BK20.out.trans (hb.mono BK20.out.size)
  clear hb RW2e RW5e HQ20 HP20
  clear p0 p1 p2 p3 p4 p5 p6 p7 p8 p9 p10 p11 p12
  clear q0 q1 q2 q3 q4 q5 q6 q7 q8 q9 q10 q11 q12
  go_wp2_with fail
  refine (kept_any _ 200 v1 v2 w21 HQ21.out).mono ?_
  rintro e w21' ⟨rfl, rfl⟩
  go_wp2_with fail
  refine (kept_any _ 201 v3 v4 w21 HP21.out).mono ?_
  rintro e w21' ⟨rfl, rfl⟩
  clear HQ21 HP21
  go_wp2_with fail
  have HEnd : Hid (Below w.heap.size w w21) := HB6.out.trans (BK21.out.mono hs6)
  have hX := HX6.out.below BK21.out HX6.out.lt
  have x14 : w21.cell? ⟨w.heap.size, 14, none⟩ = some (.slice da n dc) := by rw [hX.cell 14]; rfl
  have hG := HG6.out.below BK21.out HG6.out.lt
  have gn : w21.cell? ⟨g, n, none⟩ = some (.int .u16 200) := by
    rw [hG.cell, ← HNL.out]
    simp
  have HDn : Hid (∀ i x, ds[i]? = some x → w21.cell? ⟨g, i, none⟩ = some (.int .u16 x) ∧ ∃ bd off, da = some ⟨bd, off, none⟩ ∧ w21.cell? ⟨bd, off + i, none⟩ = some (.int .u16 x)) := by
    intro i x hx
    obtain ⟨h1, h2, ⟨bd, off, h3, h4⟩, h5⟩ := HDi.out w21 BK21.out
    have hil := (List.getElem?_eq_some_iff.1 hx).1
    exact ⟨HGd.out w21 BK21.out i x hx, bd, off, (h3 (by show 0 < n; have := Hn.out; omega)).1, h4 i x hx⟩
  clear hX hG
  go_loopw [27] (fun i wr => ∃ (k q : Nat), k ≤ n ∧ i = .int .i64 k ∧ wr = w21.drewN q)
    (fun i _ => n - (intOf i).toNat)
  case atStart => exact ⟨0, 0, Nat.zero_le _, rfl, rfl⟩
  case round =>
    obtain ⟨k, q, hk, rfl, rfl⟩ := hrel
    by_cases hlt : k < n
    · obtain ⟨x, hx⟩ : ∃ x, ds[k]? = some x := ⟨ds[k]'(by have := Hn.out; omega), List.getElem?_eq_getElem (by have := Hn.out; omega)⟩
      obtain ⟨c0, bd, off, rfl, d0⟩ := HDn.out k x hx
      have hi0 : (k : Int) < (n : Int) := by omega
      have hi1 : (k : Int) < (n : Int) + 1 := by omega
      have h0 : (0 : Int) ≤ (k : Int) := by omega
      have t3 : (x == x) = true := by simp
      clear hx
      go_wp2_with fail
      go_quiet (fail)
      go_wp2
      go_roundw
      case rel => exact ⟨k + 1, _, by omega, by go_num, by first | rfl | simp⟩
      case measure => simp [intOf]; omega
    · go_wp2
      go_ret
      exact ⟨rfl, below_drewN HEnd.out _⟩
end Go.Proofs.Ytfggaacijcggeaa
