/-
  The document's own answer: the walk of letter.
-/
import Derived.Test.YtfggaacijcggeaaSpotM
import Derived.Test.YtfggaacijcggeaaMBlk
import Derived.Laws.BytesArg
namespace Go.Proofs.Ytfggaacijcggeaa
open Go.RowKit Go.Lib
set_option linter.unusedVariables false

theorem enc_one {v : Int} (h0 : 0 ≤ v) (h : v < 128) : Utf8.encode v = strOfNums [v] := by
  unfold Utf8.encode
  have hv : Utf8.valid v = true := by simp [Utf8.valid]; omega
  simp only [hv, if_true]
  rw [if_pos (show v.toNat < 128 by omega)]
  rfl

theorem enc_two {v : Int} (h0 : 128 ≤ v) (h : v < 2048) : Utf8.encode v = strOfNums [192 + v / 64, 128 + v % 64] := by
  unfold Utf8.encode
  have hv : Utf8.valid v = true := by simp [Utf8.valid]; omega
  simp only [hv, if_true]
  rw [if_neg (show ¬ v.toNat < 128 by omega), if_pos (show v.toNat < 2048 by omega)]
  simp only [strOfNums, List.map_cons, List.map_nil]
  rw [show (192 + v / 64).toNat = 192 + v.toNat / 64 by omega, show (128 + v % 64).toNat = 128 + v.toNat % 64 by omega]

theorem enc_three {v : Int} (h0 : 2048 ≤ v) (h : v < 65536) (hs : v < 55296 ∨ 57343 < v) : Utf8.encode v = strOfNums [224 + v / 4096, 128 + v / 64 % 64, 128 + v % 64] := by
  unfold Utf8.encode
  have hv : Utf8.valid v = true := by simp [Utf8.valid]; omega
  simp only [hv, if_true]
  rw [if_neg (show ¬ v.toNat < 128 by omega), if_neg (show ¬ v.toNat < 2048 by omega), if_pos (show v.toNat < 65536 by omega)]
  simp only [strOfNums, List.map_cons, List.map_nil]
  rw [show (224 + v / 4096).toNat = 224 + v.toNat / 4096 by omega, show (128 + v / 64 % 64).toNat = 128 + v.toNat / 64 % 64 by omega, show (128 + v % 64).toNat = 128 + v.toNat % 64 by omega]

theorem enc_sur {v : Int} (h1 : 55296 ≤ v) (h2 : v ≤ 57343) : Utf8.encode v = strOfNums [239, 191, 189] := by
  unfold Utf8.encode
  have hv : Utf8.valid v = false := by simp [Utf8.valid]; omega
  simp only [hv, Bool.false_eq_true, if_false]
  decide

theorem conv_l1 (w : World) (x : Int) : (convert 72 9 (.slice (some ⟨w.heap.size, 0, none⟩) 1 1)).run Try.prog (w.alloc (.cells #[.int .u8 x] 5)) = .ok (.string (strOfNums [x])) (w.alloc (.cells #[.int .u8 x] 5)) :=
  run_convert_bytes_arg (P := Try.prog) _ 72 5 Try.underlying72 Try.underlying5 w.heap.size 0 1 1 [x] rfl (fun i hi => by
    rw [Nat.zero_add]
    refine ((Blk.new w #[.int .u8 x] 5).cell i).trans ?_
    rcases (show i = 0 by omega) with rfl; rfl) 9 Try.underlying9

theorem conv_l2 (w : World) (x y : Int) : (convert 72 9 (.slice (some ⟨w.heap.size, 0, none⟩) 2 2)).run Try.prog (w.alloc (.cells #[.int .u8 x, .int .u8 y] 5)) = .ok (.string (strOfNums [x, y])) (w.alloc (.cells #[.int .u8 x, .int .u8 y] 5)) :=
  run_convert_bytes_arg (P := Try.prog) _ 72 5 Try.underlying72 Try.underlying5 w.heap.size 0 2 2 [x, y] rfl (fun i hi => by
    rw [Nat.zero_add]
    refine ((Blk.new w #[.int .u8 x, .int .u8 y] 5).cell i).trans ?_
    rcases (show i = 0 ∨ i = 1 by omega) with rfl | rfl <;> rfl) 9 Try.underlying9

theorem conv_l3 (w : World) (x y z : Int) : (convert 72 9 (.slice (some ⟨w.heap.size, 0, none⟩) 3 3)).run Try.prog (w.alloc (.cells #[.int .u8 x, .int .u8 y, .int .u8 z] 5)) = .ok (.string (strOfNums [x, y, z])) (w.alloc (.cells #[.int .u8 x, .int .u8 y, .int .u8 z] 5)) :=
  run_convert_bytes_arg (P := Try.prog) _ 72 5 Try.underlying72 Try.underlying5 w.heap.size 0 3 3 [x, y, z] rfl (fun i hi => by
    rw [Nat.zero_add]
    refine ((Blk.new w #[.int .u8 x, .int .u8 y, .int .u8 z] 5).cell i).trans ?_
    rcases (show i = 0 ∨ i = 1 ∨ i = 2 by omega) with rfl | rfl | rfl <;> rfl) 9 Try.underlying9

set_option maxRecDepth 100000
set_option maxHeartbeats 2000000

theorem lett_one (v : Int) (w : World) (h0 : 0 ≤ v) (h : v < 128) : Calls Try.prog 48 #[.int .i64 v] w fun e w' => e = .returned (.string (Utf8.encode v)) ∧ Below w.heap.size w w' := by
  have HE : Hid (Utf8.encode v = strOfNums [v]) := enc_one h0 h
  have h1 : ¬ 55296 ≤ v := by omega
  have hw : IntKind.u8.wrap v = v := by rw [IntKind.wrap_u8]; omega
  have hconv := conv_l1 w v
  go_enter Try.func48, Try.ntmps48
  go_wp2
  go_ret
  exact ⟨by rw [HE.out]; rfl, (Below.refl _ _).alloc (Nat.le_refl _) _⟩

theorem lett_two (v : Int) (w : World) (h0 : 128 ≤ v) (h : v < 2048) : Calls Try.prog 48 #[.int .i64 v] w fun e w' => e = .returned (.string (Utf8.encode v)) ∧ Below w.heap.size w w' := by
  have HE : Hid (Utf8.encode v = strOfNums [192 + v / 64, 128 + v % 64]) := enc_two h0 h
  have h1 : ¬ 55296 ≤ v := by omega
  have h2 : ¬ v < 128 := by omega
  have hd : v.tdiv 64 = v / 64 := Int.tdiv_eq_ediv_of_nonneg (by omega)
  have hm : v.tmod 64 = v % 64 := Int.tmod_eq_emod_of_nonneg (by omega)
  have hw0 : IntKind.i64.wrap (v / 64) = v / 64 := by rw [IntKind.wrap_i64]; omega
  have hw1 : IntKind.i64.wrap (192 + v / 64) = 192 + v / 64 := by rw [IntKind.wrap_i64]; omega
  have hw2 : IntKind.i64.wrap (128 + v % 64) = 128 + v % 64 := by rw [IntKind.wrap_i64]; omega
  have hw3 : IntKind.u8.wrap (192 + v / 64) = 192 + v / 64 := by rw [IntKind.wrap_u8]; omega
  have hw4 : IntKind.u8.wrap (128 + v % 64) = 128 + v % 64 := by rw [IntKind.wrap_u8]; omega
  have hconv := conv_l2 w (192 + v / 64) (128 + v % 64)
  go_enter Try.func48, Try.ntmps48
  go_wp2
  go_ret
  exact ⟨by rw [HE.out]; rfl, (Below.refl _ _).alloc (Nat.le_refl _) _⟩

theorem lett_three (v : Int) (w : World) (h0 : 2048 ≤ v) (h : v < 55296) : Calls Try.prog 48 #[.int .i64 v] w fun e w' => e = .returned (.string (Utf8.encode v)) ∧ Below w.heap.size w w' := by
  have HE : Hid (Utf8.encode v = strOfNums [224 + v / 4096, 128 + v / 64 % 64, 128 + v % 64]) := enc_three h0 (by omega) (.inl h)
  have h1 : ¬ 55296 ≤ v := by omega
  have h2 : ¬ v < 128 := by omega
  have h3 : ¬ v < 2048 := by omega
  have hd : v.tdiv 64 = v / 64 := Int.tdiv_eq_ediv_of_nonneg (by omega)
  have hd2 : v.tdiv 4096 = v / 4096 := Int.tdiv_eq_ediv_of_nonneg (by omega)
  have hm : v.tmod 64 = v % 64 := Int.tmod_eq_emod_of_nonneg (by omega)
  have hm2 : (v / 64).tmod 64 = v / 64 % 64 := Int.tmod_eq_emod_of_nonneg (by omega)
  have hw0 : IntKind.i64.wrap (v / 64) = v / 64 := by rw [IntKind.wrap_i64]; omega
  have hw5 : IntKind.i64.wrap (v / 4096) = v / 4096 := by rw [IntKind.wrap_i64]; omega
  have hw1 : IntKind.i64.wrap (224 + v / 4096) = 224 + v / 4096 := by rw [IntKind.wrap_i64]; omega
  have hw6 : IntKind.i64.wrap (128 + v / 64 % 64) = 128 + v / 64 % 64 := by rw [IntKind.wrap_i64]; omega
  have hw2 : IntKind.i64.wrap (128 + v % 64) = 128 + v % 64 := by rw [IntKind.wrap_i64]; omega
  have hw3 : IntKind.u8.wrap (224 + v / 4096) = 224 + v / 4096 := by rw [IntKind.wrap_u8]; omega
  have hw7 : IntKind.u8.wrap (128 + v / 64 % 64) = 128 + v / 64 % 64 := by rw [IntKind.wrap_u8]; omega
  have hw4 : IntKind.u8.wrap (128 + v % 64) = 128 + v % 64 := by rw [IntKind.wrap_u8]; omega
  have hconv := conv_l3 w (224 + v / 4096) (128 + v / 64 % 64) (128 + v % 64)
  go_enter Try.func48, Try.ntmps48
  go_wp2
  go_ret
  exact ⟨by rw [HE.out]; rfl, (Below.refl _ _).alloc (Nat.le_refl _) _⟩

theorem lett_high (v : Int) (w : World) (h0 : 57343 < v) (h : v ≤ 65535) : Calls Try.prog 48 #[.int .i64 v] w fun e w' => e = .returned (.string (Utf8.encode v)) ∧ Below w.heap.size w w' := by
  have HE : Hid (Utf8.encode v = strOfNums [224 + v / 4096, 128 + v / 64 % 64, 128 + v % 64]) := enc_three (by omega) (by omega) (.inr h0)
  have h1 : 55296 ≤ v := by omega
  have h1b : ¬ v ≤ 57343 := by omega
  have h2 : ¬ v < 128 := by omega
  have h3 : ¬ v < 2048 := by omega
  have hd : v.tdiv 64 = v / 64 := Int.tdiv_eq_ediv_of_nonneg (by omega)
  have hd2 : v.tdiv 4096 = v / 4096 := Int.tdiv_eq_ediv_of_nonneg (by omega)
  have hm : v.tmod 64 = v % 64 := Int.tmod_eq_emod_of_nonneg (by omega)
  have hm2 : (v / 64).tmod 64 = v / 64 % 64 := Int.tmod_eq_emod_of_nonneg (by omega)
  have hw0 : IntKind.i64.wrap (v / 64) = v / 64 := by rw [IntKind.wrap_i64]; omega
  have hw5 : IntKind.i64.wrap (v / 4096) = v / 4096 := by rw [IntKind.wrap_i64]; omega
  have hw1 : IntKind.i64.wrap (224 + v / 4096) = 224 + v / 4096 := by rw [IntKind.wrap_i64]; omega
  have hw6 : IntKind.i64.wrap (128 + v / 64 % 64) = 128 + v / 64 % 64 := by rw [IntKind.wrap_i64]; omega
  have hw2 : IntKind.i64.wrap (128 + v % 64) = 128 + v % 64 := by rw [IntKind.wrap_i64]; omega
  have hw3 : IntKind.u8.wrap (224 + v / 4096) = 224 + v / 4096 := by rw [IntKind.wrap_u8]; omega
  have hw7 : IntKind.u8.wrap (128 + v / 64 % 64) = 128 + v / 64 % 64 := by rw [IntKind.wrap_u8]; omega
  have hw4 : IntKind.u8.wrap (128 + v % 64) = 128 + v % 64 := by rw [IntKind.wrap_u8]; omega
  have hconv := conv_l3 w (224 + v / 4096) (128 + v / 64 % 64) (128 + v % 64)
  go_enter Try.func48, Try.ntmps48
  go_wp2
  go_ret
  exact ⟨by rw [HE.out]; rfl, (Below.refl _ _).alloc (Nat.le_refl _) _⟩

theorem lett_sur (v : Int) (w : World) (h1 : 55296 ≤ v) (h2 : v ≤ 57343) : Calls Try.prog 48 #[.int .i64 v] w fun e w' => e = .returned (.string (Utf8.encode v)) ∧ Below w.heap.size w w' := by
  have HE : Hid (Utf8.encode v = strOfNums [239, 191, 189]) := enc_sur h1 h2
  have hconv := conv_l3 w 239 191 189
  go_enter Try.func48, Try.ntmps48
  go_wp2
  go_ret
  exact ⟨by rw [HE.out]; rfl, (Below.refl _ _).alloc (Nat.le_refl _) _⟩

theorem lett_any (v : Int) (w : World) (h0 : 0 ≤ v) (h : v ≤ 65535) : Calls Try.prog 48 #[.int .i64 v] w fun e w' => e = .returned (.string (Utf8.encode v)) ∧ Below w.heap.size w w' := by
  by_cases h1 : v < 128
  · exact lett_one v w h0 h1
  by_cases h2 : v < 2048
  · exact lett_two v w (by omega) h2
  by_cases h3 : v < 55296
  · exact lett_three v w (by omega) h3
  by_cases h4 : v ≤ 57343
  · exact lett_sur v w (by omega) h4
  · exact lett_high v w (by omega) h

end Go.Proofs.Ytfggaacijcggeaa
