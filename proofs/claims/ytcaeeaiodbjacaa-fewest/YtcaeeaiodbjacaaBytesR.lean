/-
  The document's own answer: the walk of its Bytes.
-/
import Derived.Test.YtcaeeaiodbjacaaIsTreeR
import Derived.Test.YtcaeeaiodbjacaaTextD
import Derived.Test.YtcaeeaiodbjacaaGrown
namespace Go.Proofs.Ytcaeeaiodbjacaa
open Go.RowKit Go.Lib
set_option linter.unusedVariables false

theorem strOfNums_append (x y : List Int) : strOfNums (x ++ y) = strOfNums x ++ strOfNums y := by
  apply ByteArray.ext
  apply Array.ext'
  rw [strOfNums_data, ByteArray.data_append, Array.toList_append, strOfNums_data, strOfNums_data, List.map_append]

theorem strOfNums_bts (s : ByteArray) : strOfNums (T.bts s) = s := by
  apply ByteArray.ext
  apply Array.ext'
  rw [strOfNums_data]
  unfold T.bts
  rw [List.map_map]
  conv => rhs; rw [← List.map_id s.data.toList]
  apply List.map_congr_left
  intro x hx
  simp

theorem new_four (w : World) (x y z t : Value) (ty : TypeId) : ∀ i, i < 4 → (w.alloc (.cells #[x, y, z, t] ty)).cell? ⟨w.heap.size, 0 + i, none⟩ = some ([x, y, z, t].getD i undef) := by
  intro i hi
  rw [Nat.zero_add]
  refine ((Blk.new w #[x, y, z, t] ty).cell i).trans ?_
  rcases (show i = 0 ∨ i = 1 ∨ i = 2 ∨ i = 3 by omega) with rfl | rfl | rfl | rfl <;> rfl

theorem conv_four (w : World) (x y z t : Int) : (convert 67 9 (.slice (some ⟨w.heap.size, 0, none⟩) 4 4)).run Try.prog (w.alloc (.cells #[.int .u8 x, .int .u8 y, .int .u8 z, .int .u8 t] 5)).drew = .ok (.string (strOfNums [x, y, z, t])) (w.alloc (.cells #[.int .u8 x, .int .u8 y, .int .u8 z, .int .u8 t] 5)).drew :=
  run_convert_bytes_arg (P := Try.prog) _ 67 5 Try.underlying67 Try.underlying5 w.heap.size 0 4 4 [x, y, z, t] rfl (fun i hi => by
    refine Eq.trans (new_four w (.int .u8 x) (.int .u8 y) (.int .u8 z) (.int .u8 t) 5 i hi) ?_
    rcases (show i = 0 ∨ i = 1 ∨ i = 2 ∨ i = 3 by omega) with rfl | rfl | rfl | rfl <;> rfl) 9 Try.underlying9

set_option maxRecDepth 100000 in
set_option maxHeartbeats 4000000 in
theorem refBytes_any (ao : Option Addr) (cap : Nat) (l : List T.Nd) (w : World) (hl : l.length ≤ maxLen) (ha : NodeAt w ao l) (hk : ndOk l) (hk2 : ndSmall l) :
    Calls Try.prog 24 #[.slice ao l.length cap] w fun e w' => e = .returned (.tuple #[.string (bytesS l), .int .i64 (bytesE l)]) ∧ Below w.heap.size w w' := by
  have HT0 := fun (u : World) (h : NodeAt u ao l) => refTree_any ao cap l u hl h hk2
  have HT : Hid (∀ (u : World) (h : NodeAt u ao l), Calls Try.prog 21 #[.slice ao l.length cap] u fun e w' => e = .returned (.bool (T.isTree l)) ∧ Below u.heap.size u w') := HT0
  unfold maxLen at hl
  obtain ⟨n, hn⟩ : ∃ n, n = l.length := ⟨_, rfl⟩
  have Hn : Hid (l.length = n) := hn.symm
  rw [← hn] at HT
  rw [← hn]
  rw [← hn] at hl
  have HA : Hid (NodeAt w ao l) := ha
  have HK : Hid (ndOk l) := hk
  clear hn ha hk HT0 hk2
  cases hit : T.isTree l with
  | false =>
    have HI : Hid (T.isTree l = false) := hit
    rw [hit] at HT
    clear hit
    go_enter Try.func24, Try.ntmps24
    go_wp2_with (go_at_call 21; refine (HT.out _ HA.out).mono ?_; rintro e w1 ⟨rfl, hb1⟩)
    go_ret2
    exact ⟨bytes_bad HI.out, hb1⟩
  | true =>
    have HI : Hid (T.isTree l = true) := hit
    rw [hit] at HT
    have h16 : n ≤ 16 := by have := (T.isTree_iff l).1 hit; have := Hn.out; omega
    have HZ : Hid (∀ x ∈ l, x.2.2.size ≤ 24) := fun x hx => T.okNd_size (T.isTree_ok hit x hx)
    clear hit
    go_enter Try.func24, Try.ntmps24
    go_wp2_with (go_at_call 21; refine (HT.out _ HA.out).mono ?_; rintro e w1 ⟨rfl, hb1⟩)
    go_loopw [5, 6] (fun v i wr => ∃ (k : Nat) (t : ByteArray), t.size ≤ 448 ∧ v = .string t ∧ k ≤ n ∧ i = .int .i64 k ∧ Below w.heap.size w wr ∧ Hid (t = strOfNums (T.bytesOf (l.take k))))
      (fun _ i _ => n - (intOf i).toNat)
    case atStart => exact ⟨0, ⟨#[]⟩, by decide, rfl, Nat.zero_le _, rfl, hb1, rfl⟩
    case round =>
      obtain ⟨k, t, ht448, rfl, hk, rfl, hbel, HS0⟩ := hrel
      have HB : Hid (Below w.heap.size w wr) := hbel
      have hsz := hbel.size
      clear hbel hb1
      by_cases hlt : k < n
      · obtain ⟨y, hy⟩ : ∃ x, l[k]? = some x := ⟨l[k]'(by have := Hn.out; omega), List.getElem?_eq_getElem (by have := Hn.out; omega)⟩
        obtain ⟨b, off, rfl, hbl, hr⟩ : ∃ b off, ao = some ⟨b, off, none⟩ ∧ b < w.heap.size ∧ NodeRow w b off l := HA.out.resolve_left (by rintro rfl; simp at hy)
        have hyk := HK.out y (List.mem_of_getElem? hy)
        have hy24 := HZ.out y (List.mem_of_getElem? hy)
        have hts : T.bytesOf (l.take (k + 1)) = T.bytesOf (l.take k) ++ T.encN y := by rw [List.take_add_one, hy]; exact T.bytesOf_snoc _ _
        have hle : (strOfNums (T.bytesOf (l.take (k + 1)))).size ≤ 448 := by
          rw [strOfNums_size]
          have h1 := bytesOf_len (l.take (k + 1)) (fun x hx => HZ.out x (List.mem_of_mem_take hx))
          have h2 := List.length_take_le (k + 1) l
          omega
        obtain ⟨y1, y2, y3⟩ := y
        obtain ⟨c0, c1, c2⟩ := (hr.below HB.out hbl) k _ hy
        obtain ⟨⟨g0, g1, g2, g3⟩, _⟩ := hyk
        simp only at c0 c1 c2 g0 g1 g2 g3 hy24
        obtain ⟨q, hq⟩ : ∃ q, q = strOfNums [y1, y2 / 256, y2 % 256, (y3.size : Int)] := ⟨_, rfl⟩
        have hqs : q.size = 4 := by rw [hq, strOfNums_size]; rfl
        have HS : Hid (t ++ q ++ y3 = strOfNums (T.bytesOf (l.take (k + 1)))) := by
          have e3 : (y3.size : Int) % 256 = y3.size := by omega
          unfold Hid
          rw [hts, strOfNums_append, ← HS0.out]
          unfold T.encN
          rw [strOfNums_append, strOfNums_bts, e3, ← hq, ByteArray.append_assoc]
        have hle2 : (t ++ q ++ y3).size ≤ 448 := by rw [HS.out]; exact hle
        have hconv : (convert 67 9 (.slice (some ⟨wr.heap.size, 0, none⟩) 4 4)).run Try.prog (wr.alloc (.cells #[.int .u8 y1, .int .u8 (y2 / 256), .int .u8 (y2 % 256), .int .u8 (y3.size : Int)] 5)).drew = .ok (.string q) (wr.alloc (.cells #[.int .u8 y1, .int .u8 (y2 / 256), .int .u8 (y2 % 256), .int .u8 (y3.size : Int)] 5)).drew := by
          rw [hq]
          exact conv_four wr y1 (y2 / 256) (y2 % 256) (y3.size : Int)
        have f1 : IntKind.u8.wrap (IntKind.i64.wrap (y2.tdiv 256)) = y2 / 256 := by
          rw [IntKind.wrap_i64, Int.tdiv_eq_ediv_of_nonneg g2]
          simp only [IntKind.wrap, IntKind.bits, IntKind.signed]
          simp
          omega
        have f2 : IntKind.u8.wrap (IntKind.i64.wrap (y2.tmod 256)) = y2 % 256 := by
          rw [IntKind.wrap_i64, Int.tmod_eq_emod_of_nonneg g2]
          simp only [IntKind.wrap, IntKind.bits, IntKind.signed]
          simp
          omega
        have f2' : IntKind.u8.wrap (y2.tmod 256) = y2 % 256 := by
          rw [Int.tmod_eq_emod_of_nonneg g2]
          simp only [IntKind.wrap, IntKind.bits, IntKind.signed]
          simp
        have f3 : IntKind.u8.wrap (y3.size : Int) = (y3.size : Int) := by
          simp only [IntKind.wrap, IntKind.bits, IntKind.signed]
          simp
          omega
        have HC : Hid (wr.cell? ⟨b, off + k * 3, none⟩ = some (.int .u8 y1) ∧ wr.cell? ⟨b, off + k * 3 + 2, none⟩ = some (.string y3)) := ⟨c0, c2⟩
        have hbw : b < wr.heap.size := by omega
        have hki : (k : Int) < (n : Int) := by omega
        clear hy hr hts hle hq HS0
        go_wp2_with fail
        go_region_held (fun w' => Below wr.heap.size wr w' ∧ w'.cell? ⟨b, off + k * 3, none⟩ = some (.int .u8 y1) ∧ w'.cell? ⟨b, off + k * 3 + 2, none⟩ = some (.string y3)) ((refine held_two hbw HC.out ?_ hbw; (repeat (with_reducible first | exact Below.refl _ _ | refine Below.drew ?_ | refine Below.alloc ?_ (by first | exact Nat.le_refl _ | omega | (simp; done) | (simp; omega)) _))))
          (fail)
        all_goals (try go_wp2_with fail)
        all_goals
          go_roundw
          case rel => exact ⟨k + 1, t ++ q ++ y3, hle2, rfl, by omega, by go_num, (HB.out.alloc hsz _).drew, HS⟩
          case measure => simp [intOf]; omega
      · have HF : Hid (t = strOfNums (T.bytesOf l)) := by unfold Hid; rw [HS0.out, List.take_of_length_le (by have := Hn.out; omega)]
        clear HS0
        go_wp2
        go_ret2
        rw [HF.out]
        exact ⟨bytes_good HI.out, HB.out⟩

end Go.Proofs.Ytcaeeaiodbjacaa
