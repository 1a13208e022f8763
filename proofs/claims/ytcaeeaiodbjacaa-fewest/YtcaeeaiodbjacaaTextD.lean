/-
  The walk of Bytes.
-/
import Derived.Test.YtcaeeaiodbjacaaTextC
import Derived.Laws.BytesArg
import Derived.Lib.AppendStr
namespace Go.Proofs.Ytcaeeaiodbjacaa
open Go.RowKit Go.Lib
set_option linter.unusedVariables false

theorem info5 : (Try.prog.info? 5).map (fun i => (i.zero, i.size, i.bytes)) = some (some (.int .u8 0), 1, 1) := by kernel_rfl

def u8s (l : List Int) : List Value := l.map (Value.int .u8)

theorem strCells_u8s (s : ByteArray) : strCells s = u8s (T.bts s) := by simp [strCells, u8s, T.bts]

theorem new_four1 (w : World) (o : Obj) (x y z t : Value) (ty : TypeId) : ∀ j u, [x, y, z, t][j]? = some u → ((w.alloc o).alloc (.cells #[x, y, z, t] ty)).cell? ((⟨w.heap.size + 1, 0, none⟩ : Addr).add j) = some u := by
  have h : ∀ (w : World), ∀ j u, [x, y, z, t][j]? = some u → (w.alloc (.cells #[x, y, z, t] ty)).cell? ((⟨w.heap.size, 0, none⟩ : Addr).add j) = some u := by
    intro w j u hj
    match j, hj with
    | 0, hj => simp at hj; subst hj; simp [Addr.add]
    | 1, hj => simp at hj; subst hj; simp [Addr.add]
    | 2, hj => simp at hj; subst hj; simp [Addr.add]
    | 3, hj => simp at hj; subst hj; simp [Addr.add]
    | (j + 4), hj => simp at hj
  have h2 := h (w.alloc o)
  rwa [show (w.alloc o).heap.size = w.heap.size + 1 by simp] at h2

/-- What Bytes answers. -/
def bytesS (l : List T.Nd) : ByteArray := if T.isTree l then strOfNums (T.bytesOf l) else ⟨#[]⟩
def bytesE (l : List T.Nd) : Int := if T.isTree l then 0 else 3
theorem bytes_bad {l : List T.Nd} (h : T.isTree l = false) : Ending.returned (.tuple #[.string ⟨#[]⟩, .int .i64 3]) = Ending.returned (.tuple #[.string (bytesS l), .int .i64 (bytesE l)]) := by
  simp [bytesS, bytesE, h]
theorem bytes_good {l : List T.Nd} (h : T.isTree l = true) : Ending.returned (.tuple #[.string (strOfNums (T.bytesOf l)), .int .i64 0]) = Ending.returned (.tuple #[.string (bytesS l), .int .i64 (bytesE l)]) := by
  simp [bytesS, bytesE, h]

theorem bytesOf_len (l : List T.Nd) (h : ∀ x ∈ l, x.2.2.size ≤ 24) : (T.bytesOf l).length ≤ 28 * l.length := by
  induction l with
  | nil => simp [T.bytesOf]
  | cons x r ih =>
    have h1 := ih (fun y hy => h y (by simp [hy]))
    have h2 := h x (by simp)
    simp only [T.bytesOf, List.length_append, T.encN_length, List.length_cons]
    omega

set_option maxRecDepth 100000 in
set_option maxHeartbeats 4000000 in
theorem bytes_any (ao : Option Addr) (cap : Nat) (l : List T.Nd) (w : World) (hl : l.length ≤ maxLen) (hc : l.length ≤ cap) (ha : NodeAt w ao l) (hk : ndOk l) :
    Calls Try.prog 23 #[.slice ao l.length cap] w fun e w' => e = .returned (.tuple #[.string (bytesS l), .int .i64 (bytesE l)]) ∧ Below w.heap.size w w' := by
  have HT0 := fun (u : World) (h : NodeAt u ao l) => tree_any ao cap l u hl hc h hk
  have HT : Hid (∀ (u : World) (h : NodeAt u ao l), Calls Try.prog 31 #[.slice ao l.length cap] u fun e w' => e = .returned (.bool (T.isTree l)) ∧ Below u.heap.size u w') := HT0
  unfold maxLen at hl
  obtain ⟨n, hn⟩ : ∃ n, n = l.length := ⟨_, rfl⟩
  have Hn : Hid (l.length = n) := hn.symm
  rw [← hn] at HT
  rw [← hn]
  rw [← hn] at hl hc
  have HA : Hid (NodeAt w ao l) := ha
  have HK : Hid (ndOk l) := hk
  clear hn ha hk HT0
  cases hit : T.isTree l with
  | false =>
    have HI : Hid (T.isTree l = false) := hit
    rw [hit] at HT
    clear hit
    go_enter Try.func23, Try.ntmps23
    go_wp2_with (go_at_call 31; refine (HT.out _ HA.out).mono ?_; rintro e w1 ⟨rfl, hb1⟩)
    go_ret2
    exact ⟨bytes_bad HI.out, hb1⟩
  | true =>
    have HI : Hid (T.isTree l = true) := hit
    rw [hit] at HT
    have h16 : n ≤ 16 := by have := (T.isTree_iff l).1 hit; have := Hn.out; omega
    have HZ : Hid (∀ x ∈ l, x.2.2.size ≤ 24) := fun x hx => T.okNd_size (T.isTree_ok hit x hx)
    clear hit
    obtain ⟨i0, hi, hz0, hz1, hz2⟩ := info_parts info5
    go_enter Try.func23, Try.ntmps23
    go_wp2_with (go_at_call 31; refine (HT.out _ HA.out).mono ?_; rintro e w1 ⟨rfl, hb1⟩)
    go_loopw [4, 12] (fun v i wr => ∃ (k : Nat) (u : Value), u = v ∧ k ≤ n ∧ i = .int .i64 k ∧ wr.ownsRow w.heap.size 5 1 u (T.bytesOf (l.take k)).length (u8s (T.bytesOf (l.take k))) ∧ Below w.heap.size w wr)
      (fun _ i _ => n - (intOf i).toNat)
    case atStart => exact ⟨0, _, rfl, Nat.zero_le _, rfl, ⟨by simp [T.bytesOf, u8s], Or.inl ⟨rfl, by simp [T.bytesOf]⟩⟩, hb1⟩
    case round =>
      obtain ⟨k, u, rfl, hk, rfl, hown, hbel⟩ := hrel
      have HO : Hid (wr.ownsRow w.heap.size 5 1 u (T.bytesOf (l.take k)).length (u8s (T.bytesOf (l.take k)))) := hown
      have HB : Hid (Below w.heap.size w wr) := hbel
      have hsz := hbel.size
      clear hown hbel hb1
      by_cases hlt : k < n
      · obtain ⟨y, hy⟩ : ∃ x, l[k]? = some x := ⟨l[k]'(by have := Hn.out; omega), List.getElem?_eq_getElem (by have := Hn.out; omega)⟩
        obtain ⟨b, off, rfl, hbl, hr⟩ : ∃ b off, ao = some ⟨b, off, none⟩ ∧ b < w.heap.size ∧ NodeRow w b off l := HA.out.resolve_left (by rintro rfl; simp at hy)
        have hyk := HK.out y (List.mem_of_getElem? hy)
        have hy24 := HZ.out y (List.mem_of_getElem? hy)
        have hts : T.bytesOf (l.take (k + 1)) = T.bytesOf (l.take k) ++ T.encN y := by rw [List.take_add_one, hy]; exact T.bytesOf_snoc _ _
        have hlen : (T.bytesOf (l.take k)).length ≤ 28 * 16 := by
          have h1 := bytesOf_len (l.take k) (fun x hx => HZ.out x (List.mem_of_mem_take hx))
          have h2 := List.length_take_le k l
          omega
        obtain ⟨y1, y2, y3⟩ := y
        obtain ⟨c0, c1, c2⟩ := (hr.below HB.out hbl) k _ hy
        obtain ⟨⟨g0, g1, g2, g3⟩, _⟩ := hyk
        simp only at c0 c1 c2 g0 g1 g2 g3 hy24
        have HS : Hid (T.bytesOf (l.take (k + 1)) = T.bytesOf (l.take k) ++ T.encN (y1, y2, y3)) := hts
        obtain ⟨m, hm⟩ : ∃ m, m = (T.bytesOf (l.take k)).length := ⟨_, rfl⟩
        have Hm : Hid ((T.bytesOf (l.take k)).length = m) := hm.symm
        rw [← hm] at HO hlen
        have hbw : b < wr.heap.size := by omega
        have hbne : ¬ b = wr.heap.size := by omega
        have e1 : (y2 / 256) % 256 = y2 / 256 := by omega
        clear hy hr hts hm
        go_wp2_with (at_builtin; refine wpList_append_own _ rfl (.tmp 16) (.tmp 30) 67 rfl w.heap.size 5 i0 (.int .u8 0) 1 1 Try.underlying67 hi hz0 hz1 hz2 rfl (by decide) _ _ _ rfl ((HO.out.alloc _).alloc _) ⟨wr.heap.size + 1, 0, none⟩ 4 4 [.int .u8 y1, .int .u8 (y2 / 256), .int .u8 (y2 % 256), .int .u8 (y3.size : Int)] rfl rfl (new_four1 _ _ _ _ _ _ _) (by intro u hu; simp at hu; rcases hu with rfl | rfl | rfl | rfl <;> rfl) (by unfold maxLen; omega) (by omega) (by simp; omega) ?_)
        intro v1 w1 hown1 hg1 _
        have hx : Blk w1 wr.heap.size #[.int .u8 y1, .int .u16 y2, .string y3] 60 := ((Blk.new wr _ 60).alloc _).grown hg1 (own_ne_new HO.out (Nat.le_refl _))
        have d2 := hx.cell 2
        simp at d2
        have hb1 : Below w.heap.size w w1 := below_app ((HB.out.alloc hsz _).alloc (by simp; omega) _) hg1 ((HO.out.alloc _).alloc _) (Nat.le_refl _) (by simp; omega)
        have hs1 : w.heap.size ≤ w1.heap.size := hb1.size
        have HB1 : Hid (Below w.heap.size w w1) := hb1
        clear hg1 hx hb1 HO HB
        go_wp2_with (at_builtin; refine wpList_append_own_string _ rfl (.tmp 32) (.tmp 34) 67 9 rfl w.heap.size 5 i0 Try.underlying67 Try.underlying9 hi hz0 hz1 hz2 _ _ _ rfl hown1 y3 rfl (by unfold maxLen; omega) (by omega) hs1 ?_)
        intro v2 w2 hown2 hg2 _
        have hb2 : Below w.heap.size w w2 := below_app HB1.out hg2 hown1 (Nat.le_refl _) hs1
        have HB2 : Hid (Below w.heap.size w w2) := hb2
        have HO2 : Hid (w2.ownsRow w.heap.size 5 1 v2 (T.bytesOf (l.take (k + 1))).length (u8s (T.bytesOf (l.take (k + 1))))) := by
          unfold Hid
          rw [HS.out, List.length_append, Hm.out, T.encN_length]
          have : u8s (T.bytesOf (l.take k) ++ T.encN (y1, y2, y3)) = (u8s (T.bytesOf (l.take k)) ++ [.int .u8 y1, .int .u8 (y2 / 256), .int .u8 (y2 % 256), .int .u8 (y3.size : Int)]) ++ strCells y3 := by
            rw [strCells_u8s]
            have e3 : (y3.size : Int) % 256 = y3.size := by omega
            simp [u8s, T.encN, e3]
          rw [this, show m + (4 + y3.size) = m + 4 + y3.size by omega, List.append_assoc]
          exact hown2
        clear hg2 hb2 hown2 hown1 HB1
        go_wp2
        go_roundw
        case rel => exact ⟨k + 1, v2, rfl, by omega, by go_num, HO2.out, HB2.out⟩
        case measure => simp [intOf]; omega
      · have hkn : k = n := by omega
        subst hkn
        have ht : l.take k = l := List.take_of_length_le (by have := Hn.out; omega)
        have hown := HO.out
        rw [ht] at hown
        rcases hown.2 with ⟨hu, h0⟩ | ⟨g, gc, cur, hu, _⟩
        · have he : T.bytesOf l = [] := List.eq_nil_of_length_eq_zero h0
          have HE : Hid (Ending.returned (.tuple #[.string ByteArray.empty, .int .i64 0]) = Ending.returned (.tuple #[.string (bytesS l), .int .i64 (bytesE l)])) := by
            unfold Hid
            rw [← bytes_good HI.out, he]
            rfl
          have hconv := run_convert_bytes_nil (P := Try.prog) wr 67 5 Try.underlying67 Try.underlying5 0 0 9 Try.underlying9
          clear hown HO ht he h0
          subst hu
          go_wp2
          go_ret2
          exact ⟨HE.out, HB.out⟩
        · have hcells : ∀ i, i < (T.bytesOf l).length → wr.cell? ⟨g, 0 + i, none⟩ = some (.int .u8 ((T.bytesOf l).getD i 0)) := by
            intro i hi
            subst hu
            rw [Nat.zero_add, hown.cellAt i (by omega)]
            simp [u8s, List.getD, List.getElem?_eq_getElem hi]
          obtain ⟨sz, hsz2⟩ : ∃ sz, sz = (T.bytesOf l).length := ⟨_, rfl⟩
          rw [← hsz2] at hu
          clear hown HO
          subst hu
          have hconv := run_convert_bytes_arg (P := Try.prog) wr 67 5 Try.underlying67 Try.underlying5 g 0 sz gc (T.bytesOf l) hsz2.symm (by rw [hsz2]; exact hcells) 9 Try.underlying9
          clear ht hcells hsz2
          go_wp2
          go_ret2
          exact ⟨bytes_good HI.out, HB.out⟩

end Go.Proofs.Ytcaeeaiodbjacaa
