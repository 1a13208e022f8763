/-
  The document's own answer: the walk of shared.
-/
import Derived.Test.YtcaeeaiodbjacaaStayW
import Derived.Test.YtcaeeaiodbjacaaArrW
import Derived.Laws.MakeOwn
namespace Go.Proofs.Ytcaeeaiodbjacaa
open Go.RowKit
set_option linter.unusedVariables false

namespace T
/-- Of the first i and the first k. -/
def pre (a b : List Int) (i k : Nat) : Int := (lcs (a.take i).reverse (b.take k).reverse : Nat)

theorem pre_zero_left (a b : List Int) (k : Nat) : pre a b 0 k = 0 := by
  unfold pre
  rw [show (a.take 0).reverse = [] by simp, lcs_nil_left]
  rfl
theorem pre_zero_right (a b : List Int) (i : Nat) : pre a b i 0 = 0 := by
  unfold pre
  rw [show (b.take 0).reverse = [] by simp, lcs_nil_right]
  rfl

theorem pre_step {a b : List Int} {i k : Nat} {x y : Int} (hx : a[i]? = some x) (hy : b[k]? = some y) : pre a b (i + 1) (k + 1) = if x = y then pre a b i k + 1 else if pre a b i (k + 1) < pre a b (i + 1) k then pre a b (i + 1) k else pre a b i (k + 1) := by
  have ea : (a.take (i + 1)).reverse = x :: (a.take i).reverse := by rw [List.take_add_one, hx]; simp
  have eb : (b.take (k + 1)).reverse = y :: (b.take k).reverse := by rw [List.take_add_one, hy]; simp
  unfold pre
  rw [ea, eb]
  by_cases h : x = y
  · subst h
    rw [lcs_same, if_pos rfl]
    rfl
  · rw [lcs_other h, if_neg h]
    rcases Nat.lt_or_ge (lcs (a.take i).reverse (y :: (b.take k).reverse)) (lcs (x :: (a.take i).reverse) (b.take k).reverse) with q | q
    · rw [if_pos (by omega)]
      congr 1
      exact Nat.max_eq_left (by omega)
    · rw [if_neg (by omega)]
      congr 1
      exact Nat.max_eq_right q

theorem pre_range (a b : List Int) (i k : Nat) : 0 ≤ pre a b i k ∧ pre a b i k ≤ i := by
  obtain ⟨c, h1, _, h3⟩ := lcs_ge _ (a.take i).reverse (b.take k).reverse rfl
  unfold pre
  have := h1.length_le
  rw [List.length_reverse, List.length_take] at this
  omega

theorem pre_all (a b : List Int) : pre a b a.length b.length = shared a b := by
  unfold pre shared
  rw [List.take_length, List.take_length]
end T

def U8Row (w : World) (b off : Nat) (l : List Int) : Prop := ∀ i x, l[i]? = some x → w.cell? ⟨b, off + i, none⟩ = some (.int .u8 x)

theorem U8Row.below {B : Nat} {w w' : World} {b off : Nat} {l : List Int} (h : U8Row w b off l) (hb : Below B w w') (hl : b < B) : U8Row w' b off l :=
  fun i x hx => (hb.cell hl).trans (h i x hx)

def U8At (w : World) (ao : Option Addr) (l : List Int) : Prop := l = [] ∨ ∃ b off, ao = some ⟨b, off, none⟩ ∧ b < w.heap.size ∧ U8Row w b off l

theorem own_u8At {w : World} {base n : Nat} {ao : Option Addr} {cap : Nat} {l : List Int} (h : w.ownsRow base 5 1 (.slice ao n cap) n (u8l l)) (hn : l.length = n) : U8At w ao l := by
  rcases h.2 with ⟨hv, h0⟩ | ⟨g, c, cur, hv, hb, hh, h1, h2, h3⟩
  · exact Or.inl (List.eq_nil_of_length_eq_zero (by omega))
  · simp only [Value.slice.injEq] at hv
    obtain ⟨rfl, _, rfl⟩ := hv
    refine Or.inr ⟨g, 0, rfl, lt_of_block hh, ?_⟩
    intro i x hx
    have hi : i < n := by have := (List.getElem?_eq_some_iff.1 hx).1; omega
    rw [Nat.zero_add, h.cellAt i (by omega)]
    unfold u8l
    rw [List.getElem?_map, hx]
    rfl

/-- The numbers so far: up to k of the row i + 1, behind it of the row i. -/
def Bst (a b : List Int) (i k m : Nat) (l : List Int) : Prop := l.length = m + 1 ∧ ∀ j, j ≤ m → l[j]? = some (if j ≤ k then T.pre a b (i + 1) j else T.pre a b i j)

theorem Bst.next {a b : List Int} {i k m : Nat} {l : List Int} {v : Int} (h : Bst a b i k m l) (hk : k < m) (hv : v = T.pre a b (i + 1) (k + 1)) : Bst a b i (k + 1) m (l.set (k + 1) v) := by
  refine ⟨by rw [List.length_set]; exact h.1, ?_⟩
  intro j hj
  rw [List.getElem?_set]
  by_cases he : k + 1 = j
  · subst he
    rw [if_pos rfl, if_pos (by have := h.1; omega), if_pos (Nat.le_refl _), hv]
  · rw [if_neg he, h.2 j hj]
    by_cases hjk : j ≤ k
    · rw [if_pos hjk, if_pos (by omega)]
    · rw [if_neg hjk, if_neg (by omega)]

theorem Bst.same {a b : List Int} {i k m : Nat} {l : List Int} (h : Bst a b i k m l) (hk : k < m) (hv : T.pre a b i (k + 1) = T.pre a b (i + 1) (k + 1)) : Bst a b i (k + 1) m l := by
  refine ⟨h.1, ?_⟩
  intro j hj
  rw [h.2 j hj]
  by_cases hjk : j ≤ k
  · rw [if_pos hjk, if_pos (by omega)]
  · rw [if_neg hjk]
    by_cases he : j = k + 1
    · subst he
      rw [if_pos (Nat.le_refl _), hv]
    · rw [if_neg (by omega)]

theorem Bst.over {a b : List Int} {i m : Nat} {l : List Int} (h : Bst a b i m m l) : Bst a b (i + 1) 0 m l := by
  refine ⟨h.1, ?_⟩
  intro j hj
  rw [h.2 j hj, if_pos hj]
  by_cases h0 : j ≤ 0
  · obtain rfl : j = 0 := by omega
    rw [if_pos h0, T.pre_zero_right, T.pre_zero_right]
  · rw [if_neg h0]

theorem its_set (l : List Int) (k : Nat) (v : Int) : its (l.set k v) = (its l).set k (.int .i64 v) := by
  unfold its
  rw [List.map_set]

set_option maxRecDepth 100000 in
set_option maxHeartbeats 8000000 in
theorem shared_any (ao bo : Option Addr) (ac bc : Nat) (a b : List Int) (w : World) (hla : a.length ≤ 16) (hlb : b.length ≤ 16) (haa : U8At w ao a) (hab : U8At w bo b) :
    Calls Try.prog 45 #[.slice ao a.length ac, .slice bo b.length bc] w fun e w' => e = .returned (.int .i64 (T.shared a b)) ∧ Below w.heap.size w w' := by
  obtain ⟨i0, hi, hz0, hz1, hz2⟩ := info_parts info3
  have HA : Hid (U8At w ao a) := haa
  have HB : Hid (U8At w bo b) := hab
  have HSh : Hid ((T.shared a b : Int) = T.pre a b a.length b.length) := (T.pre_all a b).symm
  obtain ⟨n, hn⟩ : ∃ n, n = a.length := ⟨_, rfl⟩
  have Hn : Hid (a.length = n) := hn.symm
  obtain ⟨m, hm⟩ : ∃ n, n = b.length := ⟨_, rfl⟩
  have Hm : Hid (b.length = m) := hm.symm
  rw [← hn] at hla HSh ⊢
  rw [← hm] at hlb HSh ⊢
  clear haa hab hn hm
  go_enter Try.func45, Try.ntmps45
  go_wp2_with (at_make; refine wpList_make_full _ rfl (.tmp 12) (.tmp 12) 62 rfl w.heap.size 3 i0 (.int .i64 0) 1 Try.underlying62 hi hz0 hz1 .i64 .i64 _ _ (m + 1) rfl rfl (by first | rfl | go_num | (simp; omega) | omega) (by first | rfl | go_num | (simp; omega) | omega) (by rw [hz2]; omega) (by unfold maxLen; omega) (Nat.le_refl _) ?_)
  intro w1 ho1 hg1
  have HS0 : Hid (∃ l, Bst a b 0 0 m l ∧ w1.ownsRow w.heap.size 3 1 (.slice (some ⟨w.heap.size, 0, none⟩) (m + 1) (m + 1)) (m + 1) (its l) ∧ Below w.heap.size w w1) := by
    refine ⟨List.replicate (m + 1) 0, ⟨by simp, ?_⟩, ?_, (Below.refl _ _).grown hg1 (Nat.le_refl _) (by simp)⟩
    · intro j hj
      rw [List.getElem?_replicate, if_pos (by omega), T.pre_zero_left]
      by_cases h0 : j ≤ 0
      · obtain rfl : j = 0 := by omega
        rw [if_pos h0, T.pre_zero_right]
      · rw [if_neg h0]
    · have e : its (List.replicate (m + 1) 0) = (madeCells #[Value.int .i64 0] (m + 1)).toList := by
        unfold its madeCells
        apply List.ext_getElem?
        intro i
        by_cases hi : i < m + 1
        · simp [hi, Nat.mod_one]
        · rw [List.getElem?_eq_none (by simp; omega), List.getElem?_eq_none (by simp; omega)]
      rw [e]
      exact ho1
  clear ho1 hg1
  go_wp2_with fail
  go_loopw [6] (fun vi wr => ∃ (i : Nat) (l : List Int), i ≤ n ∧ vi = .int .i64 i ∧ Hid (Bst a b i 0 m l ∧ wr.ownsRow w.heap.size 3 1 (.slice (some ⟨w.heap.size, 0, none⟩) (m + 1) (m + 1)) (m + 1) (its l) ∧ Below w.heap.size w wr))
    (fun vi _ => n - (intOf vi).toNat)
  case atStart =>
    obtain ⟨l, h1, h2, h3⟩ := HS0.out
    exact ⟨0, l, Nat.zero_le _, rfl, h1, h2, h3⟩
  case round =>
    obtain ⟨i, l, hin, rfl, HS⟩ := hrel
    clear HS0
    by_cases hlt : i < n
    · obtain ⟨x, hx⟩ : ∃ x, a[i]? = some x := ⟨a[i]'(by have := Hn.out; omega), List.getElem?_eq_getElem (by have := Hn.out; omega)⟩
      obtain ⟨ba, fa, rfl, hba, hra⟩ : ∃ b off, ao = some ⟨b, off, none⟩ ∧ b < w.heap.size ∧ U8Row w b off a := HA.out.resolve_left (by rintro rfl; simp at hx)
      have HXc : Hid (∀ u : World, Below w.heap.size w u → u.cell? ⟨ba, fa + i, none⟩ = some (.int .u8 x)) := fun u hu => (hra.below hu hba) i _ hx
      have HX : Hid (a[i]? = some x) := hx
      have hii : (i : Int) < (n : Int) := by omega
      have hi00 : (0 : Int) ≤ (i : Int) := by omega
      clear hx hra
      go_wp2_with fail
      go_loopw [7, 8] (fun vh vk wr => ∃ (k : Nat) (l : List Int) (ah : Int), k ≤ m ∧ vk = .int .i64 k ∧ vh = .int .i64 ah ∧ Hid (ah = T.pre a b i k) ∧ Hid (Bst a b i k m l ∧ wr.ownsRow w.heap.size 3 1 (.slice (some ⟨w.heap.size, 0, none⟩) (m + 1) (m + 1)) (m + 1) (its l) ∧ Below w.heap.size w wr))
        (fun _ vk _ => m - (intOf vk).toNat)
      case atStart => 
        refine ⟨0, l, 0, Nat.zero_le _, rfl, rfl, by unfold Hid; rw [T.pre_zero_right], ⟨HS.out.1.1, ?_⟩, HS.out.2.1, HS.out.2.2⟩
        intro j hj
        rw [HS.out.1.2 j hj]
      case round =>
        obtain ⟨k, l2, ah, hkm, rfl, rfl, HAh, HW⟩ := hrel
        clear HS
        have hszw := HW.out.2.2.size
        by_cases hk : k < m
        · obtain ⟨y, hy⟩ : ∃ x, b[k]? = some x := ⟨b[k]'(by have := Hm.out; omega), List.getElem?_eq_getElem (by have := Hm.out; omega)⟩
          obtain ⟨bb, fb, rfl, hbb, hrb⟩ : ∃ b' off, bo = some ⟨b', off, none⟩ ∧ b' < w.heap.size ∧ U8Row w b' off b := HB.out.resolve_left (by rintro rfl; simp at hy)
          have hstep := T.pre_step HX.out hy
          have d0 := (hrb.below HW.out.2.2 hbb) k _ hy
          have c0 := HXc.out wr HW.out.2.2
          have r1 := T.pre_range a b i k
          have r2 := T.pre_range a b i (k + 1)
          have r3 := T.pre_range a b (i + 1) k
          have e1 : l2[k]? = some (T.pre a b (i + 1) k) := by rw [HW.out.1.2 k (by omega), if_pos (Nat.le_refl _)]
          have e2 : l2[k + 1]? = some (T.pre a b i (k + 1)) := by rw [HW.out.1.2 (k + 1) (by omega), if_neg (by omega)]
          have g1 : wr.cell? ⟨w.heap.size, k, none⟩ = some (.int .i64 (T.pre a b (i + 1) k)) := by
            rw [HW.out.2.1.cellAt k (by omega)]
            unfold its
            rw [List.getElem?_map, e1]
            rfl
          have g2 : wr.cell? ⟨w.heap.size, k + 1, none⟩ = some (.int .i64 (T.pre a b i (k + 1))) := by
            rw [HW.out.2.1.cellAt (k + 1) (by omega)]
            unfold its
            rw [List.getElem?_map, e2]
            rfl
          obtain ⟨cur, hcur⟩ : ∃ cur, Blk wr w.heap.size cur 3 := by
            rcases HW.out.2.1.2 with ⟨h, _⟩ | ⟨g', cp, cur, hv, _, hh, _⟩
            · simp at h
            · simp only [Value.slice.injEq, Option.some.injEq, Addr.mk.injEq] at hv
              obtain ⟨⟨rfl, _⟩, _⟩ := hv
              exact ⟨cur, hh⟩
          have f2 := hcur.free (k + 1)
          have hah : ah = T.pre a b i k := HAh.out
          generalize hp1 : T.pre a b (i + 1) k = p1 at e1 g1 r3 hstep
          generalize hp2 : T.pre a b i (k + 1) = p2 at e2 g2 r2 hstep
          rw [← hah] at r1 hstep
          have HP2 : Hid (T.pre a b i (k + 1) = p2) := hp2
          have hki : (k : Int) < (m : Int) := by omega
          have hki1 : (k : Int) < (m : Int) + 1 := by omega
          have hki2 : (k : Int) + 1 < (m : Int) + 1 := by omega
          have hk0 : (0 : Int) ≤ (k : Int) := by omega
          have hk1 : (0 : Int) ≤ (k : Int) + 1 := by omega
          have hw1 : IntKind.i64.wrap ((k : Int) + 1) = (k : Int) + 1 := by rw [IntKind.wrap_i64]; omega
          have hw2 : IntKind.i64.wrap (ah + 1) = ah + 1 := by rw [IntKind.wrap_i64]; omega
          clear hy hrb hcur e1 e2 hp1 hp2 hah HAh
          have HSet : Hid (∀ (u : World) (v : Int) (q : Nat), u = wr.drewN q → v = T.pre a b (i + 1) (k + 1) → Bst a b i (k + 1) m (l2.set (k + 1) v) ∧ (u.setCell ⟨w.heap.size, k + 1, none⟩ (.int .i64 v)).ownsRow w.heap.size 3 1 (.slice (some ⟨w.heap.size, 0, none⟩) (m + 1) (m + 1)) (m + 1) (its (l2.set (k + 1) v)) ∧ Below w.heap.size w (u.setCell ⟨w.heap.size, k + 1, none⟩ (.int .i64 v))) := by
            intro u v q hu hv
            subst hu
            refine ⟨HW.out.1.next hk hv, ?_, (below_drewN HW.out.2.2 q).setCell (Nat.le_refl _) _⟩
            rw [its_set]
            exact own_set1 (own_below' HW.out.2.1 (below_drewN (Below.refl _ _) q) (Nat.le_refl _)) (k + 1) (.int .i64 v)
          have HSame : Hid (∀ q : Nat, p2 = T.pre a b (i + 1) (k + 1) → Bst a b i (k + 1) m l2 ∧ (wr.drewN q).ownsRow w.heap.size 3 1 (.slice (some ⟨w.heap.size, 0, none⟩) (m + 1) (m + 1)) (m + 1) (its l2) ∧ Below w.heap.size w (wr.drewN q)) := by
            intro q hv
            exact ⟨HW.out.1.same hk (by rw [HP2.out]; exact hv), own_below' HW.out.2.1 (below_drewN (Below.refl _ _) q) (Nat.le_refl _), below_drewN HW.out.2.2 q⟩
          clear HW
          by_cases hxy : x = y
          · have HV : Hid (ah + 1 = T.pre a b (i + 1) (k + 1)) := by unfold Hid; rw [hstep, if_pos hxy]
            subst hxy
            clear hstep
            go_wp2_with fail
            go_quiet (fail)
            go_wp2
            go_roundw
            case rel => exact ⟨k + 1, l2.set (k + 1) (ah + 1), p2, by omega, by go_num, rfl, HP2.out.symm, HSet.out _ _ _ rfl HV.out⟩
            case measure => simp [intOf]; omega
          · have hbf : (x == y) = false := by rw [beq_eq_false_iff_ne]; exact hxy
            by_cases hgt : p2 < p1
            · have HV : Hid (p1 = T.pre a b (i + 1) (k + 1)) := by unfold Hid; rw [hstep, if_neg hxy, if_pos hgt]
              clear hstep hxy
              go_wp2_with fail
              go_quiet (fail)
              go_wp2_with fail
              go_quiet (fail)
              go_wp2
              go_roundw
              case rel => exact ⟨k + 1, l2.set (k + 1) p1, p2, by omega, by go_num, rfl, HP2.out.symm, HSet.out _ _ _ rfl HV.out⟩
              case measure => simp [intOf]; omega
            · have HV : Hid (p2 = T.pre a b (i + 1) (k + 1)) := by unfold Hid; rw [hstep, if_neg hxy, if_neg hgt]
              clear hstep hxy
              go_wp2_with fail
              go_quiet (fail)
              go_wp2_with fail
              go_quiet (fail)
              go_wp2
              go_roundw
              case rel => exact ⟨k + 1, l2, p2, by omega, by go_num, rfl, HP2.out.symm, HSame.out _ HV.out⟩
              case measure => simp [intOf]; omega
        · obtain rfl : k = m := by omega
          have hki : ¬ (k : Int) < (k : Int) := by omega
          go_wp2
          go_roundw
          case rel => exact ⟨i + 1, l2, by omega, by go_num, HW.out.1.over, HW.out.2.1, HW.out.2.2⟩
          case measure => simp [intOf]; omega
    · obtain rfl : i = n := by omega
      have e : l[m]? = some (T.pre a b i m) := by
        rw [HS.out.1.2 m (Nat.le_refl _)]
        by_cases h0 : m ≤ 0
        · obtain rfl : m = 0 := by omega
          rw [if_pos h0, T.pre_zero_right, T.pre_zero_right]
        · rw [if_neg h0]
      have g1 : wr.cell? ⟨w.heap.size, m, none⟩ = some (.int .i64 (T.pre a b i m)) := by
        rw [HS.out.2.1.cellAt m (by omega)]
        unfold its
        rw [List.getElem?_map, e]
        rfl
      have hii : ¬ (i : Int) < (i : Int) := by omega
      have hm1 : (m : Int) < (m : Int) + 1 := by omega
      have hm0 : (0 : Int) ≤ (m : Int) := by omega
      clear e
      go_wp2
      go_ret
      rw [HSh.out]
      exact ⟨rfl, HS.out.2.2⟩

end Go.Proofs.Ytcaeeaiodbjacaa
