/-
  The document's own answer: the walks of stay and shared.
  The document's own answer: the walk of shared.
  The document's own answer: the walk of Fewest.
-/
import Derived.Test.YtcaeeaiodbjacaaDiffC
import Derived.Test.YtcaeeaiodbjacaaRowW
import Derived.Test.YtcaeeaiodbjacaaBookS
import Derived.BigQuiet
import Derived.Test.YtcaeeaiodbjacaaArrW
import Derived.Laws.MakeOwn
namespace Go.Proofs.Ytcaeeaiodbjacaa
open Go.RowKit
set_option linter.unusedVariables false

theorem infoU8 : (Try.prog.info? 5).map (fun i => (i.zero, i.size, i.bytes)) = some (some (.int .u8 0), 1, 1) := by kernel_rfl

def u8l (l : List Int) : List Value := l.map fun x => .int .u8 x

theorem u8l_snoc (l : List Int) (x : Int) : u8l (l ++ [x]) = u8l l ++ [.int .u8 x] := by simp [u8l]

namespace T
/-- What one node brings. -/
def stayOne (x : Nd) (b : List Nd) : List Int := (b.filter (sameN x)).map fun _ => x.1

theorem stayL_take {a b : List Nd} {k : Nat} {x : Nd} (h : a[k]? = some x) : stayL (a.take (k + 1)) b = stayL (a.take k) b ++ stayOne x b := by
  unfold stayL
  rw [List.take_add_one, h]
  simp [stayOne]

theorem stayOne_take {x : Nd} {b : List Nd} {q : Nat} {y : Nd} (h : b[q]? = some y) : stayOne x (b.take (q + 1)) = stayOne x (b.take q) ++ (if x.1 = y.1 ∧ x.2.1 = y.2.1 then [x.1] else []) := by
  unfold stayOne
  rw [List.take_add_one, h]
  by_cases hs : x.1 = y.1 ∧ x.2.1 = y.2.1
  · simp [sameN, hs]
  · simp [sameN, hs]
end T

set_option maxRecDepth 100000 in
set_option maxHeartbeats 4000000 in
theorem stay_any (ao bo : Option Addr) (ac bc : Nat) (a b : List T.Nd) (w : World) (hla : a.length ≤ 16) (hlb : b.length ≤ 16) (haa : NodeAt w ao a) (hab : NodeAt w bo b) :
    Calls Try.prog 44 #[.slice ao a.length ac, .slice bo b.length bc] w fun e w' => ∃ v, e = .returned v ∧ w'.ownsRow w.heap.size 5 1 v (T.stayL a b).length (u8l (T.stayL a b)) ∧ Below w.heap.size w w' := by
  obtain ⟨j0, hj, hy0, hy1, hy2⟩ := info_parts infoU8
  have HA : Hid (NodeAt w ao a) := haa
  have HB : Hid (NodeAt w bo b) := hab
  obtain ⟨n, hn⟩ : ∃ n, n = a.length := ⟨_, rfl⟩
  have Hn : Hid (a.length = n) := hn.symm
  obtain ⟨m, hm⟩ : ∃ n, n = b.length := ⟨_, rfl⟩
  have Hm : Hid (b.length = m) := hm.symm
  rw [← hn] at hla ⊢
  rw [← hm] at hlb ⊢
  clear haa hab hn hm
  go_enter Try.func44, Try.ntmps44
  go_wp2_with fail
  go_loopw [5, 6] (fun v i wr => ∃ (k s cv : Nat) (vo : Option Addr), v = .slice vo s cv ∧ k ≤ n ∧ i = .int .i64 k ∧ s ≤ 16 * k ∧ Hid (wr.ownsRow w.heap.size 5 1 (.slice vo s cv) s (u8l (T.stayL (a.take k) b)) ∧ Below w.heap.size w wr ∧ (T.stayL (a.take k) b).length = s))
    (fun _ i _ => n - (intOf i).toNat)
  case atStart => exact ⟨0, 0, 0, none, rfl, Nat.zero_le _, rfl, by omega, World.ownsRow_nil _ _ _ _, Below.refl _ _, rfl⟩
  case round =>
    obtain ⟨k, s, cv, vo, rfl, hk, rfl, hs16, HS⟩ := hrel
    have hsz := HS.out.2.1.size
    by_cases hlt : k < n
    · obtain ⟨x, hx⟩ : ∃ x, a[k]? = some x := ⟨a[k]'(by have := Hn.out; omega), List.getElem?_eq_getElem (by have := Hn.out; omega)⟩
      obtain ⟨ba, fa, rfl, hba, hra⟩ : ∃ b off, ao = some ⟨b, off, none⟩ ∧ b < w.heap.size ∧ NodeRow w b off a := HA.out.resolve_left (by rintro rfl; simp at hx)
      obtain ⟨x1, x2, x3⟩ := x
      have HXc : Hid (∀ u : World, Below w.heap.size w u → u.cell? ⟨ba, fa + k * 3, none⟩ = some (.int .u8 x1) ∧ u.cell? ⟨ba, fa + k * 3 + 1, none⟩ = some (.int .u16 x2)) := by
        intro u hu
        obtain ⟨c0, c1, c2⟩ := (hra.below hu hba) k _ hx
        exact ⟨c0, c1⟩
      have HT : Hid (T.stayL (a.take (k + 1)) b = T.stayL (a.take k) b ++ T.stayOne (x1, x2, x3) b) := T.stayL_take hx
      have hki : (k : Int) < (n : Int) := by omega
      have hk0 : (0 : Int) ≤ (k : Int) := by omega
      clear hx hra
      go_wp2_with fail
      go_loopw [5, 7] (fun v i wr => ∃ (q t ct : Nat) (tO : Option Addr), v = .slice tO t ct ∧ q ≤ m ∧ i = .int .i64 q ∧ t ≤ s + q ∧ Hid (wr.ownsRow w.heap.size 5 1 (.slice tO t ct) t (u8l (T.stayL (a.take k) b ++ T.stayOne (x1, x2, x3) (b.take q))) ∧ Below w.heap.size w wr ∧ (T.stayL (a.take k) b ++ T.stayOne (x1, x2, x3) (b.take q)).length = t))
        (fun _ i _ => m - (intOf i).toNat)
      case atStart =>
        refine ⟨0, s, cv, vo, rfl, Nat.zero_le _, rfl, by omega, ?_, HS.out.2.1, ?_⟩
        · simpa [T.stayOne] using HS.out.1
        · simpa [T.stayOne] using HS.out.2.2
      case round =>
        obtain ⟨q, t, ct, tO, rfl, hq, rfl, ht, HW⟩ := hrel
        clear HS
        have hszw := HW.out.2.1.size
        obtain ⟨c0, c1⟩ := HXc.out wr HW.out.2.1
        by_cases hqm : q < m
        · obtain ⟨y, hy⟩ : ∃ x, b[q]? = some x := ⟨b[q]'(by have := Hm.out; omega), List.getElem?_eq_getElem (by have := Hm.out; omega)⟩
          obtain ⟨bb, fb, rfl, hbb, hrb⟩ : ∃ b' off, bo = some ⟨b', off, none⟩ ∧ b' < w.heap.size ∧ NodeRow w b' off b := HB.out.resolve_left (by rintro rfl; simp at hy)
          obtain ⟨d0, d1, d2⟩ := (hrb.below HW.out.2.1 hbb) q _ hy
          obtain ⟨y1, y2, y3⟩ := y
          simp only at d0 d1 d2
          have HO : Hid (T.stayOne (x1, x2, x3) (b.take (q + 1)) = T.stayOne (x1, x2, x3) (b.take q) ++ (if x1 = y1 ∧ x2 = y2 then [x1] else [])) := T.stayOne_take hy
          have hqi : (q : Int) < (m : Int) := by omega
          have hq0 : (0 : Int) ≤ (q : Int) := by omega
          clear hy hrb d2
          by_cases h1 : x1 = y1
          · by_cases h2 : x2 = y2
            · have HO2 : Hid (T.stayL (a.take k) b ++ T.stayOne (x1, x2, x3) (b.take (q + 1)) = (T.stayL (a.take k) b ++ T.stayOne (x1, x2, x3) (b.take q)) ++ [x1]) := by unfold Hid; rw [HO.out, if_pos ⟨h1, h2⟩, List.append_assoc]
              subst h1
              subst h2
              clear HO
              go_wp2_with fail
              go_quiet (fail)
              have HOd : Hid ((wr.drewN nq).ownsRow w.heap.size 5 1 (.slice tO t ct) t (u8l (T.stayL (a.take k) b ++ T.stayOne (x1, x2, x3) (b.take q)))) := own_below' HW.out.1 (below_drewN (Below.refl _ _) nq) (Nat.le_refl _)
              go_wp2_with (at_builtin; refine wpList_append_own _ rfl (.tmp 44) (.tmp 50) 67 rfl w.heap.size 5 j0 (.int .u8 0) 1 1 Try.underlying67 hj hy0 hy1 hy2 rfl (by decide) _ _ _ rfl (HOd.out.alloc _) ⟨wr.heap.size, 0, none⟩ 1 1 [.int .u8 x1] rfl rfl (new_one _ _ _) (by intro u hu; simp at hu; subst hu; rfl) (by unfold maxLen; omega) (by omega) (by simp; omega) ?_)
              intro v3 w3 ho3 hg3 _
              obtain ⟨tO3, ct3, rfl⟩ := own_is ho3
              have HW3 : Hid (w3.ownsRow w.heap.size 5 1 (.slice tO3 (t + 1) ct3) (t + 1) (u8l (T.stayL (a.take k) b ++ T.stayOne (x1, x2, x3) (b.take (q + 1)))) ∧ Below w.heap.size w w3 ∧ (T.stayL (a.take k) b ++ T.stayOne (x1, x2, x3) (b.take (q + 1))).length = t + 1) := by
                refine ⟨by rw [HO2.out, u8l_snoc]; exact ho3, below_app ((below_drewN HW.out.2.1 nq).alloc hszw _) hg3 (HOd.out.alloc _) (Nat.le_refl _) (by simp; omega), ?_⟩
                rw [HO2.out, List.length_append, HW.out.2.2]
                rfl
              clear ho3 hg3 HW HOd c0 c1 d0 d1
              go_wp2
              go_roundw
              case rel => exact ⟨q + 1, t + 1, ct3, tO3, rfl, by omega, by go_num, by omega, HW3⟩
              case measure => simp [intOf]; omega
            · have HO2 : Hid (T.stayOne (x1, x2, x3) (b.take (q + 1)) = T.stayOne (x1, x2, x3) (b.take q)) := by unfold Hid; rw [HO.out, if_neg (by intro h; exact h2 h.2), List.append_nil]
              have hb2 : (x2 == y2) = false := by rw [beq_eq_false_iff_ne]; exact h2
              subst h1
              clear HO h2
              go_wp2_with fail
              go_quiet (fail)
              go_wp2
              go_roundw
              case rel => exact ⟨q + 1, t, ct, tO, rfl, by omega, by go_num, by omega, by rw [HO2.out]; exact own_below' HW.out.1 (below_drewN (Below.refl _ _) _) (Nat.le_refl _), below_drewN HW.out.2.1 _, by rw [HO2.out]; exact HW.out.2.2⟩
              case measure => simp [intOf]; omega
          · have HO2 : Hid (T.stayOne (x1, x2, x3) (b.take (q + 1)) = T.stayOne (x1, x2, x3) (b.take q)) := by unfold Hid; rw [HO.out, if_neg (by intro h; exact h1 h.1), List.append_nil]
            have hb1 : (x1 == y1) = false := by rw [beq_eq_false_iff_ne]; exact h1
            clear HO h1
            go_wp2_with fail
            go_quiet (fail)
            go_wp2
            go_roundw
            case rel => exact ⟨q + 1, t, ct, tO, rfl, by omega, by go_num, by omega, by rw [HO2.out]; exact own_below' HW.out.1 (below_drewN (Below.refl _ _) _) (Nat.le_refl _), below_drewN HW.out.2.1 _, by rw [HO2.out]; exact HW.out.2.2⟩
            case measure => simp [intOf]; omega
        · have hb : b.take q = b := List.take_of_length_le (by have := Hm.out; omega)
          have HW2 : Hid (wr.ownsRow w.heap.size 5 1 (.slice tO t ct) t (u8l (T.stayL (a.take (k + 1)) b)) ∧ Below w.heap.size w wr ∧ (T.stayL (a.take (k + 1)) b).length = t) := by
            have h := HW.out
            rw [hb, ← HT.out] at h
            exact h
          have hqi : ¬ (q : Int) < (m : Int) := by omega
          clear hb HW
          go_wp2
          go_roundw
          case rel => exact ⟨k + 1, t, ct, tO, rfl, by omega, by go_num, by omega, HW2⟩
          case measure => simp [intOf]; omega
    · have ha : a.take k = a := List.take_of_length_le (by have := Hn.out; omega)
      have HE : Hid (wr.ownsRow w.heap.size 5 1 (.slice vo s cv) (T.stayL a b).length (u8l (T.stayL a b)) ∧ Below w.heap.size w wr) := by
        have h := HS.out
        rw [ha] at h
        exact ⟨by rw [h.2.2]; exact h.1, h.2.1⟩
      have hki : ¬ (k : Int) < (n : Int) := by omega
      clear ha HS
      go_wp2
      go_ret
      exact ⟨_, rfl, HE.out.1, HE.out.2⟩

end Go.Proofs.Ytcaeeaiodbjacaa

namespace Go.Proofs.Ytcaeeaiodbjacaa
open Go.RowKit
set_option linter.unusedVariables false

namespace T
/-- Of the first i and the first k. -/
def pre (a b : List Int) (i k : Nat) : Int := (lcs (a.take i).reverse (b.take k).reverse : Nat)

theorem pre_zero_left (a b : List Int) (k : Nat) : pre a b 0 k = 0 := by
  unfold pre
  rw [show (a.take 0).reverse = [] by simp, lcs_nil_left]
  rfl
theorem pre_zero_right (a b : List Int) (i : Nat) : pre a b i 0 = 0 := by
  unfold pre
  rw [show (b.take 0).reverse = [] by simp, lcs_nil_right]
  rfl

theorem pre_step {a b : List Int} {i k : Nat} {x y : Int} (hx : a[i]? = some x) (hy : b[k]? = some y) : pre a b (i + 1) (k + 1) = if x = y then pre a b i k + 1 else if pre a b i (k + 1) < pre a b (i + 1) k then pre a b (i + 1) k else pre a b i (k + 1) := by
  have ea : (a.take (i + 1)).reverse = x :: (a.take i).reverse := by rw [List.take_add_one, hx]; simp
  have eb : (b.take (k + 1)).reverse = y :: (b.take k).reverse := by rw [List.take_add_one, hy]; simp
  unfold pre
  rw [ea, eb]
  by_cases h : x = y
  · subst h
    rw [lcs_same, if_pos rfl]
    rfl
  · rw [lcs_other h, if_neg h]
    rcases Nat.lt_or_ge (lcs (a.take i).reverse (y :: (b.take k).reverse)) (lcs (x :: (a.take i).reverse) (b.take k).reverse) with q | q
    · rw [if_pos (by omega)]
      congr 1
      exact Nat.max_eq_left (by omega)
    · rw [if_neg (by omega)]
      congr 1
      exact Nat.max_eq_right q

theorem pre_range (a b : List Int) (i k : Nat) : 0 ≤ pre a b i k ∧ pre a b i k ≤ i := by
  obtain ⟨c, h1, _, h3⟩ := lcs_ge _ (a.take i).reverse (b.take k).reverse (Nat.le_refl _)
  unfold pre
  have := h1.length_le
  rw [List.length_reverse, List.length_take] at this
  omega

theorem pre_all (a b : List Int) : pre a b a.length b.length = shared a b := by
  unfold pre shared
  rw [List.take_length, List.take_length]
end T

def U8Row (w : World) (b off : Nat) (l : List Int) : Prop := ∀ i x, l[i]? = some x → w.cell? ⟨b, off + i, none⟩ = some (.int .u8 x)

theorem U8Row.below {B : Nat} {w w' : World} {b off : Nat} {l : List Int} (h : U8Row w b off l) (hb : Below B w w') (hl : b < B) : U8Row w' b off l :=
  fun i x hx => (hb.cell hl).trans (h i x hx)

def U8At (w : World) (ao : Option Addr) (l : List Int) : Prop := l = [] ∨ ∃ b off, ao = some ⟨b, off, none⟩ ∧ b < w.heap.size ∧ U8Row w b off l

theorem own_u8At {w : World} {base n : Nat} {ao : Option Addr} {cap : Nat} {l : List Int} (h : w.ownsRow base 5 1 (.slice ao n cap) n (u8l l)) (hn : l.length = n) : U8At w ao l := by
  rcases h.2 with ⟨hv, h0⟩ | ⟨g, c, cur, hv, hb, hh, h1, h2, h3⟩
  · exact Or.inl (List.eq_nil_of_length_eq_zero (by omega))
  · simp only [Value.slice.injEq] at hv
    obtain ⟨rfl, _, rfl⟩ := hv
    refine Or.inr ⟨g, 0, rfl, lt_of_block hh, ?_⟩
    intro i x hx
    have hi : i < n := by have := (List.getElem?_eq_some_iff.1 hx).1; omega
    rw [Nat.zero_add, h.cellAt i (by omega)]
    unfold u8l
    rw [List.getElem?_map, hx]
    rfl

/-- The numbers so far: up to k of the row i + 1, behind it of the row i. -/
def Bst (a b : List Int) (i k m : Nat) (l : List Int) : Prop := l.length = m + 1 ∧ ∀ j, j ≤ m → l[j]? = some (if j ≤ k then T.pre a b (i + 1) j else T.pre a b i j)

theorem Bst.next {a b : List Int} {i k m : Nat} {l : List Int} {v : Int} (h : Bst a b i k m l) (hk : k < m) (hv : v = T.pre a b (i + 1) (k + 1)) : Bst a b i (k + 1) m (l.set (k + 1) v) := by
  refine ⟨by rw [List.length_set]; exact h.1, ?_⟩
  intro j hj
  rw [List.getElem?_set]
  by_cases he : k + 1 = j
  · subst he
    rw [if_pos rfl, if_pos (by have := h.1; omega), if_pos (Nat.le_refl _), hv]
  · rw [if_neg he, h.2 j hj]
    by_cases hjk : j ≤ k
    · rw [if_pos hjk, if_pos (by omega)]
    · rw [if_neg hjk, if_neg (by omega)]

theorem Bst.same {a b : List Int} {i k m : Nat} {l : List Int} (h : Bst a b i k m l) (hk : k < m) (hv : T.pre a b i (k + 1) = T.pre a b (i + 1) (k + 1)) : Bst a b i (k + 1) m l := by
  refine ⟨h.1, ?_⟩
  intro j hj
  rw [h.2 j hj]
  by_cases hjk : j ≤ k
  · rw [if_pos hjk, if_pos (by omega)]
  · rw [if_neg hjk]
    by_cases he : j = k + 1
    · subst he
      rw [if_pos (Nat.le_refl _), hv]
    · rw [if_neg (by omega)]

theorem Bst.over {a b : List Int} {i m : Nat} {l : List Int} (h : Bst a b i m m l) : Bst a b (i + 1) 0 m l := by
  refine ⟨h.1, ?_⟩
  intro j hj
  rw [h.2 j hj, if_pos hj]
  by_cases h0 : j ≤ 0
  · obtain rfl : j = 0 := by omega
    rw [if_pos h0, T.pre_zero_right, T.pre_zero_right]
  · rw [if_neg h0]

theorem its_set (l : List Int) (k : Nat) (v : Int) : its (l.set k v) = (its l).set k (.int .i64 v) := by
  unfold its
  rw [List.map_set]

set_option maxRecDepth 100000 in
set_option maxHeartbeats 8000000 in
theorem shared_any (ao bo : Option Addr) (ac bc : Nat) (a b : List Int) (w : World) (hla : a.length ≤ 16) (hlb : b.length ≤ 16) (haa : U8At w ao a) (hab : U8At w bo b) :
    Calls Try.prog 45 #[.slice ao a.length ac, .slice bo b.length bc] w fun e w' => e = .returned (.int .i64 (T.shared a b)) ∧ Below w.heap.size w w' := by
  obtain ⟨i0, hi, hz0, hz1, hz2⟩ := info_parts info3
  have HA : Hid (U8At w ao a) := haa
  have HB : Hid (U8At w bo b) := hab
  have HSh : Hid ((T.shared a b : Int) = T.pre a b a.length b.length) := (T.pre_all a b).symm
  obtain ⟨n, hn⟩ : ∃ n, n = a.length := ⟨_, rfl⟩
  have Hn : Hid (a.length = n) := hn.symm
  obtain ⟨m, hm⟩ : ∃ n, n = b.length := ⟨_, rfl⟩
  have Hm : Hid (b.length = m) := hm.symm
  rw [← hn] at hla HSh ⊢
  rw [← hm] at hlb HSh ⊢
  clear haa hab hn hm
  go_enter Try.func45, Try.ntmps45
  go_wp2_with (at_make; refine wpList_make_full _ rfl (.tmp 12) (.tmp 12) 62 rfl w.heap.size 3 i0 (.int .i64 0) 1 Try.underlying62 hi hz0 hz1 .i64 .i64 _ _ (m + 1) rfl rfl (by first | rfl | go_num | (simp; omega) | omega) (by first | rfl | go_num | (simp; omega) | omega) (by rw [hz2]; omega) (by unfold maxLen; omega) (Nat.le_refl _) ?_)
  intro w1 ho1 hg1
  have HS0 : Hid (∃ l, Bst a b 0 0 m l ∧ w1.ownsRow w.heap.size 3 1 (.slice (some ⟨w.heap.size, 0, none⟩) (m + 1) (m + 1)) (m + 1) (its l) ∧ Below w.heap.size w w1) := by
    refine ⟨List.replicate (m + 1) 0, ⟨by simp, ?_⟩, ?_, (Below.refl _ _).grown hg1 (Nat.le_refl _) (by simp)⟩
    · intro j hj
      rw [List.getElem?_replicate, if_pos (by omega), T.pre_zero_left]
      by_cases h0 : j ≤ 0
      · obtain rfl : j = 0 := by omega
        rw [if_pos h0, T.pre_zero_right]
      · rw [if_neg h0]
    · have e : its (List.replicate (m + 1) 0) = (madeCells #[Value.int .i64 0] (m + 1)).toList := by
        unfold its madeCells
        apply List.ext_getElem?
        intro i
        by_cases hi : i < m + 1
        · simp [hi, Nat.mod_one]
        · rw [List.getElem?_eq_none (by simp; omega), List.getElem?_eq_none (by simp; omega)]
      rw [e]
      exact ho1
  clear ho1 hg1
  go_wp2_with fail
  go_loopw [6] (fun vi wr => ∃ (i : Nat) (l : List Int), i ≤ n ∧ vi = .int .i64 i ∧ Hid (Bst a b i 0 m l ∧ wr.ownsRow w.heap.size 3 1 (.slice (some ⟨w.heap.size, 0, none⟩) (m + 1) (m + 1)) (m + 1) (its l) ∧ Below w.heap.size w wr))
    (fun vi _ => n - (intOf vi).toNat)
  case atStart =>
    obtain ⟨l, h1, h2, h3⟩ := HS0.out
    exact ⟨0, l, Nat.zero_le _, rfl, h1, h2, h3⟩
  case round =>
    obtain ⟨i, l, hin, rfl, HS⟩ := hrel
    clear HS0
    by_cases hlt : i < n
    · obtain ⟨x, hx⟩ : ∃ x, a[i]? = some x := ⟨a[i]'(by have := Hn.out; omega), List.getElem?_eq_getElem (by have := Hn.out; omega)⟩
      obtain ⟨ba, fa, rfl, hba, hra⟩ : ∃ b off, ao = some ⟨b, off, none⟩ ∧ b < w.heap.size ∧ U8Row w b off a := HA.out.resolve_left (by rintro rfl; simp at hx)
      have HXc : Hid (∀ u : World, Below w.heap.size w u → u.cell? ⟨ba, fa + i, none⟩ = some (.int .u8 x)) := fun u hu => (hra.below hu hba) i _ hx
      have HX : Hid (a[i]? = some x) := hx
      have hii : (i : Int) < (n : Int) := by omega
      have hi00 : (0 : Int) ≤ (i : Int) := by omega
      clear hx hra
      go_wp2_with fail
      go_loopw [7, 8] (fun vh vk wr => ∃ (k : Nat) (l : List Int) (ah : Int), k ≤ m ∧ vk = .int .i64 k ∧ vh = .int .i64 ah ∧ Hid (ah = T.pre a b i k) ∧ Hid (Bst a b i k m l ∧ wr.ownsRow w.heap.size 3 1 (.slice (some ⟨w.heap.size, 0, none⟩) (m + 1) (m + 1)) (m + 1) (its l) ∧ Below w.heap.size w wr))
        (fun _ vk _ => m - (intOf vk).toNat)
      case atStart => 
        refine ⟨0, l, 0, Nat.zero_le _, rfl, rfl, by unfold Hid; rw [T.pre_zero_right], ⟨HS.out.1.1, ?_⟩, HS.out.2.1, HS.out.2.2⟩
        intro j hj
        rw [HS.out.1.2 j hj]
      case round =>
        obtain ⟨k, l2, ah, hkm, rfl, rfl, HAh, HW⟩ := hrel
        clear HS
        have hszw := HW.out.2.2.size
        by_cases hk : k < m
        · obtain ⟨y, hy⟩ : ∃ x, b[k]? = some x := ⟨b[k]'(by have := Hm.out; omega), List.getElem?_eq_getElem (by have := Hm.out; omega)⟩
          obtain ⟨bb, fb, rfl, hbb, hrb⟩ : ∃ b' off, bo = some ⟨b', off, none⟩ ∧ b' < w.heap.size ∧ U8Row w b' off b := HB.out.resolve_left (by rintro rfl; simp at hy)
          have hstep := T.pre_step HX.out hy
          have d0 := (hrb.below HW.out.2.2 hbb) k _ hy
          have c0 := HXc.out wr HW.out.2.2
          have r1 := T.pre_range a b i k
          have r2 := T.pre_range a b i (k + 1)
          have r3 := T.pre_range a b (i + 1) k
          have e1 : l2[k]? = some (T.pre a b (i + 1) k) := by rw [HW.out.1.2 k (by omega), if_pos (Nat.le_refl _)]
          have e2 : l2[k + 1]? = some (T.pre a b i (k + 1)) := by rw [HW.out.1.2 (k + 1) (by omega), if_neg (by omega)]
          have g1 : wr.cell? ⟨w.heap.size, k, none⟩ = some (.int .i64 (T.pre a b (i + 1) k)) := by
            rw [HW.out.2.1.cellAt k (by omega)]
            unfold its
            rw [List.getElem?_map, e1]
            rfl
          have g2 : wr.cell? ⟨w.heap.size, k + 1, none⟩ = some (.int .i64 (T.pre a b i (k + 1))) := by
            rw [HW.out.2.1.cellAt (k + 1) (by omega)]
            unfold its
            rw [List.getElem?_map, e2]
            rfl
          obtain ⟨cur, hcur⟩ : ∃ cur, Blk wr w.heap.size cur 3 := by
            rcases HW.out.2.1.2 with ⟨h, _⟩ | ⟨g', cp, cur, hv, _, hh, _⟩
            · simp at h
            · simp only [Value.slice.injEq, Option.some.injEq, Addr.mk.injEq] at hv
              obtain ⟨⟨rfl, _⟩, _⟩ := hv
              exact ⟨cur, hh⟩
          have f2 := hcur.free (k + 1)
          have hah : ah = T.pre a b i k := HAh.out
          generalize hp1 : T.pre a b (i + 1) k = p1 at e1 g1 r3 hstep
          generalize hp2 : T.pre a b i (k + 1) = p2 at e2 g2 r2 hstep
          rw [← hah] at r1 hstep
          have HP2 : Hid (T.pre a b i (k + 1) = p2) := hp2
          have hki : (k : Int) < (m : Int) := by omega
          have hki1 : (k : Int) < (m : Int) + 1 := by omega
          have hki2 : (k : Int) + 1 < (m : Int) + 1 := by omega
          have hk0 : (0 : Int) ≤ (k : Int) := by omega
          have hk1 : (0 : Int) ≤ (k : Int) + 1 := by omega
          have hw1 : IntKind.i64.wrap ((k : Int) + 1) = (k : Int) + 1 := by rw [IntKind.wrap_i64]; omega
          have hw2 : IntKind.i64.wrap (ah + 1) = ah + 1 := by rw [IntKind.wrap_i64]; omega
          clear hy hrb hcur e1 e2 hp1 hp2 hah HAh
          have HSet : Hid (∀ (u : World) (v : Int) (q : Nat), u = wr.drewN q → v = T.pre a b (i + 1) (k + 1) → Bst a b i (k + 1) m (l2.set (k + 1) v) ∧ (u.setCell ⟨w.heap.size, k + 1, none⟩ (.int .i64 v)).ownsRow w.heap.size 3 1 (.slice (some ⟨w.heap.size, 0, none⟩) (m + 1) (m + 1)) (m + 1) (its (l2.set (k + 1) v)) ∧ Below w.heap.size w (u.setCell ⟨w.heap.size, k + 1, none⟩ (.int .i64 v))) := by
            intro u v q hu hv
            subst hu
            refine ⟨HW.out.1.next hk hv, ?_, (below_drewN HW.out.2.2 q).setCell (Nat.le_refl _) _⟩
            rw [its_set]
            exact own_set1 (own_below' HW.out.2.1 (below_drewN (Below.refl _ _) q) (Nat.le_refl _)) (k + 1) (.int .i64 v)
          have HSame : Hid (∀ q : Nat, p2 = T.pre a b (i + 1) (k + 1) → Bst a b i (k + 1) m l2 ∧ (wr.drewN q).ownsRow w.heap.size 3 1 (.slice (some ⟨w.heap.size, 0, none⟩) (m + 1) (m + 1)) (m + 1) (its l2) ∧ Below w.heap.size w (wr.drewN q)) := by
            intro q hv
            exact ⟨HW.out.1.same hk (by rw [HP2.out]; exact hv), own_below' HW.out.2.1 (below_drewN (Below.refl _ _) q) (Nat.le_refl _), below_drewN HW.out.2.2 q⟩
          clear HW
          by_cases hxy : x = y
          · have HV : Hid (ah + 1 = T.pre a b (i + 1) (k + 1)) := by unfold Hid; rw [hstep, if_pos hxy]
            subst hxy
            clear hstep
            go_wp2_with fail
            go_quiet (fail)
            go_wp2
            go_roundw
            case rel => exact ⟨k + 1, l2.set (k + 1) (ah + 1), p2, by omega, by go_num, rfl, HP2.out.symm, HSet.out _ _ _ rfl HV.out⟩
            case measure => simp [intOf]; omega
          · have hbf : (x == y) = false := by rw [beq_eq_false_iff_ne]; exact hxy
            by_cases hgt : p2 < p1
            · have HV : Hid (p1 = T.pre a b (i + 1) (k + 1)) := by unfold Hid; rw [hstep, if_neg hxy, if_pos hgt]
              clear hstep hxy
              go_wp2_with fail
              go_quiet (fail)
              go_wp2_with fail
              go_quiet (fail)
              go_wp2
              go_roundw
              case rel => exact ⟨k + 1, l2.set (k + 1) p1, p2, by omega, by go_num, rfl, HP2.out.symm, HSet.out _ _ _ rfl HV.out⟩
              case measure => simp [intOf]; omega
            · have HV : Hid (p2 = T.pre a b (i + 1) (k + 1)) := by unfold Hid; rw [hstep, if_neg hxy, if_neg hgt]
              clear hstep hxy
              go_wp2_with fail
              go_quiet (fail)
              go_wp2_with fail
              go_quiet (fail)
              go_wp2
              go_roundw
              case rel => exact ⟨k + 1, l2, p2, by omega, by go_num, rfl, HP2.out.symm, HSame.out _ HV.out⟩
              case measure => simp [intOf]; omega
        · obtain rfl : k = m := by omega
          have hki : ¬ (k : Int) < (k : Int) := by omega
          go_wp2
          go_roundw
          case rel => exact ⟨i + 1, l2, by omega, by go_num, HW.out.1.over, HW.out.2.1, HW.out.2.2⟩
          case measure => simp [intOf]; omega
    · obtain rfl : i = n := by omega
      have e : l[m]? = some (T.pre a b i m) := by
        rw [HS.out.1.2 m (Nat.le_refl _)]
        by_cases h0 : m ≤ 0
        · obtain rfl : m = 0 := by omega
          rw [if_pos h0, T.pre_zero_right, T.pre_zero_right]
        · rw [if_neg h0]
      have g1 : wr.cell? ⟨w.heap.size, m, none⟩ = some (.int .i64 (T.pre a b i m)) := by
        rw [HS.out.2.1.cellAt m (by omega)]
        unfold its
        rw [List.getElem?_map, e]
        rfl
      have hii : ¬ (i : Int) < (i : Int) := by omega
      have hm1 : (m : Int) < (m : Int) + 1 := by omega
      have hm0 : (0 : Int) ≤ (m : Int) := by omega
      clear e
      go_wp2
      go_ret
      rw [HSh.out]
      exact ⟨rfl, HS.out.2.2⟩

end Go.Proofs.Ytcaeeaiodbjacaa

namespace Go.Proofs.Ytcaeeaiodbjacaa
open Go.RowKit
set_option linter.unusedVariables false

namespace T
theorem texts_take {a b : List Nd} {k : Nat} {x : Nd} (h : a[k]? = some x) : textsN (a.take (k + 1)) b = textsN (a.take k) b + b.countP (otherText x) := by
  unfold textsN
  rw [List.take_add_one, h]
  simp

theorem other_take {b : List Nd} {x y : Nd} {q : Nat} (h : b[q]? = some y) : (b.take (q + 1)).countP (otherText x) = (b.take q).countP (otherText x) + (if x.1 = y.1 ∧ x.2.1 = y.2.1 ∧ x.2.2 ≠ y.2.2 then 1 else 0) := by
  rw [List.take_add_one, h, List.countP_append]
  simp [otherText]

theorem shared_range (a b : List Int) : shared a b ≤ a.length := by
  obtain ⟨c, h1, _, h3⟩ := shared_ge a b
  have := h1.length_le
  omega
end T

set_option maxRecDepth 100000 in
set_option maxHeartbeats 8000000 in
theorem few_any (oo xo : Option Addr) (oc xc : Nat) (old next : List T.Nd) (w : World) (hlo : old.length ≤ 16) (hlx : next.length ≤ 16) (hao : NodeAt w oo old) (hax : NodeAt w xo next) (hA : (T.stayL old next).length ≤ 16) (hB : (T.stayL next old).length ≤ 16) :
    Calls Try.prog 22 #[.slice oo old.length oc, .slice xo next.length xc] w fun e w' => e = .returned (.int .i64 (T.fewN old next)) ∧ Below w.heap.size w w' := by
  have HS1 : Hid (∀ u : World, Below w.heap.size w u → Calls Try.prog 44 #[.slice oo old.length oc, .slice xo next.length xc] u fun e w' => ∃ v, e = .returned v ∧ w'.ownsRow u.heap.size 5 1 v (T.stayL old next).length (u8l (T.stayL old next)) ∧ Below u.heap.size u w') := fun u hu => stay_any oo xo oc xc old next u hlo hlx (hao.below hu (Nat.le_refl _) hu.size) (hax.below hu (Nat.le_refl _) hu.size)
  have HS2 : Hid (∀ u : World, Below w.heap.size w u → Calls Try.prog 44 #[.slice xo next.length xc, .slice oo old.length oc] u fun e w' => ∃ v, e = .returned v ∧ w'.ownsRow u.heap.size 5 1 v (T.stayL next old).length (u8l (T.stayL next old)) ∧ Below u.heap.size u w') := fun u hu => stay_any xo oo xc oc next old u hlx hlo (hax.below hu (Nat.le_refl _) hu.size) (hao.below hu (Nat.le_refl _) hu.size)
  have HAo : Hid (NodeAt w oo old) := hao
  have HAx : Hid (NodeAt w xo next) := hax
  have hsr := T.shared_range (T.stayL old next) (T.stayL next old)
  have HF : Hid (T.fewN old next = ((old.length : Int) - (T.stayL old next).length) + ((next.length : Int) - (T.stayL next old).length) + T.textsN old next + ((T.stayL old next).length - T.shared (T.stayL old next) (T.stayL next old))) := rfl
  obtain ⟨LA, hLA⟩ : ∃ l, l = T.stayL old next := ⟨_, rfl⟩
  obtain ⟨LB, hLB⟩ : ∃ l, l = T.stayL next old := ⟨_, rfl⟩
  rw [← hLA] at HS1 hA hsr HF
  rw [← hLB] at HS2 hB hsr HF
  obtain ⟨on, hon⟩ : ∃ n, n = old.length := ⟨_, rfl⟩
  have Hon : Hid (old.length = on) := hon.symm
  obtain ⟨xn, hxn⟩ : ∃ n, n = next.length := ⟨_, rfl⟩
  have Hxn : Hid (next.length = xn) := hxn.symm
  obtain ⟨na, hna⟩ : ∃ n, n = LA.length := ⟨_, rfl⟩
  have Hna : Hid (LA.length = na) := hna.symm
  obtain ⟨nb, hnb⟩ : ∃ n, n = LB.length := ⟨_, rfl⟩
  have Hnb : Hid (LB.length = nb) := hnb.symm
  obtain ⟨sh, hsh⟩ : ∃ s, s = T.shared LA LB := ⟨_, rfl⟩
  have Hsh : Hid (T.shared LA LB = sh) := hsh.symm
  rw [← hon] at HS1 HS2 hlo HF ⊢
  rw [← hxn] at HS1 HS2 hlx HF ⊢
  rw [← hna] at HS1 hA hsr HF
  rw [← hnb] at HS2 hB HF
  rw [← hsh] at hsr HF
  clear hao hax hLA hLB hon hxn hna hnb hsh
  go_enter Try.func22, Try.ntmps22
  go_wp2_with fail
  refine (HS1.out w (Below.refl _ _)).mono ?_
  rintro e w1 ⟨va, rfl, ha1, hb1⟩
  obtain ⟨aO, aC, rfl⟩ := own_is ha1
  have HA1 : Hid (w1.ownsRow w.heap.size 5 1 (.slice aO na aC) na (u8l LA)) := ha1
  have HB1 : Hid (Below w.heap.size w w1) := hb1
  clear ha1 hb1 HS1
  go_wp2_with fail
  refine (HS2.out w1 HB1.out).mono ?_
  rintro e w2 ⟨vb, rfl, hb2, hbl2⟩
  obtain ⟨bO, bC, rfl⟩ := own_is hb2
  have HR : Hid (U8At w2 aO LA ∧ U8At w2 bO LB) := ⟨own_u8At (own_below' HA1.out hbl2 (Nat.le_refl _)) Hna.out, own_u8At hb2 Hnb.out⟩
  have HB2 : Hid (Below w.heap.size w w2) := HB1.out.trans (hbl2.mono HB1.out.size)
  have HAo2 : Hid (NodeAt w2 oo old) := HAo.out.below HB2.out (Nat.le_refl _) HB2.out.size
  have HAx2 : Hid (NodeAt w2 xo next) := HAx.out.below HB2.out (Nat.le_refl _) HB2.out.size
  clear hb2 hbl2 HS2 HA1 HB1 HAo HAx
  go_wp2_with fail
  go_loopw [7, 8] (fun vt vi wr => ∃ (k t q' : Nat), vt = .int .i64 t ∧ vi = .int .i64 k ∧ k ≤ on ∧ t ≤ 16 * k ∧ wr = w2.drewN q' ∧ Hid (t = T.textsN (old.take k) next))
    (fun _ vi _ => on - (intOf vi).toNat)
  case atStart => exact ⟨0, 0, 0, rfl, rfl, Nat.zero_le _, by omega, rfl, rfl⟩
  case round =>
    obtain ⟨k, t, q0, rfl, rfl, hk, ht, rfl, HT⟩ := hrel
    by_cases hlt : k < on
    · obtain ⟨x, hx⟩ : ∃ x, old[k]? = some x := ⟨old[k]'(by have := Hon.out; omega), List.getElem?_eq_getElem (by have := Hon.out; omega)⟩
      obtain ⟨ba, fa, rfl, hba, hra⟩ : ∃ b off, oo = some ⟨b, off, none⟩ ∧ b < w2.heap.size ∧ NodeRow w2 b off old := HAo2.out.resolve_left (by rintro rfl; simp at hx)
      obtain ⟨c0, c1, c2⟩ := hra k _ hx
      have HTk : Hid (T.textsN (old.take (k + 1)) next = t + next.countP (T.otherText x)) := by unfold Hid; rw [T.texts_take hx, ← HT.out]
      obtain ⟨x1, x2, x3⟩ := x
      simp only at c0 c1 c2
      have hki : (k : Int) < (on : Int) := by omega
      have hk0 : (0 : Int) ≤ (k : Int) := by omega
      clear hx hra HT
      go_wp2_with fail
      go_loopw [7, 9] (fun vt vi wr => ∃ (q s q' : Nat), vt = .int .i64 s ∧ vi = .int .i64 q ∧ q ≤ xn ∧ s ≤ t + q ∧ wr = w2.drewN q' ∧ Hid (s = t + (next.take q).countP (T.otherText (x1, x2, x3))))
        (fun _ vi _ => xn - (intOf vi).toNat)
      case atStart => exact ⟨0, t, q0, rfl, rfl, Nat.zero_le _, by omega, rfl, by unfold Hid; simp⟩
      case round =>
        obtain ⟨q, s, q1, rfl, rfl, hq, hs, rfl, HSq⟩ := hrel
        by_cases hqx : q < xn
        · obtain ⟨y, hy⟩ : ∃ x, next[q]? = some x := ⟨next[q]'(by have := Hxn.out; omega), List.getElem?_eq_getElem (by have := Hxn.out; omega)⟩
          obtain ⟨bb, fb, rfl, hbb, hrb⟩ : ∃ b' off, xo = some ⟨b', off, none⟩ ∧ b' < w2.heap.size ∧ NodeRow w2 b' off next := HAx2.out.resolve_left (by rintro rfl; simp at hy)
          obtain ⟨d0, d1, d2⟩ := hrb q _ hy
          obtain ⟨y1, y2, y3⟩ := y
          simp only at d0 d1 d2
          have HO : Hid (t + (next.take (q + 1)).countP (T.otherText (x1, x2, x3)) = s + (if x1 = y1 ∧ x2 = y2 ∧ x3 ≠ y3 then 1 else 0)) := by
            unfold Hid
            have h := T.other_take (x := (x1, x2, x3)) hy
            simp only at h
            rw [h, HSq.out, Nat.add_assoc]
          have hqi : (q : Int) < (xn : Int) := by omega
          have hq0 : (0 : Int) ≤ (q : Int) := by omega
          clear hy hrb HSq
          by_cases h1 : x1 = y1
          · subst h1
            by_cases h2 : x2 = y2
            · subst h2
              by_cases h3 : x3 = y3
              · have HO2 : Hid (s = t + (next.take (q + 1)).countP (T.otherText (x1, x2, x3))) := by unfold Hid; rw [HO.out, if_neg (by intro h; exact h.2.2 h3)]; rfl
                subst h3
                have t3 : (x3.toList == x3.toList) = true := by simp
                have t4 : (x3.toList != x3.toList) = false := by simp
                clear HO
                go_wp2_with fail
                go_quiet (fail)
                go_wp2
                go_roundw
                case rel => exact ⟨q + 1, s, _, rfl, by go_num, by omega, by omega, by first | rfl | simp, HO2⟩
                case measure => simp [intOf]; omega
              · have HO2 : Hid (s + 1 = t + (next.take (q + 1)).countP (T.otherText (x1, x2, x3))) := by unfold Hid; rw [HO.out, if_pos ⟨rfl, rfl, h3⟩]
                have t3 : (x3.toList == y3.toList) = false := text_ne h3
                have t4 : (x3.toList != y3.toList) = true := by simp [bne, t3]
                clear HO h3
                go_wp2_with fail
                go_quiet (fail)
                go_wp2
                go_roundw
                case rel => exact ⟨q + 1, s + 1, _, by go_num, by go_num, by omega, by omega, by first | rfl | simp, HO2⟩
                case measure => simp [intOf]; omega
            · have HO2 : Hid (s = t + (next.take (q + 1)).countP (T.otherText (x1, x2, x3))) := by unfold Hid; rw [HO.out, if_neg (by intro h; exact h2 h.2.1)]; rfl
              have hb2 : (x2 == y2) = false := by rw [beq_eq_false_iff_ne]; exact h2
              clear HO h2
              go_wp2_with fail
              go_quiet (fail)
              go_wp2
              go_roundw
              case rel => exact ⟨q + 1, s, _, rfl, by go_num, by omega, by omega, by first | rfl | simp, HO2⟩
              case measure => simp [intOf]; omega
          · have HO2 : Hid (s = t + (next.take (q + 1)).countP (T.otherText (x1, x2, x3))) := by unfold Hid; rw [HO.out, if_neg (by intro h; exact h1 h.1)]; rfl
            have hb1 : (x1 == y1) = false := by rw [beq_eq_false_iff_ne]; exact h1
            clear HO h1
            go_wp2_with fail
            go_quiet (fail)
            go_wp2
            go_roundw
            case rel => exact ⟨q + 1, s, _, rfl, by go_num, by omega, by omega, by first | rfl | simp, HO2⟩
            case measure => simp [intOf]; omega
        · have HS2 : Hid (s = T.textsN (old.take (k + 1)) next) := by
            unfold Hid
            rw [HTk.out, HSq.out, List.take_of_length_le (by have := Hxn.out; omega)]
          have hqi : ¬ (q : Int) < (xn : Int) := by omega
          clear HSq
          go_wp2
          go_roundw
          case rel => exact ⟨k + 1, s, q1, rfl, by go_num, by omega, by omega, rfl, HS2⟩
          case measure => simp [intOf]; omega
    · have HTe : Hid (T.textsN old next = t) := by unfold Hid; rw [HT.out, List.take_of_length_le (by have := Hon.out; omega)]
      have hki : ¬ (k : Int) < (on : Int) := by omega
      have HCs : Hid (Calls Try.prog 45 #[.slice aO na aC, .slice bO nb bC] (w2.drewN q0) fun e w' => e = .returned (.int .i64 sh) ∧ Below (w2.drewN q0).heap.size (w2.drewN q0) w') := by
        have hb : Below w2.heap.size w2 (w2.drewN q0) := below_drewN (Below.refl _ _) q0
        have hu : ∀ (o : Option Addr) (l : List Int), U8At w2 o l → U8At (w2.drewN q0) o l := by
          intro o l h
          rcases h with h | ⟨b, off, e, hl, h⟩
          · exact Or.inl h
          · exact Or.inr ⟨b, off, e, hl, h.below hb hl⟩
        have := shared_any aO bO aC bC LA LB (w2.drewN q0) (by rw [Hna.out]; exact hA) (by rw [Hnb.out]; exact hB) (hu _ _ HR.out.1) (hu _ _ HR.out.2)
        rw [Hna.out, Hnb.out, Hsh.out] at this
        exact this
      have HB3 : Hid (Below w.heap.size w (w2.drewN q0)) := below_drewN HB2.out q0
      clear HT HR HAo2 HAx2 HB2
      go_wp2_with fail
      refine HCs.out.mono ?_
      rintro e w4 ⟨rfl, hb4⟩
      have HB4 : Hid (Below w.heap.size w w4) := HB3.out.trans (hb4.mono HB3.out.size)
      clear hb4 HCs HB3
      go_wp2
      go_ret
      refine ⟨?_, HB4.out⟩
      rw [HF.out, HTe.out]
      first | rfl | (refine ret_int ?_; first | omega | (simp only [IntKind.wrap_i64]; omega))

end Go.Proofs.Ytcaeeaiodbjacaa
