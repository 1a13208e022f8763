/-
  The document's own answer: the walks of stay and shared.
-/
import Derived.Test.YtcaeeaiodbjacaaDiffF
import Derived.Test.YtcaeeaiodbjacaaRiseW
import Derived.Test.YtcaeeaiodbjacaaBookS
import Derived.BigQuiet
namespace Go.Proofs.Ytcaeeaiodbjacaa
open Go.RowKit
set_option linter.unusedVariables false

theorem infoU8 : (Try.prog.info? 5).map (fun i => (i.zero, i.size, i.bytes)) = some (some (.int .u8 0), 1, 1) := by kernel_rfl

def u8l (l : List Int) : List Value := l.map fun x => .int .u8 x

theorem u8l_snoc (l : List Int) (x : Int) : u8l (l ++ [x]) = u8l l ++ [.int .u8 x] := by simp [u8l]

namespace T
/-- What one node brings. -/
def stayOne (x : Nd) (b : List Nd) : List Int := (b.filter (sameN x)).map fun _ => x.1

theorem stayL_take {a b : List Nd} {k : Nat} {x : Nd} (h : a[k]? = some x) : stayL (a.take (k + 1)) b = stayL (a.take k) b ++ stayOne x b := by
  unfold stayL
  rw [List.take_add_one, h]
  simp [stayOne]

theorem stayOne_take {x : Nd} {b : List Nd} {q : Nat} {y : Nd} (h : b[q]? = some y) : stayOne x (b.take (q + 1)) = stayOne x (b.take q) ++ (if x.1 = y.1 ∧ x.2.1 = y.2.1 then [x.1] else []) := by
  unfold stayOne
  rw [List.take_add_one, h]
  by_cases hs : x.1 = y.1 ∧ x.2.1 = y.2.1
  · simp [sameN, hs]
  · simp [sameN, hs]
end T

set_option maxRecDepth 100000 in
set_option maxHeartbeats 4000000 in
theorem stay_any (ao bo : Option Addr) (ac bc : Nat) (a b : List T.Nd) (w : World) (hla : a.length ≤ 16) (hlb : b.length ≤ 16) (haa : NodeAt w ao a) (hab : NodeAt w bo b) :
    Calls Try.prog 44 #[.slice ao a.length ac, .slice bo b.length bc] w fun e w' => ∃ v, e = .returned v ∧ w'.ownsRow w.heap.size 5 1 v (T.stayL a b).length (u8l (T.stayL a b)) ∧ Below w.heap.size w w' := by
  obtain ⟨j0, hj, hy0, hy1, hy2⟩ := info_parts infoU8
  have HA : Hid (NodeAt w ao a) := haa
  have HB : Hid (NodeAt w bo b) := hab
  obtain ⟨n, hn⟩ : ∃ n, n = a.length := ⟨_, rfl⟩
  have Hn : Hid (a.length = n) := hn.symm
  obtain ⟨m, hm⟩ : ∃ n, n = b.length := ⟨_, rfl⟩
  have Hm : Hid (b.length = m) := hm.symm
  rw [← hn] at hla ⊢
  rw [← hm] at hlb ⊢
  clear haa hab hn hm
  go_enter Try.func44, Try.ntmps44
  go_wp2_with fail
  go_loopw [5, 6] (fun v i wr => ∃ (k s cv : Nat) (vo : Option Addr), v = .slice vo s cv ∧ k ≤ n ∧ i = .int .i64 k ∧ s ≤ 16 * k ∧ Hid (wr.ownsRow w.heap.size 5 1 (.slice vo s cv) s (u8l (T.stayL (a.take k) b)) ∧ Below w.heap.size w wr ∧ (T.stayL (a.take k) b).length = s))
    (fun _ i _ => n - (intOf i).toNat)
  case atStart => exact ⟨0, 0, 0, none, rfl, Nat.zero_le _, rfl, by omega, World.ownsRow_nil _ _ _ _, Below.refl _ _, rfl⟩
  case round =>
    obtain ⟨k, s, cv, vo, rfl, hk, rfl, hs16, HS⟩ := hrel
    have hsz := HS.out.2.1.size
    by_cases hlt : k < n
    · obtain ⟨x, hx⟩ : ∃ x, a[k]? = some x := ⟨a[k]'(by have := Hn.out; omega), List.getElem?_eq_getElem (by have := Hn.out; omega)⟩
      obtain ⟨ba, fa, rfl, hba, hra⟩ : ∃ b off, ao = some ⟨b, off, none⟩ ∧ b < w.heap.size ∧ NodeRow w b off a := HA.out.resolve_left (by rintro rfl; simp at hx)
      obtain ⟨x1, x2, x3⟩ := x
      have HXc : Hid (∀ u : World, Below w.heap.size w u → u.cell? ⟨ba, fa + k * 3, none⟩ = some (.int .u8 x1) ∧ u.cell? ⟨ba, fa + k * 3 + 1, none⟩ = some (.int .u16 x2)) := by
        intro u hu
        obtain ⟨c0, c1, c2⟩ := (hra.below hu hba) k _ hx
        exact ⟨c0, c1⟩
      have HT : Hid (T.stayL (a.take (k + 1)) b = T.stayL (a.take k) b ++ T.stayOne (x1, x2, x3) b) := T.stayL_take hx
      have hki : (k : Int) < (n : Int) := by omega
      have hk0 : (0 : Int) ≤ (k : Int) := by omega
      clear hx hra
      go_wp2_with fail
      go_loopw [5, 7] (fun v i wr => ∃ (q t ct : Nat) (tO : Option Addr), v = .slice tO t ct ∧ q ≤ m ∧ i = .int .i64 q ∧ t ≤ s + q ∧ Hid (wr.ownsRow w.heap.size 5 1 (.slice tO t ct) t (u8l (T.stayL (a.take k) b ++ T.stayOne (x1, x2, x3) (b.take q))) ∧ Below w.heap.size w wr ∧ (T.stayL (a.take k) b ++ T.stayOne (x1, x2, x3) (b.take q)).length = t))
        (fun _ i _ => m - (intOf i).toNat)
      case atStart =>
        refine ⟨0, s, cv, vo, rfl, Nat.zero_le _, rfl, by omega, ?_, HS.out.2.1, ?_⟩
        · simpa [T.stayOne] using HS.out.1
        · simpa [T.stayOne] using HS.out.2.2
      case round =>
        obtain ⟨q, t, ct, tO, rfl, hq, rfl, ht, HW⟩ := hrel
        clear HS
        have hszw := HW.out.2.1.size
        obtain ⟨c0, c1⟩ := HXc.out wr HW.out.2.1
        by_cases hqm : q < m
        · obtain ⟨y, hy⟩ : ∃ x, b[q]? = some x := ⟨b[q]'(by have := Hm.out; omega), List.getElem?_eq_getElem (by have := Hm.out; omega)⟩
          obtain ⟨bb, fb, rfl, hbb, hrb⟩ : ∃ b' off, bo = some ⟨b', off, none⟩ ∧ b' < w.heap.size ∧ NodeRow w b' off b := HB.out.resolve_left (by rintro rfl; simp at hy)
          obtain ⟨d0, d1, d2⟩ := (hrb.below HW.out.2.1 hbb) q _ hy
          obtain ⟨y1, y2, y3⟩ := y
          simp only at d0 d1 d2
          have HO : Hid (T.stayOne (x1, x2, x3) (b.take (q + 1)) = T.stayOne (x1, x2, x3) (b.take q) ++ (if x1 = y1 ∧ x2 = y2 then [x1] else [])) := T.stayOne_take hy
          have hqi : (q : Int) < (m : Int) := by omega
          have hq0 : (0 : Int) ≤ (q : Int) := by omega
          clear hy hrb d2
          by_cases h1 : x1 = y1
          · by_cases h2 : x2 = y2
            · have HO2 : Hid (T.stayL (a.take k) b ++ T.stayOne (x1, x2, x3) (b.take (q + 1)) = (T.stayL (a.take k) b ++ T.stayOne (x1, x2, x3) (b.take q)) ++ [x1]) := by unfold Hid; rw [HO.out, if_pos ⟨h1, h2⟩, List.append_assoc]
              subst h1
              subst h2
              clear HO
              go_wp2_with fail
              go_quiet (fail)
              have HOd : Hid ((wr.drewN nq).ownsRow w.heap.size 5 1 (.slice tO t ct) t (u8l (T.stayL (a.take k) b ++ T.stayOne (x1, x2, x3) (b.take q)))) := own_below' HW.out.1 (below_drewN (Below.refl _ _) nq) (Nat.le_refl _)
              go_wp2_with (at_builtin; refine wpList_append_own _ rfl (.tmp 44) (.tmp 50) 67 rfl w.heap.size 5 j0 (.int .u8 0) 1 1 Try.underlying67 hj hy0 hy1 hy2 rfl (by decide) _ _ _ rfl (HOd.out.alloc _) ⟨wr.heap.size, 0, none⟩ 1 1 [.int .u8 x1] rfl rfl (new_one _ _ _) (by intro u hu; simp at hu; subst hu; rfl) (by unfold maxLen; omega) (by omega) (by simp; omega) ?_)
              intro v3 w3 ho3 hg3 _
              obtain ⟨tO3, ct3, rfl⟩ := own_is ho3
              have HW3 : Hid (w3.ownsRow w.heap.size 5 1 (.slice tO3 (t + 1) ct3) (t + 1) (u8l (T.stayL (a.take k) b ++ T.stayOne (x1, x2, x3) (b.take (q + 1)))) ∧ Below w.heap.size w w3 ∧ (T.stayL (a.take k) b ++ T.stayOne (x1, x2, x3) (b.take (q + 1))).length = t + 1) := by
                refine ⟨by rw [HO2.out, u8l_snoc]; exact ho3, below_app ((below_drewN HW.out.2.1 nq).alloc hszw _) hg3 (HOd.out.alloc _) (Nat.le_refl _) (by simp; omega), ?_⟩
                rw [HO2.out, List.length_append, HW.out.2.2]
                rfl
              clear ho3 hg3 HW HOd c0 c1 d0 d1
              go_wp2
              go_roundw
              case rel => exact ⟨q + 1, t + 1, ct3, tO3, rfl, by omega, by go_num, by omega, HW3⟩
              case measure => simp [intOf]; omega
            · have HO2 : Hid (T.stayOne (x1, x2, x3) (b.take (q + 1)) = T.stayOne (x1, x2, x3) (b.take q)) := by unfold Hid; rw [HO.out, if_neg (by intro h; exact h2 h.2), List.append_nil]
              have hb2 : (x2 == y2) = false := by rw [beq_eq_false_iff_ne]; exact h2
              subst h1
              clear HO h2
              go_wp2_with fail
              go_quiet (fail)
              go_wp2
              go_roundw
              case rel => exact ⟨q + 1, t, ct, tO, rfl, by omega, by go_num, by omega, by rw [HO2.out]; exact own_below' HW.out.1 (below_drewN (Below.refl _ _) _) (Nat.le_refl _), below_drewN HW.out.2.1 _, by rw [HO2.out]; exact HW.out.2.2⟩
              case measure => simp [intOf]; omega
          · have HO2 : Hid (T.stayOne (x1, x2, x3) (b.take (q + 1)) = T.stayOne (x1, x2, x3) (b.take q)) := by unfold Hid; rw [HO.out, if_neg (by intro h; exact h1 h.1), List.append_nil]
            have hb1 : (x1 == y1) = false := by rw [beq_eq_false_iff_ne]; exact h1
            clear HO h1
            go_wp2_with fail
            go_quiet (fail)
            go_wp2
            go_roundw
            case rel => exact ⟨q + 1, t, ct, tO, rfl, by omega, by go_num, by omega, by rw [HO2.out]; exact own_below' HW.out.1 (below_drewN (Below.refl _ _) _) (Nat.le_refl _), below_drewN HW.out.2.1 _, by rw [HO2.out]; exact HW.out.2.2⟩
            case measure => simp [intOf]; omega
        · have hb : b.take q = b := List.take_of_length_le (by have := Hm.out; omega)
          have HW2 : Hid (wr.ownsRow w.heap.size 5 1 (.slice tO t ct) t (u8l (T.stayL (a.take (k + 1)) b)) ∧ Below w.heap.size w wr ∧ (T.stayL (a.take (k + 1)) b).length = t) := by
            have h := HW.out
            rw [hb, ← HT.out] at h
            exact h
          have hqi : ¬ (q : Int) < (m : Int) := by omega
          clear hb HW
          go_wp2
          go_roundw
          case rel => exact ⟨k + 1, t, ct, tO, rfl, by omega, by go_num, by omega, HW2⟩
          case measure => simp [intOf]; omega
    · have ha : a.take k = a := List.take_of_length_le (by have := Hn.out; omega)
      have HE : Hid (wr.ownsRow w.heap.size 5 1 (.slice vo s cv) (T.stayL a b).length (u8l (T.stayL a b)) ∧ Below w.heap.size w wr) := by
        have h := HS.out
        rw [ha] at h
        exact ⟨by rw [h.2.2]; exact h.1, h.2.1⟩
      have hki : ¬ (k : Int) < (n : Int) := by omega
      clear ha HS
      go_wp2
      go_ret
      exact ⟨_, rfl, HE.out.1, HE.out.2⟩

end Go.Proofs.Ytcaeeaiodbjacaa
