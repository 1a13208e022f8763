/-
  The walks of jumpIf, draw, double.
-/
import Derived.Test.YtfggaacijcggeaaPush
namespace Go.Proofs.Ytfggaacijcggeaa
open Go.RowKit
set_option linter.unusedVariables false

theorem popM_next (M : H.Mach) : (H.popM M).next = M.next := by unfold H.popM; split <;> rfl
theorem popM_chars (M : H.Mach) : (H.popM M).chars = M.chars := by unfold H.popM; split <;> rfl
theorem popM_text (M : H.Mach) : (H.popM M).text = M.text := by unfold H.popM; split <;> rfl
theorem popM_shows (M : H.Mach) : (H.popM M).shows = M.shows := by unfold H.popM; split <;> rfl
theorem popM_sends (M : H.Mach) : (H.popM M).sends = M.sends := by unfold H.popM; split <;> rfl

theorem jump_eq0 {a : Int} {M : H.Mach} (h : H.popV M = 0) : H.jumpIf a M = H.popM M := by unfold H.jumpIf; rw [if_pos h]
theorem jump_eq1 {a : Int} {M : H.Mach} (h : H.popV M ≠ 0) : H.jumpIf a M = { H.popM M with next := M.next + a } := by unfold H.jumpIf; rw [if_neg h, popM_next]

set_option maxHeartbeats 400000 in
theorem jumpIf_any {w : World} {base b : Nat} {pile : List Int} {sv dv : Value} {M : H.Mach} (h : MB w base b pile sv dv M) (a : Int) (h1 : -1000 ≤ a) (h2 : a ≤ 1000) (h3 : -1000 ≤ M.next) (h4 : M.next ≤ 1000) :
    Calls Try.prog 41 #[.pointer (some ⟨b, 0, none⟩), .int .i64 a] w fun e w' => e = .returned (.tuple #[]) ∧ After w base b sv dv (H.jumpIf a M) w' := by
  have HP : Hid (MB w base b pile sv dv M) := h
  obtain ⟨nx, hnx⟩ : ∃ nx, nx = M.next := ⟨_, rfl⟩
  rw [← hnx] at h3 h4
  have Hnx : Hid (nx = M.next) := hnx
  clear h hnx
  go_enter Try.func41, Try.ntmps41
  go_wp2_with fail
  refine (pop_any HP.out).mono ?_
  rintro e w1 ⟨rfl, ⟨pile1, hm1⟩, hf1⟩
  have HM1 : Hid (MB w1 base b pile1 sv dv (H.popM M)) := hm1
  have HF1 : Hid (Fr base w w1) := hf1
  have c21 := hm1.c21
  rw [popM_next, ← Hnx.out] at c21
  have f21 := hm1.free 21
  obtain ⟨v, hv⟩ : ∃ v, v = H.popV M := ⟨_, rfl⟩
  have Hv : Hid (v = H.popV M) := hv
  rw [← hv]
  clear hm1 hf1 hv
  by_cases hz : v = 0
  · have HE : Hid (H.jumpIf a M = H.popM M) := jump_eq0 (by rw [← Hv.out]; exact hz)
    subst hz
    go_wp2
    go_end0
    exact ⟨rfl, by rw [HE.out]; exact ⟨⟨_, HM1.out⟩, HF1.out⟩⟩
  · have hb : (v != 0) = true := by simpa using hz
    have HE : Hid (H.jumpIf a M = { H.popM M with next := nx + a }) := by unfold Hid; rw [Hnx.out]; exact jump_eq1 (by rw [← Hv.out]; exact hz)
    clear hz
    go_wp2
    go_end0
    exact ⟨rfl, by rw [HE.out]; exact ⟨⟨_, HM1.out.set_next _⟩, HM1.out.fr_set HF1.out _ _⟩⟩

/-- Numbers of 16 bits lie in memory from ⟨b, off⟩ on. -/
def U16Row (w : World) (b off : Nat) (l : List Int) : Prop := ∀ i x, l[i]? = some x → w.cell? ⟨b, off + i, none⟩ = some (.int .u16 x)

theorem draw_eq0 {ds : List Int} {M : H.Mach} (h : ds.length ≤ M.draws) : H.draw ds M = H.push 0 M := by unfold H.draw; rw [if_neg (by omega)]
theorem draw_eq1 {ds : List Int} {M : H.Mach} (h : M.draws < ds.length) : H.draw ds M = H.push (ds.getD M.draws 0) { M with draws := M.draws + 1 } := by unfold H.draw; rw [if_pos h]

set_option maxHeartbeats 400000 in
theorem draw_any {w : World} {base b : Nat} {pile : List Int} {sv dv : Value} {M : H.Mach} (h : MB w base b pile sv dv M) (ao : Option Addr) (bd off n cap : Nat) (ds : List Int) (hn : ds.length = n) (hmax : n ≤ maxLen) (hao : 0 < n → ao = some ⟨bd, off, none⟩) (hrow : U16Row w bd off ds) :
    Calls Try.prog 42 #[.pointer (some ⟨b, 0, none⟩), .slice ao n cap] w fun e w' => e = .returned (.tuple #[]) ∧ After w base b sv dv (H.draw ds M) w' := by
  have HP : Hid (MB w base b pile sv dv M) := h
  have c23 := h.c23
  have f23 := h.free 23
  obtain ⟨k, hk⟩ : ∃ k, k = M.draws := ⟨_, rfl⟩
  rw [← hk] at c23
  have Hk : Hid (k = M.draws) := hk
  have Hn : Hid (ds.length = n) := hn
  have HR : Hid (U16Row w bd off ds) := hrow
  have HA : Hid (0 < n → ao = some ⟨bd, off, none⟩) := hao
  unfold maxLen at hmax
  clear h hk hn hrow hao
  by_cases hlt : k < n
  · obtain rfl := HA.out (by omega)
    have hx : ds[k]? = some (ds.getD k 0) := by
      have := Hn.out
      simp [List.getD, List.getElem?_eq_getElem (show k < ds.length by omega)]
    have cd := HR.out k _ hx
    have HE : Hid (H.draw ds M = H.push (ds.getD k 0) { M with draws := k + 1 }) := by unfold Hid; rw [Hk.out]; exact draw_eq1 (by rw [← Hk.out]; have := Hn.out; omega)
    generalize ds.getD k 0 = x at *
    clear hx
    have hi : (k : Int) < (n : Int) := by omega
    go_enter Try.func42, Try.ntmps42
    go_wp2_with fail
    have hm : MB (w.setCell ⟨b, 23, none⟩ (.int .i64 ((k : Int) + 1))) base b pile sv dv { M with draws := k + 1 } := HP.out.set_draws (k + 1)
    refine (push_any (M := { M with draws := k + 1 }) (by exact hm) x).mono ?_
    rintro e w1 ⟨rfl, hm1, hf1⟩
    have HF : Hid (Fr base w w1) := (HP.out.fr_set (Fr.refl _ _) _ _).trans hf1
    have HM : Hid (∃ pile, MB w1 base b pile sv dv (H.push x { M with draws := k + 1 })) := hm1
    clear hm hm1 hf1 cd
    go_wp2
    go_end0
    exact ⟨rfl, by rw [HE.out]; exact ⟨HM.out, HF.out⟩⟩
  · have HE : Hid (H.draw ds M = H.push 0 M) := draw_eq0 (by rw [← Hk.out]; have := Hn.out; omega)
    have hi : ¬ (k : Int) < (n : Int) := by omega
    go_enter Try.func42, Try.ntmps42
    go_wp2_with fail
    refine (push_any HP.out 0).mono ?_
    rintro e w1 ⟨rfl, hm1, hf1⟩
    have HF : Hid (Fr base w w1) := hf1
    have HM : Hid (∃ pile, MB w1 base b pile sv dv (H.push 0 M)) := hm1
    clear hm1 hf1
    go_wp2
    go_end0
    exact ⟨rfl, by rw [HE.out]; exact ⟨HM.out, HF.out⟩⟩

theorem double_eq0 {M : H.Mach} (h : (H.popM M).fault ≠ 0) : H.double M = H.popM M := by unfold H.double; rw [if_neg h]
theorem double_eq1 {M : H.Mach} (h : (H.popM M).fault = 0) : H.double M = H.push (H.popV M) (H.push (H.popV M) (H.popM M)) := by unfold H.double; rw [if_pos h]

set_option maxHeartbeats 400000 in
theorem double_any {w : World} {base b : Nat} {pile : List Int} {sv dv : Value} {M : H.Mach} (h : MB w base b pile sv dv M) :
    Calls Try.prog 46 #[.pointer (some ⟨b, 0, none⟩)] w fun e w' => e = .returned (.tuple #[]) ∧ After w base b sv dv (H.double M) w' := by
  have HP : Hid (MB w base b pile sv dv M) := h
  clear h
  go_enter Try.func46, Try.ntmps46
  go_wp2_with fail
  refine (pop_any HP.out).mono ?_
  rintro e w1 ⟨rfl, ⟨pile1, hm1⟩, hf1⟩
  have HM1 : Hid (MB w1 base b pile1 sv dv (H.popM M)) := hm1
  have HF1 : Hid (Fr base w w1) := hf1
  have c25 := hm1.c25
  clear hm1 hf1
  generalize hv : H.popV M = v
  have Hv : Hid (H.popV M = v) := hv
  clear hv
  generalize hft : (H.popM M).fault = ft at c25
  have Hft : Hid ((H.popM M).fault = ft) := hft
  clear hft
  by_cases hz : ft = 0
  · have HE : Hid (H.double M = H.push v (H.push v (H.popM M))) := by unfold Hid; rw [← Hv.out]; exact double_eq1 (by rw [Hft.out]; exact hz)
    subst hz
    go_wp2_with fail
    refine (push_any HM1.out v).mono ?_
    rintro e w2 ⟨rfl, ⟨pile2, hm2⟩, hf2⟩
    have HM2 : Hid (MB w2 base b pile2 sv dv (H.push v (H.popM M))) := hm2
    have HF2 : Hid (Fr base w w2) := HF1.out.trans hf2
    clear hm2 hf2 HM1 HF1 c25
    go_wp2_with fail
    refine (push_any HM2.out v).mono ?_
    rintro e w3 ⟨rfl, hm3, hf3⟩
    have HM3 : Hid (∃ pile, MB w3 base b pile sv dv (H.push v (H.push v (H.popM M)))) := hm3
    have HF3 : Hid (Fr base w w3) := HF2.out.trans hf3
    clear hm3 hf3 HM2 HF2
    go_wp2
    go_end0
    exact ⟨rfl, by rw [HE.out]; exact ⟨HM3.out, HF3.out⟩⟩
  · have HE : Hid (H.double M = H.popM M) := double_eq0 (by rw [Hft.out]; exact hz)
    have hb : (ft != 0) = true := by simpa using hz
    clear hz
    go_wp2
    exact bodyPost_ret (v := .tuple #[]) (by simp [results, Try.results46]) rfl ⟨rfl, by rw [HE.out]; exact ⟨⟨_, HM1.out⟩, HF1.out⟩⟩

end Go.Proofs.Ytfggaacijcggeaa
