/-
  The walk of the statements' own function text.
-/
import Derived.Test.YtfggaacijcggeaaRoundW
namespace Go.Proofs.Ytfggaacijcggeaa
open Go.RowKit
set_option linter.unusedVariables false

/-- What text hands back: the bytes of a right program. -/
def textEnd (w : World) (e : Ending) (w' : World) : Prop :=
  ∃ t l, e = .returned (.tuple #[.string t, .bool true]) ∧ 1 ≤ l.length ∧ H.decode (H.bts t) = (l, 0, 0) ∧ t.size ≤ 200 ∧ Below w.heap.size w w'

set_option maxHeartbeats 2000000 in
theorem text_any (ao : Option Addr) (b off n cap : Nat) (raw : List (Int × Int)) (w : World) (hao : 0 < n → ao = some ⟨b, off, none⟩) (hn : raw.length = n) (hmax : n ≤ maxLen) (hraw : rawOk raw) (hrow : InsRow w b off raw) :
    Calls Try.prog 19 #[.slice ao n cap] w fun e w' => textEnd w e w' := by
  have HCod : Hid (Calls Try.prog 18 #[.slice ao n cap] w fun e w' => codeEnd w e w') := code_any ao b off n cap raw w hao hn hmax hraw hrow
  clear hao hn hmax hraw hrow
  go_enter Try.func19, Try.ntmps19
  go_wp2_with fail
  refine HCod.out.mono ?_
  rintro e w1 ⟨v, l, rfl, h1, h64, hg, hown, hb1⟩
  obtain ⟨g, cv, rfl, hgl⟩ := own_slice hown (by omega)
  obtain ⟨m, hm⟩ : ∃ m, m = l.length := ⟨_, rfl⟩
  have Hm : Hid (m = l.length) := hm
  rw [← hm] at h1 h64 hg hown ⊢
  have HG : Hid (H.good m l) := hg
  have HO1 : Hid (w1.ownsRow w.heap.size 28 2 (.slice (some ⟨g, 0, none⟩) m cv) m (insCells l)) := hown
  have HB1 : Hid (Below w.heap.size w w1) := hb1
  have hs1 := hb1.size
  have hok : Hid (H.okFrom m 0 l = true) := H.good_okFrom hg
  clear hg hown hb1 hm HCod
  go_wp2_with fail
  refine (enc_mid g 0 m cv l _ h1 h64 Hm.out.symm (own_insRow HO1.out Hm.out.symm)).mono ?_
  rintro e w2 ⟨rfl, hb2⟩
  obtain ⟨t, ht⟩ : ∃ t, t = strOfNums (H.encAll l) := ⟨_, rfl⟩
  have e1 : encS m l = t := by rw [ht]; unfold encS; rw [hok.out]; rfl
  have e2 : encE m l = 0 := by unfold encE; rw [hok.out]; rfl
  rw [e1, e2]
  have Ht : Hid (H.bts t = H.encAll l) := by unfold Hid; rw [ht]; exact bts_strOfNums _ (encAll_bytes _ (good_ops HG.out))
  have htl := H.encAll_length l
  have htz : t.size ≤ 200 := by
    rw [← H.bts_length t, Ht.out]
    have := Hm.out
    omega
  have htp : 0 < t.size := by
    rw [← H.bts_length t, Ht.out]
    have := Hm.out
    omega
  have htp' : (0 : Int) < (t.size : Int) := by omega
  have HB2 : Hid (Below w.heap.size w w2) := HB1.out.trans (hb2.mono hs1)
  have HD : Hid (H.decode (H.bts t) = (l, 0, 0)) := by
    unfold Hid
    rw [Ht.out]
    exact H.decode_enc l (by have := Hm.out; omega) (by have := Hm.out; omega) (by rw [← Hm.out]; exact hok.out)
  clear hb2 e1 e2 ht htl HO1 HB1
  go_wp2
  go_ret2
  exact ⟨t, l, rfl, by have := Hm.out; omega, HD.out, htz, HB2.out⟩

end Go.Proofs.Ytfggaacijcggeaa
