/-
  The walk of Encode.
-/
import Derived.Test.YtfggaacijcggeaaAlone
import Derived.Test.YtfggaacijcggeaaAppIns
import Derived.Test.YtfggaacijcggeaaLands
import Derived.Test.YtfggaacijcggeaaJCode
import Derived.Laws.BytesArg
namespace Go.Proofs.Ytfggaacijcggeaa
open Go.RowKit
set_option linter.unusedVariables false

/-- Instructions lie in memory from ⟨b, off⟩ on. -/
def InsRow (w : World) (b off : Nat) (l : List (Int × Int)) : Prop :=
  ∀ i x, l[i]? = some x → w.cell? ⟨b, off + i * 2, none⟩ = some (.int .u8 x.1) ∧ w.cell? ⟨b, off + i * 2 + 1, none⟩ = some (.int .i64 x.2)

theorem InsRow.below {B : Nat} {w w' : World} {b off : Nat} {l : List (Int × Int)} (h : InsRow w b off l) (hb : Below B w w') (hl : b < B) : InsRow w' b off l := by
  intro i x hx
  obtain ⟨h0, h1⟩ := h i x hx
  exact ⟨(hb.cell hl).trans h0, (hb.cell hl).trans h1⟩

/-- What Encode writes, and its error, of a list of 1 to 64. -/
def encS (n : Nat) (l : List (Int × Int)) : ByteArray := if H.okFrom n 0 l then strOfNums (H.encAll l) else ⟨#[]⟩
def encE (n : Nat) (l : List (Int × Int)) : Int := if H.okFrom n 0 l then 0 else 1
theorem enc_bad {n : Nat} {l : List (Int × Int)} (h : H.okFrom n 0 l = false) : Ending.returned (.tuple #[.string ⟨#[]⟩, .int .i64 1]) = Ending.returned (.tuple #[.string (encS n l), .int .i64 (encE n l)]) := by
  simp [encS, encE, h]
theorem enc_good {n : Nat} {l : List (Int × Int)} (h : H.okFrom n 0 l = true) : Ending.returned (.tuple #[.string (strOfNums (H.encAll l)), .int .i64 0]) = Ending.returned (.tuple #[.string (encS n l), .int .i64 (encE n l)]) := by
  simp [encS, encE, h]

set_option maxHeartbeats 400000 in
theorem enc_short (ao : Option Addr) (cap : Nat) (w : World) :
    Calls Try.prog 11 #[.slice ao 0 cap] w fun e w' => e = .returned (.tuple #[.string ⟨#[]⟩, .int .i64 1]) ∧ w = w' := by
  go_enter Try.func11, Try.ntmps11
  go_wp2
  go_ret2
  exact ⟨rfl, rfl⟩

set_option maxHeartbeats 400000 in
theorem enc_long (ao : Option Addr) (n cap : Nat) (w : World) (hn : 64 < n) (hm : n ≤ maxLen) :
    Calls Try.prog 11 #[.slice ao n cap] w fun e w' => e = .returned (.tuple #[.string ⟨#[]⟩, .int .i64 1]) ∧ w = w' := by
  unfold maxLen at hm
  have h1 : ¬ (n : Int) < 1 := by omega
  have h2 : (64 : Int) < n := by omega
  go_enter Try.func11, Try.ntmps11
  go_wp2
  go_ret2
  exact ⟨rfl, rfl⟩

set_option maxHeartbeats 2000000 in
theorem enc_mid (b off n cap : Nat) (l : List (Int × Int)) (w : World) (h1 : 1 ≤ n) (h64 : n ≤ 64) (hn : l.length = n) (hrow : InsRow w b off l) :
    Calls Try.prog 11 #[.slice (some ⟨b, off, none⟩) n cap] w fun e w' =>
      e = .returned (.tuple #[.string (encS n l), .int .i64 (encE n l)]) ∧ Below w.heap.size w w' := by
  have hbl : b < w.heap.size := by
    obtain ⟨x, hx⟩ : ∃ x, l[0]? = some x := ⟨l[0]'(by omega), List.getElem?_eq_getElem (by omega)⟩
    exact World.block_lt_of_cell? _ _ (hrow 0 x hx).1
  have HR : Hid (InsRow w b off l) := hrow
  clear hrow
  have Hn : Hid (l.length = n) := hn
  clear hn
  have e1 : ¬ (n : Int) < 1 := by omega
  have e2 : ¬ (64 : Int) < n := by omega
  go_enter Try.func11, Try.ntmps11
  go_wp2
  go_loopw [4, 17] (fun v i wr => ∃ (k : Nat) (u : Value), u = v ∧ k ≤ n ∧ i = .int .i64 k ∧ wr.ownsRow w.heap.size 5 1 u (H.encAll (l.take k)).length (u8s (H.encAll (l.take k))) ∧ Below w.heap.size w wr ∧ H.okFrom n 0 l = H.okFrom n k (l.drop k))
    (fun _ i _ => n - (intOf i).toNat)
  case atStart => exact ⟨0, _, rfl, Nat.zero_le _, rfl, by simpa [H.encAll, u8s] using World.ownsRow_nil _ _ _ _, Below.refl _ _, by simp⟩
  case round =>
    obtain ⟨k, u, rfl, hk, rfl, hown, hbel, hok⟩ := hrel
    have HO : Hid (wr.ownsRow w.heap.size 5 1 u (H.encAll (l.take k)).length (u8s (H.encAll (l.take k)))) := hown
    have HB : Hid (Below w.heap.size w wr) := hbel
    have HK : Hid (H.okFrom n 0 l = H.okFrom n k (l.drop k)) := hok
    have hsz := hbel.size
    clear hown hbel hok
    by_cases hlt : k < n
    · obtain ⟨x, hx⟩ : ∃ x, l[k]? = some x := ⟨l[k]'(by have := Hn.out; omega), List.getElem?_eq_getElem (by have := Hn.out; omega)⟩
      obtain ⟨o, a⟩ := x
      obtain ⟨c0, c1⟩ := (HR.out.below HB.out hbl) k _ hx
      have HX : Hid (l[k]? = some (o, a)) := hx
      clear hx
      go_wp2_with fail
      refine (alone_any o a _).mono ?_
      rintro e w1 ⟨rfl, hb1⟩
      have hb1w : Below w.heap.size w w1 := (HB.out.alloc hsz _).trans (hb1.mono (by simp; omega))
      have hx1 : Blk w1 wr.heap.size #[.int .u8 o, .int .i64 a] 28 := (Blk.new wr _ 28).below hb1 (by simp)
      have hown1 : w1.ownsRow w.heap.size 5 1 u (H.encAll (l.take k)).length (u8s (H.encAll (l.take k))) := own_below' (HO.out.alloc _) hb1 (Nat.le_refl _)
      have d0 := hx1.cell 0
      have d1 := hx1.cell 1
      simp at d0 d1
      obtain ⟨r0, r1⟩ := (HR.out.below hb1w hbl) k _ HX.out
      have hs1 := hb1w.size
      have hs1' := hx1.lt
      have HB1 : Hid (Below w.heap.size w w1) := hb1w
      have HX1 : Hid (Blk w1 wr.heap.size #[.int .u8 o, .int .i64 a] 28) := hx1
      have HO1 : Hid (w1.ownsRow w.heap.size 5 1 u (H.encAll (l.take k)).length (u8s (H.encAll (l.take k)))) := hown1
      clear hb1 hb1w hx1 hown1 c0 c1 HB HO
      have HS : Hid (H.okFrom n 0 l = (H.alone o a && H.lands n k o a && H.okFrom n (k + 1) (l.drop (k + 1)))) := HK.out.trans (H.okFrom_step n l k (o, a) HX.out)
      clear HK
      cases hal : H.alone o a
      · have hv : Hid (H.okFrom n 0 l = false) := by unfold Hid; rw [HS.out, hal]; rfl
        clear hal HS
        go_wp2
        go_ret2
        exact ⟨enc_bad hv.out, HB1.out⟩
      · have HA : Hid (H.alone o a = true) := hal
        clear hal
        go_wp2_with fail
        refine (lands_any b off n cap k o a _ hlt h64 HA.out (by exact r0) (by exact r1)).mono ?_
        rintro e w2 ⟨rfl, hb2⟩
        have hb2w : Below w.heap.size w w2 := HB1.out.trans (hb2.mono hs1)
        have hx2 : Blk w2 wr.heap.size #[.int .u8 o, .int .i64 a] 28 := HX1.out.below hb2 hs1'
        have hown2 : w2.ownsRow w.heap.size 5 1 u (H.encAll (l.take k)).length (u8s (H.encAll (l.take k))) := own_below' HO1.out hb2 (Nat.le_refl _)
        have f0 := hx2.cell 0
        have f1 := hx2.cell 1
        simp at f0 f1
        have hs2 := hb2w.size
        have HB2 : Hid (Below w.heap.size w w2) := hb2w
        have HO2 : Hid (w2.ownsRow w.heap.size 5 1 u (H.encAll (l.take k)).length (u8s (H.encAll (l.take k)))) := hown2
        clear hb2 hb2w hx2 hown2 HB1 HO1 HX1 d0 d1 r0 r1
        cases hla : H.lands n k o a
        · have hv : Hid (H.okFrom n 0 l = false) := by unfold Hid; rw [HS.out, hla]; simp
          clear hla HS
          go_wp2
          go_ret2
          exact ⟨enc_bad hv.out, HB2.out⟩
        · have HK : Hid (H.okFrom n 0 l = H.okFrom n (k + 1) (l.drop (k + 1))) := by unfold Hid; rw [HS.out, HA.out, hla]; simp
          clear hla HS
          go_wp2_with fail
          have hlen : (H.encAll (l.take k)).length ≤ 1000 := by
            have h3 := (H.encAll_length (l.take k)).2
            have h4 := List.length_take_le k l
            omega
          refine (app_any w.heap.size u (H.encAll (l.take k)) o a _ (by exact hs2) HO2.out hlen).mono ?_
          rintro e w3 ⟨v3, rfl, hown3, hb3⟩
          have hb3w : Below w.heap.size w w3 := HB2.out.trans hb3
          have HB3 : Hid (Below w.heap.size w w3) := hb3w
          have HO3 : Hid (w3.ownsRow w.heap.size 5 1 v3 (H.encAll (l.take k) ++ H.enc o a).length (u8s (H.encAll (l.take k) ++ H.enc o a))) := hown3
          clear hb3 hb3w hown3 HO2 HB2 hlen
          go_wp2
          go_roundw
          case rel =>
            have e : H.encAll (l.take (k + 1)) = H.encAll (l.take k) ++ H.enc o a := by rw [H.take_snoc l k (o, a) HX.out, H.encAll_snoc]
            exact ⟨k + 1, v3, rfl, by omega, by go_num, by rw [e]; exact HO3.out, HB3.out, HK.out⟩
          case measure => simp [intOf]; omega
    · have hkn : k = n := by omega
      subst hkn
      have hv : Hid (H.okFrom k 0 l = true) := by unfold Hid; rw [HK.out, List.drop_of_length_le (by have := Hn.out; omega)]; rfl
      have ht : l.take k = l := List.take_of_length_le (by have := Hn.out; omega)
      have hpos : 1 ≤ (H.encAll l).length := by have := (H.encAll_length l).1; have := Hn.out; omega
      obtain ⟨g, gc, hu, hcells⟩ : ∃ g gc, u = .slice (some ⟨g, 0, none⟩) (H.encAll l).length gc ∧ ∀ i, i < (H.encAll l).length → wr.cell? ⟨g, 0 + i, none⟩ = some (.int .u8 ((H.encAll l).getD i 0)) := by
        have hown := HO.out
        rw [ht] at hown
        rcases hown.2 with ⟨_, h⟩ | ⟨g, gc, cur, h, _⟩
        · omega
        · refine ⟨g, gc, h, fun i hi => ?_⟩
          subst h
          rw [Nat.zero_add, hown.cellAt i (by omega)]
          simp [u8s, List.getD, List.getElem?_eq_getElem hi]
      obtain ⟨sz, hsz2⟩ : ∃ sz, sz = (H.encAll l).length := ⟨_, rfl⟩
      rw [← hsz2] at hu
      subst hu
      have hconv := run_convert_bytes_arg (P := Try.prog) wr 72 5 Try.underlying72 Try.underlying5 g 0 sz gc (H.encAll l) hsz2.symm (by rw [hsz2]; exact hcells) 9 Try.underlying9
      clear ht hcells HO HK hsz2 hpos
      go_wp2
      go_ret2
      exact ⟨enc_good hv.out, HB.out⟩

end Go.Proofs.Ytfggaacijcggeaa
