/-
  Manifests that may be: the walks of mayBe and of isManifest.
-/
import Derived.Test.YtidaflmmldefcaaJEnc
import Derived.BigRegion
namespace Go.Proofs.Ytidaflmmldefcaa
open Go.RowKit
set_option linter.unusedVariables false

/-- A manifest. -/
structure Mf where
  prog : ByteArray
  fuel : Int
  routes : Int
  pub : Int
  sub : Int
  share : Int
  back : Int
def Mf.arr (m : Mf) : Array Value := #[.string m.prog, .int .i64 m.fuel, .int .u8 m.routes, .int .u8 m.pub, .int .u8 m.sub, .int .i64 m.share, .int .i64 m.back]
/-- One with which a tenant may be on a page. -/
structure Mf.good (m : Mf) : Prop where
  size : m.prog.size ≤ maxLen
  code : (H.decode (H.bts m.prog)).2.1 = 0
  fuel : 1 ≤ m.fuel ∧ m.fuel ≤ 1000
  routes : 0 ≤ m.routes ∧ m.routes < 16
  pub : 0 ≤ m.pub ∧ m.pub < 16
  sub : 0 ≤ m.sub ∧ m.sub < 16
  share : 1 ≤ m.share ∧ m.share ≤ 3
  back : 1 ≤ m.back ∧ m.back ≤ 8

theorem dec_no {p : Prop} [Decidable p] (h : ¬ p) : decide p = false := by simp [h]

set_option maxHeartbeats 4000000 in
theorem mayBe_good (m : Mf) (hm : m.good) (w : World) : Calls Try.prog 46 #[.agg m.arr] w fun e w' => e = .returned (.bool true) ∧ Below w.heap.size w w' := by
  have HD : Hid (∀ ob, Calls Try.prog 53 #[.string m.prog] (w.alloc ob) fun e w' => decEnd (H.bts m.prog) (w.alloc ob).heap.size (w.alloc ob) e w') := fun ob => dec_any m.prog (w.alloc ob) hm.size
  have HC : Hid ((H.decode (H.bts m.prog)).2.1 = 0) := hm.code
  obtain ⟨f0, f1⟩ := hm.fuel
  obtain ⟨s0, s1⟩ := hm.share
  obtain ⟨b0, b1⟩ := hm.back
  obtain ⟨r0, r1⟩ := hm.routes
  obtain ⟨p0, p1⟩ := hm.pub
  obtain ⟨q0, q1⟩ := hm.sub
  obtain ⟨pr, fu, ro, pu, su, sh, ba⟩ := m
  unfold Mf.arr
  simp only at HD HC f0 f1 s0 s1 b0 b1 r0 r1 p0 p1 q0 q1 ⊢
  have d1 : decide (fu < 1) = false := dec_no (by omega)
  have d2 : decide (1000 < fu) = false := dec_no (by omega)
  have d3 : decide (sh < 1) = false := dec_no (by omega)
  have d4 : decide (3 < sh) = false := dec_no (by omega)
  have d5 : decide (ba < 1) = false := dec_no (by omega)
  have d6 : decide (8 < ba) = false := dec_no (by omega)
  have d7 : decide (16 ≤ ro) = false := dec_no (by omega)
  have d8 : decide (16 ≤ pu) = false := dec_no (by omega)
  have d9 : decide (16 ≤ su) = false := dec_no (by omega)
  clear hm
  go_enter Try.func46, Try.ntmps46
  go_wp2_with fail
  refine (HD.out _).mono ?_
  rintro e w1 ⟨v, rfl, ho, hb⟩
  rw [HC.out]
  have HB : Hid (Below w.heap.size w w1) := ((Below.refl _ _).alloc (Nat.le_refl _) _).trans (hb.mono (by simp))
  clear ho hb
  go_wp2
  go_ret
  exact ⟨rfl, HB.out⟩

/-- A list of manifests in memory. -/
def MfRow (w : World) (b off : Nat) (l : List Mf) : Prop := ∀ i m, l[i]? = some m → ∀ j v, m.arr[j]? = some v → w.cell? ⟨b, off + i * 7 + j, none⟩ = some v

theorem MfRow.below {w w' : World} {b off B : Nat} {l : List Mf} (h : MfRow w b off l) (hb : Below B w w') (hl : b < B) : MfRow w' b off l := by
  intro i m hm j v hv
  exact (hb.cell (p := ⟨b, off + i * 7 + j, none⟩) hl).trans (h i m hm j v hv)

set_option maxHeartbeats 4000000 in
theorem isManifest_good (b off cap : Nat) (l : List Mf) (w : World) (hl0 : 1 ≤ l.length) (hl4 : l.length ≤ 4) (hg : ∀ m ∈ l, m.good) (hr : MfRow w b off l) (hb : b < w.heap.size) :
    Calls Try.prog 38 #[.slice (some ⟨b, off, none⟩) l.length cap] w fun e w' => e = .returned (.bool true) ∧ Below w.heap.size w w' := by
  obtain ⟨n, hn⟩ : ∃ n, n = l.length := ⟨_, rfl⟩
  have Hn : Hid (l.length = n) := hn.symm
  have HG : Hid (∀ m ∈ l, m.good) := hg
  have HR : Hid (MfRow w b off l) := hr
  rw [← hn] at hl0 hl4 ⊢
  have d1 : decide ((n : Int) < 1) = false := dec_no (by omega)
  have d2 : decide ((4 : Int) < (n : Int)) = false := dec_no (by omega)
  clear hn hg hr
  go_enter Try.func38, Try.ntmps38
  go_wp2_with fail
  go_loopw [15] (fun i wr => ∃ k : Nat, k ≤ n ∧ i = .int .i64 k ∧ Hid (Below w.heap.size w wr))
    (fun i _ => n - (intOf i).toNat)
  case atStart => exact ⟨0, Nat.zero_le _, rfl, Below.refl _ _⟩
  case round =>
    obtain ⟨k, hk, rfl, HB⟩ := hrel
    have hsz := HB.out.size
    by_cases hlt : k < n
    · obtain ⟨m, hm⟩ : ∃ m, l[k]? = some m := ⟨l[k]'(by have := Hn.out; omega), List.getElem?_eq_getElem (by have := Hn.out; omega)⟩
      have hrow := (HR.out.below HB.out hb) k m hm
      have HM : Hid (∀ u, Calls Try.prog 46 #[.agg m.arr] u fun e w' => e = .returned (.bool true) ∧ Below u.heap.size u w') := fun u => mayBe_good m (HG.out m (List.mem_of_getElem? hm)) u
      obtain ⟨pr, fu, ro, pu, su, sh, ba⟩ := m
      have c0 : wr.cell? ⟨b, off + k * 7, none⟩ = some (.string pr) := hrow 0 _ rfl
      have c1 : wr.cell? ⟨b, off + k * 7 + 1, none⟩ = some (.int .i64 fu) := hrow 1 _ rfl
      have c2 : wr.cell? ⟨b, off + k * 7 + 2, none⟩ = some (.int .u8 ro) := hrow 2 _ rfl
      have c3 : wr.cell? ⟨b, off + k * 7 + 3, none⟩ = some (.int .u8 pu) := hrow 3 _ rfl
      have c4 : wr.cell? ⟨b, off + k * 7 + 4, none⟩ = some (.int .u8 su) := hrow 4 _ rfl
      have c5 : wr.cell? ⟨b, off + k * 7 + 5, none⟩ = some (.int .i64 sh) := hrow 5 _ rfl
      have c6 : wr.cell? ⟨b, off + k * 7 + 6, none⟩ = some (.int .i64 ba) := hrow 6 _ rfl
      unfold Mf.arr at HM
      simp only at HM
      have hki : (k : Int) < (n : Int) := by omega
      have hk0 : (0 : Int) ≤ (k : Int) := by omega
      clear hm hrow
      go_wp2_with fail
      refine (HM.out _).mono ?_
      rintro e w1 ⟨rfl, hb1⟩
      have HB1 : Hid (Below w.heap.size w w1) := (HB.out.alloc hsz _).trans (hb1.mono (by simp; omega))
      clear hb1
      go_wp2
      go_roundw
      case rel => exact ⟨k + 1, by omega, by go_num, HB1.out⟩
      case measure => simp [intOf]; omega
    · have hkn : k = n := by omega
      subst hkn
      have hki : ¬ (k : Int) < (k : Int) := by omega
      go_wp2
      go_ret
      exact ⟨rfl, HB.out⟩
end Go.Proofs.Ytidaflmmldefcaa
