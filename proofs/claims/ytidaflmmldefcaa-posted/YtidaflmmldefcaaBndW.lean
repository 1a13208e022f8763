/-
  The walk of Bounded.
-/
import Derived.Test.YtidaflmmldefcaaBnd
import Derived.Test.YtidaflmmldefcaaDos
import Derived.Test.YtidaflmmldefcaaOpn
import Derived.Test.YtidaflmmldefcaaTns
namespace Go.Proofs.Ytidaflmmldefcaa
open Go.RowKit
set_option linter.unusedVariables false

/-- Draws that lie in what came in. -/
def DrIn (w : World) (dao : Option Addr) (dl : List (List Int)) : Prop :=
  ∀ i ds, dl[i]? = some ds → ∃ g off eo ec, dao = some ⟨g, off, none⟩ ∧ g < w.heap.size ∧ w.cell? ⟨g, off + i, none⟩ = some (.slice eo ds.length ec) ∧ ds.length ≤ maxLen ∧ InR ds ∧ ∃ bd o2, (0 < ds.length → eo = some ⟨bd, o2, none⟩ ∧ bd < w.heap.size) ∧ U16Row w bd o2 ds

theorem U16Row.below {w w' : World} {b off B : Nat} {l : List Int} (h : U16Row w b off l) (hb : Below B w w') (hl : b < B) : U16Row w' b off l :=
  fun i x hx => (hb.cell hl).trans (h i x hx)

theorem DrIn.toK {w u : World} {dao : Option Addr} {dl : List (List Int)} (h : DrIn w dao dl) (hu : Below w.heap.size w u) {S : Nat → Prop} (hS : ∀ k, S k → w.heap.size ≤ k) : DrsK S u dao dl := by
  intro i ds hd
  obtain ⟨g, off, eo, ec, e, hg, hc, hm, hr, bd, o2, h1, h2⟩ := h i ds hd
  refine ⟨g, off, eo, ec, e, fun z hz => ?_⟩
  have hz2 : Below w.heap.size w z := hu.trans (hz.below hu.size hS)
  refine ⟨(hz2.cell hg).trans hc, rfl, hm, ?_, hr⟩
  by_cases h0 : 0 < ds.length
  · obtain ⟨e1, e2⟩ := h1 h0
    exact ⟨bd, o2, fun _ => ⟨e1, Nat.lt_of_lt_of_le e2 hz2.size⟩, h2.below hz2 e2⟩
  · have : ds = [] := List.eq_nil_of_length_eq_zero (by omega)
    subst this
    exact ⟨0, 0, fun q => absurd q h0, fun i x hx => by simp at hx⟩

/-- A step as it came in. -/
structure St where
  kind : Int
  a : Int
  dao : Option Addr
  dcap : Nat
  dl : List (List Int)
structure St.ok (w : World) (x : St) : Prop where
  kind : in64 x.kind
  a : in64 x.a
  len : x.dl.length ≤ maxLen
  dr : DrIn w x.dao x.dl
  rng : ∀ l ∈ x.dl, InR l
def StRow (w : World) (b off : Nat) (l : List St) : Prop := ∀ i x, l[i]? = some x → w.cell? ⟨b, off + i * 3, none⟩ = some (.int .i64 x.kind) ∧ w.cell? ⟨b, off + i * 3 + 1, none⟩ = some (.int .i64 x.a) ∧ w.cell? ⟨b, off + i * 3 + 2, none⟩ = some (.slice x.dao x.dl.length x.dcap)
def StAt (w : World) (ao : Option Addr) (l : List St) : Prop := (l = [] ∨ ∃ b off, ao = some ⟨b, off, none⟩ ∧ b < w.heap.size ∧ StRow w b off l) ∧ ∀ x ∈ l, x.ok w
theorem StRow.below {w w' : World} {b off B : Nat} {l : List St} (h : StRow w b off l) (hb : Below B w w') (hl : b < B) : StRow w' b off l := by
  intro i x hx
  obtain ⟨h0, h1, h2⟩ := h i x hx
  exact ⟨(hb.cell hl).trans h0, (hb.cell hl).trans h1, (hb.cell hl).trans h2⟩

/-- A host that keeps to its manifests, of memory from base on. -/
def HostIn (base : Nat) (ms : List Mf) (hp tb cap : Nat) (u : World) : Prop := ∃ H vs, HostAt u hp tb cap H vs ∧ HI ms H ∧ ∀ k, ownOf hp tb vs k → base ≤ k

section
variable {base hp tb cap : Nat} {ms : List Mf} {u u' : World}
theorem HI.ne {H : Hs} (h : HI ms H) (hm : 1 ≤ ms.length) : H.ts ≠ [] := by
  intro e
  have := h.len
  rw [e] at this
  have : (0 : Nat) = ms.length := this
  omega
theorem HostIn.below (h : HostIn base ms hp tb cap u) (hm : 1 ≤ ms.length) (hb : Below u.heap.size u u') : HostIn base ms hp tb cap u' := by
  obtain ⟨H, vs, h1, h2, h3⟩ := h
  exact ⟨H, vs, h1.below hb (h1.tbl (h2.ne hm)), h2, h3⟩
theorem HostIn.does_any {w : World} (h : HostIn w.heap.size ms hp tb cap u) (hm : 1 ≤ ms.length) (hm4 : ms.length ≤ 4) (hu : Below w.heap.size w u) {x : St} (hx : x.ok w) {v : Value} {n : Nat} {xs : List Value} {b2 : Nat} (ho : u.ownsRow b2 41 7 v n xs) :
    Calls Try.prog 9 #[.pointer (some ⟨hp, 0, none⟩), .agg #[.int .i64 x.kind, .int .i64 x.a, .slice x.dao x.dl.length x.dcap]] u fun e w' => e = .returned (.bool true) ∧ HostIn w.heap.size ms hp tb cap w' ∧ Below w.heap.size w w' ∧ w'.ownsRow b2 41 7 v n xs := by
  obtain ⟨H, vs, h1, h2, h3⟩ := h
  refine (Go.Proofs.Ytidaflmmldefcaa.does_any h1 h2 hm4 (h2.ne hm) x.kind x.a hx.kind hx.a x.dao x.dcap x.dl hx.len (hx.dr.toK hu h3) hx.rng).mono ?_
  rintro e w' ⟨rfl, vs', a1, a2, a3⟩
  refine ⟨rfl, ⟨_, vs', a1, h2.does hm4 _ _ hx.rng, fun k q => ?_⟩, hu.trans (a2.below hu.size h3), h1.kept_own (h2.ne hm) a2 ho (by decide) (by decide) (by decide) (by decide)⟩
  rcases a3 k q with e | e
  · exact h3 k e
  · exact Nat.le_trans hu.size e
theorem HostIn.bounded_any (h : HostIn base ms hp tb cap u) (hm : 1 ≤ ms.length) (hm4 : ms.length ≤ 4) (hg : ∀ m ∈ ms, m.good) {g n lc b2 : Nat} (hn : ms.length = n) (ho : u.ownsRow b2 41 7 (.slice (some ⟨g, 0, none⟩) n lc) n (mfCells ms)) (t : Nat) (ht : t < n) :
    Calls Try.prog 11 #[.pointer (some ⟨hp, 0, none⟩), .slice (some ⟨g, 0, none⟩) n lc, .int .i64 t] u fun e w' => e = .returned (.bool true) ∧ Below u.heap.size u w' := by
  subst hn
  obtain ⟨H, vs, h1, h2, h3⟩ := h
  exact Go.Proofs.Ytidaflmmldefcaa.bounded_any h1 h2 hm hm4 g 0 lc (own_mfRow ho) (ho.lt g rfl).2 hg t ht
end

set_option maxRecDepth 100000 in
set_option maxHeartbeats 16000000 in
theorem boundedLaw_any (ga sa : Option Addr) (gcap scap : Nat) (gl : List Gs) (sl : List St) (w : World) (hgl : gl.length ≤ maxLen) (hsl : sl.length ≤ maxLen) (hga : GsAt w ga gl) (hsa : StAt w sa sl) :
    Calls Try.prog 3 #[.slice ga gl.length gcap, .slice sa sl.length scap] w fun e w' => e = .returned (.bool true) ∧ Below w.heap.size w w' := by
  have HTn : Hid (Calls Try.prog 7 #[.slice ga gl.length gcap, .int .i64 4] w fun e w' => ∃ v ms, e = .returned v ∧ 1 ≤ ms.length ∧ ms.length ≤ 4 ∧ (∀ m ∈ ms, m.good) ∧ w'.ownsRow w.heap.size 41 7 v ms.length (mfCells ms) ∧ Below w.heap.size w w') := tenants_any ga gcap gl 4 w (by decide) (by decide) hga hgl
  have HSa : Hid (StAt w sa sl) := hsa
  obtain ⟨N, hN⟩ : ∃ N, N = sl.length := ⟨_, rfl⟩
  have HN : Hid (sl.length = N) := hN.symm
  have hmx : N ≤ 9223372036854775807 := by rw [hN]; unfold maxLen at hsl; omega
  obtain ⟨GL, hGL⟩ : ∃ GL, GL = gl.length := ⟨_, rfl⟩
  rw [← hGL] at HTn ⊢
  rw [← hN]
  clear hga hsa hN hgl hsl hGL
  go_enter Try.func3, Try.ntmps3
  go_wp2_with fail
  refine HTn.out.mono ?_
  rintro e w1 ⟨v, ms, rfl, hm1, hm4, hg, ho1, hb1⟩
  obtain ⟨n, hn⟩ : ∃ n, n = ms.length := ⟨_, rfl⟩
  have Hn : Hid (ms.length = n) := hn.symm
  have HG : Hid (∀ m ∈ ms, m.good) := hg
  have HM : Hid (1 ≤ ms.length ∧ ms.length ≤ 4) := ⟨hm1, hm4⟩
  obtain ⟨g, lc, rfl⟩ : ∃ g lc, v = .slice (some ⟨g, 0, none⟩) n lc := by
    rcases ho1.2 with ⟨_, h0⟩ | ⟨g, cp, cur, hv, _⟩
    · omega
    · exact ⟨g, cp, by rw [hn]; exact hv⟩
  rw [← hn] at ho1
  have HOp : Hid (Calls Try.prog 8 #[.slice (some ⟨g, 0, none⟩) n lc] w1 fun e w' => ∃ hb' tb cap vs, e = .returned (.pointer (some ⟨hb', 0, none⟩)) ∧ HostAt w' hb' tb cap (openHs ms) vs ∧ (∀ k, ownOf hb' tb vs k → w1.heap.size ≤ k) ∧ Below w1.heap.size w1 w') := by
    have q := opened_any g 0 lc ms w1 hm1 hm4 hg (own_mfRow ho1) (ho1.lt g rfl).2
    rw [← hn] at q
    exact q
  have HO1 : Hid (w1.ownsRow w.heap.size 41 7 (.slice (some ⟨g, 0, none⟩) n lc) n (mfCells ms)) := ho1
  have HB1 : Hid (Below w.heap.size w w1) := hb1
  rw [← hn] at hm1 hm4
  clear ho1 hb1 hg hn HTn
  go_wp2_with fail
  refine HOp.out.mono ?_
  rintro e w2 ⟨hp, tb, cap, vs, rfl, hh, ho, hb2⟩
  have HH2 : Hid (HostIn w.heap.size ms hp tb cap w2) := ⟨openHs ms, vs, hh, openHs_ok HG.out HM.out.2, fun k q => Nat.le_trans HB1.out.size (ho k q)⟩
  have HB2 : Hid (Below w.heap.size w w2) := HB1.out.trans (hb2.mono HB1.out.size)
  have HO2 : Hid (w2.ownsRow w.heap.size 41 7 (.slice (some ⟨g, 0, none⟩) n lc) n (mfCells ms)) := own_below' HO1.out hb2 (Nat.le_refl _)
  clear hh ho hb2 HO1 HB1 HOp
  go_wp2_with fail
  go_loopw [21] (fun i wr => ∃ k : Nat, k ≤ N ∧ i = .int .i64 k ∧ Hid (HostIn w.heap.size ms hp tb cap wr) ∧ Hid (Below w.heap.size w wr) ∧ Hid (wr.ownsRow w.heap.size 41 7 (.slice (some ⟨g, 0, none⟩) n lc) n (mfCells ms)))
    (fun i _ => N - (intOf i).toNat)
  case atStart => exact ⟨0, Nat.zero_le _, rfl, HH2.out, HB2.out, HO2.out⟩
  case round =>
    obtain ⟨k, hk, rfl, HH, HB, HO⟩ := hrel
    clear HH2 HB2 HO2
    by_cases hlt : k < N
    · obtain ⟨x, hx⟩ : ∃ x, sl[k]? = some x := ⟨sl[k]'(by have := HN.out; omega), List.getElem?_eq_getElem (by have := HN.out; omega)⟩
      obtain ⟨b, off, rfl, hbl, hr⟩ : ∃ b off, sa = some ⟨b, off, none⟩ ∧ b < w.heap.size ∧ StRow w b off sl := HSa.out.1.resolve_left (by rintro rfl; simp at hx)
      have hxo := HSa.out.2 x (List.mem_of_getElem? hx)
      obtain ⟨c0, c1, c2⟩ := (hr.below HB.out hbl) k x hx
      have HD : Hid (Calls Try.prog 9 #[.pointer (some ⟨hp, 0, none⟩), .agg #[.int .i64 x.kind, .int .i64 x.a, .slice x.dao x.dl.length x.dcap]] wr fun e w' => e = .returned (.bool true) ∧ HostIn w.heap.size ms hp tb cap w' ∧ Below w.heap.size w w' ∧ w'.ownsRow w.heap.size 41 7 (.slice (some ⟨g, 0, none⟩) n lc) n (mfCells ms)) := HH.out.does_any HM.out.1 HM.out.2 HB.out hxo HO.out
      have HRr : Hid (∀ u, Below w.heap.size w u → u.cell? ⟨b, off + k * 3, none⟩ = some (.int .i64 x.kind) ∧ u.cell? ⟨b, off + k * 3 + 1, none⟩ = some (.int .i64 x.a)) := fun u hu => by
        obtain ⟨q0, q1, _⟩ := (hr.below hu hbl) k x hx
        exact ⟨q0, q1⟩
      have P1 : Hid (∀ u : World, Calls Try.prog 10 #[.int .i64 x.kind, .int .i64 3] u fun e w' => e = .returned (.int .i64 (H.pk x.kind 3)) ∧ u = w') := fun u => pick_any x.kind 3 u hxo.kind.1 hxo.kind.2 (by decide) (by decide)
      have P2 : Hid (∀ u : World, Calls Try.prog 10 #[.int .i64 x.a, .int .i64 400] u fun e w' => e = .returned (.int .i64 (H.pk x.a 400)) ∧ u = w') := fun u => pick_any x.a 400 u hxo.a.1 hxo.a.2 (by decide) (by decide)
      obtain ⟨kd, ax, dao, dcap, dl⟩ := x
      simp only at c0 c1 c2 HD HRr P1 P2
      generalize H.pk kd 3 = q3 at P1
      generalize H.pk ax 400 = q4 at P2
      have hki : (k : Int) < (N : Int) := by omega
      have hk0 : (0 : Int) ≤ (k : Int) := by omega
      clear hx hr hxo
      go_wp2_with fail
      refine HD.out.mono ?_
      rintro e w3 ⟨rfl, hh3, hb3, ho3⟩
      have HH3 : Hid (HostIn w.heap.size ms hp tb cap w3) := hh3
      have HB3 : Hid (Below w.heap.size w w3) := hb3
      have HO3 : Hid (w3.ownsRow w.heap.size 41 7 (.slice (some ⟨g, 0, none⟩) n lc) n (mfCells ms)) := ho3
      obtain ⟨d0, d1⟩ := HRr.out w3 hb3
      clear hh3 hb3 ho3 c0 c1 c2 HD HH HB HO HRr
      go_wp2_with fail
      refine (P1.out _).mono ?_
      rintro e w4 ⟨rfl, rfl⟩
      by_cases h1 : q3 = 1 ∧ q4 = 399
      · obtain ⟨rfl, rfl⟩ := h1
        go_wp2_with fail
        refine (P2.out _).mono ?_
        rintro e w4 ⟨rfl, rfl⟩
        go_wp2_with fail
        go_loopw [10] (fun i wr => ∃ j : Nat, j ≤ n ∧ i = .int .i64 j ∧ Hid (HostIn w.heap.size ms hp tb cap wr) ∧ Hid (Below w.heap.size w wr) ∧ Hid (wr.ownsRow w.heap.size 41 7 (.slice (some ⟨g, 0, none⟩) n lc) n (mfCells ms)))
          (fun i _ => n - (intOf i).toNat)
        case atStart => exact ⟨0, Nat.zero_le _, rfl, HH3.out, HB3.out, HO3.out⟩
        case round =>
          obtain ⟨j, hj, rfl, HH, HB, HO⟩ := hrel
          clear HH3 HB3 HO3 d0 d1
          by_cases hlj : j < n
          · have HBd : Hid (Calls Try.prog 11 #[.pointer (some ⟨hp, 0, none⟩), .slice (some ⟨g, 0, none⟩) n lc, .int .i64 j] wr fun e w' => e = .returned (.bool true) ∧ Below wr.heap.size wr w') := HH.out.bounded_any HM.out.1 HM.out.2 HG.out Hn.out HO.out j hlj
            have hji : (j : Int) < (n : Int) := by omega
            have hj0 : (0 : Int) ≤ (j : Int) := by omega
            go_wp2_with fail
            refine HBd.out.mono ?_
            rintro e w4 ⟨rfl, hb4⟩
            have HH4 : Hid (HostIn w.heap.size ms hp tb cap w4) := HH.out.below HM.out.1 hb4
            have HB4 : Hid (Below w.heap.size w w4) := HB.out.trans (hb4.mono HB.out.size)
            have HO4 : Hid (w4.ownsRow w.heap.size 41 7 (.slice (some ⟨g, 0, none⟩) n lc) n (mfCells ms)) := own_below' HO.out hb4 (Nat.le_refl _)
            clear hb4 HBd HH HB HO
            go_wp2
            go_roundw
            case rel => exact ⟨j + 1, by omega, by go_num, HH4, HB4, HO4⟩
            case measure => simp [intOf]; omega
          · have hji : ¬ (j : Int) < (n : Int) := by omega
            go_wp2
            go_roundw
            case rel => exact ⟨k + 1, by omega, by go_num, HH, HB, HO⟩
            case measure => simp [intOf]; omega
      · have hcut : ((q3 == 1) = false) ∨ (q3 = 1 ∧ (q4 == 399) = false) := by
          by_cases e3 : q3 = 1
          · exact Or.inr ⟨e3, by rw [beq_eq_false_iff_ne]; exact fun e => h1 ⟨e3, e⟩⟩
          · exact Or.inl (by rw [beq_eq_false_iff_ne]; exact e3)
        rcases hcut with he3 | ⟨rfl, he4⟩
        · go_wp2_with fail
          go_loopw [10] (fun i wr => i = .int .i64 0 ∧ Hid (HostIn w.heap.size ms hp tb cap wr) ∧ Hid (Below w.heap.size w wr) ∧ Hid (wr.ownsRow w.heap.size 41 7 (.slice (some ⟨g, 0, none⟩) n lc) n (mfCells ms)))
            (fun i _ => n - (intOf i).toNat)
          case atStart => exact ⟨rfl, HH3.out, HB3.out, HO3.out⟩
          case round =>
            obtain ⟨rfl, HH, HB, HO⟩ := hrel
            go_wp2
            go_roundw
            case rel => exact ⟨k + 1, by omega, by go_num, HH, HB, HO⟩
            case measure => simp [intOf]; omega
        · go_wp2_with fail
          refine (P2.out _).mono ?_
          rintro e w4 ⟨rfl, rfl⟩
          go_wp2_with fail
          go_loopw [10] (fun i wr => i = .int .i64 0 ∧ Hid (HostIn w.heap.size ms hp tb cap wr) ∧ Hid (Below w.heap.size w wr) ∧ Hid (wr.ownsRow w.heap.size 41 7 (.slice (some ⟨g, 0, none⟩) n lc) n (mfCells ms)))
            (fun i _ => n - (intOf i).toNat)
          case atStart => exact ⟨rfl, HH3.out, HB3.out, HO3.out⟩
          case round =>
            obtain ⟨rfl, HH, HB, HO⟩ := hrel
            go_wp2
            go_roundw
            case rel => exact ⟨k + 1, by omega, by go_num, HH, HB, HO⟩
            case measure => simp [intOf]; omega
    · have hki : ¬ (k : Int) < (N : Int) := by omega
      go_wp2_with fail
      go_loopw [66] (fun i wr => ∃ j : Nat, j ≤ n ∧ i = .int .i64 j ∧ Hid (HostIn w.heap.size ms hp tb cap wr) ∧ Hid (Below w.heap.size w wr) ∧ Hid (wr.ownsRow w.heap.size 41 7 (.slice (some ⟨g, 0, none⟩) n lc) n (mfCells ms)))
        (fun i _ => n - (intOf i).toNat)
      case atStart => exact ⟨0, Nat.zero_le _, rfl, HH.out, HB.out, HO.out⟩
      case round =>
        obtain ⟨j, hj, rfl, HHj, HBj, HOj⟩ := hrel
        by_cases hlj : j < n
        · have HBd : Hid (Calls Try.prog 11 #[.pointer (some ⟨hp, 0, none⟩), .slice (some ⟨g, 0, none⟩) n lc, .int .i64 j] wr fun e w' => e = .returned (.bool true) ∧ Below wr.heap.size wr w') := HHj.out.bounded_any HM.out.1 HM.out.2 HG.out Hn.out HOj.out j hlj
          have hji : (j : Int) < (n : Int) := by omega
          have hj0 : (0 : Int) ≤ (j : Int) := by omega
          go_wp2_with fail
          refine HBd.out.mono ?_
          rintro e w4 ⟨rfl, hb4⟩
          have HH4 : Hid (HostIn w.heap.size ms hp tb cap w4) := HHj.out.below HM.out.1 hb4
          have HB4 : Hid (Below w.heap.size w w4) := HBj.out.trans (hb4.mono HBj.out.size)
          have HO4 : Hid (w4.ownsRow w.heap.size 41 7 (.slice (some ⟨g, 0, none⟩) n lc) n (mfCells ms)) := own_below' HOj.out hb4 (Nat.le_refl _)
          clear hb4 HBd
          go_wp2
          go_roundw
          case rel => exact ⟨j + 1, by omega, by go_num, HH4, HB4, HO4⟩
          case measure => simp [intOf]; omega
        · have hji : ¬ (j : Int) < (n : Int) := by omega
          go_wp2
          go_ret
          exact ⟨rfl, HBj.out⟩
end Go.Proofs.Ytidaflmmldefcaa
