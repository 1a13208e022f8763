/-
  The walk of tenants.
-/
import Derived.Test.YtidaflmmldefcaaGst
import Derived.Test.YtidaflmmldefcaaJTen
namespace Go.Proofs.Ytidaflmmldefcaa
open Go.RowKit
set_option linter.unusedVariables false

/-- A guest as it came in. -/
structure Gs where
  ao : Option Addr
  n : Nat
  cap : Nat
  raw : List (Int × Int)
  g : Gn
def Gs.arr (x : Gs) : Array Value := #[.slice x.ao x.n x.cap, .int .i64 x.g.fu, .int .i64 x.g.ro, .int .i64 x.g.pu, .int .i64 x.g.su, .int .i64 x.g.sh, .int .i64 x.g.ba]
def GsRow (w : World) (b off : Nat) (l : List Gs) : Prop := ∀ i x, l[i]? = some x → ∀ j v, x.arr[j]? = some v → w.cell? ⟨b, off + i * 7 + j, none⟩ = some v
structure Gs.ok (w : World) (x : Gs) : Prop where
  code : CodeAt w x.ao x.n x.raw
  num : x.g.ok
def GsAt (w : World) (ao : Option Addr) (l : List Gs) : Prop := (l = [] ∨ ∃ b off, ao = some ⟨b, off, none⟩ ∧ b < w.heap.size ∧ GsRow w b off l) ∧ ∀ x ∈ l, x.ok w

theorem GsRow.below {w w' : World} {b off B : Nat} {l : List Gs} (h : GsRow w b off l) (hb : Below B w w') (hl : b < B) : GsRow w' b off l := by
  intro i m hm j v hv
  exact (hb.cell (p := ⟨b, off + i * 7 + j, none⟩) hl).trans (h i m hm j v hv)

def mfCells (l : List Mf) : List Value := l.flatMap fun m => m.arr.toList
theorem mfCells_snoc (l : List Mf) (m : Mf) : mfCells (l ++ [m]) = mfCells l ++ m.arr.toList := by simp [mfCells]
theorem mfCells_at : ∀ (l : List Mf) (i : Nat) (m : Mf), l[i]? = some m → ∀ j v, m.arr[j]? = some v → (mfCells l)[i * 7 + j]? = some v
  | [], i, m, h, j, v, hv => by simp at h
  | y :: r, 0, m, h, j, v, hv => by
    simp at h; subst h
    have e : mfCells (y :: r) = y.arr.toList ++ mfCells r := rfl
    have hj : j < y.arr.toList.length := by
      have := (Array.getElem?_eq_some_iff.1 hv).1
      simpa using this
    rw [e, Nat.zero_mul, Nat.zero_add, List.getElem?_append_left hj, Array.getElem?_toList]
    exact hv
  | y :: r, i + 1, m, h, j, v, hv => by
    have e : mfCells (y :: r) = y.arr.toList ++ mfCells r := rfl
    have e2 : y.arr.toList.length = 7 := rfl
    rw [e, List.getElem?_append_right (by rw [e2]; omega), e2, show (i + 1) * 7 + j - 7 = i * 7 + j by omega]
    exact mfCells_at r i m (by simpa using h) j v hv
theorem own_mfRow {w : World} {base g n cap : Nat} {l : List Mf} (h : w.ownsRow base 41 7 (.slice (some ⟨g, 0, none⟩) n cap) n (mfCells l)) : MfRow w g 0 l := by
  intro i m hm j v hv
  have h1 := World.ownsRow.cells h (g := g) rfl _ _ (mfCells_at l i m hm j v hv)
  rw [Addr.add_lit, Nat.zero_add] at h1
  rw [Nat.zero_add]
  exact h1
theorem mfArr_one (m : Mf) : ∀ u ∈ m.arr.toList, u.oneCell' = true := by
  intro u hu
  simp [Mf.arr] at hu
  rcases hu with rfl | rfl | rfl | rfl | rfl | rfl | rfl <;> rfl
theorem info41 : (Try.prog.info? 41).map (fun i => (i.zero, i.size, i.bytes)) = some (some (.agg #[.string ⟨#[]⟩, .int .i64 0, .int .u8 0, .int .u8 0, .int .u8 0, .int .i64 0, .int .i64 0]), 7, 48) := by kernel_rfl

theorem new_cells1 (w : World) (cs : Array Value) (t : TypeId) : ∀ j u, cs.toList[j]? = some u → (w.alloc (.cells cs t)).cell? ((⟨w.heap.size, 0, none⟩ : Addr).add j) = some u := by
  intro j u hj
  have hb := Blk.new w cs t
  rw [Addr.add_lit, Nat.zero_add]
  have := hb.cell j
  simp only [Array.getElem?_toList] at hj
  rw [hj] at this
  exact this

set_option maxRecDepth 100000 in
set_option maxHeartbeats 8000000 in
theorem tenants_any (ao : Option Addr) (cap : Nat) (l : List Gs) (most : Nat) (w : World) (hm1 : 1 ≤ most) (hm4 : most ≤ 4) (hat : GsAt w ao l) (hl : l.length ≤ maxLen) :
    Calls Try.prog 7 #[.slice ao l.length cap, .int .i64 most] w fun e w' => ∃ v ms, e = .returned v ∧ 1 ≤ ms.length ∧ ms.length ≤ most ∧ (∀ m ∈ ms, m.good) ∧ w'.ownsRow w.heap.size 41 7 v ms.length (mfCells ms) ∧ Below w.heap.size w w' := by
  obtain ⟨i0, hi, hz0, hz1, hz2⟩ := info_parts info41
  obtain ⟨n, hn⟩ : ∃ n, n = l.length := ⟨_, rfl⟩
  have Hn : Hid (l.length = n) := hn.symm
  have HA : Hid (GsAt w ao l) := hat
  have hmx : n ≤ 9223372036854775807 := by rw [hn]; unfold maxLen at hl; omega
  rw [← hn] at hl ⊢
  clear hn hat
  go_enter Try.func7, Try.ntmps7
  go_wp2_with fail
  go_loopw [5, 6] (fun v i wr => ∃ (k cv m : Nat) (bo : Option Addr) (acc : List Mf), v = .slice bo m cv ∧ k ≤ n ∧ i = .int .i64 k ∧ m ≤ most ∧ Hid (acc.length = m) ∧ Hid (wr.ownsRow w.heap.size 41 7 (.slice bo m cv) m (mfCells acc)) ∧ Hid (Below w.heap.size w wr) ∧ Hid (∀ m ∈ acc, m.good))
    (fun _ i _ => n - (intOf i).toNat)
  case atStart => exact ⟨0, 0, 0, none, [], rfl, Nat.zero_le _, rfl, by omega, rfl, World.ownsRow_nil _ _ _ _, Below.refl _ _, fun m hm => by simp at hm⟩
  case round =>
    obtain ⟨k, cv, m, bo, acc, rfl, hk, rfl, hmm, HL, HO, HB, HG⟩ := hrel
    have hsz := HB.out.size
    by_cases hlt : k < n ∧ m < most
    · obtain ⟨hlt, hmm2⟩ := hlt
      obtain ⟨x, hx⟩ : ∃ x, l[k]? = some x := ⟨l[k]'(by have := Hn.out; omega), List.getElem?_eq_getElem (by have := Hn.out; omega)⟩
      obtain ⟨b, off, rfl, hbl, hr⟩ : ∃ b off, ao = some ⟨b, off, none⟩ ∧ b < w.heap.size ∧ GsRow w b off l := HA.out.1.resolve_left (by rintro rfl; simp at hx)
      obtain ⟨hxc, hxn⟩ := HA.out.2 x (List.mem_of_getElem? hx)
      have hrow := (hr.below HB.out hbl) k x hx
      obtain ⟨ca, cn, cc, cr, gn⟩ := x
      simp only at hxc hxn
      have HT : Hid (Calls Try.prog 20 #[.agg #[.slice ca cn cc, .int .i64 gn.fu, .int .i64 gn.ro, .int .i64 gn.pu, .int .i64 gn.su, .int .i64 gn.sh, .int .i64 gn.ba]] wr fun e w' => ∃ m : Mf, e = .returned (.agg m.arr) ∧ m.good ∧ Below wr.heap.size wr w') := by
        refine tenant_any ca cn cc cr gn wr ?_ hxn
        exact hxc.below HB.out
      have c0 : wr.cell? ⟨b, off + k * 7, none⟩ = some (.slice ca cn cc) := hrow 0 _ rfl
      have c1 : wr.cell? ⟨b, off + k * 7 + 1, none⟩ = some (.int .i64 gn.fu) := hrow 1 _ rfl
      have c2 : wr.cell? ⟨b, off + k * 7 + 2, none⟩ = some (.int .i64 gn.ro) := hrow 2 _ rfl
      have c3 : wr.cell? ⟨b, off + k * 7 + 3, none⟩ = some (.int .i64 gn.pu) := hrow 3 _ rfl
      have c4 : wr.cell? ⟨b, off + k * 7 + 4, none⟩ = some (.int .i64 gn.su) := hrow 4 _ rfl
      have c5 : wr.cell? ⟨b, off + k * 7 + 5, none⟩ = some (.int .i64 gn.sh) := hrow 5 _ rfl
      have c6 : wr.cell? ⟨b, off + k * 7 + 6, none⟩ = some (.int .i64 gn.ba) := hrow 6 _ rfl
      have hki : (k : Int) < (n : Int) := by omega
      have hk0 : (0 : Int) ≤ (k : Int) := by omega
      have hmi : (m : Int) < (most : Int) := by omega
      clear hx hrow hr hxc hxn
      go_wp2_with fail
      refine HT.out.mono ?_
      rintro e w1 ⟨mf, rfl, hmf, hb1⟩
      have HB1 : Hid (Below w.heap.size w w1) := HB.out.trans (hb1.mono hsz)
      have HO1 : Hid (w1.ownsRow w.heap.size 41 7 (.slice bo m cv) m (mfCells acc)) := own_below' HO.out hb1 (Nat.le_refl _)
      have HMf : Hid mf.good := hmf
      have hs1 : w.heap.size ≤ w1.heap.size := HB1.out.size
      have HNw : Hid (∀ jj u, mf.arr.toList[jj]? = some u → (w1.alloc (.cells mf.arr 41)).cell? ((⟨w1.heap.size, 0, none⟩ : Addr).add jj) = some u) := new_cells1 w1 mf.arr 41
      have HSn : Hid (mfCells (acc ++ [mf]) = mfCells acc ++ mf.arr.toList) := mfCells_snoc acc mf
      have HOn : Hid (∀ u ∈ mf.arr.toList, u.oneCell' = true) := mfArr_one mf
      obtain ⟨pr, fu, ro, pu, su, sh, ba⟩ := mf
      unfold Mf.arr at HNw HSn HOn ⊢
      simp only at HNw HSn HOn ⊢
      clear hmf hb1 HT HO HB
      go_wp2_with (at_builtin; refine wpList_append_own_at _ rfl (.tmp 19) (.tmp 25) 24 rfl w.heap.size 41 i0 (.agg #[.string ⟨#[]⟩, .int .i64 0, .int .u8 0, .int .u8 0, .int .u8 0, .int .i64 0, .int .i64 0]) 7 48 Try.underlying24 hi hz0 hz1 hz2 rfl (by decide) _ m _ rfl (HO1.out.alloc _) ⟨w1.heap.size, 0, none⟩ 1 1 [.string pr, .int .i64 fu, .int .u8 ro, .int .u8 pu, .int .u8 su, .int .i64 sh, .int .i64 ba] rfl rfl HNw.out HOn.out (by unfold maxLen; omega) (by omega) (by simp; omega) ?_)
      intro g1 w2 ho1 hg1 _ _
      obtain ⟨go1, gc1, rfl⟩ := own_is ho1
      have HO2 : Hid (w2.ownsRow w.heap.size 41 7 (.slice go1 (m + 1) gc1) (m + 1) (mfCells (acc ++ [⟨pr, fu, ro, pu, su, sh, ba⟩]))) := by
        unfold Hid
        rw [HSn.out]
        exact ho1
      have HB2 : Hid (Below w.heap.size w w2) := (HB1.out.alloc hs1 _).grown hg1 (by simp; omega) (fun z hz => (HO1.out.lt z hz).1)
      have HL2 : Hid ((acc ++ [(⟨pr, fu, ro, pu, su, sh, ba⟩ : Mf)]).length = m + 1) := by unfold Hid; rw [List.length_append, HL.out]; rfl
      have HG2 : Hid (∀ y ∈ acc ++ [(⟨pr, fu, ro, pu, su, sh, ba⟩ : Mf)], y.good) := by
        intro y hy
        rcases List.mem_append.1 hy with hy | hy
        · exact HG.out y hy
        · rw [List.mem_singleton] at hy
          subst hy
          exact HMf.out
      clear ho1 hg1 HO1 HB1 HNw HSn HOn
      go_wp2
      go_roundw
      case rel => exact ⟨k + 1, gc1, m + 1, go1, _, rfl, by omega, by go_num, by omega, HL2, HO2, HB2, HG2⟩
      case measure => simp [intOf]; omega
    · have hcond : (decide ((k : Int) < (n : Int)) && decide ((m : Int) < (most : Int))) = false := by
        simp
        omega
      by_cases hm0 : m = 0
      · have hkn : ¬ (k : Int) < (n : Int) := by omega
        subst hm0
        have HT : Hid (Calls Try.prog 20 #[.agg #[.slice none 0 0, .int .i64 0, .int .i64 1, .int .i64 0, .int .i64 0, .int .i64 0, .int .i64 0]] wr fun e w' => ∃ m : Mf, e = .returned (.agg m.arr) ∧ m.good ∧ Below wr.heap.size wr w') := by
          refine tenant_any none 0 0 [] ⟨0, 1, 0, 0, 0, 0⟩ wr ⟨⟨0, 0, fun q => absurd q (by decide), fun i x hx => by simp at hx⟩, rfl, Nat.zero_le _, fun x hx => by simp at hx⟩ ⟨?_, ?_, ?_, ?_, ?_, ?_⟩
          all_goals (unfold in64; simp)
        have HAc : Hid (acc = []) := List.eq_nil_of_length_eq_zero HL.out
        go_wp2_with fail
        refine HT.out.mono ?_
        rintro e w1 ⟨mf, rfl, hmf, hb1⟩
        have HB1 : Hid (Below w.heap.size w w1) := HB.out.trans (hb1.mono hsz)
        have HO1 : Hid (w1.ownsRow w.heap.size 41 7 (.slice bo 0 cv) 0 []) := by
          have q := own_below' HO.out hb1 (Nat.le_refl _)
          rw [HAc.out] at q
          exact q
        have HMf : Hid mf.good := hmf
        have hs1 : w.heap.size ≤ w1.heap.size := HB1.out.size
        have HNw : Hid (∀ jj u, mf.arr.toList[jj]? = some u → (w1.alloc (.cells mf.arr 41)).cell? ((⟨w1.heap.size, 0, none⟩ : Addr).add jj) = some u) := new_cells1 w1 mf.arr 41
        have HOn : Hid (∀ u ∈ mf.arr.toList, u.oneCell' = true) := mfArr_one mf
        have HSn : Hid (mfCells [mf] = mf.arr.toList) := by unfold Hid mfCells; simp
        obtain ⟨pr, fu, ro, pu, su, sh, ba⟩ := mf
        unfold Mf.arr at HNw HSn HOn ⊢
        simp only at HNw HSn HOn ⊢
        clear hmf hb1 HT HO HB
        go_wp2_with (at_builtin; refine wpList_append_own_at _ rfl (.tmp 30) (.tmp 33) 24 rfl w.heap.size 41 i0 (.agg #[.string ⟨#[]⟩, .int .i64 0, .int .u8 0, .int .u8 0, .int .u8 0, .int .i64 0, .int .i64 0]) 7 48 Try.underlying24 hi hz0 hz1 hz2 rfl (by decide) _ 0 _ rfl (HO1.out.alloc _) ⟨w1.heap.size, 0, none⟩ 1 1 [.string pr, .int .i64 fu, .int .u8 ro, .int .u8 pu, .int .u8 su, .int .i64 sh, .int .i64 ba] rfl rfl HNw.out HOn.out (by unfold maxLen; omega) (by omega) (by simp; omega) ?_)
        intro g1 w2 ho1 hg1 _ _
        have HO2 : Hid (w2.ownsRow w.heap.size 41 7 g1 1 (mfCells [⟨pr, fu, ro, pu, su, sh, ba⟩])) := by
          unfold Hid
          rw [HSn.out]
          exact ho1
        obtain ⟨go1, gc1, rfl⟩ := own_is ho1
        have HB2 : Hid (Below w.heap.size w w2) := (HB1.out.alloc hs1 _).grown hg1 (by simp; omega) (fun z hz => (HO1.out.lt z hz).1)
        clear ho1 hg1 HO1 HB1 HNw HSn HOn
        go_wp2
        go_ret
        refine ⟨_, [⟨pr, fu, ro, pu, su, sh, ba⟩], rfl, Nat.le_refl _, hm1, ?_, HO2.out, HB2.out⟩
        intro y hy
        rw [List.mem_singleton] at hy
        subst hy
        exact HMf.out
      · have hmb : ((m : Int) == 0) = false := by rw [beq_eq_false_iff_ne]; omega
        have HEnd : Hid (∃ (v : Value) (ms : List Mf), Value.slice bo m cv = v ∧ 1 ≤ ms.length ∧ ms.length ≤ most ∧ (∀ m ∈ ms, m.good) ∧ wr.ownsRow w.heap.size 41 7 v ms.length (mfCells ms) ∧ Below w.heap.size w wr) := by
          refine ⟨_, acc, rfl, by rw [HL.out]; omega, by rw [HL.out]; exact hmm, HG.out, ?_, HB.out⟩
          rw [HL.out]
          exact HO.out
        by_cases hkn : (k : Int) < (n : Int)
        · have hmi : ¬ (m : Int) < (most : Int) := by omega
          go_wp2
          go_ret
          obtain ⟨v, ms, e1, r⟩ := HEnd.out
          subst e1
          exact ⟨_, rfl, ms, r⟩
        · go_wp2
          go_ret
          obtain ⟨v, ms, e1, r⟩ := HEnd.out
          subst e1
          exact ⟨_, rfl, ms, r⟩
end Go.Proofs.Ytidaflmmldefcaa
