/-
  The walk of New.
-/
import Derived.Test.YtidaflmmldefcaaInvH
import Derived.Test.YtidaflmmldefcaaFrC
namespace Go.Proofs.Ytidaflmmldefcaa
open Go.RowKit
set_option linter.unusedVariables false

def nilV : Value := .slice none 0 0
def nilVs : Vs := (.slice none 0 0, .slice none 0 0, .slice none 0 0)
/-- The cells of new tenants. -/
def Mf.cells (m : Mf) : List Value := tnCells m.tn (.slice none 0 0) (.slice none 0 0) (.slice none 0 0)
def newCells (l : List Mf) : List Value := l.flatMap Mf.cells
theorem newCells_snoc (l : List Mf) (m : Mf) : newCells (l ++ [m]) = newCells l ++ m.cells := by simp [newCells]
theorem newCells_length : ∀ l : List Mf, (newCells l).length = l.length * 21
  | [] => rfl
  | x :: r => by
    have e : newCells (x :: r) = x.cells ++ newCells r := rfl
    rw [e, List.length_append, newCells_length r]
    have : x.cells.length = 21 := rfl
    rw [this]; simp; omega
theorem newCells_slot : ∀ (l : List Mf) (i : Nat) (m : Mf), l[i]? = some m → ((newCells l).drop (i * 21)).take 21 = m.cells
  | [], i, m, h => by simp at h
  | y :: r, 0, m, h => by
    simp at h; subst h
    have e : newCells (y :: r) = y.cells ++ newCells r := rfl
    rw [e]
    have : y.cells.length = 21 := rfl
    simp [this]
  | y :: r, i + 1, m, h => by
    have e : newCells (y :: r) = y.cells ++ newCells r := rfl
    have e2 : y.cells.length = 21 := rfl
    rw [e, List.drop_append, e2, List.drop_eq_nil_of_le (by rw [e2]; omega), List.nil_append, show (i + 1) * 21 - 21 = i * 21 by omega]
    exact newCells_slot r i m (by simpa using h)

/-- A new host in memory. -/
theorem new_host {w : World} {hb tb cap base : Nat} {ms : List Mf} (hh : Blk w hb #[.int .u8 0, .int .i64 0, .slice (some ⟨tb, 0, none⟩) ms.length cap] 87) (ho : w.ownsRow base 84 21 (.slice (some ⟨tb, 0, none⟩) ms.length cap) ms.length (newCells ms)) :
    HostAt w hb tb cap (newHs ms) (ms.map fun _ => nilVs) := by
  refine ⟨?_, by simp [newHs], ?_, ?_, ?_⟩
  · have : (newHs ms).ts.length = ms.length := by simp [newHs]
    rw [this]
    exact hh
  · intro i x v hx hv
    simp only [newHs, List.getElem?_map] at hx hv
    cases hm : ms[i]? with
    | none => rw [hm] at hx; simp at hx
    | some m =>
      rw [hm] at hx hv
      have e1 : m.tn = x := by simpa using hx
      have e2 : nilVs = v := by simpa using hv
      subst e1
      subst e2
      refine ⟨?_, World.ownsRow_nil _ _ _ _, Or.inl ⟨rfl, rfl⟩, World.ownsRow_nil _ _ _ _⟩
      rcases ho.2 with ⟨hv, h0⟩ | ⟨g, cp, cur, hv, _, hb2, h1, h2, h3, h4⟩
      · have := (List.getElem?_eq_some_iff.1 hm).1
        omega
      · simp only [Value.slice.injEq, Option.some.injEq, Addr.mk.injEq, and_true, true_and] at hv
        obtain ⟨rfl, rfl⟩ := hv
        refine ⟨cur, hb2, ?_, rfl⟩
        have hi := (List.getElem?_eq_some_iff.1 hm).1
        show (cur.toList.drop (i * 21)).take 21 = m.cells
        rw [← newCells_slot ms i m hm, ← h4]
        apply List.ext_getElem?
        intro j
        rw [List.getElem?_take, List.getElem?_take, List.getElem?_drop, List.getElem?_drop]
        by_cases hj : j < 21
        · rw [if_pos hj, if_pos hj, List.getElem?_take, if_pos (by omega)]
        · rw [if_neg hj, if_neg hj]
  · intro i j v u hv hu _ k hk
    have hv2 := List.mem_of_getElem? hv
    simp only [List.mem_map] at hv2
    obtain ⟨_, _, rfl⟩ := hv2
    simp [nilVs, Value.ownBlock] at hk
  · intro i j v u hv hu _ k hk
    have hv2 := List.mem_of_getElem? hv
    simp only [List.mem_map] at hv2
    obtain ⟨_, _, rfl⟩ := hv2
    simp [nilVs, Value.ownBlock] at hk

theorem info84 : (Try.prog.info? 84).map (fun i => (i.zero, i.size, i.bytes)) = some (some (.agg #[.string ⟨#[]⟩, .int .i64 0, .int .u8 0, .int .u8 0, .int .u8 0, .int .i64 0, .int .i64 0, .int .u8 0, .int .u16 0, .int .u16 0, .int .u16 0, .int .u16 0, .int .u16 0, .int .u16 0, .int .u16 0, .int .u16 0, .slice none 0 0, .slice none 0 0, .slice none 0 0, .int .i64 0, .int .u8 0]), 21, 160) := by kernel_rfl

theorem new_cells2 (w : World) (o : Obj) (cs : Array Value) (t : TypeId) : ∀ j u, cs.toList[j]? = some u → (((w.alloc o).alloc (.cells cs t)).drew).cell? ((⟨w.heap.size + 1, 0, none⟩ : Addr).add j) = some u := by
  intro j u hj
  have hb := Blk.new (w.alloc o) cs t
  rw [Addr.add_lit, Nat.zero_add]
  have e : (w.alloc o).heap.size = w.heap.size + 1 := by simp
  rw [e] at hb
  have := hb.cell j
  simp only [Array.getElem?_toList] at hj
  rw [hj] at this
  exact this

set_option maxRecDepth 100000 in
set_option maxHeartbeats 8000000 in
theorem new_any (b off ncap : Nat) (ms : List Mf) (w : World) (hl0 : 1 ≤ ms.length) (hl4 : ms.length ≤ 4) (hg : ∀ m ∈ ms, m.good) (hr : MfRow w b off ms) (hb : b < w.heap.size) :
    Calls Try.prog 24 #[.slice (some ⟨b, off, none⟩) ms.length ncap] w fun e w' => ∃ hb' tb cap vs, e = .returned (.tuple #[.pointer (some ⟨hb', 0, none⟩), .int .i64 0]) ∧ HostAt w' hb' tb cap (newHs ms) vs ∧ (∀ k, ownOf hb' tb vs k → w.heap.size ≤ k) ∧ Below w.heap.size w w' := by
  obtain ⟨i0, hi, hz0, hz1, hz2⟩ := info_parts info84
  have HI : Hid (Calls Try.prog 38 #[.slice (some ⟨b, off, none⟩) ms.length ncap] w fun e w' => e = .returned (.bool true) ∧ Below w.heap.size w w') := isManifest_good b off ncap ms w hl0 hl4 hg hr hb
  obtain ⟨n, hn⟩ : ∃ n, n = ms.length := ⟨_, rfl⟩
  have Hn : Hid (ms.length = n) := hn.symm
  have HR : Hid (MfRow w b off ms) := hr
  rw [← hn] at hl0 hl4 HI ⊢
  clear hn hg hr
  go_enter Try.func24, Try.ntmps24
  go_wp2_with fail
  refine HI.out.mono ?_
  rintro e w1 ⟨rfl, hb1⟩
  have HB1 : Hid (Below w.heap.size w w1) := hb1
  have hs1 := hb1.size
  clear hb1 HI
  obtain ⟨hp, hhp⟩ : ∃ hp, hp = w1.heap.size := ⟨_, rfl⟩
  go_wp2_with fail
  rw [← hhp]
  have HHp : Hid (w1.heap.size = hp) := hhp.symm
  have hshp : w.heap.size ≤ hp := by omega
  clear hhp
  go_loopw [14] (fun i wr => ∃ (k tc : Nat) (ta : Option Addr), k ≤ n ∧ i = .int .i64 k ∧ Hid (Below w.heap.size w wr) ∧ Hid (Blk wr hp #[.int .u8 0, .int .i64 0, .slice ta k tc] 87) ∧ Hid (wr.ownsRow w.heap.size 84 21 (.slice ta k tc) k (newCells (ms.take k))))
    (fun i _ => n - (intOf i).toNat)
  case atStart =>
    refine ⟨0, 0, none, Nat.zero_le _, rfl, HB1.out.alloc hs1 _, ?_, World.ownsRow_nil _ _ _ _⟩
    rw [← HHp.out]
    exact Blk.new w1 _ 87
  case round =>
    obtain ⟨k, tc, ta, hk, rfl, HB, HH, HO⟩ := hrel
    have hsz := HB.out.size
    by_cases hlt : k < n
    · obtain ⟨m, hm⟩ : ∃ m, ms[k]? = some m := ⟨ms[k]'(by have := Hn.out; omega), List.getElem?_eq_getElem (by have := Hn.out; omega)⟩
      have hrow := (HR.out.below HB.out hb) k m hm
      have HTk : Hid (newCells (ms.take (k + 1)) = newCells (ms.take k) ++ m.cells) := by
        unfold Hid
        rw [List.take_add_one, hm]
        exact newCells_snoc _ _
      have hone : Hid (∀ u ∈ m.cells, u.oneCell' = true) := fun u hu => List.all_eq_true.1 (show m.cells.all (fun u => u.oneCell') = true from rfl) u hu
      have hmc : m.cells = [.string m.prog, .int .i64 m.fuel, .int .u8 m.routes, .int .u8 m.pub, .int .u8 m.sub, .int .i64 m.share, .int .i64 m.back, .int .u8 0, .int .u16 0, .int .u16 0, .int .u16 0, .int .u16 0, .int .u16 0, .int .u16 0, .int .u16 0, .int .u16 0, .slice none 0 0, .slice none 0 0, .slice none 0 0, .int .i64 0, .int .u8 0] := rfl
      rw [hmc] at HTk hone
      obtain ⟨pr, fu, ro, pu, su, sh, ba⟩ := m
      have c0 : wr.cell? ⟨b, off + k * 7, none⟩ = some (.string pr) := hrow 0 _ rfl
      have c1 : wr.cell? ⟨b, off + k * 7 + 1, none⟩ = some (.int .i64 fu) := hrow 1 _ rfl
      have c2 : wr.cell? ⟨b, off + k * 7 + 2, none⟩ = some (.int .u8 ro) := hrow 2 _ rfl
      have c3 : wr.cell? ⟨b, off + k * 7 + 3, none⟩ = some (.int .u8 pu) := hrow 3 _ rfl
      have c4 : wr.cell? ⟨b, off + k * 7 + 4, none⟩ = some (.int .u8 su) := hrow 4 _ rfl
      have c5 : wr.cell? ⟨b, off + k * 7 + 5, none⟩ = some (.int .i64 sh) := hrow 5 _ rfl
      have c6 : wr.cell? ⟨b, off + k * 7 + 6, none⟩ = some (.int .i64 ba) := hrow 6 _ rfl
      simp only at HTk hone
      have hki : (k : Int) < (n : Int) := by omega
      have hk0 : (0 : Int) ≤ (k : Int) := by omega
      have d2 : wr.cell? ⟨hp, 2, none⟩ = some (.slice ta k tc) := by rw [HH.out.cell 2]; rfl
      have hhl := HH.out.lt
      have hbw : b < wr.heap.size := by omega
      have hnp : ¬ hp = wr.heap.size := by omega
      have hnp1 : ¬ hp = wr.heap.size + 1 := by omega
      obtain ⟨news, hnews⟩ : ∃ news : Array Value, news = #[.string pr, .int .i64 fu, .int .u8 ro, .int .u8 pu, .int .u8 su, .int .i64 sh, .int .i64 ba, .int .u8 0, .int .u16 0, .int .u16 0, .int .u16 0, .int .u16 0, .int .u16 0, .int .u16 0, .int .u16 0, .int .u16 0, .slice none 0 0, .slice none 0 0, .slice none 0 0, .int .i64 0, .int .u8 0] := ⟨_, rfl⟩
      have HNw : Hid (∀ j u, ([.string pr, .int .i64 fu, .int .u8 ro, .int .u8 pu, .int .u8 su, .int .i64 sh, .int .i64 ba, .int .u8 0, .int .u16 0, .int .u16 0, .int .u16 0, .int .u16 0, .int .u16 0, .int .u16 0, .int .u16 0, .int .u16 0, .slice none 0 0, .slice none 0 0, .slice none 0 0, .int .i64 0, .int .u8 0] : List Value)[j]? = some u → (((wr.alloc (.cells #[.string pr, .int .i64 fu, .int .u8 ro, .int .u8 pu, .int .u8 su, .int .i64 sh, .int .i64 ba] 41)).alloc (.cells #[.string pr, .int .i64 fu, .int .u8 ro, .int .u8 pu, .int .u8 su, .int .i64 sh, .int .i64 ba, .int .u8 0, .int .u16 0, .int .u16 0, .int .u16 0, .int .u16 0, .int .u16 0, .int .u16 0, .int .u16 0, .int .u16 0, .slice none 0 0, .slice none 0 0, .slice none 0 0, .int .i64 0, .int .u8 0] 84)).drew).cell? ((⟨wr.heap.size + 1, 0, none⟩ : Addr).add j) = some u) := by
        have q := new_cells2 wr (.cells #[.string pr, .int .i64 fu, .int .u8 ro, .int .u8 pu, .int .u8 su, .int .i64 sh, .int .i64 ba] 41) news 84
        rw [hnews] at q
        exact q
      have HOd : Hid ((((wr.alloc (.cells #[.string pr, .int .i64 fu, .int .u8 ro, .int .u8 pu, .int .u8 su, .int .i64 sh, .int .i64 ba] 41)).alloc (.cells #[.string pr, .int .i64 fu, .int .u8 ro, .int .u8 pu, .int .u8 su, .int .i64 sh, .int .i64 ba, .int .u8 0, .int .u16 0, .int .u16 0, .int .u16 0, .int .u16 0, .int .u16 0, .int .u16 0, .int .u16 0, .int .u16 0, .slice none 0 0, .slice none 0 0, .slice none 0 0, .int .i64 0, .int .u8 0] 84)).drew).ownsRow w.heap.size 84 21 (.slice ta k tc) k (newCells (ms.take k))) := (HO.out.alloc _).alloc _
      have HKEY : Hid (∀ v3 w3, World.ownsRow w3 w.heap.size 84 21 v3 (k + 1) (newCells (ms.take k) ++ [.string pr, .int .i64 fu, .int .u8 ro, .int .u8 pu, .int .u8 su, .int .i64 sh, .int .i64 ba, .int .u8 0, .int .u16 0, .int .u16 0, .int .u16 0, .int .u16 0, .int .u16 0, .int .u16 0, .int .u16 0, .int .u16 0, .slice none 0 0, .slice none 0 0, .slice none 0 0, .int .i64 0, .int .u8 0]) → World.grownBy (((wr.alloc (.cells #[.string pr, .int .i64 fu, .int .u8 ro, .int .u8 pu, .int .u8 su, .int .i64 sh, .int .i64 ba] 41)).alloc (.cells #[.string pr, .int .i64 fu, .int .u8 ro, .int .u8 pu, .int .u8 su, .int .i64 sh, .int .i64 ba, .int .u8 0, .int .u16 0, .int .u16 0, .int .u16 0, .int .u16 0, .int .u16 0, .int .u16 0, .int .u16 0, .int .u16 0, .slice none 0 0, .slice none 0 0, .slice none 0 0, .int .i64 0, .int .u8 0] 84)).drew) w3 (Value.ownBlock (.slice ta k tc)) →
          ∃ to3 tc3, v3 = .slice to3 (k + 1) tc3 ∧ w3.cell? ⟨hp, 2, none⟩ = some (.slice ta k tc) ∧ w3.frozen? ⟨hp, 2, none⟩ = false ∧ Hid (Below w.heap.size w (w3.setCell ⟨hp, 2, none⟩ (.slice to3 (k + 1) tc3))) ∧ Hid (Blk (w3.setCell ⟨hp, 2, none⟩ (.slice to3 (k + 1) tc3)) hp #[.int .u8 0, .int .i64 0, .slice to3 (k + 1) tc3] 87) ∧ Hid ((w3.setCell ⟨hp, 2, none⟩ (.slice to3 (k + 1) tc3)).ownsRow w.heap.size 84 21 (.slice to3 (k + 1) tc3) (k + 1) (newCells (ms.take (k + 1))))) := by
        intro v3 w3 ho3 hg3
        obtain ⟨to3, tc3, rfl⟩ := own_is ho3
        have hh0 := HH.out
        have hh1 : Blk (((wr.alloc (.cells #[.string pr, .int .i64 fu, .int .u8 ro, .int .u8 pu, .int .u8 su, .int .i64 sh, .int .i64 ba] 41)).alloc (.cells #[.string pr, .int .i64 fu, .int .u8 ro, .int .u8 pu, .int .u8 su, .int .i64 sh, .int .i64 ba, .int .u8 0, .int .u16 0, .int .u16 0, .int .u16 0, .int .u16 0, .int .u16 0, .int .u16 0, .int .u16 0, .int .u16 0, .slice none 0 0, .slice none 0 0, .slice none 0 0, .int .i64 0, .int .u8 0] 84)).drew) hp #[.int .u8 0, .int .i64 0, .slice ta k tc] 87 := by
          have q := hh0.below (B := wr.heap.size) ((((Below.refl wr.heap.size wr).alloc (Nat.le_refl _) (.cells #[.string pr, .int .i64 fu, .int .u8 ro, .int .u8 pu, .int .u8 su, .int .i64 sh, .int .i64 ba] 41)).alloc (by simp) (.cells #[.string pr, .int .i64 fu, .int .u8 ro, .int .u8 pu, .int .u8 su, .int .i64 sh, .int .i64 ba, .int .u8 0, .int .u16 0, .int .u16 0, .int .u16 0, .int .u16 0, .int .u16 0, .int .u16 0, .int .u16 0, .int .u16 0, .slice none 0 0, .slice none 0 0, .slice none 0 0, .int .i64 0, .int .u8 0] 84)).drew) hhl
          exact q
        have hh3 : Blk w3 hp #[.int .u8 0, .int .i64 0, .slice ta k tc] 87 := hh1.grown hg3 (fun e => hh1.ne_own HOd.out (by decide) e)
        refine ⟨to3, tc3, rfl, by rw [hh3.cell 2]; rfl, hh3.free 2, ?_, hh3.set 2 _, ?_⟩
        · refine Below.setCell ?_ (by simp only; omega) _
          have hB0 : Below w.heap.size w (((wr.alloc (.cells #[.string pr, .int .i64 fu, .int .u8 ro, .int .u8 pu, .int .u8 su, .int .i64 sh, .int .i64 ba] 41)).alloc (.cells #[.string pr, .int .i64 fu, .int .u8 ro, .int .u8 pu, .int .u8 su, .int .i64 sh, .int .i64 ba, .int .u8 0, .int .u16 0, .int .u16 0, .int .u16 0, .int .u16 0, .int .u16 0, .int .u16 0, .int .u16 0, .int .u16 0, .slice none 0 0, .slice none 0 0, .slice none 0 0, .int .i64 0, .int .u8 0] 84)).drew) := ((HB.out.alloc hsz _).alloc (by simp; omega) _).drew
          exact hB0.grown hg3 (by simp; omega) (fun z hz => (HO.out.lt z hz).1)
        · refine ownsRow_setCell_other ?_ (fun e => ?_) _
          · rw [HTk.out]
            exact ho3
          · exact hh3.ne_own ho3 (by decide) e.symm
      clear hm hrow hmc hnews
      go_wp2_with fail
      go_region_law (refine step_append_mine rfl (.tmp 22) (.tmp 25) 85 rfl w.heap.size 84 i0 (.agg #[.string ⟨#[]⟩, .int .i64 0, .int .u8 0, .int .u8 0, .int .u8 0, .int .i64 0, .int .i64 0, .int .u8 0, .int .u16 0, .int .u16 0, .int .u16 0, .int .u16 0, .int .u16 0, .int .u16 0, .int .u16 0, .int .u16 0, .slice none 0 0, .slice none 0 0, .slice none 0 0, .int .i64 0, .int .u8 0]) 21 160 Try.underlying85 hi hz0 hz1 hz2 rfl (by decide) (.slice ta k tc) k (newCells (ms.take k)) (by simp [Act.eval]) HOd.out ⟨wr.heap.size + 1, 0, none⟩ 1 1 [.string pr, .int .i64 fu, .int .u8 ro, .int .u8 pu, .int .u8 su, .int .i64 sh, .int .i64 ba, .int .u8 0, .int .u16 0, .int .u16 0, .int .u16 0, .int .u16 0, .int .u16 0, .int .u16 0, .int .u16 0, .int .u16 0, .slice none 0 0, .slice none 0 0, .slice none 0 0, .int .i64 0, .int .u8 0] (by simp [Act.eval]) rfl HNw.out hone.out (by unfold maxLen; omega) (by omega) (by simp; omega) ?_; intro v3 w3 hown3 hg3; obtain ⟨to3, tc3, hv3, q2, p2, HB3, HH3, HO3⟩ := HKEY.out v3 w3 hown3 hg3; rw [hv3]; clear hown3 hg3 hv3)
      all_goals
        go_wp2
        go_roundw
        case rel => exact ⟨k + 1, tc3, to3, by omega, by go_num, HB3, HH3, HO3⟩
        case measure => simp [intOf]; omega
    · have hkn : k = n := by omega
      have HOn : Hid (wr.ownsRow w.heap.size 84 21 (.slice ta n tc) n (newCells ms)) := by
        have q := HO.out
        rw [hkn, List.take_of_length_le (by rw [Hn.out]; exact Nat.le_refl _)] at q
        exact q
      subst hkn
      have hki : ¬ (k : Int) < (k : Int) := by omega
      go_wp2
      go_ret2
      obtain ⟨g, rfl⟩ : ∃ g, ta = some ⟨g, 0, none⟩ := by
        rcases HOn.out.2 with ⟨h, h0⟩ | ⟨g, cp, cur, hv, _⟩
        · omega
        · simp only [Value.slice.injEq] at hv
          exact ⟨g, hv.1⟩
      refine ⟨hp, rfl, g, tc, ms.map fun _ => nilVs, ?_, ?_, HB.out⟩
      · have q1 := HH.out
        have q2 := HOn.out
        rw [← Hn.out] at q1 q2
        exact new_host q1 q2
      · intro z hz
        rcases hz with rfl | rfl | ⟨v, hv, q⟩
        · omega
        · exact (HOn.out.lt _ rfl).1
        · simp only [List.mem_map] at hv
          obtain ⟨_, _, rfl⟩ := hv
          simp [nilVs, Value.ownBlock] at q
end Go.Proofs.Ytidaflmmldefcaa
