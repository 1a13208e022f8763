/-
  The walk of reached.
-/
import Derived.Test.YtidaflmmldefcaaApM
namespace Go.Proofs.Ytidaflmmldefcaa
open Go.RowKit
set_option linter.unusedVariables false

def isNo (v : Value) : Bool := match v with
  | .bool false => true
  | _ => false
/-- How many are not reached. -/
def nots (B : List Bool) : Nat := B.countP (fun b => !b)
def notsIn (g : Nat) (w : World) : Nat := match w.heap[g]? with
  | some (.cells cs _ _) => cs.toList.countP isNo
  | _ => 0
def boolCells (B : List Bool) : Array Value := (B.map Value.bool).toArray

theorem nots_cells (B : List Bool) : (boolCells B).toList.countP isNo = nots B := by
  unfold boolCells nots
  simp only [List.countP_map]
  congr 1
  funext b
  cases b <;> rfl
theorem nots_blk {w : World} {g : Nat} {B : List Bool} {t : TypeId} (h : Blk w g (boolCells B) t) : notsIn g w = nots B := by
  unfold notsIn
  unfold Blk at h
  rw [h]
  exact nots_cells B
theorem nots_set : ∀ (B : List Bool) (j : Nat), B[j]? = some false → nots (B.set j true) + 1 = nots B
  | [], j, h => by simp at h
  | b :: r, 0, h => by
    simp at h; subst h
    simp [nots]
  | b :: r, j + 1, h => by
    have ih := nots_set r j (by simpa using h)
    unfold nots at *
    rw [List.set_cons_succ, List.countP_cons, List.countP_cons]
    omega
theorem boolCells_set (B : List Bool) (j : Nat) : (boolCells B).setIfInBounds j (.bool true) = boolCells (B.set j true) := by
  unfold boolCells
  apply Array.toList_inj.1
  simp [List.map_set]

/-- Closed, as far as rows below i and, in row i, columns below j go. -/
def ClosedTo (ms : List Mf) (t : Nat) (B : List Bool) (i j : Nat) : Prop := ∀ (a b : Nat) (ma mb : Mf), (a < i ∨ (a = i ∧ b < j)) → ms[a]? = some ma → ms[b]? = some mb → (a = t ∨ B[a]? = some true) → bits BinOp.and IntKind.u8 ma.pub mb.sub ≠ 0 → B[b]? = some true
def reachEnd (ms : List Mf) (t n : Nat) (w : World) (e : Ending) (w' : World) : Prop := ∃ (g : Nat) (B : List Bool), e = .returned (.slice (some ⟨g, 0, none⟩) n n) ∧ B.length = n ∧ Blk w' g (boolCells B) 4 ∧ Closed ms t B ∧ Below w.heap.size w w'

theorem info4 : (Try.prog.info? 4).map (fun i => (i.zero, i.size, i.bytes)) = some (some (.bool false), 1, 1) := by kernel_rfl

theorem made_bools (n : Nat) : (madeCells #[Value.bool false] n) = boolCells (List.replicate n false) := by
  unfold boolCells
  apply Array.toList_inj.1
  apply List.ext_getElem?
  intro i
  by_cases hi : i < n
  · have : i < (madeCells #[Value.bool false] n).size := by rw [size_madeCells]; exact hi
    simp [madeCells, hi, Nat.mod_one]
  · have : ¬ i < (madeCells #[Value.bool false] n).size := by rw [size_madeCells]; exact hi
    rw [List.getElem?_eq_none (by simpa using Nat.le_of_not_lt this), List.getElem?_eq_none (by simp; omega)]

set_option maxRecDepth 100000 in
set_option maxHeartbeats 16000000 in
theorem reached_any (b off ncap : Nat) (ms : List Mf) (t : Nat) (w : World) (hl1 : 1 ≤ ms.length) (hl4 : ms.length ≤ 4) (ht : t < ms.length) (hr : MfRow w b off ms) (hb : b < w.heap.size) :
    Calls Try.prog 21 #[.slice (some ⟨b, off, none⟩) ms.length ncap, .int .i64 t] w fun e w' => reachEnd ms t ms.length w e w' := by
  obtain ⟨i0, hi, hz0, hz1, hz2⟩ := info_parts info4
  obtain ⟨n, hn⟩ : ∃ n, n = ms.length := ⟨_, rfl⟩
  have Hn : Hid (ms.length = n) := hn.symm
  have HR : Hid (MfRow w b off ms) := hr
  rw [← hn] at hl1 hl4 ht ⊢
  clear hn hr
  go_enter Try.func21, Try.ntmps21
  go_wp2_with (refine wpList_make_full _ rfl _ _ 65 rfl w.heap.size 4 i0 (.bool false) 1 Try.underlying65 hi hz0 hz1 _ _ _ _ n rfl rfl rfl rfl (by rw [hz2]; omega) (by unfold maxLen; omega) (Nat.le_refl _) ?_)
  intro w1 ho1 hg1
  obtain ⟨g, hgw⟩ : ∃ g, g = w.heap.size := ⟨_, rfl⟩
  have HB1 : Hid (Below w.heap.size w w1) := (Below.refl _ _).grown hg1 (Nat.le_refl _) (fun k hk => by cases hk)
  have HG1 : Hid (Blk w1 g (boolCells (List.replicate n false)) 4) := by
    unfold Hid
    rcases ho1.2 with ⟨hv, h0⟩ | ⟨g', cp, cur, hv, _, hh, h1, h2, h3, h4⟩
    · omega
    · simp only [Value.slice.injEq, Option.some.injEq, Addr.mk.injEq, and_true, true_and] at hv
      obtain ⟨e1, e2⟩ := hv
      have hcur : cur = boolCells (List.replicate n false) := by
        rw [made_bools] at h4
        apply Array.toList_inj.1
        rw [← h4, List.take_of_length_le (by simp; omega)]
      rw [hgw, e1, ← hcur]
      exact hh
  rw [← hgw]
  have HGw : Hid (w.heap.size ≤ g) := by unfold Hid; omega
  have hbg : b < g := by omega
  clear ho1 hg1 hgw
  go_wp2_with fail
  go_loopw [6] (fun v wr => ∃ (q : Bool) (B : List Bool), v = .bool q ∧ Hid (B.length = n) ∧ Hid (Below w.heap.size w wr) ∧ Hid (Blk wr g (boolCells B) 4) ∧ Hid (q = false → Closed ms t B))
    (fun v wr => 2 * notsIn g wr + (match v with | .bool true => 1 | _ => 0))
  case atStart => exact ⟨true, List.replicate n false, rfl, by simp [Hid], HB1.out, HG1.out, fun h => by cases h⟩
  case round =>
    obtain ⟨q, B0, rfl, HL0, HB0, HG0, HC0⟩ := hrel
    clear HB1 HG1
    cases q with
    | false =>
      go_wp2
      go_ret
      exact ⟨g, B0, rfl, HL0.out, HG0.out, HC0.out (by first | rfl | trivial), HB0.out⟩
    | true =>
      obtain ⟨m0, hm0⟩ : ∃ m0, m0 = notsIn g wr := ⟨_, rfl⟩
      have HM0 : Hid (nots B0 = m0) := by unfold Hid; rw [hm0, nots_blk HG0.out]
      rw [← hm0]
      clear hm0
      go_wp2_with fail
      go_loopw [6, 15] (fun v i wr => ∃ (q : Bool) (B : List Bool) (k : Nat), v = .bool q ∧ i = .int .i64 k ∧ k ≤ n ∧ Hid (B.length = n) ∧ Hid (Below w.heap.size w wr) ∧ Hid (Blk wr g (boolCells B) 4) ∧ Hid (q = false → B = B0 ∧ ClosedTo ms t B0 k 0) ∧ Hid (q = true → nots B < m0))
        (fun _ i _ => n - (intOf i).toNat)
      case atStart => exact ⟨false, B0, 0, rfl, rfl, Nat.zero_le _, HL0.out, HB0.out, HG0.out, fun _ => ⟨rfl, fun a b ma mb h => by omega⟩, fun h => by cases h⟩
      case round =>
        obtain ⟨q, B, k, rfl, rfl, hk, HL, HB, HG, HQ0, HQ1⟩ := hrel
        by_cases hlt : k < n
        · obtain ⟨mk, hmk⟩ : ∃ m, ms[k]? = some m := ⟨ms[k]'(by have := Hn.out; omega), List.getElem?_eq_getElem (by have := Hn.out; omega)⟩
          have hki : (k : Int) < (n : Int) := by omega
          have hk0 : (0 : Int) ≤ (k : Int) := by omega
          have HMk : Hid (ms[k]? = some mk) := hmk
          clear hmk
          go_wp2_with fail
          go_loopw [6, 20] (fun v i wr => ∃ (q : Bool) (B : List Bool) (j : Nat), v = .bool q ∧ i = .int .i64 j ∧ j ≤ n ∧ Hid (B.length = n) ∧ Hid (Below w.heap.size w wr) ∧ Hid (Blk wr g (boolCells B) 4) ∧ Hid (q = false → B = B0 ∧ ClosedTo ms t B0 k j) ∧ Hid (q = true → nots B < m0))
            (fun _ i _ => n - (intOf i).toNat)
          case atStart => exact ⟨q, B, 0, rfl, rfl, Nat.zero_le _, HL.out, HB.out, HG.out, HQ0.out, HQ1.out⟩
          case round =>
            obtain ⟨q, B, j, rfl, rfl, hj, HL, HB, HG, HQ0, HQ1⟩ := hrel
            by_cases hlj : j < n
            · obtain ⟨mj, hmj⟩ : ∃ m, ms[j]? = some m := ⟨ms[j]'(by have := Hn.out; omega), List.getElem?_eq_getElem (by have := Hn.out; omega)⟩
              have hji : (j : Int) < (n : Int) := by omega
              have hj0 : (0 : Int) ≤ (j : Int) := by omega
              obtain ⟨bk, hbk⟩ : ∃ x, B[k]? = some x := ⟨B[k]'(by have := HL.out; omega), List.getElem?_eq_getElem (by have := HL.out; omega)⟩
              obtain ⟨bj, hbj⟩ : ∃ x, B[j]? = some x := ⟨B[j]'(by have := HL.out; omega), List.getElem?_eq_getElem (by have := HL.out; omega)⟩
              have ck : wr.cell? ⟨g, k, none⟩ = some (.bool bk) := by rw [HG.out.cell k]; unfold boolCells; simp [hbk]
              have cj : wr.cell? ⟨g, j, none⟩ = some (.bool bj) := by rw [HG.out.cell j]; unfold boolCells; simp [hbj]
              have fj := HG.out.free j
              have hrow := HR.out.below HB.out hb
              have c3 : wr.cell? ⟨b, off + k * 7 + 3, none⟩ = some (.int .u8 mk.pub) := hrow k mk HMk.out 3 _ rfl
              have c4 : wr.cell? ⟨b, off + j * 7 + 4, none⟩ = some (.int .u8 mj.sub) := hrow j mj hmj 4 _ rfl
              have Hbk : Hid (B[k]? = some bk) := hbk
              have Hbj : Hid (B[j]? = some bj) := hbj
              have HMj : Hid (ms[j]? = some mj) := hmj
              -- a pair that is passed by
              have HKeep : Hid (((k : Int) = (t : Int) ∨ bk = true) → bits BinOp.and IntKind.u8 mk.pub mj.sub ≠ 0 → bj = true) → Hid (q = false → B = B0 ∧ ClosedTo ms t B0 k (j + 1)) := by
                intro hh hq
                obtain ⟨e1, e2⟩ := HQ0.out hq
                refine ⟨e1, ?_⟩
                intro a c ma mc hac hma hmc hat hbt
                by_cases hlast : a = k ∧ c = j
                · obtain ⟨rfl, rfl⟩ := hlast
                  rw [HMk.out] at hma
                  rw [HMj.out] at hmc
                  obtain rfl := Option.some.inj hma
                  obtain rfl := Option.some.inj hmc
                  have hB : B = B0 := e1
                  rw [← hB] at hat ⊢
                  rw [Hbj.out, hh.out ?_ hbt]
                  rcases hat with h | h
                  · left; omega
                  · right
                    rw [Hbk.out] at h
                    exact Option.some.inj h
                · exact e2 a c ma mc (by omega) hma hmc hat hbt
              -- a pair that is taken
              have HSet : Hid (bj = false → nots (B.set j true) < m0) := by
                intro hbf
                have h1 := nots_set B j (by rw [Hbj.out, hbf])
                cases q with
                | true => have := HQ1.out rfl; omega
                | false =>
                  have h2 := (HQ0.out rfl).1
                  have h3 := HM0.out
                  rw [← h2] at h3
                  omega
              have HGs : Hid (Blk (wr.setCell ⟨g, j, none⟩ (.bool true)) g (boolCells (B.set j true)) 4) := by
                unfold Hid
                rw [← boolCells_set]
                exact HG.out.set j _
              clear hbk hbj hmj hrow
              have HBs : Hid (Below w.heap.size w (wr.setCell ⟨g, j, none⟩ (.bool true))) := HB.out.setCell HGw.out _
              by_cases hkt : k = t
              · have hkb : ((k : Int) == (t : Int)) = true := by simp [hkt]
                clear hkt
                by_cases hz : bits BinOp.and IntKind.u8 mk.pub mj.sub = 0
                · have hzb : (bits BinOp.and IntKind.u8 mk.pub mj.sub != 0) = false := by simp [hz]
                  have HN := HKeep (fun _ h => absurd hz h)
                  clear HKeep HSet HGs HBs
                  go_upto_region 11 with fail
                  go_quiet (fail)
                  go_wp2
                  go_roundw
                  case rel => exact ⟨q, B, j + 1, rfl, by go_num, by omega, HL, ⟨HB.out.os, HB.out.tape, HB.out.output, HB.out.size, HB.out.block⟩, HG.out, HN.out, HQ1⟩
                  case measure => simp [intOf]; omega
                · have hzb : (bits BinOp.and IntKind.u8 mk.pub mj.sub != 0) = true := by simp [hz]
                  cases bj with
                  | true =>
                    have HN := HKeep (fun _ _ => rfl)
                    clear HKeep HSet HGs HBs
                    go_upto_region 11 with fail
                    go_quiet (fail)
                    go_wp2
                    go_roundw
                    case rel => exact ⟨q, B, j + 1, rfl, by go_num, by omega, HL, ⟨HB.out.os, HB.out.tape, HB.out.output, HB.out.size, HB.out.block⟩, HG.out, HN.out, HQ1⟩
                    case measure => simp [intOf]; omega
                  | false =>
                    clear HKeep
                    go_upto_region 11 with fail
                    go_quiet (fail)
                    go_wp2
                    go_roundw
                    case rel => exact ⟨true, B.set j true, j + 1, rfl, by go_num, by omega, by unfold Hid; rw [List.length_set]; exact HL.out, ⟨HBs.out.os, HBs.out.tape, HBs.out.output, HBs.out.size, HBs.out.block⟩, HGs.out, (fun h => by cases h), (fun _ => HSet.out rfl)⟩
                    case measure => simp [intOf]; omega
              · have hkb : ((k : Int) == (t : Int)) = false := by rw [beq_eq_false_iff_ne]; omega
                cases bk with
                | true =>
                  clear hkt
                  by_cases hz : bits BinOp.and IntKind.u8 mk.pub mj.sub = 0
                  · have hzb : (bits BinOp.and IntKind.u8 mk.pub mj.sub != 0) = false := by simp [hz]
                    have HN := HKeep (fun _ h => absurd hz h)
                    clear HKeep HSet HGs HBs
                    go_upto_region 11 with fail
                    go_quiet (fail)
                    go_wp2
                    go_roundw
                    case rel => exact ⟨q, B, j + 1, rfl, by go_num, by omega, HL, ⟨HB.out.os, HB.out.tape, HB.out.output, HB.out.size, HB.out.block⟩, HG.out, HN.out, HQ1⟩
                    case measure => simp [intOf]; omega
                  · have hzb : (bits BinOp.and IntKind.u8 mk.pub mj.sub != 0) = true := by simp [hz]
                    cases bj with
                    | true =>
                      have HN := HKeep (fun _ _ => rfl)
                      clear HKeep HSet HGs HBs
                      go_upto_region 11 with fail
                      go_quiet (fail)
                      go_wp2
                      go_roundw
                      case rel => exact ⟨q, B, j + 1, rfl, by go_num, by omega, HL, ⟨HB.out.os, HB.out.tape, HB.out.output, HB.out.size, HB.out.block⟩, HG.out, HN.out, HQ1⟩
                      case measure => simp [intOf]; omega
                    | false =>
                      clear HKeep
                      go_upto_region 11 with fail
                      go_quiet (fail)
                      go_wp2
                      go_roundw
                      case rel => exact ⟨true, B.set j true, j + 1, rfl, by go_num, by omega, by unfold Hid; rw [List.length_set]; exact HL.out, ⟨HBs.out.os, HBs.out.tape, HBs.out.output, HBs.out.size, HBs.out.block⟩, HGs.out, (fun h => by cases h), (fun _ => HSet.out rfl)⟩
                      case measure => simp [intOf]; omega
                | false =>
                  have HN := HKeep (fun h => by rcases h with h | h; (exact absurd h (by omega)); cases h)
                  clear HKeep HSet HGs HBs
                  go_upto_region 11 with fail
                  go_quiet (fail)
                  go_wp2
                  go_roundw
                  case rel => exact ⟨q, B, j + 1, rfl, by go_num, by omega, HL, ⟨HB.out.os, HB.out.tape, HB.out.output, HB.out.size, HB.out.block⟩, HG.out, HN.out, HQ1⟩
                  case measure => simp [intOf]; omega
            · have hji : ¬ (j : Int) < (n : Int) := by omega
              have HNx : Hid (q = false → B = B0 ∧ ClosedTo ms t B0 (k + 1) 0) := by
                intro hq
                obtain ⟨e1, e2⟩ := HQ0.out hq
                refine ⟨e1, fun a c ma mc hac hma hmc hat hbt => e2 a c ma mc ?_ hma hmc hat hbt⟩
                have := (List.getElem?_eq_some_iff.1 hmc).1
                have := Hn.out
                omega
              go_wp2
              go_roundw
              case rel => exact ⟨q, B, k + 1, rfl, by go_num, by omega, HL, HB, HG, HNx, HQ1⟩
              case measure => simp [intOf]; omega
        · have hki : ¬ (k : Int) < (n : Int) := by omega
          have HCl : Hid (q = false → Closed ms t B) := by
            intro hq
            obtain ⟨e1, e2⟩ := HQ0.out hq
            rw [e1]
            intro a c ma mc hma hmc hat hbt
            refine e2 a c ma mc ?_ hma hmc hat hbt
            have := (List.getElem?_eq_some_iff.1 hma).1
            have := Hn.out
            omega
          have HMe : Hid (2 * notsIn g wr + (match Value.bool q with | .bool true => 1 | _ => 0) < 2 * m0 + 1) := by
            unfold Hid
            rw [nots_blk HG.out]
            cases q with
            | true => have := HQ1.out rfl; simp only; omega
            | false =>
              have h1 := (HQ0.out rfl).1
              have h2 := HM0.out
              rw [h1, h2]
              simp only
              omega
          go_wp2
          go_roundw
          case rel => exact ⟨q, B, rfl, HL, HB, HG, HCl⟩
          case measure => exact HMe.out
end Go.Proofs.Ytidaflmmldefcaa
