/-
  The walk of keepEventsMarked.
-/
import Derived.Test.YtcaeeaiodbjacaaBookC
namespace Go.Proofs.Ytcaeeaiodbjacaa
open Go.RowKit
set_option linter.unusedVariables false

theorem info36 : (Try.prog.info? 36).map (fun i => (i.zero, i.size, i.bytes)) = some (some (.slice none 0 0), 1, 24) := by kernel_rfl
theorem info84 : (Try.prog.info? 84).map (fun i => (i.zero, i.size, i.bytes)) = some (some (.agg #[.int .u8 0, .int .u8 0, .int .u16 0, .int .u8 0]), 4, 6) := by kernel_rfl

def mkEv : List Value := [.int .u8 0, .int .u8 0, .int .u16 200, .int .u8 0]

theorem new_fourEv (w : World) (x y z u : Value) (t : TypeId) : ∀ j q, [x, y, z, u][j]? = some q → (w.alloc (.cells #[x, y, z, u] t)).cell? ((⟨w.heap.size, 0, none⟩ : Addr).add j) = some q := by
  intro j q hj
  match j, hj with
  | 0, hj => simp at hj; subst hj; simp [Addr.add]
  | 1, hj => simp at hj; subst hj; simp [Addr.add]
  | 2, hj => simp at hj; subst hj; simp [Addr.add]
  | 3, hj => simp at hj; subst hj; simp [Addr.add]
  | (j + 4), hj => simp at hj

/-- What keepEventsMarked leaves. -/
def markedEndEv (base B : Nat) (q0 q2 q4 q5 q8 q9 : Value) (w : World) (e : Ending) (w' : World) : Prop :=
  e = .returned (.tuple #[]) ∧ ∃ ve E', Blk w' B #[q0, ve, q2, .bool false, q4, q5, .slice none 0 0, .slice none 0 0, q8, q9] 39 ∧ w'.ownsRow base 36 1 ve 4 E' ∧ E'.length = 4 ∧
    (∀ v ∈ E', ∃ m, m ≤ 400 ∧ MarkAt w' 84 mkEv v m) ∧ Kept (fun k => k = B) w w' ∧ ∀ k, ve.ownBlock = some k → w.heap.size ≤ k

set_option maxRecDepth 100000 in
set_option maxHeartbeats 2000000 in
theorem markedEv_any (base B : Nat) (q0 q2 q4 q5 q8 q9 : Value) (w : World) (hB : base ≤ B) (hbk : Blk w B #[q0, .slice none 0 0, q2, .bool false, q4, q5, .slice none 0 0, .slice none 0 0, q8, q9] 39) (hs : base ≤ w.heap.size) :
    Calls Try.prog 35 #[.pointer (some ⟨B, 0, none⟩)] w fun e w' => markedEndEv base B q0 q2 q4 q5 q8 q9 w e w' := by
  obtain ⟨i0, hi, hz0, hz1, hz2⟩ := info_parts info84
  obtain ⟨j0, hj, hy0, hy1, hy2⟩ := info_parts info36
  obtain ⟨cs, hcs⟩ : ∃ cs, cs = #[q0, .slice none 0 0, q2, .bool false, q4, q5, .slice none 0 0, .slice none 0 0, q8, q9] := ⟨_, rfl⟩
  have HCs : Hid (cs = #[q0, .slice none 0 0, q2, .bool false, q4, q5, .slice none 0 0, .slice none 0 0, q8, q9]) := hcs
  have HBk : Hid (Blk w B cs 39) := by unfold Hid; rw [hcs]; exact hbk
  have bc := hbk.cell 6
  have bf := hbk.cell 1
  simp at bc bf
  have hBl := hbk.lt
  clear hbk hcs
  go_enter Try.func35, Try.ntmps35
  go_wp2_with fail
  go_loopw [3] (fun i wr => i = .int .i64 0 ∧ wr = w) (fun _ _ => 0)
  case atStart => exact ⟨rfl, rfl⟩
  case round =>
    obtain ⟨rfl, rfl⟩ := hrel
    go_wp2_with fail
    have HM : Hid (Blk (wr.alloc (.cells #[.int .u8 0, .int .u8 0, .int .u16 200, .int .u8 0] 84)) wr.heap.size mkEv.toArray 84) := Blk.new wr _ 84
    have HL3 : Hid (LSt wr (wr.alloc (.cells #[.int .u8 0, .int .u8 0, .int .u16 200, .int .u8 0] 84)) base B wr.heap.size 1 36 84 cs mkEv none none [] (.slice none 0 0) [] none 0 0) := by
      have hc0 : cs[1]? = some (.slice none 0 0) := by rw [HCs.out]; rfl
      refine ⟨?_, World.ownsRow_nil _ _ _ _, World.ownsRow_nil _ _ _ _, HM.out, (Kept.refl _ _).alloc _, (by intro k hk; cases hk), (by intro k hk; cases hk), by simp, Nat.le_refl _⟩
      have := HBk.out.alloc (.cells #[.int .u8 0, .int .u8 0, .int .u16 200, .int .u8 0] 84)
      rw [this.keeps hc0]
      exact this
    obtain ⟨w0, hw0⟩ : ∃ w0, w0 = wr := ⟨_, rfl⟩
    subst hw0
    obtain ⟨M, hMe⟩ : ∃ M, M = w0.heap.size := ⟨_, rfl⟩
    rw [← hMe] at HL3 ⊢
    have hMs : w0.heap.size ≤ M := HL3.out.hM
    clear HM HBk bc bf hMe
    go_loopw [5] (fun i wr => i = .int .i64 0 ∧ Hid (LSt w0 wr base B M 1 36 84 cs mkEv none none [] (.slice none 0 0) [] none 0 0)) (fun _ _ => 0)
    case atStart => exact ⟨rfl, HL3⟩
    case round =>
      obtain ⟨rfl, HL4⟩ := hrel
      clear HL3
      go_wp2_with fail
      go_loopw [2, 6] (fun vl i wr => ∃ (j len cj : Nat) (aj : Option Addr) (vj : Value) (Ej : List Value), vl = .slice aj len cj ∧ j ≤ 4 ∧ i = .int .i64 j ∧ len ≤ 61 * j ∧ Ej.length = j ∧ Hid (LSt w0 wr base B M 1 36 84 cs mkEv none none [] vj Ej aj len cj))
        (fun _ i _ => 4 - (intOf i).toNat)
      case atStart => exact ⟨0, 0, 0, none, _, [], rfl, by omega, rfl, by omega, rfl, HL4⟩
      case round =>
        obtain ⟨j, len, cj, aj, vj, Ej, rfl, hj4, rfl, hlen, hEj, HL⟩ := hrel
        clear HL4
        have hszr := HL.out.kept.size
        have HRow : Hid (wr.ownsRow base 36 1 vj j Ej) := by
          have h := HL.out.row
          simp only [List.length_nil, Nat.zero_add, List.nil_append] at h
          rw [hEj] at h
          exact h
        by_cases hjj : j < 4
        · have b0 := HL.out.bk.cell 1
          rw [HCs.out] at b0
          simp at b0
          have hji : (j : Int) < 4 := by omega
          go_wp2_with (at_builtin; refine wpList_append_own_at _ rfl (.tmp 65) (.tmp 67) 34 rfl base 36 j0 (.slice none 0 0) 1 24 Try.underlying34 hj hy0 hy1 hy2 rfl (by decide) _ j _ rfl (HRow.out.alloc _) ⟨wr.heap.size, 0, none⟩ 1 1 [.slice aj len cj] rfl rfl (new_one _ _ _) (by intro u hu; simp at hu; subst hu; rfl) (by unfold maxLen; omega) (by omega) (by simp; omega) ?_)
          intro v7 w7 ho7 hg7 _ hb7
          obtain ⟨vo7, vc7, rfl⟩ : ∃ vo7 vc7, v7 = .slice vo7 (j + 1) vc7 := own_is ho7
          have HL8 : Hid (LSt w0 (w7.setCell ⟨B, 1, none⟩ (.slice vo7 (j + 1) vc7)) base B M 1 36 84 cs mkEv none none [] (.slice vo7 (j + 1) vc7) (Ej ++ [.slice aj len cj]) aj len cj) := by
            refine HL.out.join (by decide) (by decide) (by decide) ?_ hg7 (by simpa using hb7)
            simp only [List.length_nil, Nat.zero_add, List.nil_append]
            rw [hEj]
            exact ho7
          obtain ⟨hb8, hm8⟩ := HL.out.mid (by decide) (by decide) hg7
          have c7 := hb8.cell 1
          rw [HCs.out] at c7
          simp at c7
          have f7 := hb8.free 1
          have hBM : ¬ B = M := by omega
          have hMB : ¬ M = B := by omega
          have m0 := hm8.cell 0
          have m1 := hm8.cell 1
          have m2 := hm8.cell 2
          have m3 := hm8.cell 3
          simp [mkEv] at m0 m1 m2 m3
          have hs7 : base ≤ w7.heap.size := by have := hg7.size; simp at this; omega
          have hnw : ∀ jj u, mkEv[jj]? = some u → ((w7.setCell ⟨B, 1, none⟩ (.slice vo7 (j + 1) vc7)).alloc (.cells #[.int .u8 0, .int .u8 0, .int .u16 200, .int .u8 0] 84)).cell? ((⟨w7.heap.size, 0, none⟩ : Addr).add jj) = some u := by
            rw [show w7.heap.size = (w7.setCell ⟨B, 1, none⟩ (.slice vo7 (j + 1) vc7)).heap.size by simp]
            exact new_fourEv _ _ _ _ _ _
          have HNw : Hid (∀ jj u, mkEv[jj]? = some u → ((w7.setCell ⟨B, 1, none⟩ (.slice vo7 (j + 1) vc7)).alloc (.cells #[.int .u8 0, .int .u8 0, .int .u16 200, .int .u8 0] 84)).cell? ((⟨w7.heap.size, 0, none⟩ : Addr).add jj) = some u) := hnw
          clear ho7 hg7 hb7 hb8 hm8 hnw HL HRow b0
          go_wp2_with (at_builtin; refine wpList_append_mark _ rfl (.tmp 71) (.tmp 73) 36 rfl base 84 i0 (.agg #[.int .u8 0, .int .u8 0, .int .u16 0, .int .u8 0]) 6 mkEv Try.underlying36 hi hz0 hz1 hz2 rfl (Nat.succ_pos 3) aj len cj rfl (HL8.out.own.alloc _) ⟨w7.heap.size, 0, none⟩ 1 rfl HNw.out (by intro u hu; simp [mkEv] at hu; rcases hu with rfl | rfl | rfl | rfl <;> rfl) (by unfold maxLen; omega) (by omega) (by simp; omega) ?_)
          intro a9 c9 w9 ho9 hg9 hb9 hm9
          have HL9 : Hid (LSt w0 w9 base B M 1 36 84 cs mkEv none none [] (.slice vo7 (j + 1) vc7) (Ej ++ [.slice aj len cj]) a9 (len + 1) c9) := HL8.out.push (by decide) (by decide) ho9 hg9 (by simpa using hb9) hm9
          clear ho9 hg9 hb9 hm9 HL8 HNw c7 f7 m0 m1 m2 m3 hs7
          go_wp2_with fail
          go_loopw [2, 7] (fun vl i wr => ∃ (p len' c' : Nat) (a' : Option Addr), vl = .slice a' len' c' ∧ p ≤ 60 ∧ i = .int .i64 p ∧ len' ≤ len + 1 + p ∧ Hid (LSt w0 wr base B M 1 36 84 cs mkEv none none [] (.slice vo7 (j + 1) vc7) (Ej ++ [.slice aj len cj]) a' len' c'))
            (fun _ i _ => 60 - (intOf i).toNat)
          case atStart => exact ⟨0, len + 1, c9, a9, rfl, by omega, rfl, by omega, HL9⟩
          case round =>
            obtain ⟨p, len', c', a', rfl, hp60, rfl, hlen', HL⟩ := hrel
            clear HL9
            have hszr := HL.out.kept.size
            by_cases hpp : p < 60
            · have hpi : (p : Int) < 60 := by omega
              by_cases hj2 : j = 2
              · obtain ⟨tt, ht1, ht2⟩ : ∃ tt : Bool, ((j : Int) == 2) = tt ∧ tt = true := ⟨true, by subst hj2; rfl, rfl⟩
                clear hj2
                have m0 := HL.out.mark.cell 0
                have m1 := HL.out.mark.cell 1
                have m2 := HL.out.mark.cell 2
                have m3 := HL.out.mark.cell 3
                simp [mkEv] at m0 m1 m2 m3
                have HNw : Hid (∀ jj u, mkEv[jj]? = some u → (wr.alloc (.cells #[.int .u8 0, .int .u8 0, .int .u16 200, .int .u8 0] 84)).cell? ((⟨wr.heap.size, 0, none⟩ : Addr).add jj) = some u) := new_fourEv wr _ _ _ _ _
                go_wp2_with (at_builtin; refine wpList_append_mark _ rfl (.tmp 83) (.tmp 85) 36 rfl base 84 i0 (.agg #[.int .u8 0, .int .u8 0, .int .u16 0, .int .u8 0]) 6 mkEv Try.underlying36 hi hz0 hz1 hz2 rfl (Nat.succ_pos 3) a' len' c' rfl (HL.out.own.alloc _) ⟨wr.heap.size, 0, none⟩ 1 rfl HNw.out (by intro u hu; simp [mkEv] at hu; rcases hu with rfl | rfl | rfl | rfl <;> rfl) (by unfold maxLen; omega) (by omega) (by simp; omega) ?_)
                intro a9 c9 w9 ho9 hg9 hb9 hm9
                have HL9 : Hid (LSt w0 w9 base B M 1 36 84 cs mkEv none none [] (.slice vo7 (j + 1) vc7) (Ej ++ [.slice aj len cj]) a9 (len' + 1) c9) := HL.out.push (by decide) (by decide) ho9 hg9 (by simpa using hb9) hm9
                clear ho9 hg9 hb9 hm9 HNw m0 m1 m2 m3
                go_wp2
                go_roundw
                case rel => exact ⟨p + 1, len' + 1, c9, a9, rfl, by omega, by go_num, by omega, HL9⟩
                case measure => simp [intOf]; omega
              · have hj2' : ((j : Int) == 2) = false := by
                  rw [beq_eq_false_iff_ne]
                  omega
                go_wp2
                go_roundw
                case rel => exact ⟨j + 1, len', c', a', _, _, rfl, by omega, by go_num, by omega, by simp [hEj], HL⟩
                case measure => simp [intOf]; omega
            · have hpn : ¬ (p : Int) < 60 := by omega
              go_wp2
              go_roundw
              case rel => exact ⟨j + 1, len', c', a', _, _, rfl, by omega, by go_num, by omega, by simp [hEj], HL⟩
              case measure => simp [intOf]; omega
        · have hjn : ¬ (j : Int) < 4 := by omega
          have hj4' : j = 4 := by omega
          have b4 := HL.out.bk.cell 6
          have b5 := HL.out.bk.cell 7
          rw [HCs.out] at b4 b5
          simp at b4 b5
          have f4 := HL.out.bk.free 6
          have f5 := HL.out.bk.free 7
          clear HRow
          go_wp2
          go_end0
          obtain ⟨r1, r2, r3, r4, r5⟩ := HL.out.fin (by decide) (by decide) 6 7 (.slice none 0 0) (.slice none 0 0)
          refine ⟨rfl, vj, Ej, ?_, ?_, by omega, ?_, ?_, ?_⟩
          · rw [HCs.out] at r1
            exact r1
          · simp only [List.length_nil, Nat.zero_add, List.nil_append] at r2
            rw [hEj, hj4'] at r2
            exact r2
          · intro v hv
            obtain ⟨m, hm1, hm2, hm3⟩ := r3 v hv
            exact ⟨m, by omega, hm2⟩
          · exact r4.weaken (by rintro k (h | h | h); exact h; cases h; cases h)
          · intro k hk
            rcases r5 k hk with h | h
            · cases h
            · exact h

end Go.Proofs.Ytcaeeaiodbjacaa
