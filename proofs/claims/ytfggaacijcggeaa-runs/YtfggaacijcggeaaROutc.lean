/-
  The walk of outcomes.
-/
import Derived.Test.YtfggaacijcggeaaROutL
import Derived.Test.YtfggaacijcggeaaRunX
import Derived.Maps.AppendAt
import Derived.BigRegion
namespace Go.Proofs.Ytfggaacijcggeaa
open Go.RowKit
set_option linter.unusedVariables false

theorem info40 : (Try.prog.info? 40).map (fun i => (i.zero, i.size, i.bytes)) = some (some (.slice none 0 0), 1, 24) := by kernel_rfl
theorem info41 : (Try.prog.info? 41).map (fun i => (i.zero, i.size, i.bytes)) = some (some (.slice none 0 0), 1, 24) := by kernel_rfl
theorem infoS : (Try.prog.info? 62).map (fun i => (i.zero, i.size, i.bytes)) = some (some (.agg #[.int .u16 0, .string ⟨#[]⟩]), 2, 24) := by kernel_rfl
theorem infoD : (Try.prog.info? 85).map (fun i => (i.zero, i.size, i.bytes)) = some (some (.agg #[.int .u8 0, .int .u16 0]), 2, 4) := by kernel_rfl

theorem kept_set2 {S : Nat → Prop} {w w1 : World} (h : Kept S w w1) (g a b : Nat) (x y : Value) (hs : S g) : Kept S w ((w1.setCell ⟨g, a, none⟩ x).setCell ⟨g, b, none⟩ y) :=
  (h.setCell ⟨g, a, none⟩ x (Or.inl hs)).setCell ⟨g, b, none⟩ y (Or.inl hs)

/-- What outcomes leaves. -/
def outsEnd (sb db : Option Nat) (c : Int) (w : World) (e : Ending) (w' : World) : Prop :=
  ∃ v1 v2, e = .returned (.tuple #[v1, v2]) ∧ Outs w' w.heap.size c v1 v2 ∧ Kept (fun k => some k = sb ∨ some k = db) w w'

set_option maxRecDepth 100000 in
set_option maxHeartbeats 8000000 in
theorem outs_any (O : H.Out) (sv dv : Value) (base : Nat) (c : Int) (w : World) (hl : O.shows.length ≤ 100) (hl2 : O.sends.length ≤ 100) (hs : base ≤ w.heap.size)
    (h1 : w.ownsRow base 62 2 sv O.shows.length (showCells O.shows)) (h2 : w.ownsRow base 85 2 dv O.sends.length (sendCells O.sends)) :
    Calls Try.prog 16 #[outVal O sv dv, .int .u16 c] w fun e w' => outsEnd sv.ownBlock dv.ownBlock c w e w' := by
  obtain ⟨i6, hi6, hz60, hz61, hz62⟩ := info_parts info40
  obtain ⟨i7, hi7, hz70, hz71, hz72⟩ := info_parts info41
  obtain ⟨i8, hi8, hz80, hz81, hz82⟩ := info_parts infoS
  obtain ⟨i9, hi9, hz90, hz91, hz92⟩ := info_parts infoD
  obtain ⟨so, sc, rfl⟩ := own_shape h1
  obtain ⟨dO, dc, rfl⟩ := own_shape h2
  obtain ⟨ft, st, dr, cells, shows, sends, err⟩ := O
  unfold outVal outAgg
  simp only at hl hl2 h1 h2 ⊢
  obtain ⟨n, hn⟩ : ∃ n, n = shows.length := ⟨_, rfl⟩
  obtain ⟨m, hm⟩ : ∃ m, m = sends.length := ⟨_, rfl⟩
  rw [← hn] at hl h1 ⊢
  rw [← hm] at hl2 h2 ⊢
  obtain ⟨xs0, hxs0⟩ : ∃ xs, xs = showCells shows := ⟨_, rfl⟩
  obtain ⟨ys0, hys0⟩ : ∃ ys, ys = sendCells sends := ⟨_, rfl⟩
  rw [← hxs0] at h1
  rw [← hys0] at h2
  have HX0 : Hid (w.ownsRow base 62 2 (.slice so n sc) n xs0) := h1
  have HY0 : Hid (w.ownsRow base 85 2 (.slice dO m dc) m ys0) := h2
  obtain ⟨S, hS⟩ : ∃ S : Nat → Prop, S = (fun k => some k = Value.ownBlock (.slice so n sc) ∨ some k = Value.ownBlock (.slice dO m dc)) := ⟨_, rfl⟩
  have HSx : Hid (∀ g, Value.ownBlock (.slice so n sc) = some g → S g) := by intro g hg; rw [hS]; exact Or.inl hg.symm
  have HSy : Hid (∀ g, Value.ownBlock (.slice dO m dc) = some g → S g) := by intro g hg; rw [hS]; exact Or.inr hg.symm
  unfold outsEnd
  rw [← hS]
  clear h1 h2 hn hm hS hxs0 hys0
  go_enter Try.func16, Try.ntmps16
  go_wp2_with fail
  obtain ⟨B, hB⟩ : ∃ B, B = Obj.cells #[.int .u8 ft, .int .i64 (st : Int), .int .i64 (dr : Int), .int .u16 (cells.getD 0 0), .int .u16 (cells.getD 1 0), .int .u16 (cells.getD 2 0), .int .u16 (cells.getD 3 0), .int .u16 (cells.getD 4 0), .int .u16 (cells.getD 5 0), .int .u16 (cells.getD 6 0), .int .u16 (cells.getD 7 0), .slice so n sc, .slice dO m dc] 43 := ⟨_, rfl⟩
  have HX1 : Hid ((w.alloc B).ownsRow base 62 2 (.slice so n sc) n xs0) := HX0.out.alloc _
  have HY1 : Hid ((w.alloc B).ownsRow base 85 2 (.slice dO m dc) m ys0) := HY0.out.alloc _
  have HK1 : Hid (Kept S w (w.alloc B)) := (Kept.refl S w).alloc _
  go_loopw [10] (fun i wr => ∃ (q : Nat) (xs : List Value), q ≤ n ∧ i = .int .i64 q ∧ Hid (wr.ownsRow base 62 2 (.slice so n sc) n xs ∧ MarkedTo xs (.int .u16 c) (.string ⟨#[]⟩) q ∧ wr.ownsRow base 85 2 (.slice dO m dc) m ys0 ∧ Kept S w wr))
    (fun i _ => n - (intOf i).toNat)
  case atStart => exact ⟨0, xs0, Nat.zero_le _, rfl, by rw [hB] at HX1 HY1 HK1; exact ⟨HX1.out, rfl, HY1.out, HK1.out⟩⟩
  case round =>
    obtain ⟨q, xs, hq, rfl, HI⟩ := hrel
    clear HX1 HY1 HK1 hB
    by_cases hlt : q < n
    · obtain ⟨g, rfl⟩ : ∃ g, so = some ⟨g, 0, none⟩ := by
        rcases HI.out.1.2 with ⟨h, h0⟩ | ⟨g, cp, cur, hv, hb, hh, _⟩
        · omega
        · simp only [Value.slice.injEq] at hv
          exact ⟨g, hv.1⟩
      have hxl : xs.length = n * 2 := HI.out.1.1
      obtain ⟨a0, ha0⟩ : ∃ a, xs[q * 2]? = some a := ⟨_, List.getElem?_eq_getElem (by omega)⟩
      obtain ⟨a1, ha1⟩ : ∃ a, xs[q * 2 + 1]? = some a := ⟨_, List.getElem?_eq_getElem (by omega)⟩
      obtain ⟨g', hg', c0, c1⟩ := own_pair HI.out.1 ha0 ha1
      simp only [Option.some.injEq, Addr.mk.injEq, and_true] at hg'
      subst hg'
      obtain ⟨cur, hcur⟩ := own_cur HI.out.1
      have f0 := hcur.free (q * 2)
      have f1 := hcur.free (q * 2 + 1)
      have hqi : (q : Int) < (n : Int) := by omega
      have HCur : Hid (Blk wr g cur 62) := hcur
      clear hcur ha0 ha1
      go_wp2
      go_roundw
      case rel =>
        refine ⟨q + 1, _, by omega, by go_num, own_set2 HI.out.1 q (.int .u16 c) (.string ⟨#[]⟩), HI.out.2.1.step hxl hlt, ?_, kept_set2 HI.out.2.2.2 g _ _ _ _ (HSx.out g rfl)⟩
        have hne : Value.ownBlock (.slice dO m dc) ≠ some g := fun e' => HCur.out.ne_own HI.out.2.2.1 (by decide) e'.symm
        exact ownsRow_setCell_other (ownsRow_setCell_other HI.out.2.2.1 (a := ⟨g, q * 2, none⟩) hne _) (a := ⟨g, q * 2 + 1, none⟩) hne _
      case measure => simp [intOf]; omega
    · have hqn : q = n := by omega
      subst hqn
      have HX2 : Hid (wr.ownsRow base 62 2 (.slice so q sc) q (rep q (mkS c))) := by
        have h := HI.out.1
        rw [HI.out.2.1.all h.1] at h
        exact h
      have HY2 : Hid (wr.ownsRow base 85 2 (.slice dO m dc) m ys0) := HI.out.2.2.1
      have HK2 : Hid (Kept S w wr) := HI.out.2.2.2
      clear HI
      go_wp2_with fail
      go_loopw [11] (fun i wr => ∃ (p : Nat) (ys : List Value), p ≤ m ∧ i = .int .i64 p ∧ Hid (wr.ownsRow base 85 2 (.slice dO m dc) m ys ∧ MarkedTo ys (.int .u8 0) (.int .u16 c) p ∧ wr.ownsRow base 62 2 (.slice so q sc) q (rep q (mkS c)) ∧ Kept S w wr))
        (fun i _ => m - (intOf i).toNat)
      case atStart => exact ⟨0, ys0, Nat.zero_le _, rfl, HY2.out, rfl, HX2.out, HK2.out⟩
      case round =>
        obtain ⟨p, ys, hp, rfl, HI⟩ := hrel
        clear HX2 HY2 HK2
        by_cases hlt : p < m
        · obtain ⟨g, rfl⟩ : ∃ g, dO = some ⟨g, 0, none⟩ := by
            rcases HI.out.1.2 with ⟨h, h0⟩ | ⟨g, cp, cur, hv, hb, hh, _⟩
            · omega
            · simp only [Value.slice.injEq] at hv
              exact ⟨g, hv.1⟩
          have hyl : ys.length = m * 2 := HI.out.1.1
          obtain ⟨a0, ha0⟩ : ∃ a, ys[p * 2]? = some a := ⟨_, List.getElem?_eq_getElem (by omega)⟩
          obtain ⟨a1, ha1⟩ : ∃ a, ys[p * 2 + 1]? = some a := ⟨_, List.getElem?_eq_getElem (by omega)⟩
          obtain ⟨g', hg', c0, c1⟩ := own_pair HI.out.1 ha0 ha1
          simp only [Option.some.injEq, Addr.mk.injEq, and_true] at hg'
          subst hg'
          obtain ⟨cur, hcur⟩ := own_cur HI.out.1
          have f0 := hcur.free (p * 2)
          have f1 := hcur.free (p * 2 + 1)
          have hpi : (p : Int) < (m : Int) := by omega
          have HCur : Hid (Blk wr g cur 85) := hcur
          clear hcur ha0 ha1
          go_wp2
          go_roundw
          case rel =>
            refine ⟨p + 1, _, by omega, by go_num, own_set2 HI.out.1 p (.int .u8 0) (.int .u16 c), HI.out.2.1.step hyl hlt, ?_, kept_set2 HI.out.2.2.2 g _ _ _ _ (HSy.out g rfl)⟩
            have hne : Value.ownBlock (.slice so q sc) ≠ some g := fun e' => HCur.out.ne_own HI.out.2.2.1 (by decide) e'.symm
            exact ownsRow_setCell_other (ownsRow_setCell_other HI.out.2.2.1 (a := ⟨g, p * 2, none⟩) hne _) (a := ⟨g, p * 2 + 1, none⟩) hne _
          case measure => simp [intOf]; omega
        · have hpn : p = m := by omega
          subst hpn
          have HL0 : Hid (OSt w wr base S c [] [] (.slice none 0 0) (.slice none 0 0) (.slice so q sc) (.slice dO p dc) q p 0 0) := by
            have h := HI.out.1
            rw [HI.out.2.1.all h.1] at h
            exact ⟨World.ownsRow_nil _ _ _ _, World.ownsRow_nil _ _ _ _, HI.out.2.2.1, h, by intro v hv; simp at hv, by intro v hv; simp at hv, HI.out.2.2.2, fun k hk => Or.inl (HSx.out k hk), fun k hk => Or.inl (HSy.out k hk)⟩
          clear HI
          go_wp2_with fail
          go_loopw [6, 7, 8, 9, 12] (fun u6 u7 ux uy i wr => ∃ (j c6 c7 cx cy : Nat) (a6 a7 ax ay : Option Addr) (E1 E2 : List Value), j ≤ 4 ∧ u6 = .slice a6 j c6 ∧ u7 = .slice a7 j c7 ∧ ux = .slice ax (q + j) cx ∧ uy = .slice ay (p + j) cy ∧ i = .int .i64 j ∧ Hid (OSt w wr base S c E1 E2 (.slice a6 j c6) (.slice a7 j c7) (.slice ax (q + j) cx) (.slice ay (p + j) cy) (q + j) (p + j) j j))
            (fun _ _ _ _ i _ => 4 - (intOf i).toNat)
          case atStart => exact ⟨0, 0, 0, sc, dc, none, none, so, dO, [], [], by omega, rfl, rfl, rfl, rfl, rfl, HL0⟩
          case round =>
            obtain ⟨j, c6, c7, cx, cy, a6, a7, ax, ay, E1, E2, hj, rfl, rfl, rfl, rfl, rfl, HL⟩ := hrel
            clear HL0
            have hszr := HL.out.kept.size
            by_cases hj4 : j < 4
            · have hji : (j : Int) < 4 := by omega
              go_wp2_with (at_builtin; refine wpList_append_own_at _ rfl (.tmp 43) (.tmp 45) 47 rfl w.heap.size 40 i6 (.slice none 0 0) 1 24 Try.underlying47 hi6 hz60 hz61 hz62 rfl (by decide) _ j _ rfl (HL.out.r6.alloc _) ⟨wr.heap.size, 0, none⟩ 1 1 [.slice ax (q + j) cx] rfl rfl (new_one _ _ _) (by intro u hu; simp at hu; subst hu; rfl) (by unfold maxLen; omega) (by omega) (by simp; omega) ?_)
              intro v6 w6 ho6 hg6 _ _
              obtain ⟨b6, d6, rfl⟩ := own_shape ho6
              have HL6 : Hid (OSt w w6 base S c (E1 ++ [.slice ax (q + j) cx]) E2 (.slice b6 (j + 1) d6) (.slice a7 j c7) (.slice ax (q + j) cx) (.slice ay (p + j) cy) (q + j) (p + j) (j + 1) j) := (HL.out.alloc _).join1 ho6 hg6
              have hsz6 := HL6.out.kept.size
              clear ho6 hg6 HL
              go_wp2_with (at_builtin; refine wpList_append_own_at _ rfl (.tmp 47) (.tmp 49) 48 rfl w.heap.size 41 i7 (.slice none 0 0) 1 24 Try.underlying48 hi7 hz70 hz71 hz72 rfl (by decide) _ j _ rfl (HL6.out.r7.alloc _) ⟨w6.heap.size, 0, none⟩ 1 1 [.slice ay (p + j) cy] rfl rfl (new_one _ _ _) (by intro u hu; simp at hu; subst hu; rfl) (by unfold maxLen; omega) (by omega) (by simp; omega) ?_)
              intro v7 w7 ho7 hg7 _ _
              obtain ⟨b7, d7, rfl⟩ := own_shape ho7
              have HL7 : Hid (OSt w w7 base S c (E1 ++ [.slice ax (q + j) cx]) (E2 ++ [.slice ay (p + j) cy]) (.slice b6 (j + 1) d6) (.slice b7 (j + 1) d7) (.slice ax (q + j) cx) (.slice ay (p + j) cy) (q + j) (p + j) (j + 1) (j + 1)) := (HL6.out.alloc _).join2 ho7 hg7
              have hsz7 := HL7.out.kept.size
              have HN7 : Hid (∀ jj u, (mkS c)[jj]? = some u → (w7.alloc (.cells #[.int .u16 c, .string ⟨#[]⟩] 62)).cell? ((⟨w7.heap.size, 0, none⟩ : Addr).add jj) = some u) := new_two w7 _ _ _
              clear ho7 hg7 HL6
              go_wp2_with (at_builtin; refine wpList_append_mark _ rfl (.tmp 51) (.tmp 54) 40 rfl base 62 i8 (.agg #[.int .u16 0, .string ⟨#[]⟩]) 24 (mkS c) Try.underlying40 hi8 hz80 hz81 hz82 rfl (Nat.succ_pos 1) ax (q + j) cx rfl (HL7.out.x.alloc _) ⟨w7.heap.size, 0, none⟩ 1 rfl HN7.out (by intro u hu; simp [mkS] at hu; rcases hu with rfl | rfl <;> rfl) (by unfold maxLen; omega) (by omega) (by simp; omega) ?_)
              intro a8 c8 w8 ho8 hg8 hb8 hm8
              have HL8 : Hid (OSt w w8 base S c (E1 ++ [.slice ax (q + j) cx]) (E2 ++ [.slice ay (p + j) cy]) (.slice b6 (j + 1) d6) (.slice b7 (j + 1) d7) (.slice a8 (q + j + 1) c8) (.slice ay (p + j) cy) (q + j + 1) (p + j) (j + 1) (j + 1)) := (HL7.out.alloc _).push1 ho8 hg8 (by simpa using hb8) hm8
              have hsz8 := HL8.out.kept.size
              have HN8 : Hid (∀ jj u, (mkD c)[jj]? = some u → (w8.alloc (.cells #[.int .u8 0, .int .u16 c] 85)).cell? ((⟨w8.heap.size, 0, none⟩ : Addr).add jj) = some u) := new_two w8 _ _ _
              clear ho8 hg8 hb8 hm8 HL7 HN7
              go_wp2_with (at_builtin; refine wpList_append_mark _ rfl (.tmp 56) (.tmp 59) 41 rfl base 85 i9 (.agg #[.int .u8 0, .int .u16 0]) 4 (mkD c) Try.underlying41 hi9 hz90 hz91 hz92 rfl (Nat.succ_pos 1) ay (p + j) cy rfl (HL8.out.y.alloc _) ⟨w8.heap.size, 0, none⟩ 1 rfl HN8.out (by intro u hu; simp [mkD] at hu; rcases hu with rfl | rfl <;> rfl) (by unfold maxLen; omega) (by omega) (by simp; omega) ?_)
              intro a9 c9 w9 ho9 hg9 hb9 hm9
              have HL9 : Hid (OSt w w9 base S c (E1 ++ [.slice ax (q + j) cx]) (E2 ++ [.slice ay (p + j) cy]) (.slice b6 (j + 1) d6) (.slice b7 (j + 1) d7) (.slice a8 (q + j + 1) c8) (.slice a9 (p + j + 1) c9) (q + j + 1) (p + j + 1) (j + 1) (j + 1)) := (HL8.out.alloc _).push2 ho9 hg9 (by simpa using hb9) hm9
              clear ho9 hg9 hb9 hm9 HL8 HN8
              go_wp2
              go_roundw
              case rel =>
                repeat apply Exists.intro
                refine ⟨?_, rfl⟩
                exact ⟨j + 1, d6, d7, c8, c9, b6, b7, a8, a9, _, _, by omega, rfl, rfl, rfl, rfl, by go_num, HL9⟩
              case measure => simp [intOf]; omega
            · have hjn : ¬ (j : Int) < 4 := by omega
              have hj4' : j = 4 := by omega
              subst hj4'
              go_wp2
              go_ret2
              refine ⟨_, _, rfl, ⟨E1, E2, HL.out.r6, HL.out.r7, ?_, ?_⟩, HL.out.kept⟩
              · intro v hv
                obtain ⟨m, h1, h2⟩ := HL.out.m1 v hv
                exact ⟨m, by omega, h2⟩
              · intro v hv
                obtain ⟨m, h1, h2⟩ := HL.out.m2 v hv
                exact ⟨m, by omega, h2⟩
end Go.Proofs.Ytfggaacijcggeaa
