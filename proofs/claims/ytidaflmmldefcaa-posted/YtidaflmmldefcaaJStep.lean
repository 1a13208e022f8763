/-
  MApp, Show, Step, Step2, StepA, Keep: joined.
-/
import Derived.Test.YtidaflmmldefcaaJMach
import Derived.Deep.RegionLaw

/-
  The machine's lists grow.
-/
namespace Go.Proofs.Ytidaflmmldefcaa
open Go.RowKit
set_option linter.unusedVariables false

/-- What a method leaves, its lists perhaps others. -/
def Aft (w : World) (base b : Nat) (M' : H.Mach) (w' : World) : Prop := (∃ pile sv dv, MB w' base b pile sv dv M') ∧ Fr base w w'

theorem After.aft {w : World} {base b : Nat} {sv dv : Value} {M' : H.Mach} {w' : World} (h : After w base b sv dv M' w') : Aft w base b M' w' := by
  obtain ⟨⟨p, hm⟩, hf⟩ := h
  exact ⟨⟨p, sv, dv, hm⟩, hf⟩

/-- Two rows of different element types are not one. -/
theorem own_two {w : World} {base e1 e2 s1 s2 n1 n2 : Nat} {v1 v2 : Value} {x1 x2 : List Value} (h1 : w.ownsRow base e1 s1 v1 n1 x1) (h2 : w.ownsRow base e2 s2 v2 n2 x2) (he : e1 ≠ e2) : v1.ownBlock = none ∨ v1.ownBlock ≠ v2.ownBlock := by
  rcases h1.2 with ⟨hv, _⟩ | ⟨g, cap, cur, hv, _, hh, _⟩
  · subst hv; exact .inl rfl
  · right
    have hb : Blk w g cur e1 := hh
    have := hb.ne_own h2 he
    subst hv
    exact this

theorem Fr.app {w w1 : World} {base e n : Nat} {v : Value} {xs : List Value} (ho : w.ownsRow base e 2 v n xs) (he : e = 129 ∨ e = 93) (hg : w.grownBy w1 v.ownBlock) (hb : base ≤ w.heap.size) : Fr base w w1 :=
  ⟨hg.os, hg.tape, hg.output, hg.size, fun k hk => hg.block k (by omega) (fun e' => by have := (ho.lt k e'.symm).1; omega), fun k cs t hk h1 h2 h3 => hk.grown hg (hk.ne_own ho (by rcases he with rfl | rfl <;> assumption))⟩

theorem MB.lt {w : World} {base b : Nat} {pile : List Int} {sv dv : Value} {M : H.Mach} (h : MB w base b pile sv dv M) : base ≤ w.heap.size := by
  have := h.blk.lt
  have := h.hb
  omega

/-- The sends grow by one: the row first, then the machine's field. -/
theorem MB.app_sends {w w1 : World} {base b : Nat} {pile : List Int} {sv dv dv1 : Value} {M : H.Mach} (h : MB w base b pile sv dv M) (t v : Int) (hown : w1.ownsRow base 93 2 dv1 (M.sends.length + 1) (sendCells M.sends ++ [.int .u8 t, .int .u16 v])) (hg : w.grownBy w1 dv.ownBlock) :
    Blk w1 b (mcells pile M.st.length sv dv M).toArray 124 ∧ MB (w1.setCell ⟨b, 20, none⟩ dv1) base b pile sv dv1 { M with sends := M.sends ++ [(t, v)] } ∧ Fr base w (w1.setCell ⟨b, 20, none⟩ dv1) := by
  have b1 := h.blk.grown hg (h.blk.ne_own h.sends (by decide))
  have o1 : w1.ownsRow base 129 2 sv M.shows.length (showCells M.shows) := h.shows.kept hg (own_two h.shows h.sends (by decide))
  refine ⟨b1, ⟨h.hb, h.hp, h.hst, h.htk, h.hc, ?_, ownsRow_setCell_other o1 (fun e => b1.ne_own o1 (by decide) e.symm) _, ?_⟩, ?_⟩
  · refine blk_list 20 _ b1 ?_
    rw [show (20 : Nat) = 17 + 3 from rfl, mcells_set_tail h.hp h.hc]
    rfl
  · have e : sendCells (M.sends ++ [(t, v)]) = sendCells M.sends ++ [.int .u8 t, .int .u16 v] := by simp [sendCells]
    simp only [e, List.length_append, List.length_cons, List.length_nil]
    exact ownsRow_setCell_other hown (fun e => b1.ne_own hown (by decide) e.symm) _
  · exact (Fr.app h.sends (.inr rfl) hg h.lt).setCell (p := ⟨b, 20, none⟩) b1 h.hb (.inl rfl) _

/-- The shows grow by one. -/
theorem MB.app_shows {w w1 : World} {base b : Nat} {pile : List Int} {sv dv sv1 : Value} {M : H.Mach} (h : MB w base b pile sv dv M) (k : Int) (s : ByteArray) (hown : w1.ownsRow base 129 2 sv1 (M.shows.length + 1) (showCells M.shows ++ [.int .u16 k, .string s])) (hg : w.grownBy w1 sv.ownBlock) :
    Blk w1 b (mcells pile M.st.length sv dv M).toArray 124 ∧ MB (w1.setCell ⟨b, 19, none⟩ sv1) base b pile sv1 dv { M with shows := M.shows ++ [(k, s)] } ∧ Fr base w (w1.setCell ⟨b, 19, none⟩ sv1) := by
  have b1 := h.blk.grown hg (h.blk.ne_own h.shows (by decide))
  have o1 : w1.ownsRow base 93 2 dv M.sends.length (sendCells M.sends) := h.sends.kept hg (own_two h.sends h.shows (by decide))
  refine ⟨b1, ⟨h.hb, h.hp, h.hst, h.htk, h.hc, ?_, ?_, ownsRow_setCell_other o1 (fun e => b1.ne_own o1 (by decide) e.symm) _⟩, ?_⟩
  · refine blk_list 19 _ b1 ?_
    rw [show (19 : Nat) = 17 + 2 from rfl, mcells_set_tail h.hp h.hc]
    rfl
  · have e : showCells (M.shows ++ [(k, s)]) = showCells M.shows ++ [.int .u16 k, .string s] := by simp [showCells]
    simp only [e, List.length_append, List.length_cons, List.length_nil]
    exact ownsRow_setCell_other hown (fun e => b1.ne_own hown (by decide) e.symm) _
  · exact (Fr.app h.shows (.inl rfl) hg h.lt).setCell (p := ⟨b, 19, none⟩) b1 h.hb (.inl rfl) _

theorem info85 : (Try.prog.info? 93).map (fun i => (i.zero, i.size, i.bytes)) = some (some (.agg #[.int .u8 0, .int .u16 0]), 2, 4) := by kernel_rfl
theorem info62 : (Try.prog.info? 129).map (fun i => (i.zero, i.size, i.bytes)) = some (some (.agg #[.int .u16 0, .string ⟨#[]⟩]), 2, 24) := by kernel_rfl

theorem own_shape {w : World} {base e size n : Nat} {v : Value} {xs : List Value} (h : w.ownsRow base e size v n xs) : ∃ ao cap, v = .slice ao n cap := by
  rcases h.2 with ⟨hv, hn⟩ | ⟨g, cap, cur, hv, _⟩
  · subst hn; exact ⟨none, 0, hv⟩
  · exact ⟨_, cap, hv⟩

theorem send_eq0 {t : Int} {M : H.Mach} (h : (H.popM M).fault ≠ 0) : H.send t M = H.popM M := by unfold H.send; rw [if_neg h]
theorem send_eq1 {t : Int} {M : H.Mach} (h : (H.popM M).fault = 0) (h4 : 4 ≤ M.sends.length) : H.send t M = { H.popM M with fault := 5 } := by unfold H.send; rw [if_pos h, if_pos h4]
theorem send_eq2 {t : Int} {M : H.Mach} (h : (H.popM M).fault = 0) (h4 : ¬ 4 ≤ M.sends.length) : H.send t M = { H.popM M with sends := (H.popM M).sends ++ [(t, H.popV M)] } := by unfold H.send; rw [if_pos h, if_neg h4, popM_sends]

set_option maxRecDepth 100000 in
set_option maxHeartbeats 1000000 in
theorem send_any {w : World} {base b : Nat} {pile : List Int} {sv dv : Value} {M : H.Mach} (h : MB w base b pile sv dv M) (t : Int) :
    Calls Try.prog 66 #[.pointer (some ⟨b, 0, none⟩), .int .u8 t] w fun e w' => e = .returned (.tuple #[]) ∧ Aft w base b (H.send t M) w' := by
  obtain ⟨i0, hi, hz0, hz1, hz2⟩ := info_parts info85
  have HP : Hid (MB w base b pile sv dv M) := h
  clear h
  go_enter Try.func66, Try.ntmps66
  go_wp2_with fail
  refine (pop_any HP.out).mono ?_
  rintro e w1 ⟨rfl, ⟨pile1, hm1⟩, hf1⟩
  have HM1 : Hid (MB w1 base b pile1 sv dv (H.popM M)) := hm1
  have HF1 : Hid (Fr base w w1) := hf1
  obtain ⟨ao, cv, hdv⟩ := own_shape hm1.sends
  have HDV : Hid (dv = .slice ao (H.popM M).sends.length cv) := hdv
  have c25 := hm1.c25
  have f25 := hm1.free 25
  have c20 := hm1.c20
  have f20 := hm1.free 20
  rw [hdv] at c20
  have hlt := hm1.lt
  clear hm1 hf1 hdv
  obtain ⟨y, hy⟩ : ∃ y, y = H.popV M := ⟨_, rfl⟩
  rw [← hy]
  have Hy : Hid (y = H.popV M) := hy
  obtain ⟨ft, hft⟩ : ∃ ft, ft = (H.popM M).fault := ⟨_, rfl⟩
  rw [← hft] at c25
  have Hft : Hid (ft = (H.popM M).fault) := hft
  obtain ⟨n, hn⟩ : ∃ n, n = (H.popM M).sends.length := ⟨_, rfl⟩
  rw [← hn] at c20
  have Hn : Hid (n = (H.popM M).sends.length) := hn
  clear hy hft hn
  by_cases hz : ft = 0
  · have HZ : Hid ((H.popM M).fault = 0) := by unfold Hid; rw [← Hft.out]; exact hz
    subst hz
    by_cases h4 : 4 ≤ n
    · have HE : Hid (H.send t M = { H.popM M with fault := 5 }) := send_eq1 HZ.out (by rw [← popM_sends, ← Hn.out]; exact h4)
      have h4' : (4 : Int) ≤ (n : Int) := by omega
      go_wp2
      exact bodyPost_ret (v := .tuple #[]) (by simp [results, Try.results66]) rfl ⟨rfl, by rw [HE.out]; exact ⟨⟨_, _, _, HM1.out.set_fault 5⟩, HM1.out.fr_set HF1.out _ _⟩⟩
    · have HE : Hid (H.send t M = { H.popM M with sends := (H.popM M).sends ++ [(t, y)] }) := by unfold Hid; rw [Hy.out]; exact send_eq2 HZ.out (by rw [← popM_sends, ← Hn.out]; exact h4)
      have h4' : ¬ (4 : Int) ≤ (n : Int) := by omega
      have HO : Hid (w1.ownsRow base 93 2 (.slice ao n cv) n (sendCells (H.popM M).sends)) := by
        have h := HM1.out.sends
        rw [HDV.out, ← Hn.out] at h
        exact h
      go_wp2_with (at_builtin; refine wpList_append_own _ rfl (.tmp 25) (.tmp 29) 90 rfl base 93 i0 (.agg #[.int .u8 0, .int .u16 0]) 2 4 Try.underlying90 hi hz0 hz1 hz2 rfl (by decide) _ _ _ rfl (HO.out.alloc _) ⟨w1.heap.size, 0, none⟩ 1 1 [.int .u8 t, .int .u16 y] rfl rfl (new_two _ _ _ _) (by intro u hu; simp at hu; rcases hu with rfl | rfl <;> rfl) (by unfold maxLen; omega) (by omega) (by simp; omega) ?_)
      intro v3 w3 hown3 hg3 _
      obtain ⟨ao3, c3, hv3⟩ := own_shape hown3
      have hma := (HM1.out.alloc (.cells #[.int .u8 t, .int .u16 y] 93)).app_sends t y (dv1 := v3) (w1 := w3) (by rw [← Hn.out]; exact hown3) (by rw [HDV.out, ← Hn.out]; exact hg3)
      have HB3 := hma.1
      have hm3 := hma.2.1
      have hf3 := hma.2.2
      rw [hv3] at hm3 hf3 ⊢
      have d20 : w3.cell? ⟨b, 20, none⟩ = some dv := by rw [HB3.cell 20, List.getElem?_toArray]; exact mcells_tail HM1.out.hp HM1.out.hc _ 3
      have e20 := HB3.free 20
      rw [HDV.out] at d20
      have HM3 : Hid (MB (w3.setCell ⟨b, 20, none⟩ (.slice ao3 (n + 1) c3)) base b pile1 sv (.slice ao3 (n + 1) c3) { H.popM M with sends := (H.popM M).sends ++ [(t, y)] }) := hm3
      have HF3 : Hid (Fr base w (w3.setCell ⟨b, 20, none⟩ (.slice ao3 (n + 1) c3))) := (HF1.out.alloc hlt _).trans hf3
      clear hma HB3 hm3 hf3 hv3 hown3 hg3 HO c20 f20 c25 f25
      go_wp2
      go_end0
      exact ⟨rfl, by rw [HE.out]; exact ⟨⟨_, _, _, HM3.out⟩, HF3.out⟩⟩
  · have HE : Hid (H.send t M = H.popM M) := send_eq0 (by rw [← Hft.out]; exact hz)
    have hb : (ft != 0) = true := by simpa using hz
    clear hz
    go_wp2
    exact bodyPost_ret (v := .tuple #[]) (by simp [results, Try.results66]) rfl ⟨rfl, by rw [HE.out]; exact ⟨⟨_, _, _, HM1.out⟩, HF1.out⟩⟩

end Go.Proofs.Ytidaflmmldefcaa

/-
  The walk of show.
-/
namespace Go.Proofs.Ytidaflmmldefcaa
open Go.RowKit
set_option linter.unusedVariables false

/-- append on a row of the call's own, as one step of a region that draws its order. -/
theorem step_append_mine {P : Program} {ops : Array Oper} {o : Oper} {a : Act} {w : World} {K : Act → World → Prop} {Q : Exit → Act → World → Prop} {E : Prop}
    (hg : o.guard = none) (s x : Operand) (t : TypeId) (hop : o.op = Op.call { callee := Callee.builtin Builtin.append, args := #[s, x], argTypes := #[t, t] })
    (base : Nat) (e : TypeId) (i : TypeInfo) (z : Value) (size bytes : Nat) (h1 : P.underlying t = some (.slice e)) (h2 : P.info? e = some i) (h3 : i.zero = some z) (h4 : i.size = size) (h5 : i.bytes = bytes) (h6 : z.cells.size = size) (h7 : 0 < size)
    (v : Value) (n : Nat) (xs : List Value) (hs : a.eval s = v) (hown : w.ownsRow base e size v n xs)
    (ad : Addr) (m c : Nat) (news : List Value) (hx : a.eval x = .slice (some ad) m c) (hn : news.length = m * size) (hc : ∀ j u, news[j]? = some u → w.cell? (ad.add j) = some u) (h1c : ∀ u ∈ news, u.oneCell' = true)
    (b1 : n + m ≤ maxLen) (b2 : (n + m) * bytes ≤ 140737488355328) (hb : base ≤ w.heap.size)
    (hK : ∀ v' w', w'.ownsRow base e size v' (n + m) (xs ++ news) → w.grownBy w' v.ownBlock → K (a.put o.dst v') w') :
    if Region.wanted o (yielded ops a.tmps) = true then Oper.wp P o a w K Q else E := by
  have hw : Region.wanted o (yielded ops a.tmps) = true := by simp [Region.wanted, hg]
  rw [if_pos hw]
  obtain ⟨v', w', hrun, r1, r2, _⟩ := run_append_own (P := P) w base t o.type e i z size bytes h1 h2 h3 h4 h5 h6 h7 v n xs hown ad m c news hn hc h1c b1 b2 hb
  unfold Oper.wp
  simp [execOp, hop, resolve, invoke, builtin, hs, hx, hrun, Result.andThen]
  exact hK v' w' r1 r2

theorem showCells_at : ∀ (l : List (Int × ByteArray)) (i : Nat) (x : Int × ByteArray), l[i]? = some x → (showCells l)[i * 2]? = some (.int .u16 x.1) ∧ (showCells l)[i * 2 + 1]? = some (.string x.2)
  | [], i, x, h => by simp at h
  | y :: r, 0, x, h => by simp at h; subst h; simp [showCells]
  | y :: r, i + 1, x, h => by
    have := showCells_at r i x (by simpa using h)
    simp only [showCells, List.flatMap_cons] at *
    rw [show (i + 1) * 2 = i * 2 + 2 by omega]
    simpa using this

theorem show_eq0 {M : H.Mach} (h : (H.popM M).fault ≠ 0) : H.showM M = H.popM M := by unfold H.showM; rw [if_neg h]
theorem show_eq1 {M : H.Mach} (h : (H.popM M).fault = 0) (h8 : 8 ≤ M.shows.length) : H.showM M = { H.popM M with fault := 5 } := by unfold H.showM; rw [if_pos h, if_pos h8]
theorem show_eq2 {M : H.Mach} (h : (H.popM M).fault = 0) (h8 : ¬ 8 ≤ M.shows.length) (hk : H.hasKey (H.popV M) M.shows = true) : H.showM M = { H.popM M with fault := 6 } := by unfold H.showM; rw [if_pos h, if_neg h8, if_pos hk]
theorem show_eq3 {M : H.Mach} (h : (H.popM M).fault = 0) (h8 : ¬ 8 ≤ M.shows.length) (hk : H.hasKey (H.popV M) M.shows = false) : H.showM M = { H.popM M with shows := (H.popM M).shows ++ [(H.popV M, M.text)], text := ⟨#[]⟩, chars := 0 } := by
  unfold H.showM; rw [if_pos h, if_neg h8, if_neg (by rw [hk]; decide), popM_shows]

theorem hasKey_true {l : List (Int × ByteArray)} {k : Nat} {x : Int × ByteArray} {y : Int} (h : l[k]? = some x) (e : x.1 = y) : H.hasKey y l = true := by
  unfold H.hasKey
  rw [List.any_eq_true]
  exact ⟨x, List.mem_of_getElem? h, by simp [e]⟩
theorem hasKey_false {l : List (Int × ByteArray)} {y : Int} (h : ∀ (i : Nat) (x : Int × ByteArray), l[i]? = some x → x.1 ≠ y) : H.hasKey y l = false := by
  unfold H.hasKey
  rw [List.any_eq_false]
  intro x hx
  obtain ⟨i, hi⟩ := List.mem_iff_getElem?.1 hx
  simpa using h i x hi

set_option maxRecDepth 100000 in
set_option maxHeartbeats 4000000 in
theorem show_any {w : World} {base b : Nat} {pile : List Int} {sv dv : Value} {M : H.Mach} (h : MB w base b pile sv dv M) :
    Calls Try.prog 65 #[.pointer (some ⟨b, 0, none⟩)] w fun e w' => e = .returned (.tuple #[]) ∧ Aft w base b (H.showM M) w' := by
  obtain ⟨i0, hi, hz0, hz1, hz2⟩ := info_parts info62
  have HP : Hid (MB w base b pile sv dv M) := h
  clear h
  go_enter Try.func65, Try.ntmps65
  go_wp2_with fail
  refine (pop_any HP.out).mono ?_
  rintro e w1 ⟨rfl, ⟨pile1, hm1⟩, hf1⟩
  have HM1 : Hid (MB w1 base b pile1 sv dv (H.popM M)) := hm1
  have HF1 : Hid (Fr base w w1) := hf1
  obtain ⟨ao, cv, hdv⟩ := own_shape hm1.shows
  have HDV : Hid (sv = .slice ao (H.popM M).shows.length cv) := hdv
  have c25 := hm1.c25
  have f25 := hm1.free 25
  have c19 := hm1.c19
  rw [hdv] at c19
  have hlt := hm1.lt
  have hbl := hm1.blk.lt
  clear hm1 hf1 hdv
  obtain ⟨y, hy⟩ : ∃ y, y = H.popV M := ⟨_, rfl⟩
  rw [← hy]
  have Hy : Hid (y = H.popV M) := hy
  obtain ⟨ft, hft⟩ : ∃ ft, ft = (H.popM M).fault := ⟨_, rfl⟩
  rw [← hft] at c25
  have Hft : Hid (ft = (H.popM M).fault) := hft
  obtain ⟨n, hn⟩ : ∃ n, n = (H.popM M).shows.length := ⟨_, rfl⟩
  rw [← hn] at c19
  have Hn : Hid (n = (H.popM M).shows.length) := hn
  clear hy hft hn
  by_cases hz : ft = 0
  · have HZ : Hid ((H.popM M).fault = 0) := by unfold Hid; rw [← Hft.out]; exact hz
    subst hz
    by_cases h8 : 8 ≤ n
    · have HE : Hid (H.showM M = { H.popM M with fault := 5 }) := show_eq1 HZ.out (by rw [← popM_shows, ← Hn.out]; exact h8)
      have h8' : (8 : Int) ≤ (n : Int) := by omega
      go_wp2
      exact bodyPost_ret (v := .tuple #[]) (by simp [results, Try.results65]) rfl ⟨rfl, by rw [HE.out]; exact ⟨⟨_, _, _, HM1.out.set_fault 5⟩, HM1.out.fr_set HF1.out _ _⟩⟩
    · have h8' : ¬ (8 : Int) ≤ (n : Int) := by omega
      have H8 : Hid (¬ 8 ≤ M.shows.length) := by unfold Hid; rw [← popM_shows, ← Hn.out]; exact h8
      have HO : Hid (w1.ownsRow base 129 2 (.slice ao n cv) n (showCells (H.popM M).shows)) := by
        have h := HM1.out.shows
        rw [HDV.out, ← Hn.out] at h
        exact h
      go_wp2_with fail
      go_loopw [26] (fun i wr => ∃ k : Nat, k ≤ n ∧ i = .int .i64 k ∧ Below w1.heap.size w1 wr ∧ ∀ i x, i < k → (H.popM M).shows[i]? = some x → x.1 ≠ y)
        (fun i _ => n - (intOf i).toNat)
      case atStart => exact ⟨0, Nat.zero_le _, rfl, Below.refl _ _, fun i x hi => by omega⟩
      case round =>
        obtain ⟨k, hk, rfl, hbr, hkeys⟩ := hrel
        have HBr : Hid (Below w1.heap.size w1 wr) := hbr
        have HKy : Hid (∀ i x, i < k → (H.popM M).shows[i]? = some x → x.1 ≠ y) := hkeys
        have hsr := hbr.size
        have HMr : Hid (MB wr base b pile1 sv dv (H.popM M)) := HM1.out.of_below hbr
        have HFr : Hid (Fr base w wr) := HF1.out.of_below hbr hlt
        clear hbr hkeys
        by_cases hkn : k < n
        · obtain ⟨g, rfl⟩ : ∃ g, ao = some ⟨g, 0, none⟩ := by
            rcases HO.out.2 with ⟨_, h⟩ | ⟨g, c, _, h, _⟩
            · omega
            · simp at h; exact ⟨g, h.1⟩
          obtain ⟨x, hx⟩ : ∃ x, (H.popM M).shows[k]? = some x := ⟨(H.popM M).shows[k]'(by have := Hn.out; omega), List.getElem?_eq_getElem (by have := Hn.out; omega)⟩
          obtain ⟨sk, st⟩ := x
          have hor : wr.ownsRow base 129 2 (.slice (some ⟨g, 0, none⟩) n cv) n (showCells (H.popM M).shows) := own_below' HO.out HBr.out (Nat.le_refl _)
          have d0 := (hor.cellAt (k * 2) (by omega)).trans (showCells_at _ k _ hx).1
          have d1 := (hor.cellAt (k * 2 + 1) (by omega)).trans (showCells_at _ k _ hx).2
          have HX : Hid ((H.popM M).shows[k]? = some (sk, st)) := hx
          have r25 : ∀ o, (wr.alloc o).cell? ⟨b, 25, none⟩ = some (.int .u8 0) := fun o => by have h := (HMr.out.alloc o).c25; rw [HZ.out] at h; exact h
          have g25 : ∀ o, (wr.alloc o).frozen? ⟨b, 25, none⟩ = false := fun o => (HMr.out.alloc o).free 25
          have hbne : ¬ b = wr.heap.size := by omega
          have hgl : g < wr.heap.size := World.block_lt_of_cell? _ _ d0
          have hgne : ¬ g = wr.heap.size := by omega
          clear hor hx c25 f25 c19
          by_cases hey : sk = y
          · have HE : Hid (H.showM M = { H.popM M with fault := 6 }) := show_eq2 HZ.out H8.out (by rw [← Hy.out]; exact hasKey_true (by rw [← popM_shows]; exact HX.out) hey)
            subst hey
            go_wp2
            exact bodyPost_ret (v := .tuple #[]) (by simp [results, Try.results65]) rfl ⟨rfl, by rw [HE.out]; exact ⟨⟨_, _, _, (HMr.out.alloc _).set_fault 6⟩, (HMr.out.alloc _).fr_set (HFr.out.alloc (by omega) _) _ _⟩⟩
          · have hb : (sk == y) = false := by simpa using hey
            have Hey : Hid (sk ≠ y) := hey
            clear hey
            go_wp2
            go_roundw
            case rel =>
              refine ⟨k + 1, by omega, by go_num, HBr.out.alloc hsr _, fun i x hi hx => ?_⟩
              by_cases hik : i < k
              · exact HKy.out i x hik hx
              · have : i = k := by omega
                subst this
                rw [HX.out] at hx
                simp at hx
                subst hx
                exact Hey.out
            case measure => simp [intOf]; omega
        · have HE : Hid (H.showM M = { H.popM M with shows := (H.popM M).shows ++ [(y, M.text)], text := ⟨#[]⟩, chars := 0 }) := by
            unfold Hid; rw [Hy.out]
            refine show_eq3 HZ.out H8.out (hasKey_false fun i x hx => ?_)
            rw [← Hy.out]
            rw [← popM_shows] at hx
            have hlt := (List.getElem?_eq_some_iff.1 hx).1
            exact HKy.out i x (by have := Hn.out; omega) hx
          have r19 := HMr.out.c19
          have g19 := HMr.out.free 19
          have r17 := HMr.out.c17
          have g17 := HMr.out.free 17
          have r18 := HMr.out.c18
          have g18 := HMr.out.free 18
          rw [HDV.out, ← Hn.out] at r19
          rw [popM_text] at r17
          rw [popM_chars] at r18
          obtain ⟨tx, htx⟩ : ∃ tx, tx = M.text := ⟨_, rfl⟩
          rw [← htx] at r17
          have Htx : Hid (tx = M.text) := htx
          have hbwr := HMr.out.blk.lt
          have hltr := HMr.out.lt
          have hbne : ¬ b = wr.heap.size := by omega
          have HOr : Hid (wr.ownsRow base 129 2 (.slice ao n cv) n (showCells (H.popM M).shows)) := own_below' HO.out HBr.out (Nat.le_refl _)
          clear htx c25 f25 c19
          have HOd : Hid (((wr.alloc (.cells #[.int .u16 y, .string tx] 129)).drew).ownsRow base 129 2 (.slice ao n cv) n (showCells (H.popM M).shows)) := HOr.out.alloc _
          have hnews : Hid (∀ j u, [Value.int .u16 y, .string tx][j]? = some u → ((wr.alloc (.cells #[.int .u16 y, .string tx] 129)).drew).cell? ((⟨wr.heap.size, 0, none⟩ : Addr).add j) = some u) := new_two _ _ _ _
          have hone : Hid (∀ u ∈ [Value.int .u16 y, .string tx], u.oneCell' = true) := by unfold Hid; intro u hu; simp at hu; rcases hu with rfl | rfl <;> rfl
          have hbase : Hid (base ≤ ((wr.alloc (.cells #[.int .u16 y, .string tx] 129)).drew).heap.size) := by unfold Hid; simp; omega
          have hm63 : Hid (n + 1 ≤ maxLen) := by unfold Hid maxLen; omega
          have hbyt : Hid ((n + 1) * 24 ≤ 140737488355328) := by unfold Hid; omega
          have HKEY : Hid (∀ v3 w3, w3.ownsRow base 129 2 v3 (n + 1) (showCells (H.popM M).shows ++ [.int .u16 y, .string tx]) → ((wr.alloc (.cells #[.int .u16 y, .string tx] 129)).drew).grownBy w3 (Value.slice ao n cv).ownBlock →
              ∃ ao3 c3, v3 = .slice ao3 (n + 1) c3 ∧ w3.cell? ⟨b, 19, none⟩ = some (.slice ao n cv) ∧ w3.frozen? ⟨b, 19, none⟩ = false ∧ w3.cell? ⟨b, 17, none⟩ = some (.string tx) ∧ w3.frozen? ⟨b, 17, none⟩ = false ∧ w3.cell? ⟨b, 18, none⟩ = some (.int .i64 (M.chars : Int)) ∧ w3.frozen? ⟨b, 18, none⟩ = false ∧
                Hid (MB (w3.setCell ⟨b, 19, none⟩ (.slice ao3 (n + 1) c3)) base b pile1 (.slice ao3 (n + 1) c3) dv { H.popM M with shows := (H.popM M).shows ++ [(y, tx)] }) ∧ Hid (Fr base w (w3.setCell ⟨b, 19, none⟩ (.slice ao3 (n + 1) c3)))) := by
            intro v3 w3 hown3 hg3
            obtain ⟨ao3, c3, hv3⟩ := own_shape hown3
            have hma := ((HMr.out.alloc (.cells #[.int .u16 y, .string tx] 129)).drew).app_shows y tx (sv1 := v3) (w1 := w3) (by rw [← Hn.out]; exact hown3) (by rw [HDV.out, ← Hn.out]; exact hg3)
            have HB3 := hma.1
            have hm3 := hma.2.1
            have hf3 := hma.2.2
            rw [hv3] at hm3 hf3
            refine ⟨ao3, c3, hv3, ?_, HB3.free 19, ?_, HB3.free 17, ?_, HB3.free 18, hm3, ((HFr.out.alloc hltr _).drew).trans hf3⟩
            · have h19 : w3.cell? ⟨b, 19, none⟩ = some sv := by rw [HB3.cell 19, List.getElem?_toArray]; exact mcells_tail HM1.out.hp HM1.out.hc _ 2
              rw [h19, HDV.out, ← Hn.out]
            · rw [HB3.cell 17, List.getElem?_toArray, Htx.out, ← popM_text]; exact mcells_tail HM1.out.hp HM1.out.hc _ 0
            · rw [HB3.cell 18, List.getElem?_toArray, ← popM_chars]; exact mcells_tail HM1.out.hp HM1.out.hc _ 1
          clear HBr HMr HFr HO HKy
          go_wp2_with fail
          go_region_law (refine step_append_mine rfl (.tmp 42) (.tmp 49) 113 rfl base 129 i0 (.agg #[.int .u16 0, .string ⟨#[]⟩]) 2 24 Try.underlying113 hi hz0 hz1 hz2 rfl (by decide) (.slice ao n cv) n (showCells (H.popM M).shows) (by simp [Act.eval]) HOd.out ⟨wr.heap.size, 0, none⟩ 1 1 [.int .u16 y, .string tx] (by simp [Act.eval]) rfl hnews.out hone.out hm63.out hbyt.out hbase.out ?_; intro v3 w3 hown3 hg3; obtain ⟨ao3, c3, hv3, q19, p19, q17, p17, q18, p18, HM3, HF3⟩ := HKEY.out v3 w3 hown3 hg3; rw [hv3]; clear hown3 hg3 hv3)
          all_goals go_wp2
          all_goals go_end0
          all_goals exact ⟨rfl, by rw [HE.out, ← Htx.out]; exact ⟨⟨_, _, _, (HM3.out.set_text _).set_chars 0⟩, (HM3.out.set_text _).fr_set (HM3.out.fr_set HF3.out _ _) _ _⟩⟩
  · have HE : Hid (H.showM M = H.popM M) := show_eq0 (by rw [← Hft.out]; exact hz)
    have hb : (ft != 0) = true := by simpa using hz
    clear hz
    go_wp2
    exact bodyPost_ret (v := .tuple #[]) (by simp [results, Try.results65]) rfl ⟨rfl, by rw [HE.out]; exact ⟨⟨_, _, _, HM1.out⟩, HF1.out⟩⟩

end Go.Proofs.Ytidaflmmldefcaa

/-
  The walk of step, an instruction a theorem.
-/
namespace Go.Proofs.Ytidaflmmldefcaa
open Go.RowKit
set_option linter.unusedVariables false

/-- What a run is given, as it is handed on. -/
structure InV where
  fuel : Int
  c0 : Int
  c1 : Int
  c2 : Int
  c3 : Int
  c4 : Int
  c5 : Int
  c6 : Int
  c7 : Int
  what : Int
  by_ : Int
  arg : Int
  src : Int
  route : Int
  ao : Option Addr
  n : Nat
  cap : Nat

def InV.arr (v : InV) : Array Value := #[.int .i64 v.fuel, .int .u16 v.c0, .int .u16 v.c1, .int .u16 v.c2, .int .u16 v.c3, .int .u16 v.c4, .int .u16 v.c5, .int .u16 v.c6, .int .u16 v.c7, .int .u8 v.what, .int .u8 v.by_, .int .u16 v.arg, .int .u8 v.src, .int .u8 v.route, .slice v.ao v.n v.cap]
def InV.cells (v : InV) : List Int := [v.c0, v.c1, v.c2, v.c3, v.c4, v.c5, v.c6, v.c7]
def InV.inp (v : InV) (ds : List Int) : H.Inp := { fuel := v.fuel, what := v.what, arg := v.arg, src := v.src, route := v.route, draws := ds }
/-- The numbers are of their widths. -/
structure InV.ok (v : InV) : Prop where
  what : 0 ≤ v.what ∧ v.what ≤ 255
  arg : 0 ≤ v.arg ∧ v.arg ≤ 65535
  src : 0 ≤ v.src ∧ v.src ≤ 255
  route : 0 ≤ v.route ∧ v.route ≤ 255
  cells : InR v.cells

/-- The draws that came in: where they lie. -/
structure Drawn (w : World) (v : InV) (ds : List Int) (base : Nat) : Prop where
  len : ds.length = v.n
  max : v.n ≤ maxLen
  row : ∃ bd off, (0 < v.n → v.ao = some ⟨bd, off, none⟩ ∧ bd < base) ∧ U16Row w bd off ds
  rng : InR ds

def stepArgs (b : Nat) (o a : Int) (v : InV) : Array Value := #[.pointer (some ⟨b, 0, none⟩), .agg #[.int .u8 o, .int .i64 a], .agg v.arr]

set_option maxRecDepth 100000 in
set_option maxHeartbeats 1000000 in
theorem step_push {w : World} {base b : Nat} {pile : List Int} {sv dv : Value} {M : H.Mach} (h : MB w base b pile sv dv M) (v : InV) (hv : v.ok) (ds : List Int) (hn0 : 0 ≤ M.next) (hn1 : M.next ≤ 900) (a : Int) (ha0 : 0 ≤ a) (ha1 : a ≤ 65535) :
    Calls Try.prog 58 (stepArgs b 1 a v) w fun e w' => e = .returned (.tuple #[]) ∧ Aft w base b (H.step 1 a (v.inp ds) M) w' := by
  obtain ⟨fuel, k0, k1, k2, k3, k4, k5, k6, k7, what, by_, arg, src, route, ao, n, cap⟩ := v
  unfold stepArgs InV.arr
  obtain ⟨⟨wh0, wh1⟩, ⟨ar0, ar1⟩, ⟨sr0, sr1⟩, ⟨ro0, ro1⟩, hcs⟩ := hv
  simp only at *
  obtain ⟨nx, hnx⟩ : ∃ nx, nx = M.next := ⟨_, rfl⟩
  obtain ⟨o1, ho1⟩ : ∃ o1, o1 = Obj.cells #[.int .u8 1, .int .i64 a] 52 := ⟨_, rfl⟩
  obtain ⟨o2, ho2⟩ : ∃ o2, o2 = Obj.cells #[.int .i64 fuel, .int .u16 k0, .int .u16 k1, .int .u16 k2, .int .u16 k3, .int .u16 k4, .int .u16 k5, .int .u16 k6, .int .u16 k7, .int .u8 what, .int .u8 by_, .int .u16 arg, .int .u8 src, .int .u8 route, .slice ao n cap] 112 := ⟨_, rfl⟩
  have r21 := h.c21
  have g21 := h.free 21
  rw [← hnx] at hn0 hn1 r21
  have hbl := h.blk.lt
  have hlt := h.lt
  have HM : Hid (MB (((w.setCell ⟨b, 21, none⟩ (.int .i64 (nx + 1))).alloc o1).alloc o2) base b pile sv dv { M with next := nx + 1 }) := ((h.set_next _).alloc o1).alloc o2
  have hsz : (w.setCell ⟨b, 21, none⟩ (.int .i64 (nx + 1))).heap.size = w.heap.size := by simp [World.setCell]
  have HF : Hid (Fr base w (((w.setCell ⟨b, 21, none⟩ (.int .i64 (nx + 1))).alloc o1).alloc o2)) := ((h.fr_set (Fr.refl base w) _ _).alloc (by omega) o1).alloc (by simp; omega) o2
  have HE : Hid (H.step 1 a (InV.inp ⟨fuel, k0, k1, k2, k3, k4, k5, k6, k7, what, by_, arg, src, route, ao, n, cap⟩ ds) M = H.push a { M with next := nx + 1 }) := by
    unfold Hid H.step
    rw [hnx]
    rfl
  have hb1 : ¬ b = w.heap.size := by omega
  have hb2 : ¬ b = w.heap.size + 1 := by omega
  have hb3 : ¬ w.heap.size = b := by omega
  have hb4 : ¬ w.heap.size + 1 = b := by omega
  subst ho1 ho2
  clear hcs hnx hsz
  have hw : IntKind.u16.wrap a = a := by rw [IntKind.wrap_u16]; omega
  go_enter Try.func58, Try.ntmps58
  go_wp2_with fail
  refine (push_any (M := { M with next := nx + 1 }) (by exact HM.out) a).mono ?_
  rintro e w1 ⟨rfl, ha⟩
  have HA : Hid (Aft w base b _ w1) := ⟨(After.aft ha).1, HF.out.trans (After.aft ha).2⟩
  clear ha
  go_wp2
  go_end0
  exact ⟨rfl, by rw [HE.out]; exact HA.out⟩

set_option maxRecDepth 100000 in
set_option maxHeartbeats 1000000 in
theorem step_what {w : World} {base b : Nat} {pile : List Int} {sv dv : Value} {M : H.Mach} (h : MB w base b pile sv dv M) (v : InV) (hv : v.ok) (ds : List Int) (hn0 : 0 ≤ M.next) (hn1 : M.next ≤ 900) :
    Calls Try.prog 58 (stepArgs b 18 0 v) w fun e w' => e = .returned (.tuple #[]) ∧ Aft w base b (H.step 18 0 (v.inp ds) M) w' := by
  obtain ⟨fuel, k0, k1, k2, k3, k4, k5, k6, k7, what, by_, arg, src, route, ao, n, cap⟩ := v
  unfold stepArgs InV.arr
  obtain ⟨⟨wh0, wh1⟩, ⟨ar0, ar1⟩, ⟨sr0, sr1⟩, ⟨ro0, ro1⟩, hcs⟩ := hv
  simp only at *
  obtain ⟨nx, hnx⟩ : ∃ nx, nx = M.next := ⟨_, rfl⟩
  obtain ⟨o1, ho1⟩ : ∃ o1, o1 = Obj.cells #[.int .u8 18, .int .i64 0] 52 := ⟨_, rfl⟩
  obtain ⟨o2, ho2⟩ : ∃ o2, o2 = Obj.cells #[.int .i64 fuel, .int .u16 k0, .int .u16 k1, .int .u16 k2, .int .u16 k3, .int .u16 k4, .int .u16 k5, .int .u16 k6, .int .u16 k7, .int .u8 what, .int .u8 by_, .int .u16 arg, .int .u8 src, .int .u8 route, .slice ao n cap] 112 := ⟨_, rfl⟩
  have r21 := h.c21
  have g21 := h.free 21
  rw [← hnx] at hn0 hn1 r21
  have hbl := h.blk.lt
  have hlt := h.lt
  have HM : Hid (MB (((w.setCell ⟨b, 21, none⟩ (.int .i64 (nx + 1))).alloc o1).alloc o2) base b pile sv dv { M with next := nx + 1 }) := ((h.set_next _).alloc o1).alloc o2
  have hsz : (w.setCell ⟨b, 21, none⟩ (.int .i64 (nx + 1))).heap.size = w.heap.size := by simp [World.setCell]
  have HF : Hid (Fr base w (((w.setCell ⟨b, 21, none⟩ (.int .i64 (nx + 1))).alloc o1).alloc o2)) := ((h.fr_set (Fr.refl base w) _ _).alloc (by omega) o1).alloc (by simp; omega) o2
  have HE : Hid (H.step 18 0 (InV.inp ⟨fuel, k0, k1, k2, k3, k4, k5, k6, k7, what, by_, arg, src, route, ao, n, cap⟩ ds) M = H.push what { M with next := nx + 1 }) := by
    unfold Hid H.step
    rw [hnx]
    rfl
  have hb1 : ¬ b = w.heap.size := by omega
  have hb2 : ¬ b = w.heap.size + 1 := by omega
  have hb3 : ¬ w.heap.size = b := by omega
  have hb4 : ¬ w.heap.size + 1 = b := by omega
  subst ho1 ho2
  clear hcs hnx hsz
  have hw : IntKind.u16.wrap what = what := by rw [IntKind.wrap_u16]; omega
  go_enter Try.func58, Try.ntmps58
  go_wp2_with fail
  refine (push_any (M := { M with next := nx + 1 }) (by exact HM.out) what).mono ?_
  rintro e w1 ⟨rfl, ha⟩
  have HA : Hid (Aft w base b _ w1) := ⟨(After.aft ha).1, HF.out.trans (After.aft ha).2⟩
  clear ha
  go_wp2
  go_end0
  exact ⟨rfl, by rw [HE.out]; exact HA.out⟩

set_option maxRecDepth 100000 in
set_option maxHeartbeats 1000000 in
theorem step_arg {w : World} {base b : Nat} {pile : List Int} {sv dv : Value} {M : H.Mach} (h : MB w base b pile sv dv M) (v : InV) (hv : v.ok) (ds : List Int) (hn0 : 0 ≤ M.next) (hn1 : M.next ≤ 900) :
    Calls Try.prog 58 (stepArgs b 19 0 v) w fun e w' => e = .returned (.tuple #[]) ∧ Aft w base b (H.step 19 0 (v.inp ds) M) w' := by
  obtain ⟨fuel, k0, k1, k2, k3, k4, k5, k6, k7, what, by_, arg, src, route, ao, n, cap⟩ := v
  unfold stepArgs InV.arr
  obtain ⟨⟨wh0, wh1⟩, ⟨ar0, ar1⟩, ⟨sr0, sr1⟩, ⟨ro0, ro1⟩, hcs⟩ := hv
  simp only at *
  obtain ⟨nx, hnx⟩ : ∃ nx, nx = M.next := ⟨_, rfl⟩
  obtain ⟨o1, ho1⟩ : ∃ o1, o1 = Obj.cells #[.int .u8 19, .int .i64 0] 52 := ⟨_, rfl⟩
  obtain ⟨o2, ho2⟩ : ∃ o2, o2 = Obj.cells #[.int .i64 fuel, .int .u16 k0, .int .u16 k1, .int .u16 k2, .int .u16 k3, .int .u16 k4, .int .u16 k5, .int .u16 k6, .int .u16 k7, .int .u8 what, .int .u8 by_, .int .u16 arg, .int .u8 src, .int .u8 route, .slice ao n cap] 112 := ⟨_, rfl⟩
  have r21 := h.c21
  have g21 := h.free 21
  rw [← hnx] at hn0 hn1 r21
  have hbl := h.blk.lt
  have hlt := h.lt
  have HM : Hid (MB (((w.setCell ⟨b, 21, none⟩ (.int .i64 (nx + 1))).alloc o1).alloc o2) base b pile sv dv { M with next := nx + 1 }) := ((h.set_next _).alloc o1).alloc o2
  have hsz : (w.setCell ⟨b, 21, none⟩ (.int .i64 (nx + 1))).heap.size = w.heap.size := by simp [World.setCell]
  have HF : Hid (Fr base w (((w.setCell ⟨b, 21, none⟩ (.int .i64 (nx + 1))).alloc o1).alloc o2)) := ((h.fr_set (Fr.refl base w) _ _).alloc (by omega) o1).alloc (by simp; omega) o2
  have HE : Hid (H.step 19 0 (InV.inp ⟨fuel, k0, k1, k2, k3, k4, k5, k6, k7, what, by_, arg, src, route, ao, n, cap⟩ ds) M = H.push arg { M with next := nx + 1 }) := by
    unfold Hid H.step
    rw [hnx]
    rfl
  have hb1 : ¬ b = w.heap.size := by omega
  have hb2 : ¬ b = w.heap.size + 1 := by omega
  have hb3 : ¬ w.heap.size = b := by omega
  have hb4 : ¬ w.heap.size + 1 = b := by omega
  subst ho1 ho2
  clear hcs hnx hsz
  go_enter Try.func58, Try.ntmps58
  go_wp2_with fail
  refine (push_any (M := { M with next := nx + 1 }) (by exact HM.out) arg).mono ?_
  rintro e w1 ⟨rfl, ha⟩
  have HA : Hid (Aft w base b _ w1) := ⟨(After.aft ha).1, HF.out.trans (After.aft ha).2⟩
  clear ha
  go_wp2
  go_end0
  exact ⟨rfl, by rw [HE.out]; exact HA.out⟩

set_option maxRecDepth 100000 in
set_option maxHeartbeats 1000000 in
theorem step_src {w : World} {base b : Nat} {pile : List Int} {sv dv : Value} {M : H.Mach} (h : MB w base b pile sv dv M) (v : InV) (hv : v.ok) (ds : List Int) (hn0 : 0 ≤ M.next) (hn1 : M.next ≤ 900) :
    Calls Try.prog 58 (stepArgs b 20 0 v) w fun e w' => e = .returned (.tuple #[]) ∧ Aft w base b (H.step 20 0 (v.inp ds) M) w' := by
  obtain ⟨fuel, k0, k1, k2, k3, k4, k5, k6, k7, what, by_, arg, src, route, ao, n, cap⟩ := v
  unfold stepArgs InV.arr
  obtain ⟨⟨wh0, wh1⟩, ⟨ar0, ar1⟩, ⟨sr0, sr1⟩, ⟨ro0, ro1⟩, hcs⟩ := hv
  simp only at *
  obtain ⟨nx, hnx⟩ : ∃ nx, nx = M.next := ⟨_, rfl⟩
  obtain ⟨o1, ho1⟩ : ∃ o1, o1 = Obj.cells #[.int .u8 20, .int .i64 0] 52 := ⟨_, rfl⟩
  obtain ⟨o2, ho2⟩ : ∃ o2, o2 = Obj.cells #[.int .i64 fuel, .int .u16 k0, .int .u16 k1, .int .u16 k2, .int .u16 k3, .int .u16 k4, .int .u16 k5, .int .u16 k6, .int .u16 k7, .int .u8 what, .int .u8 by_, .int .u16 arg, .int .u8 src, .int .u8 route, .slice ao n cap] 112 := ⟨_, rfl⟩
  have r21 := h.c21
  have g21 := h.free 21
  rw [← hnx] at hn0 hn1 r21
  have hbl := h.blk.lt
  have hlt := h.lt
  have HM : Hid (MB (((w.setCell ⟨b, 21, none⟩ (.int .i64 (nx + 1))).alloc o1).alloc o2) base b pile sv dv { M with next := nx + 1 }) := ((h.set_next _).alloc o1).alloc o2
  have hsz : (w.setCell ⟨b, 21, none⟩ (.int .i64 (nx + 1))).heap.size = w.heap.size := by simp [World.setCell]
  have HF : Hid (Fr base w (((w.setCell ⟨b, 21, none⟩ (.int .i64 (nx + 1))).alloc o1).alloc o2)) := ((h.fr_set (Fr.refl base w) _ _).alloc (by omega) o1).alloc (by simp; omega) o2
  have HE : Hid (H.step 20 0 (InV.inp ⟨fuel, k0, k1, k2, k3, k4, k5, k6, k7, what, by_, arg, src, route, ao, n, cap⟩ ds) M = H.push src { M with next := nx + 1 }) := by
    unfold Hid H.step
    rw [hnx]
    rfl
  have hb1 : ¬ b = w.heap.size := by omega
  have hb2 : ¬ b = w.heap.size + 1 := by omega
  have hb3 : ¬ w.heap.size = b := by omega
  have hb4 : ¬ w.heap.size + 1 = b := by omega
  subst ho1 ho2
  clear hcs hnx hsz
  have hw : IntKind.u16.wrap src = src := by rw [IntKind.wrap_u16]; omega
  go_enter Try.func58, Try.ntmps58
  go_wp2_with fail
  refine (push_any (M := { M with next := nx + 1 }) (by exact HM.out) src).mono ?_
  rintro e w1 ⟨rfl, ha⟩
  have HA : Hid (Aft w base b _ w1) := ⟨(After.aft ha).1, HF.out.trans (After.aft ha).2⟩
  clear ha
  go_wp2
  go_end0
  exact ⟨rfl, by rw [HE.out]; exact HA.out⟩

set_option maxRecDepth 100000 in
set_option maxHeartbeats 1000000 in
theorem step_route {w : World} {base b : Nat} {pile : List Int} {sv dv : Value} {M : H.Mach} (h : MB w base b pile sv dv M) (v : InV) (hv : v.ok) (ds : List Int) (hn0 : 0 ≤ M.next) (hn1 : M.next ≤ 900) :
    Calls Try.prog 58 (stepArgs b 21 0 v) w fun e w' => e = .returned (.tuple #[]) ∧ Aft w base b (H.step 21 0 (v.inp ds) M) w' := by
  obtain ⟨fuel, k0, k1, k2, k3, k4, k5, k6, k7, what, by_, arg, src, route, ao, n, cap⟩ := v
  unfold stepArgs InV.arr
  obtain ⟨⟨wh0, wh1⟩, ⟨ar0, ar1⟩, ⟨sr0, sr1⟩, ⟨ro0, ro1⟩, hcs⟩ := hv
  simp only at *
  obtain ⟨nx, hnx⟩ : ∃ nx, nx = M.next := ⟨_, rfl⟩
  obtain ⟨o1, ho1⟩ : ∃ o1, o1 = Obj.cells #[.int .u8 21, .int .i64 0] 52 := ⟨_, rfl⟩
  obtain ⟨o2, ho2⟩ : ∃ o2, o2 = Obj.cells #[.int .i64 fuel, .int .u16 k0, .int .u16 k1, .int .u16 k2, .int .u16 k3, .int .u16 k4, .int .u16 k5, .int .u16 k6, .int .u16 k7, .int .u8 what, .int .u8 by_, .int .u16 arg, .int .u8 src, .int .u8 route, .slice ao n cap] 112 := ⟨_, rfl⟩
  have r21 := h.c21
  have g21 := h.free 21
  rw [← hnx] at hn0 hn1 r21
  have hbl := h.blk.lt
  have hlt := h.lt
  have HM : Hid (MB (((w.setCell ⟨b, 21, none⟩ (.int .i64 (nx + 1))).alloc o1).alloc o2) base b pile sv dv { M with next := nx + 1 }) := ((h.set_next _).alloc o1).alloc o2
  have hsz : (w.setCell ⟨b, 21, none⟩ (.int .i64 (nx + 1))).heap.size = w.heap.size := by simp [World.setCell]
  have HF : Hid (Fr base w (((w.setCell ⟨b, 21, none⟩ (.int .i64 (nx + 1))).alloc o1).alloc o2)) := ((h.fr_set (Fr.refl base w) _ _).alloc (by omega) o1).alloc (by simp; omega) o2
  have HE : Hid (H.step 21 0 (InV.inp ⟨fuel, k0, k1, k2, k3, k4, k5, k6, k7, what, by_, arg, src, route, ao, n, cap⟩ ds) M = H.push route { M with next := nx + 1 }) := by
    unfold Hid H.step
    rw [hnx]
    rfl
  have hb1 : ¬ b = w.heap.size := by omega
  have hb2 : ¬ b = w.heap.size + 1 := by omega
  have hb3 : ¬ w.heap.size = b := by omega
  have hb4 : ¬ w.heap.size + 1 = b := by omega
  subst ho1 ho2
  clear hcs hnx hsz
  have hw : IntKind.u16.wrap route = route := by rw [IntKind.wrap_u16]; omega
  go_enter Try.func58, Try.ntmps58
  go_wp2_with fail
  refine (push_any (M := { M with next := nx + 1 }) (by exact HM.out) route).mono ?_
  rintro e w1 ⟨rfl, ha⟩
  have HA : Hid (Aft w base b _ w1) := ⟨(After.aft ha).1, HF.out.trans (After.aft ha).2⟩
  clear ha
  go_wp2
  go_end0
  exact ⟨rfl, by rw [HE.out]; exact HA.out⟩

set_option maxRecDepth 100000 in
set_option maxHeartbeats 1000000 in
theorem step_if {w : World} {base b : Nat} {pile : List Int} {sv dv : Value} {M : H.Mach} (h : MB w base b pile sv dv M) (v : InV) (hv : v.ok) (ds : List Int) (hn0 : 0 ≤ M.next) (hn1 : M.next ≤ 900) (a : Int) (ha0 : -128 ≤ a) (ha1 : a ≤ 127) :
    Calls Try.prog 58 (stepArgs b 17 a v) w fun e w' => e = .returned (.tuple #[]) ∧ Aft w base b (H.step 17 a (v.inp ds) M) w' := by
  obtain ⟨fuel, k0, k1, k2, k3, k4, k5, k6, k7, what, by_, arg, src, route, ao, n, cap⟩ := v
  unfold stepArgs InV.arr
  obtain ⟨⟨wh0, wh1⟩, ⟨ar0, ar1⟩, ⟨sr0, sr1⟩, ⟨ro0, ro1⟩, hcs⟩ := hv
  simp only at *
  obtain ⟨nx, hnx⟩ : ∃ nx, nx = M.next := ⟨_, rfl⟩
  obtain ⟨o1, ho1⟩ : ∃ o1, o1 = Obj.cells #[.int .u8 17, .int .i64 a] 52 := ⟨_, rfl⟩
  obtain ⟨o2, ho2⟩ : ∃ o2, o2 = Obj.cells #[.int .i64 fuel, .int .u16 k0, .int .u16 k1, .int .u16 k2, .int .u16 k3, .int .u16 k4, .int .u16 k5, .int .u16 k6, .int .u16 k7, .int .u8 what, .int .u8 by_, .int .u16 arg, .int .u8 src, .int .u8 route, .slice ao n cap] 112 := ⟨_, rfl⟩
  have r21 := h.c21
  have g21 := h.free 21
  rw [← hnx] at hn0 hn1 r21
  have hbl := h.blk.lt
  have hlt := h.lt
  have HM : Hid (MB (((w.setCell ⟨b, 21, none⟩ (.int .i64 (nx + 1))).alloc o1).alloc o2) base b pile sv dv { M with next := nx + 1 }) := ((h.set_next _).alloc o1).alloc o2
  have hsz : (w.setCell ⟨b, 21, none⟩ (.int .i64 (nx + 1))).heap.size = w.heap.size := by simp [World.setCell]
  have HF : Hid (Fr base w (((w.setCell ⟨b, 21, none⟩ (.int .i64 (nx + 1))).alloc o1).alloc o2)) := ((h.fr_set (Fr.refl base w) _ _).alloc (by omega) o1).alloc (by simp; omega) o2
  have HE : Hid (H.step 17 a (InV.inp ⟨fuel, k0, k1, k2, k3, k4, k5, k6, k7, what, by_, arg, src, route, ao, n, cap⟩ ds) M = H.jumpIf a { M with next := nx + 1 }) := by
    unfold Hid H.step
    rw [hnx]
    rfl
  have hb1 : ¬ b = w.heap.size := by omega
  have hb2 : ¬ b = w.heap.size + 1 := by omega
  have hb3 : ¬ w.heap.size = b := by omega
  have hb4 : ¬ w.heap.size + 1 = b := by omega
  subst ho1 ho2
  clear hcs hnx hsz
  go_enter Try.func58, Try.ntmps58
  go_wp2_with fail
  refine (jumpIf_any (M := { M with next := nx + 1 }) (by exact HM.out) a (by omega) (by omega) (by show _ ≤ nx + 1; omega) (by show nx + 1 ≤ _; omega)).mono ?_
  rintro e w1 ⟨rfl, ha⟩
  have HA : Hid (Aft w base b _ w1) := ⟨(After.aft ha).1, HF.out.trans (After.aft ha).2⟩
  clear ha
  go_wp2
  go_end0
  exact ⟨rfl, by rw [HE.out]; exact HA.out⟩

set_option maxRecDepth 100000 in
set_option maxHeartbeats 1000000 in
theorem step_char {w : World} {base b : Nat} {pile : List Int} {sv dv : Value} {M : H.Mach} (h : MB w base b pile sv dv M) (v : InV) (hv : v.ok) (ds : List Int) (hn0 : 0 ≤ M.next) (hn1 : M.next ≤ 900) (hr : InR M.st) (ht : M.text.size ≤ 1000) :
    Calls Try.prog 58 (stepArgs b 23 0 v) w fun e w' => e = .returned (.tuple #[]) ∧ Aft w base b (H.step 23 0 (v.inp ds) M) w' := by
  obtain ⟨fuel, k0, k1, k2, k3, k4, k5, k6, k7, what, by_, arg, src, route, ao, n, cap⟩ := v
  unfold stepArgs InV.arr
  obtain ⟨⟨wh0, wh1⟩, ⟨ar0, ar1⟩, ⟨sr0, sr1⟩, ⟨ro0, ro1⟩, hcs⟩ := hv
  simp only at *
  obtain ⟨nx, hnx⟩ : ∃ nx, nx = M.next := ⟨_, rfl⟩
  obtain ⟨o1, ho1⟩ : ∃ o1, o1 = Obj.cells #[.int .u8 23, .int .i64 0] 52 := ⟨_, rfl⟩
  obtain ⟨o2, ho2⟩ : ∃ o2, o2 = Obj.cells #[.int .i64 fuel, .int .u16 k0, .int .u16 k1, .int .u16 k2, .int .u16 k3, .int .u16 k4, .int .u16 k5, .int .u16 k6, .int .u16 k7, .int .u8 what, .int .u8 by_, .int .u16 arg, .int .u8 src, .int .u8 route, .slice ao n cap] 112 := ⟨_, rfl⟩
  have r21 := h.c21
  have g21 := h.free 21
  rw [← hnx] at hn0 hn1 r21
  have hbl := h.blk.lt
  have hlt := h.lt
  have HM : Hid (MB (((w.setCell ⟨b, 21, none⟩ (.int .i64 (nx + 1))).alloc o1).alloc o2) base b pile sv dv { M with next := nx + 1 }) := ((h.set_next _).alloc o1).alloc o2
  have hsz : (w.setCell ⟨b, 21, none⟩ (.int .i64 (nx + 1))).heap.size = w.heap.size := by simp [World.setCell]
  have HF : Hid (Fr base w (((w.setCell ⟨b, 21, none⟩ (.int .i64 (nx + 1))).alloc o1).alloc o2)) := ((h.fr_set (Fr.refl base w) _ _).alloc (by omega) o1).alloc (by simp; omega) o2
  have HE : Hid (H.step 23 0 (InV.inp ⟨fuel, k0, k1, k2, k3, k4, k5, k6, k7, what, by_, arg, src, route, ao, n, cap⟩ ds) M = H.char { M with next := nx + 1 }) := by
    unfold Hid H.step
    rw [hnx]
    rfl
  have hb1 : ¬ b = w.heap.size := by omega
  have hb2 : ¬ b = w.heap.size + 1 := by omega
  have hb3 : ¬ w.heap.size = b := by omega
  have hb4 : ¬ w.heap.size + 1 = b := by omega
  subst ho1 ho2
  clear hcs hnx hsz
  go_enter Try.func58, Try.ntmps58
  go_wp2_with fail
  refine (charM_any (M := { M with next := nx + 1 }) (by exact HM.out) hr ht).mono ?_
  rintro e w1 ⟨rfl, ha⟩
  have HA : Hid (Aft w base b _ w1) := ⟨(After.aft ha).1, HF.out.trans (After.aft ha).2⟩
  clear ha
  go_wp2
  go_end0
  exact ⟨rfl, by rw [HE.out]; exact HA.out⟩

set_option maxRecDepth 100000 in
set_option maxHeartbeats 1000000 in
theorem step_show {w : World} {base b : Nat} {pile : List Int} {sv dv : Value} {M : H.Mach} (h : MB w base b pile sv dv M) (v : InV) (hv : v.ok) (ds : List Int) (hn0 : 0 ≤ M.next) (hn1 : M.next ≤ 900) :
    Calls Try.prog 58 (stepArgs b 24 0 v) w fun e w' => e = .returned (.tuple #[]) ∧ Aft w base b (H.step 24 0 (v.inp ds) M) w' := by
  obtain ⟨fuel, k0, k1, k2, k3, k4, k5, k6, k7, what, by_, arg, src, route, ao, n, cap⟩ := v
  unfold stepArgs InV.arr
  obtain ⟨⟨wh0, wh1⟩, ⟨ar0, ar1⟩, ⟨sr0, sr1⟩, ⟨ro0, ro1⟩, hcs⟩ := hv
  simp only at *
  obtain ⟨nx, hnx⟩ : ∃ nx, nx = M.next := ⟨_, rfl⟩
  obtain ⟨o1, ho1⟩ : ∃ o1, o1 = Obj.cells #[.int .u8 24, .int .i64 0] 52 := ⟨_, rfl⟩
  obtain ⟨o2, ho2⟩ : ∃ o2, o2 = Obj.cells #[.int .i64 fuel, .int .u16 k0, .int .u16 k1, .int .u16 k2, .int .u16 k3, .int .u16 k4, .int .u16 k5, .int .u16 k6, .int .u16 k7, .int .u8 what, .int .u8 by_, .int .u16 arg, .int .u8 src, .int .u8 route, .slice ao n cap] 112 := ⟨_, rfl⟩
  have r21 := h.c21
  have g21 := h.free 21
  rw [← hnx] at hn0 hn1 r21
  have hbl := h.blk.lt
  have hlt := h.lt
  have HM : Hid (MB (((w.setCell ⟨b, 21, none⟩ (.int .i64 (nx + 1))).alloc o1).alloc o2) base b pile sv dv { M with next := nx + 1 }) := ((h.set_next _).alloc o1).alloc o2
  have hsz : (w.setCell ⟨b, 21, none⟩ (.int .i64 (nx + 1))).heap.size = w.heap.size := by simp [World.setCell]
  have HF : Hid (Fr base w (((w.setCell ⟨b, 21, none⟩ (.int .i64 (nx + 1))).alloc o1).alloc o2)) := ((h.fr_set (Fr.refl base w) _ _).alloc (by omega) o1).alloc (by simp; omega) o2
  have HE : Hid (H.step 24 0 (InV.inp ⟨fuel, k0, k1, k2, k3, k4, k5, k6, k7, what, by_, arg, src, route, ao, n, cap⟩ ds) M = H.showM { M with next := nx + 1 }) := by
    unfold Hid H.step
    rw [hnx]
    rfl
  have hb1 : ¬ b = w.heap.size := by omega
  have hb2 : ¬ b = w.heap.size + 1 := by omega
  have hb3 : ¬ w.heap.size = b := by omega
  have hb4 : ¬ w.heap.size + 1 = b := by omega
  subst ho1 ho2
  clear hcs hnx hsz
  go_enter Try.func58, Try.ntmps58
  go_wp2_with fail
  refine (show_any (M := { M with next := nx + 1 }) (by exact HM.out)).mono ?_
  rintro e w1 ⟨rfl, ha⟩
  have HA : Hid (Aft w base b _ w1) := ⟨ha.1, HF.out.trans ha.2⟩
  clear ha
  go_wp2
  go_end0
  exact ⟨rfl, by rw [HE.out]; exact HA.out⟩

set_option maxRecDepth 100000 in
set_option maxHeartbeats 1000000 in
theorem step_send {w : World} {base b : Nat} {pile : List Int} {sv dv : Value} {M : H.Mach} (h : MB w base b pile sv dv M) (v : InV) (hv : v.ok) (ds : List Int) (hn0 : 0 ≤ M.next) (hn1 : M.next ≤ 900) (a : Int) (ha0 : 0 ≤ a) (ha1 : a < 4) :
    Calls Try.prog 58 (stepArgs b 25 a v) w fun e w' => e = .returned (.tuple #[]) ∧ Aft w base b (H.step 25 a (v.inp ds) M) w' := by
  obtain ⟨fuel, k0, k1, k2, k3, k4, k5, k6, k7, what, by_, arg, src, route, ao, n, cap⟩ := v
  unfold stepArgs InV.arr
  obtain ⟨⟨wh0, wh1⟩, ⟨ar0, ar1⟩, ⟨sr0, sr1⟩, ⟨ro0, ro1⟩, hcs⟩ := hv
  simp only at *
  obtain ⟨nx, hnx⟩ : ∃ nx, nx = M.next := ⟨_, rfl⟩
  obtain ⟨o1, ho1⟩ : ∃ o1, o1 = Obj.cells #[.int .u8 25, .int .i64 a] 52 := ⟨_, rfl⟩
  obtain ⟨o2, ho2⟩ : ∃ o2, o2 = Obj.cells #[.int .i64 fuel, .int .u16 k0, .int .u16 k1, .int .u16 k2, .int .u16 k3, .int .u16 k4, .int .u16 k5, .int .u16 k6, .int .u16 k7, .int .u8 what, .int .u8 by_, .int .u16 arg, .int .u8 src, .int .u8 route, .slice ao n cap] 112 := ⟨_, rfl⟩
  have r21 := h.c21
  have g21 := h.free 21
  rw [← hnx] at hn0 hn1 r21
  have hbl := h.blk.lt
  have hlt := h.lt
  have HM : Hid (MB (((w.setCell ⟨b, 21, none⟩ (.int .i64 (nx + 1))).alloc o1).alloc o2) base b pile sv dv { M with next := nx + 1 }) := ((h.set_next _).alloc o1).alloc o2
  have hsz : (w.setCell ⟨b, 21, none⟩ (.int .i64 (nx + 1))).heap.size = w.heap.size := by simp [World.setCell]
  have HF : Hid (Fr base w (((w.setCell ⟨b, 21, none⟩ (.int .i64 (nx + 1))).alloc o1).alloc o2)) := ((h.fr_set (Fr.refl base w) _ _).alloc (by omega) o1).alloc (by simp; omega) o2
  have HE : Hid (H.step 25 a (InV.inp ⟨fuel, k0, k1, k2, k3, k4, k5, k6, k7, what, by_, arg, src, route, ao, n, cap⟩ ds) M = H.send a { M with next := nx + 1 }) := by
    unfold Hid H.step
    rw [hnx]
    rfl
  have hb1 : ¬ b = w.heap.size := by omega
  have hb2 : ¬ b = w.heap.size + 1 := by omega
  have hb3 : ¬ w.heap.size = b := by omega
  have hb4 : ¬ w.heap.size + 1 = b := by omega
  subst ho1 ho2
  clear hcs hnx hsz
  have hw : IntKind.u8.wrap a = a := by rw [IntKind.wrap_u8']; omega
  go_enter Try.func58, Try.ntmps58
  go_wp2_with fail
  refine (send_any (M := { M with next := nx + 1 }) (by exact HM.out) a).mono ?_
  rintro e w1 ⟨rfl, ha⟩
  have HA : Hid (Aft w base b _ w1) := ⟨ha.1, HF.out.trans ha.2⟩
  clear ha
  go_wp2
  go_end0
  exact ⟨rfl, by rw [HE.out]; exact HA.out⟩

set_option maxRecDepth 100000 in
set_option maxHeartbeats 1000000 in
theorem step_copy {w : World} {base b : Nat} {pile : List Int} {sv dv : Value} {M : H.Mach} (h : MB w base b pile sv dv M) (v : InV) (hv : v.ok) (ds : List Int) (hn0 : 0 ≤ M.next) (hn1 : M.next ≤ 900) :
    Calls Try.prog 58 (stepArgs b 26 0 v) w fun e w' => e = .returned (.tuple #[]) ∧ Aft w base b (H.step 26 0 (v.inp ds) M) w' := by
  obtain ⟨fuel, k0, k1, k2, k3, k4, k5, k6, k7, what, by_, arg, src, route, ao, n, cap⟩ := v
  unfold stepArgs InV.arr
  obtain ⟨⟨wh0, wh1⟩, ⟨ar0, ar1⟩, ⟨sr0, sr1⟩, ⟨ro0, ro1⟩, hcs⟩ := hv
  simp only at *
  obtain ⟨nx, hnx⟩ : ∃ nx, nx = M.next := ⟨_, rfl⟩
  obtain ⟨o1, ho1⟩ : ∃ o1, o1 = Obj.cells #[.int .u8 26, .int .i64 0] 52 := ⟨_, rfl⟩
  obtain ⟨o2, ho2⟩ : ∃ o2, o2 = Obj.cells #[.int .i64 fuel, .int .u16 k0, .int .u16 k1, .int .u16 k2, .int .u16 k3, .int .u16 k4, .int .u16 k5, .int .u16 k6, .int .u16 k7, .int .u8 what, .int .u8 by_, .int .u16 arg, .int .u8 src, .int .u8 route, .slice ao n cap] 112 := ⟨_, rfl⟩
  have r21 := h.c21
  have g21 := h.free 21
  rw [← hnx] at hn0 hn1 r21
  have hbl := h.blk.lt
  have hlt := h.lt
  have HM : Hid (MB (((w.setCell ⟨b, 21, none⟩ (.int .i64 (nx + 1))).alloc o1).alloc o2) base b pile sv dv { M with next := nx + 1 }) := ((h.set_next _).alloc o1).alloc o2
  have hsz : (w.setCell ⟨b, 21, none⟩ (.int .i64 (nx + 1))).heap.size = w.heap.size := by simp [World.setCell]
  have HF : Hid (Fr base w (((w.setCell ⟨b, 21, none⟩ (.int .i64 (nx + 1))).alloc o1).alloc o2)) := ((h.fr_set (Fr.refl base w) _ _).alloc (by omega) o1).alloc (by simp; omega) o2
  have HE : Hid (H.step 26 0 (InV.inp ⟨fuel, k0, k1, k2, k3, k4, k5, k6, k7, what, by_, arg, src, route, ao, n, cap⟩ ds) M = H.double { M with next := nx + 1 }) := by
    unfold Hid H.step
    rw [hnx]
    rfl
  have hb1 : ¬ b = w.heap.size := by omega
  have hb2 : ¬ b = w.heap.size + 1 := by omega
  have hb3 : ¬ w.heap.size = b := by omega
  have hb4 : ¬ w.heap.size + 1 = b := by omega
  subst ho1 ho2
  clear hcs hnx hsz
  go_enter Try.func58, Try.ntmps58
  go_wp2_with fail
  refine (double_any (M := { M with next := nx + 1 }) (by exact HM.out)).mono ?_
  rintro e w1 ⟨rfl, ha⟩
  have HA : Hid (Aft w base b _ w1) := ⟨(After.aft ha).1, HF.out.trans (After.aft ha).2⟩
  clear ha
  go_wp2
  go_end0
  exact ⟨rfl, by rw [HE.out]; exact HA.out⟩

set_option maxRecDepth 100000 in
set_option maxHeartbeats 1000000 in
theorem step_drop {w : World} {base b : Nat} {pile : List Int} {sv dv : Value} {M : H.Mach} (h : MB w base b pile sv dv M) (v : InV) (hv : v.ok) (ds : List Int) (hn0 : 0 ≤ M.next) (hn1 : M.next ≤ 900) :
    Calls Try.prog 58 (stepArgs b 27 0 v) w fun e w' => e = .returned (.tuple #[]) ∧ Aft w base b (H.step 27 0 (v.inp ds) M) w' := by
  obtain ⟨fuel, k0, k1, k2, k3, k4, k5, k6, k7, what, by_, arg, src, route, ao, n, cap⟩ := v
  unfold stepArgs InV.arr
  obtain ⟨⟨wh0, wh1⟩, ⟨ar0, ar1⟩, ⟨sr0, sr1⟩, ⟨ro0, ro1⟩, hcs⟩ := hv
  simp only at *
  obtain ⟨nx, hnx⟩ : ∃ nx, nx = M.next := ⟨_, rfl⟩
  obtain ⟨o1, ho1⟩ : ∃ o1, o1 = Obj.cells #[.int .u8 27, .int .i64 0] 52 := ⟨_, rfl⟩
  obtain ⟨o2, ho2⟩ : ∃ o2, o2 = Obj.cells #[.int .i64 fuel, .int .u16 k0, .int .u16 k1, .int .u16 k2, .int .u16 k3, .int .u16 k4, .int .u16 k5, .int .u16 k6, .int .u16 k7, .int .u8 what, .int .u8 by_, .int .u16 arg, .int .u8 src, .int .u8 route, .slice ao n cap] 112 := ⟨_, rfl⟩
  have r21 := h.c21
  have g21 := h.free 21
  rw [← hnx] at hn0 hn1 r21
  have hbl := h.blk.lt
  have hlt := h.lt
  have HM : Hid (MB (((w.setCell ⟨b, 21, none⟩ (.int .i64 (nx + 1))).alloc o1).alloc o2) base b pile sv dv { M with next := nx + 1 }) := ((h.set_next _).alloc o1).alloc o2
  have hsz : (w.setCell ⟨b, 21, none⟩ (.int .i64 (nx + 1))).heap.size = w.heap.size := by simp [World.setCell]
  have HF : Hid (Fr base w (((w.setCell ⟨b, 21, none⟩ (.int .i64 (nx + 1))).alloc o1).alloc o2)) := ((h.fr_set (Fr.refl base w) _ _).alloc (by omega) o1).alloc (by simp; omega) o2
  have HE : Hid (H.step 27 0 (InV.inp ⟨fuel, k0, k1, k2, k3, k4, k5, k6, k7, what, by_, arg, src, route, ao, n, cap⟩ ds) M = H.popM { M with next := nx + 1 }) := by
    unfold Hid H.step
    rw [hnx]
    rfl
  have hb1 : ¬ b = w.heap.size := by omega
  have hb2 : ¬ b = w.heap.size + 1 := by omega
  have hb3 : ¬ w.heap.size = b := by omega
  have hb4 : ¬ w.heap.size + 1 = b := by omega
  subst ho1 ho2
  clear hcs hnx hsz
  go_enter Try.func58, Try.ntmps58
  go_wp2_with fail
  refine (pop_any (M := { M with next := nx + 1 }) (by exact HM.out)).mono ?_
  rintro e w1 ⟨rfl, ha⟩
  have HA : Hid (Aft w base b _ w1) := ⟨(After.aft ha).1, HF.out.trans (After.aft ha).2⟩
  clear ha
  go_wp2
  go_end0
  exact ⟨rfl, by rw [HE.out]; exact HA.out⟩

set_option maxRecDepth 100000 in
set_option maxHeartbeats 1000000 in
theorem step_sum {w : World} {base b : Nat} {pile : List Int} {sv dv : Value} {M : H.Mach} (h : MB w base b pile sv dv M) (v : InV) (hv : v.ok) (ds : List Int) (hn0 : 0 ≤ M.next) (hn1 : M.next ≤ 900) (o : Int) (h4 : 4 ≤ o) (h15 : o ≤ 15) (hr : InR M.st) :
    Calls Try.prog 58 (stepArgs b o 0 v) w fun e w' => e = .returned (.tuple #[]) ∧ Aft w base b (H.step o 0 (v.inp ds) M) w' := by
  obtain ⟨fuel, k0, k1, k2, k3, k4, k5, k6, k7, what, by_, arg, src, route, ao, n, cap⟩ := v
  unfold stepArgs InV.arr
  obtain ⟨⟨wh0, wh1⟩, ⟨ar0, ar1⟩, ⟨sr0, sr1⟩, ⟨ro0, ro1⟩, hcs⟩ := hv
  simp only at *
  obtain ⟨nx, hnx⟩ : ∃ nx, nx = M.next := ⟨_, rfl⟩
  obtain ⟨o1, ho1⟩ : ∃ o1, o1 = Obj.cells #[.int .u8 o, .int .i64 0] 52 := ⟨_, rfl⟩
  obtain ⟨o2, ho2⟩ : ∃ o2, o2 = Obj.cells #[.int .i64 fuel, .int .u16 k0, .int .u16 k1, .int .u16 k2, .int .u16 k3, .int .u16 k4, .int .u16 k5, .int .u16 k6, .int .u16 k7, .int .u8 what, .int .u8 by_, .int .u16 arg, .int .u8 src, .int .u8 route, .slice ao n cap] 112 := ⟨_, rfl⟩
  have r21 := h.c21
  have g21 := h.free 21
  rw [← hnx] at hn0 hn1 r21
  have hbl := h.blk.lt
  have hlt := h.lt
  have HM : Hid (MB (((w.setCell ⟨b, 21, none⟩ (.int .i64 (nx + 1))).alloc o1).alloc o2) base b pile sv dv { M with next := nx + 1 }) := ((h.set_next _).alloc o1).alloc o2
  have hsz : (w.setCell ⟨b, 21, none⟩ (.int .i64 (nx + 1))).heap.size = w.heap.size := by simp [World.setCell]
  have HF : Hid (Fr base w (((w.setCell ⟨b, 21, none⟩ (.int .i64 (nx + 1))).alloc o1).alloc o2)) := ((h.fr_set (Fr.refl base w) _ _).alloc (by omega) o1).alloc (by simp; omega) o2
  have HE : Hid (H.step o 0 (InV.inp ⟨fuel, k0, k1, k2, k3, k4, k5, k6, k7, what, by_, arg, src, route, ao, n, cap⟩ ds) M = H.reckon o { M with next := nx + 1 }) := by
    unfold Hid H.step
    rw [hnx]
    unfold H.doOp; rw [if_neg (by omega), if_neg (by omega), if_neg (by omega), if_neg (by omega), if_neg (by omega), if_neg (by omega), if_neg (by omega), if_neg (by omega), if_neg (by omega), if_neg (by omega), if_neg (by omega), if_neg (by omega), if_neg (by omega), if_neg (by omega), if_neg (by omega), if_neg (by omega)]
  have hb1 : ¬ b = w.heap.size := by omega
  have hb2 : ¬ b = w.heap.size + 1 := by omega
  have hb3 : ¬ w.heap.size = b := by omega
  have hb4 : ¬ w.heap.size + 1 = b := by omega
  subst ho1 ho2
  clear hcs hnx hsz
  have q0 : (o == 0) = false := by rw [beq_eq_false_iff_ne]; omega
  have q1 : (o == 1) = false := by rw [beq_eq_false_iff_ne]; omega
  have q2 : (o == 2) = false := by rw [beq_eq_false_iff_ne]; omega
  have q3 : (o == 3) = false := by rw [beq_eq_false_iff_ne]; omega
  have q16 : (o == 16) = false := by rw [beq_eq_false_iff_ne]; omega
  have q17 : (o == 17) = false := by rw [beq_eq_false_iff_ne]; omega
  have q18 : (o == 18) = false := by rw [beq_eq_false_iff_ne]; omega
  have q19 : (o == 19) = false := by rw [beq_eq_false_iff_ne]; omega
  have q20 : (o == 20) = false := by rw [beq_eq_false_iff_ne]; omega
  have q21 : (o == 21) = false := by rw [beq_eq_false_iff_ne]; omega
  have q22 : (o == 22) = false := by rw [beq_eq_false_iff_ne]; omega
  have q23 : (o == 23) = false := by rw [beq_eq_false_iff_ne]; omega
  have q24 : (o == 24) = false := by rw [beq_eq_false_iff_ne]; omega
  have q25 : (o == 25) = false := by rw [beq_eq_false_iff_ne]; omega
  have q26 : (o == 26) = false := by rw [beq_eq_false_iff_ne]; omega
  have q27 : (o == 27) = false := by rw [beq_eq_false_iff_ne]; omega
  go_enter Try.func58, Try.ntmps58
  go_wp2_with fail
  refine (reckon_any (M := { M with next := nx + 1 }) (by exact HM.out) hr o h4 h15).mono ?_
  rintro e w1 ⟨rfl, ha⟩
  have HA : Hid (Aft w base b _ w1) := ⟨(After.aft ha).1, HF.out.trans (After.aft ha).2⟩
  clear ha
  go_wp2
  go_end0
  exact ⟨rfl, by rw [HE.out]; exact HA.out⟩

set_option maxRecDepth 100000 in
set_option maxHeartbeats 1000000 in
theorem step_draw {w : World} {base b : Nat} {pile : List Int} {sv dv : Value} {M : H.Mach} (h : MB w base b pile sv dv M) (v : InV) (hv : v.ok) (ds : List Int) (hn0 : 0 ≤ M.next) (hn1 : M.next ≤ 900) (hd : Drawn w v ds base) :
    Calls Try.prog 58 (stepArgs b 22 0 v) w fun e w' => e = .returned (.tuple #[]) ∧ Aft w base b (H.step 22 0 (v.inp ds) M) w' := by
  obtain ⟨fuel, k0, k1, k2, k3, k4, k5, k6, k7, what, by_, arg, src, route, ao, n, cap⟩ := v
  unfold stepArgs InV.arr
  obtain ⟨⟨wh0, wh1⟩, ⟨ar0, ar1⟩, ⟨sr0, sr1⟩, ⟨ro0, ro1⟩, hcs⟩ := hv
  simp only at *
  obtain ⟨nx, hnx⟩ : ∃ nx, nx = M.next := ⟨_, rfl⟩
  obtain ⟨o1, ho1⟩ : ∃ o1, o1 = Obj.cells #[.int .u8 22, .int .i64 0] 52 := ⟨_, rfl⟩
  obtain ⟨o2, ho2⟩ : ∃ o2, o2 = Obj.cells #[.int .i64 fuel, .int .u16 k0, .int .u16 k1, .int .u16 k2, .int .u16 k3, .int .u16 k4, .int .u16 k5, .int .u16 k6, .int .u16 k7, .int .u8 what, .int .u8 by_, .int .u16 arg, .int .u8 src, .int .u8 route, .slice ao n cap] 112 := ⟨_, rfl⟩
  have r21 := h.c21
  have g21 := h.free 21
  rw [← hnx] at hn0 hn1 r21
  have hbl := h.blk.lt
  have hlt := h.lt
  have HM : Hid (MB (((w.setCell ⟨b, 21, none⟩ (.int .i64 (nx + 1))).alloc o1).alloc o2) base b pile sv dv { M with next := nx + 1 }) := ((h.set_next _).alloc o1).alloc o2
  have hsz : (w.setCell ⟨b, 21, none⟩ (.int .i64 (nx + 1))).heap.size = w.heap.size := by simp [World.setCell]
  have HF : Hid (Fr base w (((w.setCell ⟨b, 21, none⟩ (.int .i64 (nx + 1))).alloc o1).alloc o2)) := ((h.fr_set (Fr.refl base w) _ _).alloc (by omega) o1).alloc (by simp; omega) o2
  have HE : Hid (H.step 22 0 (InV.inp ⟨fuel, k0, k1, k2, k3, k4, k5, k6, k7, what, by_, arg, src, route, ao, n, cap⟩ ds) M = H.draw ds { M with next := nx + 1 }) := by
    unfold Hid H.step
    rw [hnx]
    rfl
  have hb1 : ¬ b = w.heap.size := by omega
  have hb2 : ¬ b = w.heap.size + 1 := by omega
  have hb3 : ¬ w.heap.size = b := by omega
  have hb4 : ¬ w.heap.size + 1 = b := by omega
  subst ho1 ho2
  clear hcs hnx hsz
  obtain ⟨hlen, hmax, ⟨bd, off, hao, hrow⟩, _⟩ := hd
  simp only at hlen hmax hao
  have Hlen : Hid (ds.length = n) := hlen
  have Hmax : Hid (n ≤ maxLen) := hmax
  have HAo : Hid (0 < n → ao = some ⟨bd, off, none⟩) := fun h => (hao h).1
  have HR := show Hid (U16Row _ bd off ds) from fun i x hx => by
    have hi := (List.getElem?_eq_some_iff.1 hx).1
    have hbd := (hao (by omega)).2
    exact (HF.out.below.cell (p := ⟨bd, off + i, none⟩) hbd).trans (hrow i x hx)
  clear hlen hmax hao hrow
  go_enter Try.func58, Try.ntmps58
  go_wp2_with fail
  refine (draw_any (M := { M with next := nx + 1 }) (by exact HM.out) ao bd off n cap ds Hlen.out Hmax.out HAo.out (by exact HR.out)).mono ?_
  rintro e w1 ⟨rfl, ha⟩
  have HA : Hid (Aft w base b _ w1) := ⟨(After.aft ha).1, HF.out.trans (After.aft ha).2⟩
  clear ha
  go_wp2
  go_end0
  exact ⟨rfl, by rw [HE.out]; exact HA.out⟩

set_option maxRecDepth 100000 in
set_option maxHeartbeats 1000000 in
theorem step_end {w : World} {base b : Nat} {pile : List Int} {sv dv : Value} {M : H.Mach} (h : MB w base b pile sv dv M) (v : InV) (hv : v.ok) (ds : List Int) (hn0 : 0 ≤ M.next) (hn1 : M.next ≤ 900) :
    Calls Try.prog 58 (stepArgs b 0 0 v) w fun e w' => e = .returned (.tuple #[]) ∧ Aft w base b (H.step 0 0 (v.inp ds) M) w' := by
  obtain ⟨fuel, k0, k1, k2, k3, k4, k5, k6, k7, what, by_, arg, src, route, ao, n, cap⟩ := v
  unfold stepArgs InV.arr
  obtain ⟨⟨wh0, wh1⟩, ⟨ar0, ar1⟩, ⟨sr0, sr1⟩, ⟨ro0, ro1⟩, hcs⟩ := hv
  simp only at *
  obtain ⟨nx, hnx⟩ : ∃ nx, nx = M.next := ⟨_, rfl⟩
  obtain ⟨o1, ho1⟩ : ∃ o1, o1 = Obj.cells #[.int .u8 0, .int .i64 0] 52 := ⟨_, rfl⟩
  obtain ⟨o2, ho2⟩ : ∃ o2, o2 = Obj.cells #[.int .i64 fuel, .int .u16 k0, .int .u16 k1, .int .u16 k2, .int .u16 k3, .int .u16 k4, .int .u16 k5, .int .u16 k6, .int .u16 k7, .int .u8 what, .int .u8 by_, .int .u16 arg, .int .u8 src, .int .u8 route, .slice ao n cap] 112 := ⟨_, rfl⟩
  have r21 := h.c21
  have g21 := h.free 21
  rw [← hnx] at hn0 hn1 r21
  have hbl := h.blk.lt
  have hlt := h.lt
  have HM : Hid (MB (((w.setCell ⟨b, 21, none⟩ (.int .i64 (nx + 1))).alloc o1).alloc o2) base b pile sv dv { M with next := nx + 1 }) := ((h.set_next _).alloc o1).alloc o2
  have hsz : (w.setCell ⟨b, 21, none⟩ (.int .i64 (nx + 1))).heap.size = w.heap.size := by simp [World.setCell]
  have HF : Hid (Fr base w (((w.setCell ⟨b, 21, none⟩ (.int .i64 (nx + 1))).alloc o1).alloc o2)) := ((h.fr_set (Fr.refl base w) _ _).alloc (by omega) o1).alloc (by simp; omega) o2
  have HE : Hid (H.step 0 0 (InV.inp ⟨fuel, k0, k1, k2, k3, k4, k5, k6, k7, what, by_, arg, src, route, ao, n, cap⟩ ds) M = { M with next := nx + 1, ended := true }) := by
    unfold Hid H.step
    rw [hnx]
    rfl
  have hb1 : ¬ b = w.heap.size := by omega
  have hb2 : ¬ b = w.heap.size + 1 := by omega
  have hb3 : ¬ w.heap.size = b := by omega
  have hb4 : ¬ w.heap.size + 1 = b := by omega
  subst ho1 ho2
  clear hcs hnx hsz
  have r24 := h.c24
  have g24 := h.free 24
  have HM2 : Hid (∀ o1 o2, MB ((((w.setCell ⟨b, 21, none⟩ (.int .i64 (nx + 1))).setCell ⟨b, 24, none⟩ (.bool true)).alloc o1).alloc o2) base b pile sv dv { M with next := nx + 1, ended := true }) := fun o1 o2 => (((h.set_next _).set_ended true).alloc o1).alloc o2
  have HF2 : Hid (∀ o1 o2, Fr base w ((((w.setCell ⟨b, 21, none⟩ (.int .i64 (nx + 1))).setCell ⟨b, 24, none⟩ (.bool true)).alloc o1).alloc o2)) := fun o1 o2 => (((h.set_next _).fr_set (h.fr_set (Fr.refl base w) _ _) _ _).alloc (by simp [World.setCell]; omega) o1).alloc (by simp [World.setCell]; omega) o2
  go_enter Try.func58, Try.ntmps58
  go_wp2
  go_end0
  exact ⟨rfl, by rw [HE.out]; exact ⟨⟨_, _, _, HM2.out _ _⟩, HF2.out _ _⟩⟩

end Go.Proofs.Ytidaflmmldefcaa

/-
  The walk of step: Load, Store, Jump; and at every instruction.
-/
namespace Go.Proofs.Ytidaflmmldefcaa
open Go.RowKit
set_option linter.unusedVariables false

set_option maxRecDepth 100000 in
set_option maxHeartbeats 1000000 in
theorem step_load {w : World} {base b : Nat} {pile : List Int} {sv dv : Value} {M : H.Mach} (h : MB w base b pile sv dv M) (v : InV) (hv : v.ok) (ds : List Int) (hn0 : 0 ≤ M.next) (hn1 : M.next ≤ 900) (k : Nat) (hk : k < 8) :
    Calls Try.prog 58 (stepArgs b 2 (k : Int) v) w fun e w' => e = .returned (.tuple #[]) ∧ Aft w base b (H.step 2 (k : Int) (v.inp ds) M) w' := by
  obtain ⟨fuel, k0, k1, k2, k3, k4, k5, k6, k7, what, by_, arg, src, route, ao, n, cap⟩ := v
  unfold stepArgs InV.arr
  obtain ⟨⟨wh0, wh1⟩, ⟨ar0, ar1⟩, ⟨sr0, sr1⟩, ⟨ro0, ro1⟩, hcs⟩ := hv
  simp only at *
  obtain ⟨nx, hnx⟩ : ∃ nx, nx = M.next := ⟨_, rfl⟩
  obtain ⟨o1, ho1⟩ : ∃ o1, o1 = Obj.cells #[.int .u8 2, .int .i64 (k : Int)] 52 := ⟨_, rfl⟩
  obtain ⟨o2, ho2⟩ : ∃ o2, o2 = Obj.cells #[.int .i64 fuel, .int .u16 k0, .int .u16 k1, .int .u16 k2, .int .u16 k3, .int .u16 k4, .int .u16 k5, .int .u16 k6, .int .u16 k7, .int .u8 what, .int .u8 by_, .int .u16 arg, .int .u8 src, .int .u8 route, .slice ao n cap] 112 := ⟨_, rfl⟩
  have r21 := h.c21
  have g21 := h.free 21
  rw [← hnx] at hn0 hn1 r21
  have hbl := h.blk.lt
  have hlt := h.lt
  have HM : Hid (MB (((w.setCell ⟨b, 21, none⟩ (.int .i64 (nx + 1))).alloc o1).alloc o2) base b pile sv dv { M with next := nx + 1 }) := ((h.set_next _).alloc o1).alloc o2
  have hsz : (w.setCell ⟨b, 21, none⟩ (.int .i64 (nx + 1))).heap.size = w.heap.size := by simp [World.setCell]
  have HF : Hid (Fr base w (((w.setCell ⟨b, 21, none⟩ (.int .i64 (nx + 1))).alloc o1).alloc o2)) := ((h.fr_set (Fr.refl base w) _ _).alloc (by omega) o1).alloc (by simp; omega) o2
  have HE : Hid (H.step 2 (k : Int) (InV.inp ⟨fuel, k0, k1, k2, k3, k4, k5, k6, k7, what, by_, arg, src, route, ao, n, cap⟩ ds) M = H.push (M.cells.getD k 0) { M with next := nx + 1 }) := by
    unfold Hid H.step
    rw [hnx]
    rfl
  have hb1 : ¬ b = w.heap.size := by omega
  have hb2 : ¬ b = w.heap.size + 1 := by omega
  have hb3 : ¬ w.heap.size = b := by omega
  have hb4 : ¬ w.heap.size + 1 = b := by omega
  subst ho1 ho2
  clear hcs hnx hsz
  have rc := h.ccell k hk
  obtain ⟨ck, hck⟩ : ∃ ck, ck = M.cells.getD k 0 := ⟨_, rfl⟩
  rw [← hck] at rc HE
  have hk0 : (0 : Int) ≤ (k : Int) := by omega
  have hk1 : (k : Int) < 8 := by omega
  have hk2 : ¬ 9 + k = 21 := by omega
  have hk3 : ¬ 21 = 9 + k := by omega
  clear hck
  go_enter Try.func58, Try.ntmps58
  go_wp2_with fail
  go_region_with (go_at_call 60; refine (push_any (M := { M with next := nx + 1 }) (by exact HM.out.drew) ck).mono ?_; rintro e w1 ⟨rfl, ha⟩)
  have HA : Hid (Aft w base b _ w1) := ⟨(After.aft ha).1, HF.out.drew.trans (After.aft ha).2⟩
  clear ha
  go_wp2
  go_end0
  exact ⟨rfl, by rw [HE.out]; exact HA.out⟩

set_option maxRecDepth 100000 in
set_option maxHeartbeats 1000000 in
theorem step_jump {w : World} {base b : Nat} {pile : List Int} {sv dv : Value} {M : H.Mach} (h : MB w base b pile sv dv M) (v : InV) (hv : v.ok) (ds : List Int) (hn0 : 0 ≤ M.next) (hn1 : M.next ≤ 900) (a : Int) (ha0 : -128 ≤ a) (ha1 : a ≤ 127) :
    Calls Try.prog 58 (stepArgs b 16 a v) w fun e w' => e = .returned (.tuple #[]) ∧ Aft w base b (H.step 16 a (v.inp ds) M) w' := by
  obtain ⟨fuel, k0, k1, k2, k3, k4, k5, k6, k7, what, by_, arg, src, route, ao, n, cap⟩ := v
  unfold stepArgs InV.arr
  obtain ⟨⟨wh0, wh1⟩, ⟨ar0, ar1⟩, ⟨sr0, sr1⟩, ⟨ro0, ro1⟩, hcs⟩ := hv
  simp only at *
  obtain ⟨nx, hnx⟩ : ∃ nx, nx = M.next := ⟨_, rfl⟩
  obtain ⟨o1, ho1⟩ : ∃ o1, o1 = Obj.cells #[.int .u8 16, .int .i64 a] 52 := ⟨_, rfl⟩
  obtain ⟨o2, ho2⟩ : ∃ o2, o2 = Obj.cells #[.int .i64 fuel, .int .u16 k0, .int .u16 k1, .int .u16 k2, .int .u16 k3, .int .u16 k4, .int .u16 k5, .int .u16 k6, .int .u16 k7, .int .u8 what, .int .u8 by_, .int .u16 arg, .int .u8 src, .int .u8 route, .slice ao n cap] 112 := ⟨_, rfl⟩
  have r21 := h.c21
  have g21 := h.free 21
  rw [← hnx] at hn0 hn1 r21
  have hbl := h.blk.lt
  have hlt := h.lt
  have HM : Hid (MB (((w.setCell ⟨b, 21, none⟩ (.int .i64 (nx + 1))).alloc o1).alloc o2) base b pile sv dv { M with next := nx + 1 }) := ((h.set_next _).alloc o1).alloc o2
  have hsz : (w.setCell ⟨b, 21, none⟩ (.int .i64 (nx + 1))).heap.size = w.heap.size := by simp [World.setCell]
  have HF : Hid (Fr base w (((w.setCell ⟨b, 21, none⟩ (.int .i64 (nx + 1))).alloc o1).alloc o2)) := ((h.fr_set (Fr.refl base w) _ _).alloc (by omega) o1).alloc (by simp; omega) o2
  have HE : Hid (H.step 16 a (InV.inp ⟨fuel, k0, k1, k2, k3, k4, k5, k6, k7, what, by_, arg, src, route, ao, n, cap⟩ ds) M = { M with next := nx + 1 + a }) := by
    unfold Hid H.step
    rw [hnx]
    rfl
  have hb1 : ¬ b = w.heap.size := by omega
  have hb2 : ¬ b = w.heap.size + 1 := by omega
  have hb3 : ¬ w.heap.size = b := by omega
  have hb4 : ¬ w.heap.size + 1 = b := by omega
  subst ho1 ho2
  clear hcs hnx hsz
  have HM2 : Hid (∀ o1 o2, MB ((((w.setCell ⟨b, 21, none⟩ (.int .i64 (nx + 1))).setCell ⟨b, 21, none⟩ (.int .i64 (nx + 1 + a))).alloc o1).alloc o2) base b pile sv dv { M with next := nx + 1 + a }) := fun o1 o2 => (((h.set_next (nx + 1)).set_next (nx + 1 + a)).alloc o1).alloc o2
  have HF2 : Hid (∀ o1 o2, Fr base w ((((w.setCell ⟨b, 21, none⟩ (.int .i64 (nx + 1))).setCell ⟨b, 21, none⟩ (.int .i64 (nx + 1 + a))).alloc o1).alloc o2)) := fun o1 o2 => (((h.set_next _).fr_set (h.fr_set (Fr.refl base w) _ _) _ _).alloc (by simp [World.setCell]; omega) o1).alloc (by simp [World.setCell]; omega) o2
  have hw : IntKind.i64.wrap (nx + 1 + a) = nx + 1 + a := by rw [IntKind.wrap_i64]; omega
  go_enter Try.func58, Try.ntmps58
  go_wp2_with fail
  go_region
  all_goals go_wp2
  all_goals go_end0
  all_goals exact ⟨rfl, by rw [HE.out]; exact ⟨⟨_, _, _, (HM2.out _ _).drew⟩, (HF2.out _ _).drew⟩⟩

set_option maxRecDepth 100000 in
set_option maxHeartbeats 1000000 in
theorem step_store {w : World} {base b : Nat} {pile : List Int} {sv dv : Value} {M : H.Mach} (h : MB w base b pile sv dv M) (v : InV) (hv : v.ok) (ds : List Int) (hn0 : 0 ≤ M.next) (hn1 : M.next ≤ 900) (k : Nat) (hk : k < 8) :
    Calls Try.prog 58 (stepArgs b 3 (k : Int) v) w fun e w' => e = .returned (.tuple #[]) ∧ Aft w base b (H.step 3 (k : Int) (v.inp ds) M) w' := by
  obtain ⟨fuel, k0, k1, k2, k3, k4, k5, k6, k7, what, by_, arg, src, route, ao, n, cap⟩ := v
  unfold stepArgs InV.arr
  obtain ⟨⟨wh0, wh1⟩, ⟨ar0, ar1⟩, ⟨sr0, sr1⟩, ⟨ro0, ro1⟩, hcs⟩ := hv
  simp only at *
  obtain ⟨nx, hnx⟩ : ∃ nx, nx = M.next := ⟨_, rfl⟩
  obtain ⟨o1, ho1⟩ : ∃ o1, o1 = Obj.cells #[.int .u8 3, .int .i64 (k : Int)] 52 := ⟨_, rfl⟩
  obtain ⟨o2, ho2⟩ : ∃ o2, o2 = Obj.cells #[.int .i64 fuel, .int .u16 k0, .int .u16 k1, .int .u16 k2, .int .u16 k3, .int .u16 k4, .int .u16 k5, .int .u16 k6, .int .u16 k7, .int .u8 what, .int .u8 by_, .int .u16 arg, .int .u8 src, .int .u8 route, .slice ao n cap] 112 := ⟨_, rfl⟩
  have r21 := h.c21
  have g21 := h.free 21
  rw [← hnx] at hn0 hn1 r21
  have hbl := h.blk.lt
  have hlt := h.lt
  have HM : Hid (MB (((w.setCell ⟨b, 21, none⟩ (.int .i64 (nx + 1))).alloc o1).alloc o2) base b pile sv dv { M with next := nx + 1 }) := ((h.set_next _).alloc o1).alloc o2
  have hsz : (w.setCell ⟨b, 21, none⟩ (.int .i64 (nx + 1))).heap.size = w.heap.size := by simp [World.setCell]
  have HF : Hid (Fr base w (((w.setCell ⟨b, 21, none⟩ (.int .i64 (nx + 1))).alloc o1).alloc o2)) := ((h.fr_set (Fr.refl base w) _ _).alloc (by omega) o1).alloc (by simp; omega) o2
  have HE : Hid (H.step 3 (k : Int) (InV.inp ⟨fuel, k0, k1, k2, k3, k4, k5, k6, k7, what, by_, arg, src, route, ao, n, cap⟩ ds) M = { H.popM { M with next := nx + 1 } with cells := M.cells.set k (H.popV { M with next := nx + 1 }) }) := by
    unfold Hid H.step
    rw [hnx]
    rfl
  have hb1 : ¬ b = w.heap.size := by omega
  have hb2 : ¬ b = w.heap.size + 1 := by omega
  have hb3 : ¬ w.heap.size = b := by omega
  have hb4 : ¬ w.heap.size + 1 = b := by omega
  subst ho1 ho2
  clear hcs hnx hsz
  have hk0 : (0 : Int) ≤ (k : Int) := by omega
  have hk1 : (k : Int) < 8 := by omega
  have HX : Hid (∀ o2, Blk (((w.setCell ⟨b, 21, none⟩ (.int .i64 (nx + 1))).alloc (.cells #[.int .u8 3, .int .i64 (k : Int)] 52)).alloc o2) w.heap.size #[.int .u8 3, .int .i64 (k : Int)] 52) := fun o2 => by
    have h1 := Blk.new (w.setCell ⟨b, 21, none⟩ (.int .i64 (nx + 1))) #[.int .u8 3, .int .i64 (k : Int)] 52
    rw [show (w.setCell ⟨b, 21, none⟩ (.int .i64 (nx + 1))).heap.size = w.heap.size by simp [World.setCell]] at h1
    exact h1.alloc o2
  go_enter Try.func58, Try.ntmps58
  go_wp2_with fail
  refine (pop_any (M := { M with next := nx + 1 }) (by exact HM.out)).mono ?_
  rintro e w1 ⟨rfl, ⟨pile1, hm1⟩, hf1⟩
  have hx1 := hf1.row _ _ _ (HX.out _) (by decide) (by decide) (by decide)
  have d0 := hx1.cell 0
  have d1 := hx1.cell 1
  simp at d0 d1
  have rc := hm1.ccell k hk
  have fc := hm1.free (9 + k)
  obtain ⟨y, hy⟩ : ∃ y, y = H.popV { M with next := nx + 1 } := ⟨_, rfl⟩
  rw [← hy] at HE ⊢
  obtain ⟨M1, hM1⟩ : ∃ M1, M1 = H.popM { M with next := nx + 1 } := ⟨_, rfl⟩
  have hcl : M1.cells = M.cells := by rw [hM1]; unfold H.popM; split <;> rfl
  rw [← hM1] at HE hm1 rc
  have HM2 : Hid (MB (w1.setCell ⟨b, 9 + k, none⟩ (.int .u16 y)) base b pile1 sv dv { M1 with cells := M1.cells.set k y }) := hm1.set_cell k hk y
  have HF2 : Hid (Fr base w (w1.setCell ⟨b, 9 + k, none⟩ (.int .u16 y))) := hm1.fr_set (HF.out.trans hf1) _ _
  have HCl : Hid (M1.cells = M.cells) := hcl
  clear hm1 hf1 hx1 HX hy hM1 hcl HM HF
  go_wp2_with fail
  go_region
  all_goals go_wp2
  all_goals go_end0
  all_goals exact ⟨rfl, by rw [HE.out]; exact ⟨⟨_, _, _, by have h := HM2.out.drew; rw [HCl.out] at h; exact h⟩, HF2.out.drew⟩⟩

end Go.Proofs.Ytidaflmmldefcaa

/-
  step, at every instruction; what it keeps.
-/
namespace Go.Proofs.Ytidaflmmldefcaa
open Go.RowKit
set_option linter.unusedVariables false

/-- What holds of a machine at work: its numbers are of 16 bits; its text is short; it stands inside a program of n. -/
structure MOk (n : Nat) (M : H.Mach) : Prop where
  st : InR M.st
  cells : InR M.cells
  text : M.text.size ≤ 4 * M.chars
  chars : M.chars ≤ 6
  next0 : 0 ≤ M.next
  next1 : M.next ≤ n

theorem MOk.small {n : Nat} {M : H.Mach} (h : MOk n M) : M.text.size ≤ 1000 := by
  have := h.text; have := h.chars; omega

theorem step_any {w : World} {base b : Nat} {pile : List Int} {sv dv : Value} {M : H.Mach} (h : MB w base b pile sv dv M) (v : InV) (hv : v.ok) (ds : List Int) (hd : Drawn w v ds base) (n : Nat) (hn : n ≤ 64) (hM : MOk n M) (o a : Int) (ho : 0 ≤ o) (ha : H.alone o a = true) :
    Calls Try.prog 58 (stepArgs b o a v) w fun e w' => e = .returned (.tuple #[]) ∧ Aft w base b (H.step o a (v.inp ds) M) w' := by
  have n0 := hM.next0
  have n1 : M.next ≤ 900 := by have := hM.next1; omega
  have h27 := H.alone_op o a ha
  have hz : ∀ x : Int, o = x → x ≠ 1 → x ≠ 2 → x ≠ 3 → x ≠ 16 → x ≠ 17 → x ≠ 25 → a = 0 := by
    intro x hx h1 h2 h3 h16 h17 h25
    subst hx
    simp [H.alone, h1, h2, h3, h16, h17, h25] at ha
    exact ha.2
  rcases (show o = 0 ∨ o = 1 ∨ o = 2 ∨ o = 3 ∨ (4 ≤ o ∧ o ≤ 15) ∨ o = 16 ∨ o = 17 ∨ o = 18 ∨ o = 19 ∨ o = 20 ∨ o = 21 ∨ o = 22 ∨ o = 23 ∨ o = 24 ∨ o = 25 ∨ o = 26 ∨ o = 27 by omega) with rfl | rfl | rfl | rfl | ⟨h4, h15⟩ | rfl | rfl | rfl | rfl | rfl | rfl | rfl | rfl | rfl | rfl | rfl | rfl
  · obtain rfl := hz 0 rfl (by decide) (by decide) (by decide) (by decide) (by decide) (by decide)
    exact step_end h v hv ds n0 n1
  · simp [H.alone] at ha
    exact step_push h v hv ds n0 n1 a ha.1 ha.2
  · simp [H.alone] at ha
    obtain ⟨k, rfl⟩ := Int.eq_ofNat_of_zero_le ha.1
    exact step_load h v hv ds n0 n1 k (by omega)
  · simp [H.alone] at ha
    obtain ⟨k, rfl⟩ := Int.eq_ofNat_of_zero_le ha.1
    exact step_store h v hv ds n0 n1 k (by omega)
  · obtain rfl := hz o rfl (by omega) (by omega) (by omega) (by omega) (by omega) (by omega)
    exact step_sum h v hv ds n0 n1 o h4 h15 hM.st
  · simp [H.alone] at ha
    exact step_jump h v hv ds n0 n1 a ha.1 ha.2
  · simp [H.alone] at ha
    exact step_if h v hv ds n0 n1 a ha.1 ha.2
  · obtain rfl := hz 18 rfl (by decide) (by decide) (by decide) (by decide) (by decide) (by decide)
    exact step_what h v hv ds n0 n1
  · obtain rfl := hz 19 rfl (by decide) (by decide) (by decide) (by decide) (by decide) (by decide)
    exact step_arg h v hv ds n0 n1
  · obtain rfl := hz 20 rfl (by decide) (by decide) (by decide) (by decide) (by decide) (by decide)
    exact step_src h v hv ds n0 n1
  · obtain rfl := hz 21 rfl (by decide) (by decide) (by decide) (by decide) (by decide) (by decide)
    exact step_route h v hv ds n0 n1
  · obtain rfl := hz 22 rfl (by decide) (by decide) (by decide) (by decide) (by decide) (by decide)
    exact step_draw h v hv ds n0 n1 hd
  · obtain rfl := hz 23 rfl (by decide) (by decide) (by decide) (by decide) (by decide) (by decide)
    exact step_char h v hv ds n0 n1 hM.st hM.small
  · obtain rfl := hz 24 rfl (by decide) (by decide) (by decide) (by decide) (by decide) (by decide)
    exact step_show h v hv ds n0 n1
  · simp [H.alone] at ha
    exact step_send h v hv ds n0 n1 a ha.1 ha.2
  · obtain rfl := hz 26 rfl (by decide) (by decide) (by decide) (by decide) (by decide) (by decide)
    exact step_copy h v hv ds n0 n1
  · obtain rfl := hz 27 rfl (by decide) (by decide) (by decide) (by decide) (by decide) (by decide)
    exact step_drop h v hv ds n0 n1

end Go.Proofs.Ytidaflmmldefcaa

/-
  What a step keeps, as plain mathematics; the rounds of a run.
-/
namespace Go.Proofs.Ytidaflmmldefcaa
set_option linter.unusedVariables false

/-- A step lets the count of steps be, draws no more than there is, and is never Spent. -/
structure Kp (dl : Nat) (M M' : H.Mach) : Prop where
  steps : M'.steps = M.steps
  draws : M.draws ≤ dl → M'.draws ≤ dl
  fault : M.fault ≠ 1 → M'.fault ≠ 1

section
variable {n dl : Nat} {M : H.Mach}

theorem Kp.refl : Kp dl M M := ⟨rfl, id, id⟩
theorem Kp.trans {M1 M2 : H.Mach} (h : Kp dl M M1) (k : Kp dl M1 M2) : Kp dl M M2 := ⟨k.steps.trans h.steps, fun x => k.draws (h.draws x), fun x => k.fault (h.fault x)⟩
theorem Kp.push (v : Int) : Kp dl M (H.push v M) := by
  unfold H.push; split
  · exact ⟨rfl, id, fun _ => by simp⟩
  · exact ⟨rfl, id, id⟩
theorem Kp.pop : Kp dl M (H.popM M) := by
  unfold H.popM; split
  · exact ⟨rfl, id, fun _ => by simp⟩
  · exact ⟨rfl, id, id⟩

theorem MOk.fault (h : MOk n M) (x : Int) : MOk n { M with fault := x } := ⟨h.st, h.cells, h.text, h.chars, h.next0, h.next1⟩
theorem InR.snoc {l : List Int} {v : Int} (h : InR l) (h0 : 0 ≤ v) (h1 : v ≤ 65535) : InR (l ++ [v]) := by
  intro x hx
  rcases List.mem_append.1 hx with h' | h'
  · exact h x h'
  · simp at h'; subst h'; exact ⟨h0, h1⟩
theorem MOk.push (h : MOk n M) {v : Int} (h0 : 0 ≤ v) (h1 : v ≤ 65535) : MOk n (H.push v M) := by
  unfold H.push; split
  · exact h.fault 2
  · exact ⟨h.st.snoc h0 h1, h.cells, h.text, h.chars, h.next0, h.next1⟩
theorem MOk.pop (h : MOk n M) : MOk n (H.popM M) := by
  have hp := h.st.pop
  unfold H.popM at *; split
  · exact h.fault 2
  · rename_i hl; rw [if_neg hl] at hp; exact ⟨hp, h.cells, h.text, h.chars, h.next0, h.next1⟩
theorem popM_cells (M : H.Mach) : (H.popM M).cells = M.cells := by unfold H.popM; split <;> rfl

theorem MOk.jumpIf (h : MOk n M) {a : Int} (h0 : 0 ≤ M.next + a) (h1 : M.next + a ≤ n) : MOk n (H.jumpIf a M) := by
  unfold H.jumpIf; split
  · exact h.pop
  · have hp := h.pop
    exact ⟨hp.st, hp.cells, hp.text, hp.chars, by rw [popM_next]; exact h0, by rw [popM_next]; exact h1⟩
theorem Kp.jumpIf (a : Int) : Kp dl M (H.jumpIf a M) := by
  unfold H.jumpIf; split
  · exact Kp.pop
  · have hp : Kp dl M (H.popM M) := Kp.pop
    exact ⟨hp.steps, hp.draws, hp.fault⟩
theorem MOk.draw (h : MOk n M) {ds : List Int} (hd : InR ds) : MOk n (H.draw ds M) := by
  unfold H.draw; split
  · rename_i hl
    have hx : ds.getD M.draws 0 = ds[M.draws] := by simp [List.getD, List.getElem?_eq_getElem hl]
    have hr := hd _ (List.getElem_mem hl)
    have h' : MOk n { M with draws := M.draws + 1 } := ⟨h.st, h.cells, h.text, h.chars, h.next0, h.next1⟩
    exact h'.push (by rw [hx]; exact hr.1) (by rw [hx]; exact hr.2)
  · exact h.push (by decide) (by decide)
theorem Kp.draw (ds : List Int) : Kp ds.length M (H.draw ds M) := by
  unfold H.draw; split
  · rename_i hl
    have h1 : Kp ds.length M { M with draws := M.draws + 1 } := ⟨rfl, fun _ => hl, id⟩
    exact h1.trans (Kp.push _)
  · exact Kp.push _
theorem MOk.double (h : MOk n M) : MOk n (H.double M) := by
  have hv := h.st.popV
  unfold H.double; split
  · exact (h.pop.push hv.1 hv.2).push hv.1 hv.2
  · exact h.pop
theorem Kp.double : Kp dl M (H.double M) := by
  unfold H.double; split
  · exact (Kp.pop.trans (Kp.push _)).trans (Kp.push _)
  · exact Kp.pop

theorem encode_size (y : Int) : (Utf8.encode y).size ≤ 4 := by
  unfold Utf8.encode
  simp only
  repeat' split
  all_goals simp [ByteArray.size]

theorem MOk.char (h : MOk n M) : MOk n (H.char M) := by
  have hp := h.pop
  unfold H.char; split
  · split
    · exact hp.fault 4
    · rename_i h6
      refine ⟨hp.st, hp.cells, ?_, by show M.chars + 1 ≤ 6; omega, hp.next0, hp.next1⟩
      show (M.text ++ Utf8.encode (H.popV M)).size ≤ 4 * (M.chars + 1)
      rw [ByteArray.size_append]
      have := encode_size (H.popV M)
      have := h.text
      omega
  · exact hp
theorem Kp.char : Kp dl M (H.char M) := by
  have hp : Kp dl M (H.popM M) := Kp.pop
  unfold H.char; split
  · split
    · exact ⟨hp.steps, hp.draws, fun _ => by simp⟩
    · exact ⟨hp.steps, hp.draws, hp.fault⟩
  · exact hp
theorem MOk.showM (h : MOk n M) : MOk n (H.showM M) := by
  have hp := h.pop
  unfold H.showM; split
  · split
    · exact hp.fault 5
    · split
      · exact hp.fault 6
      · exact ⟨hp.st, hp.cells, by show (0 : Nat) ≤ _; omega, by show (0 : Nat) ≤ 6; omega, hp.next0, hp.next1⟩
  · exact hp
theorem Kp.showM : Kp dl M (H.showM M) := by
  have hp : Kp dl M (H.popM M) := Kp.pop
  unfold H.showM; split
  · split
    · exact ⟨hp.steps, hp.draws, fun _ => by simp⟩
    · split
      · exact ⟨hp.steps, hp.draws, fun _ => by simp⟩
      · exact ⟨hp.steps, hp.draws, hp.fault⟩
  · exact hp
theorem MOk.send (h : MOk n M) (t : Int) : MOk n (H.send t M) := by
  have hp := h.pop
  unfold H.send; split
  · split
    · exact hp.fault 5
    · exact ⟨hp.st, hp.cells, hp.text, hp.chars, hp.next0, hp.next1⟩
  · exact hp
theorem Kp.send (t : Int) : Kp dl M (H.send t M) := by
  have hp : Kp dl M (H.popM M) := Kp.pop
  unfold H.send; split
  · split
    · exact ⟨hp.steps, hp.draws, fun _ => by simp⟩
    · exact ⟨hp.steps, hp.draws, hp.fault⟩
  · exact hp
theorem MOk.reckon (h : MOk n M) (op : Int) : MOk n (H.reckon op M) := by
  have hp := h.pop.pop
  have hb := h.st.popV
  have ha := h.st.pop.popV
  unfold H.reckon; split
  · split
    · split
      · exact hp.fault 3
      · have h1 := Int.ediv_nonneg ha.1 hb.1
        have h2 := Int.ediv_le_self (H.popV M) ha.1
        exact hp.push h1 (by omega)
    · have hc := comb_range op _ _ ha.1 ha.2 hb.1 hb.2
      exact hp.push hc.1 hc.2
  · exact hp
theorem Kp.reckon (op : Int) : Kp dl M (H.reckon op M) := by
  have hp : Kp dl M (H.popM (H.popM M)) := Kp.pop.trans Kp.pop
  unfold H.reckon; split
  · split
    · split
      · exact ⟨hp.steps, hp.draws, fun _ => by simp⟩
      · exact hp.trans (Kp.push _)
    · exact hp.trans (Kp.push _)
  · exact hp

theorem getD_range {l : List Int} (h : InR l) (i : Nat) : 0 ≤ l.getD i 0 ∧ l.getD i 0 ≤ 65535 := by
  by_cases hi : i < l.length
  · have : l.getD i 0 = l[i] := by simp [List.getD, List.getElem?_eq_getElem hi]
    rw [this]; exact h _ (List.getElem_mem hi)
  · have : l.getD i 0 = 0 := by simp [List.getD, List.getElem?_eq_none (Nat.le_of_not_lt hi)]
    rw [this]; omega

theorem MOk.doOp (h : MOk n M) (v : InV) (hv : v.ok) {ds : List Int} (hd : InR ds) {o a : Int} (ha : H.alone o a = true) (hj : o = 16 ∨ o = 17 → 0 ≤ M.next + a ∧ M.next + a ≤ n) : MOk n (H.doOp o a (v.inp ds) M) := by
  unfold H.doOp
  by_cases e0 : o = 0
  · rw [if_pos e0]
    exact ⟨h.st, h.cells, h.text, h.chars, h.next0, h.next1⟩
  rw [if_neg e0]
  by_cases e1 : o = 1
  · rw [if_pos e1]
    subst e1; simp [H.alone] at ha; exact h.push ha.1 ha.2
  rw [if_neg e1]
  by_cases e2 : o = 2
  · rw [if_pos e2]
    have := getD_range h.cells a.toNat; exact h.push this.1 this.2
  rw [if_neg e2]
  by_cases e3 : o = 3
  · rw [if_pos e3]
    have hp := h.pop
    refine ⟨hp.st, ?_, hp.text, hp.chars, hp.next0, hp.next1⟩
    intro x hx
    have hv := h.st.popV
    rcases List.mem_or_eq_of_mem_set hx with h' | h'
    · exact h.cells x h'
    · subst h'; exact hv
  rw [if_neg e3]
  by_cases e16 : o = 16
  · rw [if_pos e16]
    have := hj (.inl e16); exact ⟨h.st, h.cells, h.text, h.chars, this.1, this.2⟩
  rw [if_neg e16]
  by_cases e17 : o = 17
  · rw [if_pos e17]
    have := hj (.inr e17); exact h.jumpIf this.1 this.2
  rw [if_neg e17]
  by_cases e18 : o = 18
  · rw [if_pos e18]
    exact h.push hv.what.1 (by have := hv.what.2; show v.what ≤ 65535; omega)
  rw [if_neg e18]
  by_cases e19 : o = 19
  · rw [if_pos e19]
    exact h.push hv.arg.1 hv.arg.2
  rw [if_neg e19]
  by_cases e20 : o = 20
  · rw [if_pos e20]
    exact h.push hv.src.1 (by have := hv.src.2; show v.src ≤ 65535; omega)
  rw [if_neg e20]
  by_cases e21 : o = 21
  · rw [if_pos e21]
    exact h.push hv.route.1 (by have := hv.route.2; show v.route ≤ 65535; omega)
  rw [if_neg e21]
  by_cases e22 : o = 22
  · rw [if_pos e22]
    exact h.draw hd
  rw [if_neg e22]
  by_cases e23 : o = 23
  · rw [if_pos e23]
    exact h.char
  rw [if_neg e23]
  by_cases e24 : o = 24
  · rw [if_pos e24]
    exact h.showM
  rw [if_neg e24]
  by_cases e25 : o = 25
  · rw [if_pos e25]
    exact h.send a
  rw [if_neg e25]
  by_cases e26 : o = 26
  · rw [if_pos e26]
    exact h.double
  rw [if_neg e26]
  by_cases e27 : o = 27
  · rw [if_pos e27]
    exact h.pop
  rw [if_neg e27]
  exact h.reckon o

theorem Kp.doOp (o a : Int) (I : H.Inp) : Kp I.draws.length M (H.doOp o a I M) := by
  unfold H.doOp
  by_cases e0 : o = 0
  · rw [if_pos e0]
    exact ⟨rfl, id, id⟩
  rw [if_neg e0]
  by_cases e1 : o = 1
  · rw [if_pos e1]
    exact Kp.push _
  rw [if_neg e1]
  by_cases e2 : o = 2
  · rw [if_pos e2]
    exact Kp.push _
  rw [if_neg e2]
  by_cases e3 : o = 3
  · rw [if_pos e3]
    have hp : Kp I.draws.length M (H.popM M) := Kp.pop
    exact ⟨hp.steps, hp.draws, hp.fault⟩
  rw [if_neg e3]
  by_cases e16 : o = 16
  · rw [if_pos e16]
    exact ⟨rfl, id, id⟩
  rw [if_neg e16]
  by_cases e17 : o = 17
  · rw [if_pos e17]
    exact Kp.jumpIf _
  rw [if_neg e17]
  by_cases e18 : o = 18
  · rw [if_pos e18]
    exact Kp.push _
  rw [if_neg e18]
  by_cases e19 : o = 19
  · rw [if_pos e19]
    exact Kp.push _
  rw [if_neg e19]
  by_cases e20 : o = 20
  · rw [if_pos e20]
    exact Kp.push _
  rw [if_neg e20]
  by_cases e21 : o = 21
  · rw [if_pos e21]
    exact Kp.push _
  rw [if_neg e21]
  by_cases e22 : o = 22
  · rw [if_pos e22]
    exact Kp.draw _
  rw [if_neg e22]
  by_cases e23 : o = 23
  · rw [if_pos e23]
    exact Kp.char
  rw [if_neg e23]
  by_cases e24 : o = 24
  · rw [if_pos e24]
    exact Kp.showM
  rw [if_neg e24]
  by_cases e25 : o = 25
  · rw [if_pos e25]
    exact Kp.send _
  rw [if_neg e25]
  by_cases e26 : o = 26
  · rw [if_pos e26]
    exact Kp.double
  rw [if_neg e26]
  by_cases e27 : o = 27
  · rw [if_pos e27]
    exact Kp.pop
  rw [if_neg e27]
  exact Kp.reckon _
end

namespace H
/-- Is the run at its end? -/
def halt (n : Nat) (M : Mach) : Bool := M.ended || !(M.fault == 0) || decide ((n : Int) ≤ M.next)
/-- One round: the next instruction, one step more. -/
def adv (prog : List (Int × Int)) (I : Inp) (M : Mach) : Mach :=
  step (prog.getD M.next.toNat (0, 0)).1 (prog.getD M.next.toNat (0, 0)).2 I { M with steps := M.steps + 1 }
/-- At most r rounds, with the fuel F. -/
def runM (prog : List (Int × Int)) (I : Inp) (F : Nat) : Nat → Mach → Mach
  | 0, M => M
  | r + 1, M => if halt prog.length M then M else if M.steps = F then { M with fault := 1 } else runM prog I F r (adv prog I M)
/-- What a run begins with. -/
def mach0 (cells : List Int) : Mach := { st := [], cells := cells, text := ⟨#[]⟩, chars := 0, shows := [], sends := [], next := 0, steps := 0, draws := 0, ended := false, fault := 0 }
end H

theorem adv_kp (prog : List (Int × Int)) (I : H.Inp) (M : H.Mach) : (H.adv prog I M).steps = M.steps + 1 ∧ (M.draws ≤ I.draws.length → (H.adv prog I M).draws ≤ I.draws.length) ∧ (M.fault ≠ 1 → (H.adv prog I M).fault ≠ 1) := by
  have h := Kp.doOp (M := { M with steps := M.steps + 1, next := M.next + 1 }) (prog.getD M.next.toNat (0, 0)).1 (prog.getD M.next.toNat (0, 0)).2 I
  exact ⟨h.steps, h.draws, h.fault⟩

theorem okFrom_at (m : Nat) : ∀ (l : List (Int × Int)) (k i : Nat) (x : Int × Int), H.okFrom m k l = true → l[i]? = some x → H.alone x.1 x.2 = true ∧ H.lands m (k + i) x.1 x.2 = true
  | [], k, i, x, h, hx => by simp at hx
  | y :: r, k, 0, x, h, hx => by
    simp only [H.okFrom, Bool.and_eq_true] at h
    simp at hx; subst hx
    exact ⟨h.1.1, h.1.2⟩
  | y :: r, k, i + 1, x, h, hx => by
    simp only [H.okFrom, Bool.and_eq_true] at h
    have := okFrom_at m r (k + 1) i x h.2 (by simpa using hx)
    rwa [show k + 1 + i = k + (i + 1) by omega] at this

theorem adv_ok {prog : List (Int × Int)} {M : H.Mach} (hp : H.okFrom prog.length 0 prog = true) (h : MOk prog.length M) (hlt : M.next < prog.length) (v : InV) (hv : v.ok) {ds : List Int} (hd : InR ds) : MOk prog.length (H.adv prog (v.inp ds) M) := by
  have n0 := h.next0
  have hx : prog[M.next.toNat]? = some (prog.getD M.next.toNat (0, 0)) := by simp [List.getD, List.getElem?_eq_getElem (show M.next.toNat < prog.length by omega)]
  obtain ⟨h1, h2⟩ := okFrom_at _ _ _ _ _ hp hx
  rw [Nat.zero_add] at h2
  unfold H.adv H.step
  generalize prog.getD M.next.toNat (0, 0) = x at *
  have h' : MOk prog.length { M with steps := M.steps + 1, next := M.next + 1 } := ⟨h.st, h.cells, h.text, h.chars, by show 0 ≤ M.next + 1; omega, by show M.next + 1 ≤ _; omega⟩
  refine h'.doOp v hv hd h1 (fun hj => ?_)
  unfold H.lands at h2
  rw [if_pos hj] at h2
  simp at h2
  show 0 ≤ M.next + 1 + x.2 ∧ M.next + 1 + x.2 ≤ _
  omega

end Go.Proofs.Ytidaflmmldefcaa
