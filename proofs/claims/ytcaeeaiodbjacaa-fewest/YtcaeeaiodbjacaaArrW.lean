/-
  The walk of arrange.
-/
import Derived.Test.YtcaeeaiodbjacaaRmW
import Derived.Test.YtcaeeaiodbjacaaRowW
import Derived.Test.YtcaeeaiodbjacaaBookS
namespace Go.Proofs.Ytcaeeaiodbjacaa
open Go.RowKit
set_option linter.unusedVariables false

theorem info3 : (Try.prog.info? 3).map (fun i => (i.zero, i.size, i.bytes)) = some (some (.int .i64 0), 1, 8) := by kernel_rfl

def its (l : List Int) : List Value := l.map fun x => .int .i64 x

theorem own_intAt {w : World} {base n : Nat} {ao : Option Addr} {cap : Nat} {l : List Int} (h : w.ownsRow base 3 1 (.slice ao n cap) n (its l)) (hn : l.length = n) : IntAt w ao l := by
  rcases h.2 with ⟨hv, h0⟩ | ⟨g, c, cur, hv, hb, hh, h1, h2, h3⟩
  · exact Or.inl (List.eq_nil_of_length_eq_zero (by omega))
  · simp only [Value.slice.injEq] at hv
    obtain ⟨rfl, _, rfl⟩ := hv
    refine Or.inr ⟨g, 0, rfl, lt_of_block hh, ?_⟩
    intro i x hx
    have hi : i < n := by have := (List.getElem?_eq_some_iff.1 hx).1; omega
    rw [Nat.zero_add, h.cellAt i (by omega)]
    unfold its
    rw [List.getElem?_map, hx]
    rfl

theorem NodeAt.take {w : World} {ao : Option Addr} {l : List T.Nd} (h : NodeAt w ao l) (k : Nat) : NodeAt w ao (l.take k) := by
  rcases h with h | ⟨b, off, e, hb, hr⟩
  · left
    subst h
    simp
  · exact Or.inr ⟨b, off, e, hb, hr.take k⟩

theorem behind_range (now ahead : List T.Nd) (h : now.length ≤ 16) : 0 ≤ T.behind now ahead ∧ T.behind now ahead ≤ 16 := by
  unfold T.behind
  cases ahead.getLast? with
  | none => simp
  | some z =>
    simp only
    cases hh : T.has now z.1 with
    | false => rw [T.place_no hh]; omega
    | true => have := T.place_yes hh; omega

/-- A call of a Go function of two arguments, as one step of a region that draws its order. -/
theorem step_call2 {P : Program} {ops : Array Oper} {o : Oper} {a : Act} {w : World} {K : Act → World → Prop} {Q : Exit → Act → World → Prop} {E : Prop}
    (hg : o.guard = none) (x y : Operand) (f : FuncId) (t : Array TypeId) (hop : o.op = Op.call { callee := Callee.value (Operand.func f), args := #[x, y], argTypes := t })
    (hcf : ∀ (args : Array Value) (u : World), (callFunc f args).run P u = .ok (.enter f args) u) (vx vy : Value) (hx : a.eval x = vx) (hy : a.eval y = vy) (v : Value) (R : World → Prop) (hc : Calls P f #[vx, vy] w fun e w' => e = .returned v ∧ R w')
    (hK : ∀ w', R w' → K (a.put o.dst v) w') : if Region.wanted o (yielded ops a.tmps) = true then Oper.wp P o a w K Q else E := by
  have hw : Region.wanted o (yielded ops a.tmps) = true := by simp [Region.wanted, hg]
  rw [if_pos hw]
  have hf : a.eval (Operand.func f) = Value.func (Fn.func f) #[] #[] := rfl
  have hrun : (execOp a.eval o).run P w = .ok (.enter f #[vx, vy]) w := by
    simp [execOp, hop, resolve, invoke, hx, hy, hf, Deferred.ofValue, hcf]
  unfold Oper.wp
  rw [hrun, Oper.upon_enter]
  exact hc.mono (by rintro e w' ⟨rfl, h⟩; exact hK w' h)

theorem call49 (args : Array Value) (u : World) : (callFunc 49 args).run Try.prog u = .ok (.enter 49 args) u := by
  simp [callFunc, Try.func49, go_sem]
  rfl

theorem fit_move {c : T.Ch} (h : Fit c) {id at_ : Int} (hid : 0 ≤ id ∧ id ≤ 255) : Fit (T.moveP c id at_) := fit_do h ⟨hid, by simp, empty_le⟩

set_option maxRecDepth 100000 in
set_option maxHeartbeats 8000000 in
theorem arr_any {w : World} {base B : Nat} {c : T.Ch} (h : CB w base B c) (hB : base ≤ B) (hs : base ≤ w.heap.size) (hf : Fit c) (hpl : c.2.length ≤ 500) (xo : Option Addr) (xc : Nat) (next : List T.Nd) (hxl : next.length ≤ 16) (hxc : next.length ≤ xc) (hok : ndOk next)
    (hX : ∀ u : World, Below base w u → NodeAt u xo next) :
    Calls Try.prog 41 #[.pointer (some ⟨B, 0, none⟩), .slice xo next.length xc] w fun e w' => e = .returned (.tuple #[]) ∧ CB w' base B (T.arrange next c) ∧ Fm base w w' ∧ Fit (T.arrange next c) ∧ (T.arrange next c).2.length ≤ c.2.length + 16 := by
  obtain ⟨j0, hj, hy0, hy1, hy2⟩ := info_parts info3
  have HX : Hid (∀ u : World, Below base w u → NodeAt u xo next) := hX
  have HOk : Hid (ndOk next) := hok
  have HC : Hid (CB w base B c ∧ Fit c) := ⟨h, hf⟩
  obtain ⟨no, nc, b0, hBl, hnc, hnn, hna⟩ := h.now
  have HP : Hid (∀ (i : Int) (u : World), Below w.heap.size w u → Calls Try.prog 49 #[.slice no c.1.length nc, .int .u8 i] u fun e w' => e = .returned (.int .i64 (T.place c.1 i)) ∧ Below u.heap.size u w') := fun i u hu => place_any no nc c.1 i u (by have := hf.1; unfold maxLen; omega) (hna.below hu (Nat.le_refl _) hu.size)
  have HBc : Hid (∀ u : World, Below w.heap.size w u → u.cell? ⟨B, 0, none⟩ = some (.slice no c.1.length nc)) := by
    intro u hu
    rw [hu.cell hBl]
    exact b0
  obtain ⟨n, hn⟩ : ∃ n, n = next.length := ⟨_, rfl⟩
  have Hn : Hid (next.length = n) := hn.symm
  rw [← hn] at hxl hxc ⊢
  generalize c.1.length = cn at HP HBc
  clear h hf hX hok hn hna hnn hnc b0
  go_enter Try.func41, Try.ntmps41
  go_wp2_with fail
  go_loopw [4, 13] (fun v i wr => ∃ (k wc : Nat) (wo : Option Addr), v = .slice wo k wc ∧ k ≤ n ∧ i = .int .i64 k ∧ Hid (wr.ownsRow w.heap.size 3 1 (.slice wo k wc) k (its (T.wasOf c.1 (next.take k))) ∧ Below w.heap.size w wr))
    (fun _ i _ => n - (intOf i).toNat)
  case atStart => exact ⟨0, 0, none, rfl, Nat.zero_le _, rfl, World.ownsRow_nil _ _ _ _, Below.refl _ _⟩
  case round =>
    obtain ⟨k, wc, wo, rfl, hk, rfl, HS⟩ := hrel
    have hsz := HS.out.2.size
    by_cases hlt : k < n
    · obtain ⟨x, hx⟩ : ∃ x, next[k]? = some x := ⟨next[k]'(by have := Hn.out; omega), List.getElem?_eq_getElem (by have := Hn.out; omega)⟩
      obtain ⟨b, off, rfl, hbl, hr⟩ : ∃ b off, xo = some ⟨b, off, none⟩ ∧ b < wr.heap.size ∧ NodeRow wr b off next := (HX.out wr (HS.out.2.mono hs)).resolve_left (by rintro rfl; simp at hx)
      obtain ⟨c0, c1, c2⟩ := hr k _ hx
      obtain ⟨x1, x2, x3⟩ := x
      simp only at c0 c1 c2
      have HW1 : Hid (its (T.wasOf c.1 (next.take (k + 1))) = its (T.wasOf c.1 (next.take k)) ++ [.int .i64 (T.place c.1 x1)]) := by
        unfold Hid
        rw [List.take_add_one, hx]
        simp [its, T.wasOf]
      obtain ⟨P, hP⟩ : ∃ P, P = T.place c.1 x1 := ⟨_, rfl⟩
      rw [← hP] at HW1
      have HPx : Hid (∀ u : World, Below wr.heap.size wr u → Calls Try.prog 49 #[.slice no cn nc, .int .u8 x1] u fun e w' => e = .returned (.int .i64 P) ∧ Below u.heap.size u w') := by
        intro u hu
        have := HP.out x1 u (HS.out.2.trans (hu.mono hsz))
        rw [← hP] at this
        exact this
      have bB := HBc.out wr HS.out.2
      have hki : (k : Int) < (n : Int) := by omega
      have hk0 : (0 : Int) ≤ (k : Int) := by omega
      have hbne : ¬ b = wr.heap.size := by omega
      have hBw : B < wr.heap.size := by omega
      have hBne : ¬ B = wr.heap.size := by omega
      have HFin : Hid (∀ v3 w1 w3, Below wr.heap.size wr w1 → w3.ownsRow w.heap.size 3 1 v3 (k + 1) (its (T.wasOf c.1 (next.take k)) ++ [.int .i64 P]) → (w1.alloc (.cells #[.int .i64 P] 3)).grownBy w3 (Value.slice wo k wc).ownBlock → ∃ wo3 wc3, v3 = .slice wo3 (k + 1) wc3 ∧ Hid (w3.ownsRow w.heap.size 3 1 (.slice wo3 (k + 1) wc3) (k + 1) (its (T.wasOf c.1 (next.take (k + 1)))) ∧ Below w.heap.size w w3)) := by
        intro v3 w1 w3 hb1 ho3 hg3
        obtain ⟨wo3, wc3, rfl⟩ := own_is ho3
        have hbw1 : Below w.heap.size w w1 := HS.out.2.trans (hb1.mono hsz)
        refine ⟨wo3, wc3, rfl, by rw [HW1.out]; exact ho3, below_app (hbw1.alloc hbw1.size _) hg3 ((own_below' HS.out.1 hb1 (Nat.le_refl _)).alloc _) (Nat.le_refl _) (by have := hbw1.size; simp; omega)⟩
      have hm63 : Hid (k + 1 ≤ maxLen) := by unfold Hid maxLen; omega
      have hbyt : Hid ((k + 1) * 8 ≤ 140737488355328) := by unfold Hid; omega
      clear hr hx hP
      go_wp2_with fail
      go_region_law (first
        | (refine step_call2 rfl (.tmp 21) (.tmp 23) 49 _ rfl call49 (.slice no cn nc) (.int .u8 x1) (by simp [Act.eval]) (by simp [Act.eval]) (.int .i64 P) _ (HPx.out _ (((Below.refl _ _).alloc (Nat.le_refl _) _).drew)) ?_; intro w1 hb1)
        | (refine step_append_mine rfl (.tmp 17) (.tmp 25) 62 rfl w.heap.size 3 j0 (.int .i64 0) 1 8 Try.underlying62 hj hy0 hy1 hy2 rfl (by decide) (.slice wo k wc) k (its (T.wasOf c.1 (next.take k))) (by simp [Act.eval]) ((own_below' HS.out.1 ((((Below.refl _ _).alloc (Nat.le_refl _) _).drew).trans (hb1.mono (by simp))) (Nat.le_refl _)).alloc _) ⟨w1.heap.size, 0, none⟩ 1 1 [.int .i64 P] (by simp [Act.eval]) rfl (new_one _ _ _) (by intro u hu; simp at hu; subst hu; rfl) hm63.out hbyt.out (by have := hb1.size; simp at this; simp; omega) ?_; intro v3 w3 hown3 hg3; obtain ⟨wo3, wc3, hv3, HS3⟩ := HFin.out v3 w1 w3 ((((Below.refl _ _).alloc (Nat.le_refl _) _).drew).trans (hb1.mono (by simp))) hown3 hg3; rw [hv3]; clear hown3 hg3 hv3))
      all_goals
        clear HFin HPx HS c0 c1 c2 bB
        go_wp2
        go_roundw
        case rel => exact ⟨k + 1, wc3, wo3, rfl, by omega, by go_num, HS3⟩
        case measure => simp [intOf]; omega
    · obtain rfl : k = n := by omega
      have htk : next.take k = next := List.take_of_length_le (by have := Hn.out; omega)
      rw [htk] at HS
      have HWl : Hid ((T.wasOf c.1 next).length = k) := by unfold Hid T.wasOf; rw [List.length_map, Hn.out]
      have HRi : Hid (Calls Try.prog 53 #[.slice wo k wc] wr fun e w' => ∃ v, e = .returned v ∧ w'.ownsRow wr.heap.size 4 1 v k (bls (T.marksOf (T.wasOf c.1 next))) ∧ Below wr.heap.size wr w') := by
        have := rise_any wo wc (T.wasOf c.1 next) wr (by rw [HWl.out]; exact hxl) (own_intAt HS.out.1 HWl.out)
        rw [HWl.out] at this
        exact this
      have hki : ¬ (k : Int) < (k : Int) := by omega
      clear htk hlt HP HBc
      go_wp2_with fail
      refine HRi.out.mono ?_
      rintro e w1 ⟨vm, rfl, hm1, hb1⟩
      obtain ⟨mo, mc, rfl⟩ := own_is hm1
      have HS1 : Hid (w1.ownsRow w.heap.size 3 1 (.slice wo k wc) k (its (T.wasOf c.1 next)) ∧ w1.ownsRow wr.heap.size 4 1 (.slice mo k mc) k (bls (T.marksOf (T.wasOf c.1 next))) ∧ Below w.heap.size w w1) := ⟨own_below' HS.out.1 hb1 (Nat.le_refl _), hm1, HS.out.2.trans (hb1.mono hsz)⟩
      obtain ⟨br, hbr⟩ : ∃ br, br = wr.heap.size := ⟨_, rfl⟩
      rw [← hbr] at HS1
      have HMl : Hid ((T.marksOf (T.wasOf c.1 next)).length = k) := by unfold Hid; rw [T.marks_length, HWl.out]
      clear hm1 hb1 HS HRi hbr
      go_wp2_with fail
      go_loopw [32] (fun i wr => ∃ (q : Nat) (d : T.Ch), q ≤ k ∧ i = .int .i64 q ∧ d.2.length ≤ c.2.length + q ∧ Hid (CB wr base B d ∧ Fit d ∧ Fm base w wr) ∧ Hid (T.arrange next c = T.arrFrom next (T.wasOf c.1 next) (T.marksOf (T.wasOf c.1 next)) q (next.drop q) d) ∧ Hid (wr.ownsRow w.heap.size 3 1 (.slice wo k wc) k (its (T.wasOf c.1 next)) ∧ wr.ownsRow br 4 1 (.slice mo k mc) k (bls (T.marksOf (T.wasOf c.1 next)))))
        (fun i _ => k - (intOf i).toNat)
      case atStart => exact ⟨0, c, Nat.zero_le _, rfl, by omega, ⟨HC.out.1.below HS1.out.2.2, HC.out.2, Fm.of HS1.out.2.2 hs⟩, rfl, HS1.out.1, HS1.out.2.1⟩
      case round =>
        obtain ⟨q, d, hq, rfl, hdl, HD, HR, HS⟩ := hrel
        clear HC HS1
        have hszr := HD.out.2.2.size
        by_cases hqk : q < k
        · obtain ⟨x, hx⟩ : ∃ x, next[q]? = some x := ⟨next[q]'(by have := Hn.out; omega), List.getElem?_eq_getElem (by have := Hn.out; omega)⟩
          have hxk := HOk.out x (List.mem_of_getElem? hx)
          have HXr : Hid (NodeAt wr xo next) := HX.out wr HD.out.2.2.bel
          obtain ⟨b, off, hxo, hbl, hr⟩ : ∃ b off, xo = some ⟨b, off, none⟩ ∧ b < wr.heap.size ∧ NodeRow wr b off next := HXr.out.resolve_left (by rintro rfl; simp at hx)
          obtain ⟨c0, c1, c2⟩ := hr q _ hx
          have hid : 0 ≤ x.1 ∧ x.1 ≤ 255 := ⟨hxk.1.1, hxk.1.2.1⟩
          have hkey : 0 ≤ x.2.1 ∧ x.2.1 ≤ 65535 := ⟨hxk.1.2.2.1, hxk.1.2.2.2⟩
          have HR1 : Hid (T.arrange next c = T.arrFrom next (T.wasOf c.1 next) (T.marksOf (T.wasOf c.1 next)) (q + 1) (next.drop (q + 1)) (T.arrOne next (T.wasOf c.1 next) (T.marksOf (T.wasOf c.1 next)) q x d)) := by
            unfold Hid
            rw [HR.out, drop_get hx]
            rfl
          have hbr := behind_range d.1 (next.take q) HD.out.2.1.1
          obtain ⟨at_, hat⟩ : ∃ a, a = T.behind d.1 (next.take q) := ⟨_, rfl⟩
          rw [← hat] at hbr
          have HAt : Hid (at_ = T.behind d.1 (next.take q)) := hat
          have htl : (next.take q).length = q := by rw [List.length_take]; have := Hn.out; omega
          have HBe : Hid (∀ u : World, Below wr.heap.size wr u → Calls Try.prog 54 #[.pointer (some ⟨B, 0, none⟩), .slice xo q xc] u fun e w' => e = .returned (.int .i64 at_) ∧ Below u.heap.size u w') := by
            intro u hu
            have := behind_any (HD.out.1.below hu) HD.out.2.1 xo xc (next.take q) (by omega) ((HXr.out.below hu (Nat.le_refl _) hu.size).take q)
            rw [htl, ← hat] at this
            exact this
          have HDo : Hid (∀ u : World, Below wr.heap.size wr u → Calls Try.prog 52 #[.pointer (some ⟨B, 0, none⟩), .agg #[.int .u8 2, .int .u8 x.1, .int .i64 at_, .int .u16 x.2.1, .string x.2.2]] u fun e w' => e = .returned (.tuple #[]) ∧ CB w' base B (T.doP d (2, x.1, at_, x.2.1, x.2.2)) ∧ Fm base u w') :=
            fun u hu => do_any (HD.out.1.below hu) hB (by have := hu.size; omega) HD.out.2.1.1 HD.out.2.1.2 (by omega) 2 x.1 at_ x.2.1 x.2.2 hid hkey hxk.2
          have HMo : Hid (∀ u : World, Below wr.heap.size wr u → Calls Try.prog 55 #[.pointer (some ⟨B, 0, none⟩), .int .u8 x.1, .int .i64 at_] u fun e w' => e = .returned (.tuple #[]) ∧ CB w' base B (T.moveP d x.1 at_) ∧ Fm base u w') :=
            fun u hu => move_any (HD.out.1.below hu) hB (by have := hu.size; omega) HD.out.2.1 (by omega) x.1 at_ hid (by omega)
          have HFit1 : Hid (Fit (T.doP d (2, x.1, at_, x.2.1, x.2.2))) := fit_do HD.out.2.1 ⟨hid, hkey, hxk.2⟩
          have HFit2 : Hid (Fit (T.moveP d x.1 at_)) := fit_move HD.out.2.1 hid
          obtain ⟨wv, hwv⟩ : ∃ v, (T.wasOf c.1 next)[q]? = some v := ⟨(T.wasOf c.1 next)[q]'(by have := HWl.out; omega), List.getElem?_eq_getElem (by have := HWl.out; omega)⟩
          obtain ⟨mv, hmv⟩ : ∃ v, (T.marksOf (T.wasOf c.1 next))[q]? = some v := ⟨(T.marksOf (T.wasOf c.1 next))[q]'(by have := HMl.out; omega), List.getElem?_eq_getElem (by have := HMl.out; omega)⟩
          have hwd : (T.wasOf c.1 next).getD q 0 = wv := by rw [List.getD, hwv]; rfl
          have hmd : (T.marksOf (T.wasOf c.1 next)).getD q true = mv := by rw [List.getD, hmv]; rfl
          have HOne : Hid (T.arrOne next (T.wasOf c.1 next) (T.marksOf (T.wasOf c.1 next)) q x d = if wv < 0 then T.doP d (2, x.1, at_, x.2.1, x.2.2) else if mv then d else T.moveP d x.1 at_) := by
            unfold Hid T.arrOne
            rw [hwd, hmd, ← hat]
          have HWc : Hid (∀ u : World, Below wr.heap.size wr u → ∃ g m : Nat, wo = some ⟨g, 0, none⟩ ∧ mo = some ⟨m, 0, none⟩ ∧ u.cell? ⟨g, q, none⟩ = some (.int .i64 wv) ∧ u.cell? ⟨m, q, none⟩ = some (.bool mv)) := by
            intro u hu
            have e1 : (its (T.wasOf c.1 next))[q]? = some (.int .i64 wv) := by unfold its; rw [List.getElem?_map, hwv]; rfl
            have e2 : (bls (T.marksOf (T.wasOf c.1 next)))[q]? = some (.bool mv) := by unfold bls; rw [List.getElem?_map, hmv]; rfl
            obtain ⟨g, hg1, hg2⟩ := row_cell (own_below' HS.out.1 hu (Nat.le_refl _)) e1
            obtain ⟨m, hm1, hm2⟩ := row_cell (own_below' HS.out.2 hu (Nat.le_refl _)) e2
            exact ⟨g, m, hg1, hm1, hg2, hm2⟩
          have HFr : Hid (∀ u u' : World, Below wr.heap.size wr u → Fm base u u' → Fm base w u' ∧ u'.ownsRow w.heap.size 3 1 (.slice wo k wc) k (its (T.wasOf c.1 next)) ∧ u'.ownsRow br 4 1 (.slice mo k mc) k (bls (T.marksOf (T.wasOf c.1 next)))) := by
            intro u u' hu hf
            exact ⟨(HD.out.2.2.trans (Fm.of hu (by omega))).trans hf, hf.own (own_below' HS.out.1 hu (Nat.le_refl _)) (by decide) (by decide), hf.own (own_below' HS.out.2 hu (Nat.le_refl _)) (by decide) (by decide)⟩
          subst hxo
          obtain ⟨x1, x2, x3⟩ := x
          simp only at c0 c1 c2 HDo HMo HFit1 HFit2 HOne hid hkey
          have hqi : (q : Int) < (k : Int) := by omega
          have hq0 : (0 : Int) ≤ (q : Int) := by omega
          have hqc : (q : Int) ≤ (xc : Int) := by omega
          have hbne : ¬ b = wr.heap.size := by omega
          clear hr hx hxk hat htl hwv hmv hwd hmd HR HXr
          go_wp2_with fail
          refine (HBe.out _ ((Below.refl _ _).alloc (Nat.le_refl _) _)).mono ?_
          rintro e w2 ⟨rfl, hb2⟩
          have hbw2 : Below wr.heap.size wr w2 := ((Below.refl _ _).alloc (Nat.le_refl _) _).trans (hb2.mono (by simp))
          have hxb : Blk w2 wr.heap.size #[.int .u8 x1, .int .u16 x2, .string x3] 60 := (Blk.new wr _ 60).below hb2 (by simp)
          have e0 := hxb.cell 0
          have e1 := hxb.cell 1
          have e2 := hxb.cell 2
          simp at e0 e1 e2
          obtain ⟨gw, gm, rfl, rfl, d0, d1⟩ := HWc.out w2 hbw2
          have HB2 : Hid (Below wr.heap.size wr w2) := hbw2
          clear hb2 hxb hbw2 HBe c0 c1 c2 HWc
          by_cases hneg : wv < 0
          · have HR2 : Hid (T.arrange next c = T.arrFrom next (T.wasOf c.1 next) (T.marksOf (T.wasOf c.1 next)) (q + 1) (next.drop (q + 1)) (T.doP d (2, x1, at_, x2, x3))) := by unfold Hid; rw [HR1.out, HOne.out, if_pos hneg]
            clear HR1 HOne HMo HFit2
            go_wp2_with fail
            refine (HDo.out _ HB2.out).mono ?_
            rintro e w3 ⟨rfl, hc3, hf3⟩
            obtain ⟨k1, k2, k3⟩ := HFr.out w2 w3 HB2.out hf3
            have HD3 : Hid (CB w3 base B (T.doP d (2, x1, at_, x2, x3)) ∧ Fit (T.doP d (2, x1, at_, x2, x3)) ∧ Fm base w w3) := ⟨hc3, HFit1.out, k1⟩
            have HS3 : Hid (w3.ownsRow w.heap.size 3 1 (.slice (some ⟨gw, 0, none⟩) k wc) k (its (T.wasOf c.1 next)) ∧ w3.ownsRow br 4 1 (.slice (some ⟨gm, 0, none⟩) k mc) k (bls (T.marksOf (T.wasOf c.1 next)))) := ⟨k2, k3⟩
            clear hc3 hf3 k1 k2 k3 HDo HFr
            go_wp2
            go_roundw
            case rel => exact ⟨q + 1, T.doP d (2, x1, at_, x2, x3), by omega, by go_num, by rw [do_len]; omega, HD3, HR2, HS3⟩
            case measure => simp [intOf]; omega
          · cases mv with
            | true =>
              have HR2 : Hid (T.arrange next c = T.arrFrom next (T.wasOf c.1 next) (T.marksOf (T.wasOf c.1 next)) (q + 1) (next.drop (q + 1)) d) := by unfold Hid; rw [HR1.out, HOne.out, if_neg hneg]; rfl
              obtain ⟨k1, k2, k3⟩ := HFr.out w2 w2 HB2.out (Fm.refl _ _)
              have HD3 : Hid (CB w2 base B d ∧ Fit d ∧ Fm base w w2) := ⟨HD.out.1.below HB2.out, HD.out.2.1, k1⟩
              have HS3 : Hid (w2.ownsRow w.heap.size 3 1 (.slice (some ⟨gw, 0, none⟩) k wc) k (its (T.wasOf c.1 next)) ∧ w2.ownsRow br 4 1 (.slice (some ⟨gm, 0, none⟩) k mc) k (bls (T.marksOf (T.wasOf c.1 next)))) := ⟨k2, k3⟩
              clear k1 k2 k3 HR1 HOne HMo HFit2 HDo HFr
              go_wp2
              go_roundw
              case rel => exact ⟨q + 1, d, by omega, by go_num, by omega, HD3, HR2, HS3⟩
              case measure => simp [intOf]; omega
            | false =>
              have HR2 : Hid (T.arrange next c = T.arrFrom next (T.wasOf c.1 next) (T.marksOf (T.wasOf c.1 next)) (q + 1) (next.drop (q + 1)) (T.moveP d x1 at_)) := by unfold Hid; rw [HR1.out, HOne.out, if_neg hneg]; rfl
              clear HR1 HOne HDo HFit1
              go_wp2_with fail
              refine (HMo.out _ HB2.out).mono ?_
              rintro e w3 ⟨rfl, hc3, hf3⟩
              obtain ⟨k1, k2, k3⟩ := HFr.out w2 w3 HB2.out hf3
              have HD3 : Hid (CB w3 base B (T.moveP d x1 at_) ∧ Fit (T.moveP d x1 at_) ∧ Fm base w w3) := ⟨hc3, HFit2.out, k1⟩
              have HS3 : Hid (w3.ownsRow w.heap.size 3 1 (.slice (some ⟨gw, 0, none⟩) k wc) k (its (T.wasOf c.1 next)) ∧ w3.ownsRow br 4 1 (.slice (some ⟨gm, 0, none⟩) k mc) k (bls (T.marksOf (T.wasOf c.1 next)))) := ⟨k2, k3⟩
              clear hc3 hf3 k1 k2 k3 HMo HFr
              go_wp2
              go_roundw
              case rel => exact ⟨q + 1, T.moveP d x1 at_, by omega, by go_num, by unfold T.moveP; rw [do_len]; omega, HD3, HR2, HS3⟩
              case measure => simp [intOf]; omega
        · have HV : Hid (T.arrange next c = d) := by
            unfold Hid
            rw [HR.out, List.drop_of_length_le (by have := Hn.out; omega)]
            rfl
          have hqi : ¬ (q : Int) < (k : Int) := by omega
          go_wp2
          go_end0
          rw [HV.out]
          exact ⟨rfl, HD.out.1, HD.out.2.2, HD.out.2.1, by omega⟩

end Go.Proofs.Ytcaeeaiodbjacaa
