/-
  The walk of keepNodesMarked.
-/
import Derived.Test.YtcaeeaiodbjacaaBookB
import Derived.Test.YtcaeeaiodbjacaaLentW
import Derived.BigRegion
import Derived.Maps.AppendAt
namespace Go.Proofs.Ytcaeeaiodbjacaa
open Go.RowKit
set_option linter.unusedVariables false

theorem info22 : (Try.prog.info? 22).map (fun i => (i.zero, i.size, i.bytes)) = some (some (.slice none 0 0), 1, 24) := by kernel_rfl

theorem ndCells_set : ∀ (l : List T.Nd) (k : Nat) (x : T.Nd), (((ndCells l).set (k * 3) (.int .u8 x.1)).set (k * 3 + 1) (.int .u16 x.2.1)).set (k * 3 + 2) (.string x.2.2) = ndCells (l.set k x)
  | [], k, x => by simp [ndCells]
  | y :: r, 0, x => by
    have e : ndCells (y :: r) = .int .u8 y.1 :: .int .u16 y.2.1 :: .string y.2.2 :: ndCells r := rfl
    have e2 : ndCells ((y :: r).set 0 x) = .int .u8 x.1 :: .int .u16 x.2.1 :: .string x.2.2 :: ndCells r := rfl
    rw [e, e2]
    rfl
  | y :: r, k + 1, x => by
    have e : ndCells (y :: r) = .int .u8 y.1 :: .int .u16 y.2.1 :: .string y.2.2 :: ndCells r := rfl
    have e2 : ndCells ((y :: r).set (k + 1) x) = .int .u8 y.1 :: .int .u16 y.2.1 :: .string y.2.2 :: ndCells (r.set k x) := rfl
    rw [e, e2, ← ndCells_set r k x, show (k + 1) * 3 = k * 3 + 1 + 1 + 1 by omega, show k * 3 + 1 + 1 + 1 + 1 = (k * 3 + 1) + 1 + 1 + 1 by omega, show k * 3 + 1 + 1 + 1 + 2 = (k * 3 + 2) + 1 + 1 + 1 by omega]
    rfl

/-- The mark of nodes. -/
def mkNd (key : Int) : List Value := [.int .u8 0, .int .u16 key, .string ⟨#[]⟩]

theorem ndCells_rep (key : Int) : ∀ n, ndCells (List.replicate n (0, key, ⟨#[]⟩)) = rep n (mkNd key)
  | 0 => rfl
  | n + 1 => by rw [List.replicate_succ', ndCells_snoc, rep_succ, ndCells_rep key n]; rfl

/-- An element of one's own row is written over. -/
theorem own_set3 {w : World} {base g n cap : Nat} {l : List T.Nd} (h : w.ownsRow base 60 3 (.slice (some ⟨g, 0, none⟩) n cap) n (ndCells l)) (k : Nat) (x : T.Nd) :
    (((w.setCell ⟨g, k * 3, none⟩ (.int .u8 x.1)).setCell ⟨g, k * 3 + 1, none⟩ (.int .u16 x.2.1)).setCell ⟨g, k * 3 + 2, none⟩ (.string x.2.2)).ownsRow base 60 3 (.slice (some ⟨g, 0, none⟩) n cap) n (ndCells (l.set k x)) := by
  obtain ⟨h1, h2⟩ := h
  refine ⟨by rw [← ndCells_set]; simpa using h1, ?_⟩
  rcases h2 with ⟨hv, _⟩ | ⟨g', cap', cur, hv, hb, hh, h3, h4, h5, h6⟩
  · simp at hv
  · simp only [Value.slice.injEq, Option.some.injEq, Addr.mk.injEq, and_true, true_and] at hv
    obtain ⟨rfl, rfl⟩ := hv
    have hB : Blk w g cur 60 := hh
    refine Or.inr ⟨g, cap, _, rfl, hb, ((hB.set (k * 3) (.int .u8 x.1)).set (k * 3 + 1) (.int .u16 x.2.1)).set (k * 3 + 2) (.string x.2.2), h3, h4, by simpa using h5, ?_⟩
    rw [Array.toList_setIfInBounds, Array.toList_setIfInBounds, Array.toList_setIfInBounds, List.take_set, List.take_set, List.take_set, h6, ndCells_set]

theorem kept_set3 {S : Nat → Prop} {w w1 : World} (h : Kept S w w1) (g a b c : Nat) (x y z : Value) (hs : S g) : Kept S w (((w1.setCell ⟨g, a, none⟩ x).setCell ⟨g, b, none⟩ y).setCell ⟨g, c, none⟩ z) :=
  ((h.setCell ⟨g, a, none⟩ x (Or.inl hs)).setCell ⟨g, b, none⟩ y (Or.inl hs)).setCell ⟨g, c, none⟩ z (Or.inl hs)

theorem own_is {w : World} {base : Nat} {e : TypeId} {size : Nat} {v : Value} {n : Nat} {xs : List Value} (h : w.ownsRow base e size v n xs) : ∃ ao cap, v = .slice ao n cap := by
  rcases h.2 with ⟨h, h0⟩ | ⟨g, cp, cur, hv, _⟩
  · exact ⟨none, 0, by rw [h0]; exact h⟩
  · exact ⟨_, _, hv⟩

/-- What keepNodesMarked leaves. -/
def markedEnd (base B : Nat) (vn : Value) (E : List Value) (lb : Option Nat) (o1 o2 o6 o7 o8 o9 : Value) (w : World) (e : Ending) (w' : World) : Prop :=
  e = .returned (.tuple #[]) ∧ ∃ vn' E', Blk w' B #[vn', o1, o2, .bool false, .slice none 0 0, .slice none 0 0, o6, o7, o8, o9] 39 ∧ w'.ownsRow base 22 1 vn' (E.length + 4) (E ++ E') ∧ E'.length = 4 ∧
    (∀ v ∈ E', ∃ m, m ≤ 400 ∧ MarkAt w' 60 (mkNd (200 + E.length)) v m ∧ ∀ k, v.ownBlock = some k → some k = lb ∨ w.heap.size ≤ k) ∧
    Kept (fun k => k = B ∨ some k = lb ∨ some k = vn.ownBlock) w w' ∧ (∀ k, vn'.ownBlock = some k → some k = vn.ownBlock ∨ w.heap.size ≤ k)

set_option maxRecDepth 100000 in
set_option maxHeartbeats 8000000 in
theorem marked_any (base B : Nat) (vn : Value) (E : List Value) (ao wo : Option Addr) (n cc wc : Nat) (l : List T.Nd) (o1 o2 o6 o7 o8 o9 : Value) (w : World) (hB : base ≤ B)
    (hbk : Blk w B #[vn, o1, o2, .bool false, .slice ao n cc, .slice wo n wc, o6, o7, o8, o9] 39) (hE : w.ownsRow base 22 1 vn E.length E) (hEl : E.length ≤ 8) (hl : l.length = n) (hn : n ≤ 16)
    (hown : w.ownsRow base 60 3 (.slice ao n cc) n (ndCells l)) (hw : NodeAt w wo l) (hs : base ≤ w.heap.size) :
    Calls Try.prog 34 #[.pointer (some ⟨B, 0, none⟩)] w fun e w' => markedEnd base B vn E (Value.ownBlock (.slice ao n cc)) o1 o2 o6 o7 o8 o9 w e w' := by
  obtain ⟨i0, hi, hz0, hz1, hz2⟩ := info_parts info60
  obtain ⟨j0, hj, hy0, hy1, hy2⟩ := info_parts info22
  have HBk : Hid (Blk w B #[vn, o1, o2, .bool false, .slice ao n cc, .slice wo n wc, o6, o7, o8, o9] 39) := hbk
  have HE : Hid (w.ownsRow base 22 1 vn E.length E) := hE
  have HOwn : Hid (w.ownsRow base 60 3 (.slice ao n cc) n (ndCells l)) := hown
  have HW : Hid (NodeAt w wo l) := hw
  have Hn : Hid (l.length = n) := hl
  have b4 := hbk.cell 4
  simp at b4
  obtain ⟨no, nc, hvn⟩ : ∃ no nc, vn = .slice no E.length nc := own_is hE
  clear hbk hE hown hw hl
  go_enter Try.func34, Try.ntmps34
  go_wp2_with fail
  clear b4
  go_loopw [3] (fun i wr => ∃ (k : Nat), k ≤ n ∧ i = .int .i64 k ∧ Below w.heap.size w wr)
    (fun i _ => n - (intOf i).toNat)
  case atStart => exact ⟨0, Nat.zero_le _, rfl, Below.refl _ _⟩
  case round =>
    obtain ⟨k, hk, rfl, hbel⟩ := hrel
    have HB1 : Hid (Below w.heap.size w wr) := hbel
    have hbw : Blk wr B #[vn, o1, o2, .bool false, .slice ao n cc, .slice wo n wc, o6, o7, o8, o9] 39 := HBk.out.below hbel HBk.out.lt
    have HBw : Hid (Blk wr B #[vn, o1, o2, .bool false, .slice ao n cc, .slice wo n wc, o6, o7, o8, o9] 39) := hbw
    by_cases hlt : k < n
    · obtain ⟨g, rfl⟩ : ∃ g, ao = some ⟨g, 0, none⟩ := by
        rcases HOwn.out.2 with ⟨h, h0⟩ | ⟨g, cp, cur, hv, hb, hh, _⟩
        · omega
        · simp only [Value.slice.injEq] at hv
          exact ⟨g, hv.1⟩
      obtain ⟨x, hx⟩ : ∃ x, l[k]? = some x := ⟨l[k]'(by have := Hn.out; omega), List.getElem?_eq_getElem (by have := Hn.out; omega)⟩
      obtain ⟨b, off, rfl, hbl, hr⟩ : ∃ b off, wo = some ⟨b, off, none⟩ ∧ b < w.heap.size ∧ NodeRow w b off l := HW.out.resolve_left (by rintro rfl; simp at hx)
      obtain ⟨c0, c1, c2⟩ := (own_nodeRow (own_below' HOwn.out hbel (Nat.le_refl _)) Hn.out) k _ hx
      obtain ⟨d0, d1, d2⟩ := (hr.below hbel hbl) k _ hx
      rw [Nat.zero_add] at c0 c1 c2
      obtain ⟨x1, x2, x3⟩ := x
      simp only at c0 c1 c2 d0 d1 d2
      have b3 := hbw.cell 3
      have b5 := hbw.cell 5
      simp at b3 b5
      have f3 := hbw.free 3
      have hki : (k : Int) < (n : Int) := by omega
      have t1 : (x1 == x1) = true := by simp
      have t2 : (x2 == x2) = true := by simp
      have t3 : (x3.toList == x3.toList) = true := by simp
      clear hbel hbw hx hr
      go_wp2_with fail
      go_region
      all_goals
        go_wp2
        go_roundw
        case rel => exact ⟨k + 1, by omega, by go_num, (below_same HB1.out HBw.out (by simp)).drew⟩
        case measure => simp [intOf]; omega
    · have hkn : k = n := by omega
      subst hkn
      have HE1 : Hid (wr.ownsRow base 22 1 vn E.length E) := own_below' HE.out hbel (Nat.le_refl _)
      have HO1 : Hid (wr.ownsRow base 60 3 (.slice ao k cc) k (ndCells l)) := own_below' HOwn.out hbel (Nat.le_refl _)
      have hsz1 := hbel.size
      have hlb : ∀ q, Value.ownBlock (.slice ao k cc) = some q → q < w.heap.size := fun q h => (HOwn.out.lt q h).2
      have HLb : Hid (∀ q, Value.ownBlock (.slice ao k cc) = some q → base ≤ q ∧ q < w.heap.size) := fun q h => HOwn.out.lt q h
      have HNb : Hid (∀ q, vn.ownBlock = some q → base ≤ q ∧ q < w.heap.size) := fun q h => HE.out.lt q h
      have hBl := HBk.out.lt
      obtain ⟨cs, hcs⟩ : ∃ cs, cs = #[vn, o1, o2, .bool false, .slice ao k cc, .slice wo k wc, o6, o7, o8, o9] := ⟨_, rfl⟩
      have HCs : Hid (cs = #[vn, o1, o2, .bool false, .slice ao k cc, .slice wo k wc, o6, o7, o8, o9]) := hcs
      have HBc : Hid (Blk wr B cs 39) := by unfold Hid; rw [hcs]; exact hbw
      have b0 := hbw.cell 0
      simp at b0
      obtain ⟨e, he⟩ : ∃ e, e = E.length := ⟨_, rfl⟩
      have He : Hid (E.length = e) := he.symm
      rw [hvn, ← he] at b0
      rw [← he] at hEl
      have hw16 : IntKind.u16.wrap ((200 : Int) + (e : Int)) = (200 : Int) + (e : Int) := by
        simp [IntKind.wrap, IntKind.signed, IntKind.bits]
        omega
      clear hbel hbw hlb hcs hlt he HBw HOwn HW HBk HE
      go_wp2_with fail
      have hM : Blk (wr.alloc (.cells #[.int .u8 0, .int .u16 (200 + (e : Int)), .string ⟨#[]⟩] 60)) wr.heap.size #[.int .u8 0, .int .u16 (200 + (e : Int)), .string ⟨#[]⟩] 60 := Blk.new wr _ 60
      have HM : Hid (Blk (wr.alloc (.cells #[.int .u8 0, .int .u16 (200 + (e : Int)), .string ⟨#[]⟩] 60)) wr.heap.size (mkNd (200 + (e : Int))).toArray 60) := hM
      have HK1 : Hid (Kept (fun q => q = B ∨ some q = Value.ownBlock (.slice ao k cc) ∨ some q = vn.ownBlock) w (wr.alloc (.cells #[.int .u8 0, .int .u16 (200 + (e : Int)), .string ⟨#[]⟩] 60))) := (Kept.of_below HB1.out).alloc _
      have HBc2 : Hid (Blk (wr.alloc (.cells #[.int .u8 0, .int .u16 (200 + (e : Int)), .string ⟨#[]⟩] 60)) B cs 39) := HBc.out.alloc _
      have HE2 : Hid ((wr.alloc (.cells #[.int .u8 0, .int .u16 (200 + (e : Int)), .string ⟨#[]⟩] 60)).ownsRow base 22 1 vn E.length E) := HE1.out.alloc _
      have HO2 : Hid ((wr.alloc (.cells #[.int .u8 0, .int .u16 (200 + (e : Int)), .string ⟨#[]⟩] 60)).ownsRow base 60 3 (.slice ao k cc) k (ndCells l)) := HO1.out.alloc _
      obtain ⟨M, hMe⟩ : ∃ M, M = wr.heap.size := ⟨_, rfl⟩
      rw [← hMe] at HM hsz1 ⊢
      clear hM HB1 HBc HE1 HO1 b0
      clear hMe
      go_loopw [5] (fun i wr => ∃ (q : Nat) (la : List T.Nd), q ≤ k ∧ i = .int .i64 q ∧ Hid (wr.ownsRow base 60 3 (.slice ao k cc) k (ndCells la) ∧ la.length = k ∧ ∀ i, i < q → la[i]? = some (0, 200 + (e : Int), ⟨#[]⟩)) ∧ Hid (Blk wr B cs 39 ∧ wr.ownsRow base 22 1 vn E.length E ∧ Blk wr M (mkNd (200 + (e : Int))).toArray 60 ∧ Kept (fun q => q = B ∨ some q = Value.ownBlock (.slice ao k cc) ∨ some q = vn.ownBlock) w wr))
        (fun i _ => k - (intOf i).toNat)
      case atStart => exact ⟨0, l, Nat.zero_le _, rfl, ⟨HO2.out, Hn.out, by intro i hi; omega⟩, HBc2.out, HE2.out, HM.out, HK1.out⟩
      case round =>
        obtain ⟨q, la, hq, rfl, HLa, HX⟩ := hrel
        clear HO2 HBc2 HE2 HM HK1
        have hMb := HX.out.2.2.1
        have m0 := hMb.cell 0
        have m1 := hMb.cell 1
        have m2 := hMb.cell 2
        simp [mkNd] at m0 m1 m2
        clear hMb
        by_cases hlt : q < k
        · obtain ⟨g, rfl⟩ : ∃ g, ao = some ⟨g, 0, none⟩ := by
            rcases HLa.out.1.2 with ⟨h, h0⟩ | ⟨g, cp, cur, hv, hb, hh, _⟩
            · omega
            · simp only [Value.slice.injEq] at hv
              exact ⟨g, hv.1⟩
          obtain ⟨y, hy⟩ : ∃ x, la[q]? = some x := ⟨la[q]'(by have := HLa.out.2.1; omega), List.getElem?_eq_getElem (by have := HLa.out.2.1; omega)⟩
          obtain ⟨c0, c1, c2⟩ := (own_nodeRow HLa.out.1 HLa.out.2.1) q _ hy
          rw [Nat.zero_add] at c0 c1 c2
          obtain ⟨cur, hcur⟩ : ∃ cur, Blk wr g cur 60 := by
            rcases HLa.out.1.2 with ⟨h, _⟩ | ⟨g', cp, cur, hv, _, hh, _⟩
            · simp at h
            · simp only [Value.slice.injEq, Option.some.injEq, Addr.mk.injEq] at hv
              obtain ⟨⟨rfl, _⟩, _⟩ := hv
              exact ⟨cur, hh⟩
          have f0 := hcur.free (q * 3)
          have f1 := hcur.free (q * 3 + 1)
          have f2 := hcur.free (q * 3 + 2)
          have hgM : ¬ g = M := by have := HLb.out g rfl; omega
          have hMg : ¬ M = g := by omega
          have hBg : B ≠ g := HX.out.1.ne hcur (by decide)
          have hqi : (q : Int) < (k : Int) := by omega
          have HCur : Hid (Blk wr g cur 60) := hcur
          have HSg : Hid (g = B ∨ some g = Value.ownBlock (.slice (some ⟨g, 0, none⟩) k cc) ∨ some g = vn.ownBlock) := Or.inr (Or.inl rfl)
          clear hcur hy
          clear hw16 hEl hk
          go_wp2
          go_roundw
          case rel =>
            refine ⟨q + 1, la.set q (0, 200 + (e : Int), ⟨#[]⟩), by omega, by go_num, ⟨own_set3 HLa.out.1 q (0, 200 + (e : Int), ⟨#[]⟩), by simpa using HLa.out.2.1, ?_⟩, ?_, ?_, ?_, ?_⟩
            · intro i hi'
              rw [List.getElem?_set]
              by_cases hik : q = i
              · rw [if_pos hik, if_pos (by have := HLa.out.2.1; omega)]
              · rw [if_neg hik]; exact HLa.out.2.2 i (by omega)
            · exact ((HX.out.1.other _ _ hBg).other _ _ hBg).other _ _ hBg
            · refine own_block HX.out.2.1 fun x hx => ?_
              have hne : x ≠ g := by
                rintro rfl
                exact (HCur.out.ne_own HX.out.2.1 (by decide)) hx.symm
              exact (Below.heap_setCell _ _ _ _ hne).trans ((Below.heap_setCell _ _ _ _ hne).trans (Below.heap_setCell _ _ _ _ hne))
            · exact ((HX.out.2.2.1.other _ _ hMg).other _ _ hMg).other _ _ hMg
            · exact kept_set3 HX.out.2.2.2 g _ _ _ _ _ _ HSg.out
          case measure => simp [intOf]; omega
        · have hqn : q = k := by omega
          subst hqn
          have HL3 : Hid (LSt w wr base B M 0 22 60 cs (mkNd (200 + (e : Int))) (Value.ownBlock (.slice ao q cc)) vn.ownBlock E vn [] ao q cc) := by
            have hla : la = List.replicate q (0, 200 + (e : Int), ⟨#[]⟩) := by
              apply List.ext_getElem?
              intro i
              by_cases hik : i < q
              · rw [HLa.out.2.2 i hik, List.getElem?_replicate, if_pos hik]
              · rw [List.getElem?_eq_none (by have := HLa.out.2.1; omega), List.getElem?_eq_none (by simp; omega)]
            have ho := HLa.out.1
            rw [hla, ndCells_rep] at ho
            have hc0 : cs[0]? = some vn := by rw [HCs.out]; rfl
            refine ⟨by rw [HX.out.1.keeps hc0]; exact HX.out.1, by simpa using HX.out.2.1, ho, HX.out.2.2.1, HX.out.2.2.2, ?_, fun x hx => Or.inl hx.symm, by simp, hsz1⟩
            intro x hx
            have := HLb.out x hx
            exact ⟨Or.inl hx.symm, by omega⟩
          clear HLa HX m0 m1 m2
          go_wp2_with fail
          have hms : (mkNd (200 + (e : Int))).length = 3 := rfl
          go_loopw [2, 6] (fun vl i wr => ∃ (j len cj : Nat) (aj : Option Addr) (vj : Value) (Ej : List Value), vl = .slice aj len cj ∧ j ≤ 4 ∧ i = .int .i64 j ∧ len ≤ q + 61 * j ∧ Ej.length = j ∧ Hid (LSt w wr base B M 0 22 60 cs (mkNd (200 + (e : Int))) (Value.ownBlock (.slice ao q cc)) vn.ownBlock E vj Ej aj len cj))
            (fun _ i _ => 4 - (intOf i).toNat)
          case atStart => exact ⟨0, q, cc, ao, vn, [], rfl, by omega, rfl, by omega, rfl, HL3⟩
          case round =>
            obtain ⟨j, len, cj, aj, vj, Ej, rfl, hj4, rfl, hlen, hEj, HL⟩ := hrel
            clear HL3
            have hszr := HL.out.kept.size
            have HRow : Hid (wr.ownsRow base 22 1 vj (e + j) (E ++ Ej)) := by
              have h := HL.out.row
              rw [He.out, hEj] at h
              exact h
            have HNo : Hid (vn.ownBlock = vn.ownBlock) := rfl
            by_cases hjj : j < 4
            · have b0 := HL.out.bk.cell 0
              rw [HCs.out] at b0
              simp at b0
              have hji : (j : Int) < 4 := by omega
              go_wp2_with (at_builtin; refine wpList_append_own_at _ rfl (.tmp 65) (.tmp 67) 33 rfl base 22 j0 (.slice none 0 0) 1 24 Try.underlying33 hj hy0 hy1 hy2 rfl (by decide) _ (e + j) _ rfl (HRow.out.alloc _) ⟨wr.heap.size, 0, none⟩ 1 1 [.slice aj len cj] rfl rfl (new_one _ _ _) (by intro u hu; simp at hu; subst hu; rfl) (by unfold maxLen; omega) (by omega) (by simp; omega) ?_)
              intro v7 w7 ho7 hg7 _ hb7
              obtain ⟨vo7, vc7, rfl⟩ : ∃ vo7 vc7, v7 = .slice vo7 (e + j + 1) vc7 := own_is ho7
              have HL8 : Hid (LSt w (w7.setCell ⟨B, 0, none⟩ (.slice vo7 (e + j + 1) vc7)) base B M 0 22 60 cs (mkNd (200 + (e : Int))) (Value.ownBlock (.slice ao q cc)) vn.ownBlock E (.slice vo7 (e + j + 1) vc7) (Ej ++ [.slice aj len cj]) aj len cj) := by
                refine HL.out.join (by decide) (by decide) (by decide) ?_ hg7 (by simpa using hb7)
                rw [He.out, hEj, List.append_assoc]
                exact ho7
              obtain ⟨hb8, hm8⟩ := HL.out.mid (by decide) (by decide) hg7
              have c7 := hb8.cell 0
              rw [HCs.out] at c7
              simp at c7
              have f7 := hb8.free 0
              have hBM : ¬ B = M := by have := HL.out.hM; omega
              have hMB : ¬ M = B := by omega
              have m0 := hm8.cell 0
              have m1 := hm8.cell 1
              have m2 := hm8.cell 2
              simp [mkNd] at m0 m1 m2
              have hs7 : base ≤ w7.heap.size := by have := hg7.size; simp at this; omega
              have hnw : ∀ jj u, (mkNd (200 + (e : Int)))[jj]? = some u → ((w7.setCell ⟨B, 0, none⟩ (.slice vo7 (e + j + 1) vc7)).alloc (.cells #[.int .u8 0, .int .u16 (200 + (e : Int)), .string ⟨#[]⟩] 60)).cell? ((⟨w7.heap.size, 0, none⟩ : Addr).add jj) = some u := by
                rw [show w7.heap.size = (w7.setCell ⟨B, 0, none⟩ (.slice vo7 (e + j + 1) vc7)).heap.size by simp]
                exact new_three _ _ _ _ _
              have HNw : Hid (∀ jj u, (mkNd (200 + (e : Int)))[jj]? = some u → ((w7.setCell ⟨B, 0, none⟩ (.slice vo7 (e + j + 1) vc7)).alloc (.cells #[.int .u8 0, .int .u16 (200 + (e : Int)), .string ⟨#[]⟩] 60)).cell? ((⟨w7.heap.size, 0, none⟩ : Addr).add jj) = some u) := hnw
              clear ho7 hg7 hb7 hb8 hm8 hnw HL HRow b0
              go_wp2_with (at_builtin; refine wpList_append_mark _ rfl (.tmp 71) (.tmp 73) 22 rfl base 60 i0 (.agg #[.int .u8 0, .int .u16 0, .string ⟨#[]⟩]) 24 (mkNd (200 + (e : Int))) Try.underlying22 hi hz0 hz1 hz2 rfl (Nat.succ_pos 2) aj len cj rfl (HL8.out.own.alloc _) ⟨w7.heap.size, 0, none⟩ 1 rfl HNw.out (by intro u hu; simp [mkNd] at hu; rcases hu with rfl | rfl | rfl <;> rfl) (by unfold maxLen; omega) (by omega) (by simp; omega) ?_)
              intro a9 c9 w9 ho9 hg9 hb9 hm9
              have HL9 : Hid (LSt w w9 base B M 0 22 60 cs (mkNd (200 + (e : Int))) (Value.ownBlock (.slice ao q cc)) vn.ownBlock E (.slice vo7 (e + j + 1) vc7) (Ej ++ [.slice aj len cj]) a9 (len + 1) c9) := HL8.out.push (by decide) (by decide) ho9 hg9 (by simpa using hb9) hm9
              clear ho9 hg9 hb9 hm9 HL8 HNw c7 f7 m0 m1 m2 hs7
              go_wp2_with fail
              go_loopw [2, 7] (fun vl i wr => ∃ (p len' c' : Nat) (a' : Option Addr), vl = .slice a' len' c' ∧ p ≤ 60 ∧ i = .int .i64 p ∧ len' ≤ len + 1 + p ∧ Hid (LSt w wr base B M 0 22 60 cs (mkNd (200 + (e : Int))) (Value.ownBlock (.slice ao q cc)) vn.ownBlock E (.slice vo7 (e + j + 1) vc7) (Ej ++ [.slice aj len cj]) a' len' c'))
                (fun _ i _ => 60 - (intOf i).toNat)
              case atStart => exact ⟨0, len + 1, c9, a9, rfl, by omega, rfl, by omega, HL9⟩
              case round =>
                obtain ⟨p, len', c', a', rfl, hp60, rfl, hlen', HL⟩ := hrel
                clear HL9
                have hszr := HL.out.kept.size
                by_cases hpp : p < 60
                · have hpi : (p : Int) < 60 := by omega
                  by_cases hj2 : j = 2
                  · obtain ⟨tt, ht1, ht2⟩ : ∃ tt : Bool, ((j : Int) == 2) = tt ∧ tt = true := ⟨true, by subst hj2; rfl, rfl⟩
                    clear hj2
                    have m0 := HL.out.mark.cell 0
                    have m1 := HL.out.mark.cell 1
                    have m2 := HL.out.mark.cell 2
                    simp [mkNd] at m0 m1 m2
                    have HNw : Hid (∀ jj u, (mkNd (200 + (e : Int)))[jj]? = some u → (wr.alloc (.cells #[.int .u8 0, .int .u16 (200 + (e : Int)), .string ⟨#[]⟩] 60)).cell? ((⟨wr.heap.size, 0, none⟩ : Addr).add jj) = some u) := new_three wr _ _ _ _
                    go_wp2_with (at_builtin; refine wpList_append_mark _ rfl (.tmp 83) (.tmp 85) 22 rfl base 60 i0 (.agg #[.int .u8 0, .int .u16 0, .string ⟨#[]⟩]) 24 (mkNd (200 + (e : Int))) Try.underlying22 hi hz0 hz1 hz2 rfl (Nat.succ_pos 2) a' len' c' rfl (HL.out.own.alloc _) ⟨wr.heap.size, 0, none⟩ 1 rfl HNw.out (by intro u hu; simp [mkNd] at hu; rcases hu with rfl | rfl | rfl <;> rfl) (by unfold maxLen; omega) (by omega) (by simp; omega) ?_)
                    intro a9 c9 w9 ho9 hg9 hb9 hm9
                    have HL9 : Hid (LSt w w9 base B M 0 22 60 cs (mkNd (200 + (e : Int))) (Value.ownBlock (.slice ao q cc)) vn.ownBlock E (.slice vo7 (e + j + 1) vc7) (Ej ++ [.slice aj len cj]) a9 (len' + 1) c9) := HL.out.push (by decide) (by decide) ho9 hg9 (by simpa using hb9) hm9
                    clear ho9 hg9 hb9 hm9 HNw m0 m1 m2
                    go_wp2
                    go_roundw
                    case rel =>
                      exact ⟨p + 1, len' + 1, c9, a9, rfl, by omega, by go_num, by omega, HL9⟩
                    case measure => simp [intOf]; omega
                  · have hj2' : ((j : Int) == 2) = false := by
                      rw [beq_eq_false_iff_ne]
                      omega
                    go_wp2
                    go_roundw
                    case rel => exact ⟨j + 1, len', c', a', (.slice vo7 (e + j + 1) vc7), _, rfl, by omega, by go_num, by omega, by simp [hEj], HL⟩
                    case measure => simp [intOf]; omega
                · have hpn : ¬ (p : Int) < 60 := by omega
                  go_wp2
                  go_roundw
                  case rel => exact ⟨j + 1, len', c', a', (.slice vo7 (e + j + 1) vc7), _, rfl, by omega, by go_num, by omega, by simp [hEj], HL⟩
                  case measure => simp [intOf]; omega
            · have hjn : ¬ (j : Int) < 4 := by omega
              have hj4' : j = 4 := by omega
              have b4 := HL.out.bk.cell 4
              have b5 := HL.out.bk.cell 5
              rw [HCs.out] at b4 b5
              simp at b4 b5
              have f4 := HL.out.bk.free 4
              have f5 := HL.out.bk.free 5
              clear HRow
              go_wp2
              go_end0
              subst hvn
              obtain ⟨r1, r2, r3, r4, r5⟩ := HL.out.fin (by decide) (by decide) 4 5 (.slice none 0 0) (.slice none 0 0)
              refine ⟨rfl, vj, Ej, ?_, ?_, by omega, ?_, r4, r5⟩
              · rw [HCs.out] at r1
                exact r1
              · rw [hEj, hj4'] at r2
                exact r2
              · intro v hv
                obtain ⟨m, hm1, hm2, hm3⟩ := r3 v hv
                refine ⟨m, by omega, ?_, hm3⟩
                rw [He.out]
                exact hm2

end Go.Proofs.Ytcaeeaiodbjacaa
