/-
  The walk of Codes.
-/
import Derived.Test.YtfggaacijcggeaaCodesA
import Derived.Test.YtfggaacijcggeaaCodesB
import Derived.Deep.DeepCutAuto
namespace Go.Proofs.Ytfggaacijcggeaa
open Go.RowKit
set_option linter.unusedVariables false

theorem own_weaken {w : World} {b b' : Nat} {e : TypeId} {size : Nat} {v : Value} {n : Nat} {xs : List Value} (h : w.ownsRow b e size v n xs) (hb : b' ≤ b) : w.ownsRow b' e size v n xs := by
  obtain ⟨h1, h2⟩ := h
  refine ⟨h1, ?_⟩
  rcases h2 with h2 | ⟨g, cap, cur, hv, hg, r⟩
  · exact Or.inl h2
  · exact Or.inr ⟨g, cap, cur, hv, by omega, r⟩

/-- What stays as it is while lists are marked: the mark itself, and the document's own list. -/
def Stay (w : World) (lo M : Nat) (bo : Option Addr) (da : List (Int × Int)) : Prop :=
  Blk w M #[.int .u8 200, .int .i64 200] 28 ∧ (da = [] ∨ ∃ gb cur, bo = some ⟨gb, 0, none⟩ ∧ lo ≤ gb ∧ gb < M ∧ Blk w gb cur 28 ∧ InsRow w gb 0 da)

theorem Stay.grown {w w' : World} {lo M : Nat} {bo : Option Addr} {da : List (Int × Int)} {row : Option Nat} (h : Stay w lo M bo da) (hg : w.grownBy w' row) (hne : ∀ g, lo ≤ g → g ≤ M → ∀ cur, Blk w g cur 28 → some g ≠ row) (hlm : lo ≤ M) : Stay w' lo M bo da := by
  refine ⟨h.1.grown hg (hne M hlm (Nat.le_refl _) _ h.1), ?_⟩
  rcases h.2 with h | ⟨gb, cur, e, h1, h2, h3, h4⟩
  · exact Or.inl h
  · have hn := hne gb h1 (by omega) _ h3
    refine Or.inr ⟨gb, cur, e, h1, h2, h3.grown hg hn, ?_⟩
    intro i x hx
    obtain ⟨c0, c1⟩ := h4 i x hx
    exact ⟨hg.cell c0 hn, hg.cell c1 hn⟩

theorem Stay.below {B : Nat} {w w' : World} {lo M : Nat} {bo : Option Addr} {da : List (Int × Int)} (h : Stay w lo M bo da) (hb : Below B w w') (hB : w.heap.size ≤ B) : Stay w' lo M bo da := by
  have hM := h.1.lt
  refine ⟨h.1.below hb (by omega), ?_⟩
  rcases h.2 with h | ⟨gb, cur, e, h1, h2, h3, h4⟩
  · exact Or.inl h
  · exact Or.inr ⟨gb, cur, e, h1, h2, h3.below hb (by omega), h4.below hb (by omega)⟩

theorem own_ins {w : World} {base : Nat} {v : Value} {l : List (Int × Int)} (h : w.ownsRow base 28 2 v l.length (insCells l)) :
    ∃ ao cap, v = .slice ao l.length cap ∧ InsAt w ao l := by
  rcases h.2 with ⟨hv, h0⟩ | ⟨g, cap, cur, hv, hb, hh, h1, h2, h3⟩
  · have : l = [] := List.eq_nil_of_length_eq_zero h0
    subst this
    exact ⟨none, 0, hv, Or.inl rfl⟩
  · subst hv
    exact ⟨some ⟨g, 0, none⟩, cap, rfl, Or.inr ⟨g, 0, rfl, own_insRow h rfl⟩⟩

theorem InsAt.below {B : Nat} {w w' : World} {ao : Option Addr} {l : List (Int × Int)} (h : InsAt w ao l) (hb : Below B w w') (hB : w.heap.size ≤ B) : InsAt w' ao l := by
  rcases h with h | ⟨b, off, e, hr⟩
  · exact Or.inl h
  · cases l with
    | nil => exact Or.inl rfl
    | cons x r =>
      have hlt : b < w.heap.size := World.block_lt_of_cell? _ _ (hr 0 x rfl).1
      exact Or.inr ⟨b, off, e, hr.below hb (by omega)⟩

theorem decode_small (s : ByteArray) : (H.decode (H.bts s)).1.length ≤ 64 := by
  rcases H.decode_cases (H.bts s) (H.at0_bts_range s) with ⟨p, _, h⟩ | ⟨l, h, _, h64, _⟩
  · rw [h]; simp
  · rw [h]; exact h64

theorem info22 : (Try.prog.info? 22).map (fun i => (i.zero, i.size, i.bytes)) = some (some (.slice none 0 0), 1, 24) := by kernel_rfl

set_option maxRecDepth 100000 in
set_option maxHeartbeats 8000000 in
theorem codes_any (s : ByteArray) (lo : Option Addr) (lc : Nat) (l : List (Int × Int)) (w : World) (hs : s.size ≤ maxLen) (hl : l.length ≤ 8796093022300) (ha : InsAt w lo l) (hop : ∀ x ∈ l, 0 ≤ x.1 ∧ x.1 ≤ 255) (hln : lo = none → l.length = 0 ∧ lc = 0) :
    Calls Try.prog 3 #[.string s, .slice lo l.length lc] w fun e w' => e = .returned (.bool true) ∧ Below w.heap.size w w' := by
  have HS : Hid (s.size ≤ maxLen) := hs
  have HLa : Hid (InsAt w lo l) := ha
  have HOp : Hid (∀ x ∈ l, 0 ≤ x.1 ∧ x.1 ≤ 255) := hop
  obtain ⟨n, hn⟩ : ∃ n, n = l.length := ⟨_, rfl⟩
  have Hn : Hid (l.length = n) := hn.symm
  rw [← hn] at hl hln ⊢
  have h64 := decode_small s
  obtain ⟨D, hD⟩ : ∃ D, D = H.decode (H.bts s) := ⟨_, rfl⟩
  have HD : Hid (D = H.decode (H.bts s)) := hD
  rw [← hD] at h64
  clear hs ha hop hn hD
  obtain ⟨da, er, pl⟩ := D
  simp only at h64
  obtain ⟨i0, hi, hz0, hz1, hz2⟩ := info_parts info28
  obtain ⟨j0, hj, hy0, hy1, hy2⟩ := info_parts info22
  have t1 : (er != er) = false := by simp
  have t2 : (pl != pl) = false := by simp
  go_enter Try.func3, Try.ntmps3
  go_wp2_with fail
  refine (dec_any s w HS.out).mono ?_
  rintro e w1 ⟨va, rfl, hoa, hba⟩
  rw [← HD.out] at hoa ⊢
  simp only at hoa ⊢
  obtain ⟨ao, ac, rfl, hia⟩ := own_ins hoa
  obtain ⟨na, hna⟩ : ∃ na, na = da.length := ⟨_, rfl⟩
  have HNa : Hid (da.length = na) := hna.symm
  rw [← hna] at hoa h64 ⊢
  have HO1 : Hid (w1.ownsRow w.heap.size 28 2 (.slice ao na ac) na (insCells da)) := hoa
  have HA1 : Hid (InsAt w1 ao da) := hia
  have B1 : Hid (Below w.heap.size w w1) := hba
  clear hoa hia hba hna
  go_wp2_with fail
  refine (refDec_any s w1 HS.out).mono ?_
  rintro e w2 ⟨vb, rfl, hob, hbb⟩
  rw [← HD.out] at hob ⊢
  simp only at hob ⊢
  obtain ⟨bo, bc, rfl, hib⟩ := own_ins hob
  rw [HNa.out] at hob ⊢
  have HO2 : Hid (w2.ownsRow w.heap.size 28 2 (.slice ao na ac) na (insCells da)) := own_below' HO1.out hbb (Nat.le_refl _)
  have HA2 : Hid (InsAt w2 ao da) := HA1.out.below hbb (Nat.le_refl _)
  have HBo2 : Hid (da = [] ∨ ∃ gb cur, bo = some ⟨gb, 0, none⟩ ∧ w1.heap.size ≤ gb ∧ Blk w2 gb cur 28 ∧ InsRow w2 gb 0 da) := by
    rcases hob.2 with ⟨_, h0⟩ | ⟨g, cp, cur, hv, hb, hh, _⟩
    · exact Or.inl (List.eq_nil_of_length_eq_zero (by rw [HNa.out]; exact h0))
    · simp only [Value.slice.injEq] at hv
      obtain ⟨rfl, _, rfl⟩ := hv
      exact Or.inr ⟨g, cur, rfl, hb, hh, own_insRow hob HNa.out⟩
  have HIb2 : Hid (InsAt w2 bo da) := hib
  have B2 : Hid (Below w1.heap.size w1 w2) := hbb
  clear hob hib hbb HA1
  go_wp2_with fail
  have hsm := same_any ao bo ac bc da da w2 (by rw [HNa.out]; unfold maxLen; omega) (by rw [HNa.out]; unfold maxLen; omega) HA2.out HIb2.out
  rw [HNa.out] at hsm
  refine hsm.mono ?_
  rintro e w3 ⟨rfl, hb3⟩
  clear hsm
  simp only [decide_true]
  have HO3 : Hid (w3.ownsRow w.heap.size 28 2 (.slice ao na ac) na (insCells da)) := own_below' HO2.out hb3 (Nat.le_refl _)
  have HBo3 : Hid (da = [] ∨ ∃ gb cur, bo = some ⟨gb, 0, none⟩ ∧ w1.heap.size ≤ gb ∧ gb < w3.heap.size ∧ Blk w3 gb cur 28 ∧ InsRow w3 gb 0 da) := by
    rcases HBo2.out with h | ⟨gb, cur, e, h1, h2, h3⟩
    · exact Or.inl h
    · have hlt := h2.lt
      exact Or.inr ⟨gb, cur, e, h1, by have := hb3.size; omega, h2.below hb3 hlt, h3.below hb3 hlt⟩
  have B3 : Hid (Below w1.heap.size w1 w3) := B2.out.trans (hb3.mono B2.out.size)
  clear hb3 HO2 HA2 HBo2 HIb2 B2
  go_wp2_with fail
  have hM : Blk (w3.alloc (.cells #[.int .u8 200, .int .i64 200] 28)) w3.heap.size #[.int .u8 200, .int .i64 200] 28 := Blk.new w3 _ 28
  go_loopw [13] (fun i wr => ∃ (k : Nat) (la : List (Int × Int)), k ≤ na ∧ i = .int .i64 k ∧ wr.heap.size = w3.heap.size + 1 ∧ wr.ownsRow w.heap.size 28 2 (.slice ao na ac) na (insCells la) ∧ Below w.heap.size w wr ∧ Hid (la.length = na ∧ (∀ i, i < k → la[i]? = some (200, 200)) ∧ Stay wr w1.heap.size w3.heap.size bo da))
    (fun i _ => na - (intOf i).toNat)
  case atStart =>
    refine ⟨0, da, Nat.zero_le _, rfl, by simp, HO3.out.alloc _, (B1.out.trans (B3.out.mono B1.out.size)).alloc (by have := B1.out.size; have := B3.out.size; omega) _, HNa.out, by intro i hi; omega, hM, ?_⟩
    rcases HBo3.out with h | ⟨gb, cur, e, h1, h2, h3, h4⟩
    · exact Or.inl h
    · exact Or.inr ⟨gb, cur, e, h1, h2, h3.alloc _, h4.below ((Below.refl w3.heap.size w3).alloc (Nat.le_refl _) _) h2⟩
  case round =>
    obtain ⟨k, la, hk, rfl, hsz, hown, hbel, HX⟩ := hrel
    have HOw : Hid (wr.ownsRow w.heap.size 28 2 (.slice ao na ac) na (insCells la)) := hown
    have HB : Hid (Below w.heap.size w wr) := hbel
    have m0 := HX.out.2.2.1.cell 0
    have m1 := HX.out.2.2.1.cell 1
    simp at m0 m1
    clear hown hbel hM
    by_cases hlt : k < na
    · obtain ⟨g, rfl, hgb, hgl⟩ : ∃ g, ao = some ⟨g, 0, none⟩ ∧ w.heap.size ≤ g ∧ g < w1.heap.size := by
        rcases HO1.out.2 with ⟨h, h0⟩ | ⟨g, cp, cur, hv, hb, hh, _⟩
        · omega
        · simp only [Value.slice.injEq] at hv
          exact ⟨g, hv.1, hb, lt_of_block hh⟩
      obtain ⟨y, hy⟩ : ∃ x, la[k]? = some x := ⟨la[k]'(by have := HX.out.1; omega), List.getElem?_eq_getElem (by have := HX.out.1; omega)⟩
      obtain ⟨c0, c1⟩ := own_insRow HOw.out HX.out.1 k _ hy
      rw [Nat.zero_add] at c0 c1
      obtain ⟨cur, hcur⟩ : ∃ cur, Blk wr g cur 28 := by
        rcases HOw.out.2 with ⟨h, _⟩ | ⟨g', cp, cur, hv, _, hh, _⟩
        · simp at h
        · simp only [Value.slice.injEq, Option.some.injEq, Addr.mk.injEq] at hv
          obtain ⟨⟨rfl, _⟩, _⟩ := hv
          exact ⟨cur, hh⟩
      have f0 := hcur.free (k * 2)
      have f1 := hcur.free (k * 2 + 1)
      have hgw : g < wr.heap.size := hcur.lt
      have hgne : ¬ g = w3.heap.size := by have := B3.out.size; omega
      have hgne2 : ¬ w3.heap.size = g := by omega
      have hki : (k : Int) < (na : Int) := by omega
      have HO' : Hid (((wr.setCell ⟨g, k * 2, none⟩ (.int .u8 200)).setCell ⟨g, k * 2 + 1, none⟩ (.int .i64 200)).ownsRow w.heap.size 28 2 (.slice (some ⟨g, 0, none⟩) na ac) na (insCells (la.set k (200, 200)))) := own_set2 HOw.out k (200, 200)
      clear hcur hy
      go_wp2
      go_roundw
      case rel =>
        refine ⟨k + 1, la.set k (200, 200), by omega, by go_num, by simpa using hsz, HO'.out, (HB.out.setCell hgb _).setCell hgb _, by simpa using HX.out.1, ?_, ?_, ?_⟩
        · intro i hi'
          rw [List.getElem?_set]
          by_cases hik : k = i
          · rw [if_pos hik, if_pos (by have := HX.out.1; omega)]
          · rw [if_neg hik]; exact HX.out.2.1 i (by omega)
        · exact (HX.out.2.2.1.other _ _ hgne2).other _ _ hgne2
        · rcases HX.out.2.2.2 with h | ⟨gb, cur, e, h1, h2, h3, h4⟩
          · exact Or.inl h
          · have hne : gb ≠ g := by omega
            refine Or.inr ⟨gb, cur, e, h1, h2, (h3.other _ _ hne).other _ _ hne, ?_⟩
            intro i x hx
            obtain ⟨q0, q1⟩ := h4 i x hx
            exact ⟨(World.cell?_of_block (by exact (Below.heap_setCell _ _ _ _ hne).trans (Below.heap_setCell _ _ _ _ hne))).trans q0, (World.cell?_of_block (by exact (Below.heap_setCell _ _ _ _ hne).trans (Below.heap_setCell _ _ _ _ hne))).trans q1⟩
      case measure => simp [intOf]; omega
    · have hkn : k = na := by omega
      subst hkn
      have HLA : Hid (la = List.replicate k (200, 200)) := by
        have hlen := HX.out.1
        have hall := HX.out.2.1
        unfold Hid
        apply List.ext_getElem?
        intro i
        by_cases hik : i < k
        · rw [hall i hik, List.getElem?_replicate, if_pos hik]
        · rw [List.getElem?_eq_none (by omega), List.getElem?_eq_none (by simp; omega)]
      have HS5 : Hid (Stay wr w1.heap.size w3.heap.size bo da) := HX.out.2.2
      have HO5 : Hid (wr.ownsRow w.heap.size 28 2 (.slice ao k ac) k (insCells (List.replicate k (200, 200)))) := by unfold Hid; rw [← HLA.out]; exact HOw.out
      have HNe5 : Hid (∀ g, ao = some ⟨g, 0, none⟩ → g < w1.heap.size ∨ w3.heap.size < g) := by
        intro g hg
        rcases HO1.out.2 with ⟨h, h0⟩ | ⟨g', cp, cur, hv, hb, hh, _⟩
        · simp only [Value.slice.injEq] at h
          rw [h.1] at hg
          cases hg
        · simp only [Value.slice.injEq] at hv
          rw [hv.1] at hg
          simp at hg
          subst hg
          exact Or.inl (lt_of_block hh)
      have hlm : w1.heap.size ≤ w3.heap.size := B3.out.size
      clear HX HOw HLA m0 m1 hsz HO1 HO3 HBo3
      go_wp2_with fail
      go_loopw [5, 14, 15] (fun va vl i w6 => ∃ (j cj : Nat) (aj : Option Addr) (E : List Value) (lv : Value), va = .slice aj (k + j) cj ∧ lv = vl ∧ j ≤ 4 ∧ i = .int .i64 j ∧ w3.heap.size < w6.heap.size ∧ w6.ownsRow w.heap.size 28 2 (.slice aj (k + j) cj) (k + j) (insCells (List.replicate (k + j) (200, 200))) ∧ w6.ownsRow w.heap.size 22 1 lv j E ∧ Below w.heap.size w w6 ∧ Hid (∀ q v, E[q]? = some v → MarkAt w6 v (k + q)) ∧ Hid (Stay w6 w1.heap.size w3.heap.size bo da) ∧ Hid (∀ g, aj = some ⟨g, 0, none⟩ → g < w1.heap.size ∨ w3.heap.size < g))
        (fun _ _ i _ => 4 - (intOf i).toNat)
      case atStart => exact ⟨0, ac, ao, [], _, rfl, rfl, by omega, rfl, HS5.out.1.lt, HO5.out, World.ownsRow_nil _ _ _ _, HB.out, by intro q v hv; simp at hv, HS5, HNe5⟩
      case round =>
        obtain ⟨j, cj, aj, E, lv, rfl, rfl, hj4, rfl, hM6, ho6, hl6, hb6, HE, HSt, HNe⟩ := hrel
        have HO6 : Hid (wr.ownsRow w.heap.size 28 2 (.slice aj (k + j) cj) (k + j) (insCells (List.replicate (k + j) (200, 200)))) := ho6
        have HL6 : Hid (wr.ownsRow w.heap.size 22 1 lv j E) := hl6
        have HB6 : Hid (Below w.heap.size w wr) := hb6
        have hs6 := hb6.size
        have HEl : Hid (E.length = j) := by have := hl6.1; unfold Hid; omega
        clear ho6 hl6 hb6
        by_cases hjj : j < 4
        · go_wp2_with (at_builtin; refine wpList_append_own _ rfl (.tmp 69) (.tmp 71) 29 rfl w.heap.size 22 j0 (.slice none 0 0) 1 24 Try.underlying29 hj hy0 hy1 hy2 rfl (by decide) _ _ _ rfl (HL6.out.alloc _) ⟨wr.heap.size, 0, none⟩ 1 1 [.slice aj (k + j) cj] rfl rfl (new_one _ _ _) (by intro u hu; simp at hu; subst hu; rfl) (by unfold maxLen; omega) (by omega) (by simp; omega) ?_)
          intro v7 w7 hl7 hg7 _
          have hb7 : Below w.heap.size w w7 := below_app (HB6.out.alloc hs6 _) hg7 (HL6.out.alloc _) (Nat.le_refl _) (by simp; omega)
          have hne7 : ∀ g cur, Blk (wr.alloc (.cells #[.slice aj (k + j) cj] 22)) g cur 28 → some g ≠ lv.ownBlock := fun g cur hb => hb.ne_own (HL6.out.alloc _) (by decide)
          have hal : wr.grownBy (wr.alloc (.cells #[.slice aj (k + j) cj] 22)) none := World.grownBy_alloc _ _ _
          have HSt7 : Hid (Stay w7 w1.heap.size w3.heap.size bo da) := (HSt.out.grown hal (by intro g _ _ cur _; simp) hlm).grown hg7 (fun g _ _ cur hb => hne7 g cur hb) hlm
          have HE7 : Hid (∀ q v, E[q]? = some v → MarkAt w7 v (k + q)) := fun q v hv => ((HE.out q v hv).other hal (by intro g cur _; simp)).other hg7 hne7
          have HO7 : Hid (w7.ownsRow w.heap.size 28 2 (.slice aj (k + j) cj) (k + j) (insCells (List.replicate (k + j) (200, 200)))) := own_other (HO6.out.alloc _) (HL6.out.alloc _) (by decide) hg7
          have HL7 : Hid (w7.ownsRow w.heap.size 22 1 v7 (j + 1) (E ++ [.slice aj (k + j) cj])) := hl7
          have HB7 : Hid (Below w.heap.size w w7) := hb7
          have hs7 := hb7.size
          have hM7 := HSt7.out.1.lt
          have m0 := HSt7.out.1.cell 0
          have m1 := HSt7.out.1.cell 1
          simp at m0 m1
          clear hl7 hg7 hb7 hne7 hal HL6 HO6 HB6 HSt HE
          have hrep : insCells (List.replicate (k + j) (200, 200)) ++ [.int .u8 200, .int .i64 200] = insCells (List.replicate (k + j + 1) (200, 200)) := by rw [List.replicate_succ', insCells_snoc]
          have HRep : Hid (insCells (List.replicate (k + j) (200, 200)) ++ [.int .u8 200, .int .i64 200] = insCells (List.replicate (k + j + 1) (200, 200))) := hrep
          have HEnt : Hid (MarkAt w7 (.slice aj (k + j) cj) (k + j)) := own_mark HO7.out
          clear hrep
          by_cases hroom : k + j + 1 ≤ cj
          · obtain ⟨g, rfl⟩ : ∃ g, aj = some ⟨g, 0, none⟩ := by
              rcases HO7.out.2 with ⟨h, _⟩ | ⟨g, cp, cur, hv, _⟩
              · simp only [Value.slice.injEq] at h
                omega
              · simp only [Value.slice.injEq] at hv
                exact ⟨g, hv.1⟩
            go_wp2_with (at_builtin; refine wpList_append_fits _ rfl (.tmp 73) (.tmp 75) 22 rfl w.heap.size 28 i0 2 Try.underlying22 hi hz1 g (k + j) cj _ rfl (HO7.out.alloc _) ⟨w7.heap.size, 0, none⟩ 1 1 [.int .u8 200, .int .i64 200] rfl rfl (new_two _ _ _ _) (by intro u hu; simp at hu; rcases hu with rfl | rfl <;> rfl) (by omega) ?_)
            intro w8 ho8 hg8
            rw [HRep.out] at ho8
            have hb8 : Below w.heap.size w w8 := below_app (HB7.out.alloc hs7 _) (v := .slice (some ⟨g, 0, none⟩) (k + j) cj) hg8 (HO7.out.alloc _) (Nat.le_refl _) (by simp; omega)
            have hal : w7.grownBy (w7.alloc (.cells #[.int .u8 200, .int .i64 200] 28)) none := World.grownBy_alloc _ _ _
            have hgne := HNe.out g rfl
            have HSt8 : Hid (Stay w8 w1.heap.size w3.heap.size bo da) := (HSt7.out.grown hal (by intro g _ _ cur _; simp) hlm).grown hg8 (fun g' h1 h2 cur hb => by intro h; have := Option.some.inj h; omega) hlm
            have hmk : ∀ v m, m ≤ k + j + 1 → MarkAt w7 v m → MarkAt w8 v m := fun v m hm h => (h.other hal (by intro g cur _; simp)).fits hm hg8 ho8
            have HE8 : Hid (∀ q v, (E ++ [.slice (some ⟨g, 0, none⟩) (k + j) cj])[q]? = some v → MarkAt w8 v (k + q)) := by
              intro q v hv
              by_cases hq : q < j
              · rw [List.getElem?_append_left (by rw [HEl.out]; exact hq)] at hv
                exact hmk v _ (by omega) (HE7.out q v hv)
              · have hqj : q = j := by
                  have := (List.getElem?_eq_some_iff.1 hv).1
                  simp [HEl.out] at this
                  omega
                subst hqj
                rw [List.getElem?_append_right (by rw [HEl.out]; exact Nat.le_refl _), HEl.out] at hv
                simp at hv
                subst hv
                exact hmk _ _ (by omega) HEnt.out
            have HL8 : Hid (w8.ownsRow w.heap.size 22 1 v7 (j + 1) (E ++ [.slice (some ⟨g, 0, none⟩) (k + j) cj])) := own_other (HL7.out.alloc _) (v' := .slice (some ⟨g, 0, none⟩) (k + j) cj) (HO7.out.alloc _) (by decide) hg8
            have HO8 : Hid (w8.ownsRow w.heap.size 28 2 (.slice (some ⟨g, 0, none⟩) (k + (j + 1)) cj) (k + (j + 1)) (insCells (List.replicate (k + (j + 1)) (200, 200)))) := ho8
            have HB8 : Hid (Below w.heap.size w w8) := hb8
            clear ho8 hg8 hb8 hal hmk HO7 HL7 HB7 HSt7 HE7 HEnt m0 m1
            go_wp2
            go_roundw
            case rel => exact ⟨j + 1, cj, some ⟨g, 0, none⟩, _, v7, rfl, rfl, by omega, by go_num, HSt8.out.1.lt, HO8.out, HL8.out, HB8.out, HE8, HSt8, HNe⟩
            case measure => simp [intOf]; omega
          · have HG1 : Hid (aj = none → k + j = 0 ∧ cj = 0) := by
              intro h
              rcases HO7.out.2 with ⟨h2, _⟩ | ⟨g, cp, cur, hv, _⟩
              · simp only [Value.slice.injEq] at h2
                exact h2.2
              · simp only [Value.slice.injEq] at hv
                rw [h] at hv
                cases hv.1
            have HG2 : Hid ((insCells (List.replicate (k + j) (200, 200))).length = (k + j) * 2) := by unfold Hid; rw [insCells_length]; simp
            have HG3 : Hid (∀ b, aj = some b → ∀ jj u, (insCells (List.replicate (k + j) (200, 200)))[jj]? = some u → (w7.alloc (.cells #[.int .u8 200, .int .i64 200] 28)).cell? (b.add jj) = some u) := by
              intro b hb jj u hu
              rcases HO7.out.2 with ⟨h2, _⟩ | ⟨g, cp, cur, hv, _⟩
              · simp only [Value.slice.injEq] at h2
                rw [h2.1] at hb
                cases hb
              · simp only [Value.slice.injEq] at hv
                rw [hv.1] at hb
                obtain rfl := Option.some.inj hb
                exact World.ownsRow.cells (HO7.out.alloc (.cells #[.int .u8 200, .int .i64 200] 28)) (by rw [hv.1]; rfl) jj u hu
            go_wp2_with (at_builtin; refine wpList_append_grows _ rfl (.tmp 73) (.tmp 75) 22 rfl 28 i0 (.agg #[.int .u8 0, .int .i64 0]) 2 16 Try.underlying22 hi hz0 hz1 hz2 rfl (by decide) aj (k + j) cj (insCells (List.replicate (k + j) (200, 200))) rfl HG1.out HG2.out HG3.out ⟨w7.heap.size, 0, none⟩ 1 1 [.int .u8 200, .int .i64 200] rfl rfl (new_two _ _ _ _) (by intro u hu; simp at hu; rcases hu with rfl | rfl <;> rfl) (by omega) (by unfold maxLen; omega) (by omega) ?_)
            intro v8 w8 ho8 hg8
            rw [HRep.out] at ho8
            have hb8 : Below w.heap.size w w8 := (HB7.out.alloc hs7 _).grown hg8 (by simp; omega) (by intro k hk; cases hk)
            have hal : w7.grownBy (w7.alloc (.cells #[.int .u8 200, .int .i64 200] 28)) none := World.grownBy_alloc _ _ _
            have HSt8 : Hid (Stay w8 w1.heap.size w3.heap.size bo da) := (HSt7.out.grown hal (by intro g _ _ cur _; simp) hlm).grown hg8 (by intro g _ _ cur _; simp) hlm
            have hmk : ∀ v m, MarkAt w7 v m → MarkAt w8 v m := fun v m h => (h.other hal (by intro g cur _; simp)).other hg8 (by intro g cur _; simp)
            have HE8 : Hid (∀ q v, (E ++ [.slice aj (k + j) cj])[q]? = some v → MarkAt w8 v (k + q)) := by
              intro q v hv
              by_cases hq : q < j
              · rw [List.getElem?_append_left (by rw [HEl.out]; exact hq)] at hv
                exact hmk v _ (HE7.out q v hv)
              · have hqj : q = j := by
                  have := (List.getElem?_eq_some_iff.1 hv).1
                  simp [HEl.out] at this
                  omega
                subst hqj
                rw [List.getElem?_append_right (by rw [HEl.out]; exact Nat.le_refl _), HEl.out] at hv
                simp at hv
                subst hv
                exact hmk _ _ HEnt.out
            have hsz8 : w7.heap.size + 1 ≤ w8.heap.size := by have := hg8.size; simpa using this
            obtain ⟨g8, c8, hv8, hg8l⟩ : ∃ g8 c8, v8 = .slice (some ⟨g8, 0, none⟩) (k + j + 1) c8 ∧ w7.heap.size + 1 ≤ g8 := by
              rcases ho8.2 with ⟨_, h⟩ | ⟨g8, c8, _, h, hb, _⟩
              · omega
              · exact ⟨g8, c8, h, by simpa using hb⟩
            have HL8 : Hid (w8.ownsRow w.heap.size 22 1 v7 (j + 1) (E ++ [.slice aj (k + j) cj])) := (HL7.out.alloc _).kept hg8 (by cases hov : v7.ownBlock with | none => exact Or.inl rfl | some x => exact Or.inr (by simp))
            have HO8 : Hid (w8.ownsRow w.heap.size 28 2 v8 (k + (j + 1)) (insCells (List.replicate (k + (j + 1)) (200, 200)))) := own_weaken ho8 (by first | omega | (simp; omega))
            have HB8 : Hid (Below w.heap.size w w8) := hb8
            have HV8 : Hid (v8 = .slice (some ⟨g8, 0, none⟩) (k + j + 1) c8) := hv8
            clear ho8 hg8 hb8 hal hmk HO7 HL7 HB7 HSt7 HE7 HEnt m0 m1 hv8
            go_wp2
            go_roundw
            case rel => exact ⟨j + 1, c8, some ⟨g8, 0, none⟩, _, v7, HV8.out, rfl, by omega, by go_num, HSt8.out.1.lt, by have := HO8.out; rw [HV8.out] at this; exact this, HL8.out, HB8.out, HE8, HSt8, by intro g hg; have := Option.some.inj hg; simp at this; right; omega⟩
            case measure => simp [intOf]; omega
        · obtain rfl : j = 4 := by omega
          clear HO6 HNe
          obtain ⟨G, hG⟩ : ∃ G, G = wr.heap.size := ⟨_, rfl⟩
          have HGs : Hid (G = wr.heap.size) := hG
          have HLa6 : Hid (InsAt wr lo l) := HLa.out.below HB6.out (Nat.le_refl _)
          go_wp2_with (at_make; refine wpList_make_full _ rfl (.tmp 80) (.tmp 80) 22 rfl w.heap.size 28 i0 (.agg #[.int .u8 0, .int .i64 0]) 2 Try.underlying22 hi hz0 hz1 .i64 .i64 _ _ (n + 1) rfl rfl (by first | rfl | go_num | (simp; omega) | omega) (by first | rfl | go_num | (simp; omega) | omega) (by rw [hz2]; omega) (by unfold maxLen; omega) hs6 ?_)
          intro w9 ho9 hg9
          rw [← hG] at ho9 ⊢
          clear hG
          obtain ⟨cur, hcur, hcs⟩ : ∃ cur : Array Value, w9.heap[G]? = some (.cells cur 28 (0, 0)) ∧ cur.toList = (madeCells #[.int .u8 0, .int .i64 0] ((n + 1) * 2)).toList := by
            rcases ho9.2 with ⟨h, _⟩ | ⟨g, cp, cur, h, _, h2, _, _, h5, h6⟩
            · simp at h
            · simp only [Value.slice.injEq, Option.some.injEq, Addr.mk.injEq, and_true, true_and] at h
              obtain ⟨rfl, rfl⟩ := h
              refine ⟨cur, h2, ?_⟩
              rw [← h6, List.take_of_length_le (by simp [h5])]
          have hnl : (insCells l).length = n * 2 := by rw [insCells_length, Hn.out]
          have hcz : cur.size = (n + 1) * 2 := by
            have := congrArg List.length hcs
            simpa [madeCells] using this
          have hdrop : cur.toList.drop (insCells l).length = [.int .u8 0, .int .i64 0] := by rw [hcs, hnl]; exact made_last2 _ _ n
          have hBG9 : Below G wr w9 := (Below.refl G wr).grown hg9 (by rw [HGs.out]; exact Nat.le_refl _) (by intro k hk; cases hk)
          have HLN : Hid (lo = none → n = 0 ∧ lc = 0) := hln
          have hsrc : (lo = none ∧ n = 0 ∧ lc = 0) ∨ ∃ a, lo = some a ∧ ∀ j v, (insCells l)[j]? = some v → w9.cell? (a.add j) = some v := by
            cases lo with
            | none => exact Or.inl ⟨rfl, hln rfl⟩
            | some a =>
              refine Or.inr ⟨a, rfl, ?_⟩
              intro j v hj
              rcases HLa6.out with h | ⟨b, off, e, hr⟩
              · subst h; simp [insCells] at hj
              · simp only [Option.some.injEq] at e
                subst e
                have h1 := insRow_cells hr j v hj
                have hlt : b < wr.heap.size := by
                  have := World.block_lt_of_cell? _ _ h1
                  rwa [Addr.add_lit] at this
                rw [← h1]
                exact World.cell?_of_block (by rw [Addr.add_lit]; exact hBG9.block b (by rw [HGs.out]; exact hlt))
          have hcopy := run_copy_two w9 G n (n + 1) lo lc cur (insCells l) hcur hnl hsrc (by rw [hnl, hcz]; omega) (insCells_one l)
          rw [hdrop] at hcopy
          have hblk : Blk (w9.setRow G (insCells l ++ ([.int .u8 0, .int .i64 0] : List Value)).toArray) G (insCells l ++ ([.int .u8 0, .int .i64 0] : List Value)).toArray 28 := setRow_heap w9 G cur _ 28 (0, 0) hcur
          have hbel : Below G wr (w9.setRow G (insCells l ++ ([.int .u8 0, .int .i64 0] : List Value)).toArray) := below_setRow hBG9 (Nat.le_refl _) _
          generalize w9.setRow G (insCells l ++ ([.int .u8 0, .int .i64 0] : List Value)).toArray = w10 at hcopy hblk hbel
          have HBLK : Hid (Blk w10 G (insCells l ++ ([.int .u8 0, .int .i64 0] : List Value)).toArray 28) := hblk
          have BG10 : Hid (Below G wr w10) := hbel
          have HNL : Hid ((insCells l).length = n * 2) := hnl
          have c0 : w10.cell? ⟨G, n * 2, none⟩ = some (.int .u8 0) := by rw [hblk.cell, ← hnl]; simp
          have c1 : w10.cell? ⟨G, n * 2 + 1, none⟩ = some (.int .i64 0) := by rw [hblk.cell, ← hnl]; simp
          have f0 := hblk.free (n * 2)
          have f1 := hblk.free (n * 2 + 1)
          have hlt10 := hblk.lt
          clear ho9 hg9 hcur hcs hnl hcz hdrop hBG9 hsrc hblk hbel
          go_wp2_with fail
          have h3 := (HBLK.out.set (n * 2) (.int .u8 200)).set (n * 2 + 1) (.int .i64 (-200))
          have e3 : ((insCells l ++ ([.int .u8 0, .int .i64 0] : List Value)).toArray.setIfInBounds (n * 2) (.int .u8 200)).setIfInBounds (n * 2 + 1) (.int .i64 (-200)) = (insCells (l ++ [(200, -200)])).toArray := by
            rw [insCells_snoc, ← HNL.out]
            apply Array.ext'
            simp
          rw [e3] at h3
          have hb11 : Below G wr ((w10.setCell ⟨G, n * 2, none⟩ (.int .u8 200)).setCell ⟨G, n * 2 + 1, none⟩ (.int .i64 (-200))) := (BG10.out.setCell (Nat.le_refl _) _).setCell (Nat.le_refl _) _
          generalize (w10.setCell ⟨G, n * 2, none⟩ (.int .u8 200)).setCell ⟨G, n * 2 + 1, none⟩ (.int .i64 (-200)) = w11 at h3 hb11 ⊢
          have hrow11 : InsRow w11 G 0 (l ++ [(200, -200)]) := by
            intro i x hx
            obtain ⟨q0, q1⟩ := insCells_at _ i x hx
            refine ⟨?_, ?_⟩
            · rw [Nat.zero_add, h3.cell]; simpa using q0
            · rw [Nat.zero_add, h3.cell]; simpa using q1
          have HR11 : Hid (InsRow w11 G 0 l ∧ w11.cell? ⟨G, n * 2 + 1, none⟩ = some (.int .i64 (-200)) ∧ G < w11.heap.size) := by
            refine ⟨?_, ?_, h3.lt⟩
            · intro i x hx
              refine hrow11 i x ?_
              rw [List.getElem?_append_left (by exact (List.getElem?_eq_some_iff.1 hx).1)]
              exact hx
            · have := (hrow11 l.length (200, -200) (by simp)).2
              rw [Hn.out, Nat.zero_add] at this
              exact this
          have hGle : wr.heap.size ≤ G := by rw [HGs.out]; exact Nat.le_refl _
          have HLa11 : Hid (InsAt w11 lo l) := HLa6.out.below hb11 hGle
          have HSt11 : Hid (Stay w11 w1.heap.size w3.heap.size bo da) := HSt.out.below hb11 hGle
          have HE11 : Hid (∀ q v, E[q]? = some v → MarkAt w11 v (k + q)) := fun q v hv => (HE.out q v hv).below hb11 hGle
          have HL11 : Hid (w11.ownsRow w.heap.size 22 1 lv 4 E) := own_below' HL6.out hb11 hGle
          have HB11 : Hid (Below w.heap.size w w11) := HB6.out.trans (hb11.mono (by omega))
          have HEO : Hid (Calls Try.prog 11 #[.slice (some ⟨G, 0, none⟩) n (n + 1)] w11 fun e w' => e = .returned (.tuple #[.string (H.encOut l).1, .int .i64 (H.encOut l).2]) ∧ Below w11.heap.size w11 w') := enc_all G n (n + 1) l w11 Hn.out (by unfold maxLen; omega) HR11.out.1
          have HER : Hid (∀ u : World, InsAt u lo l → Calls Try.prog 12 #[.slice lo n lc] u fun e w' => e = .returned (.tuple #[.string (H.encOut l).1, .int .i64 (H.encOut l).2]) ∧ Below u.heap.size u w') := fun u hu => refEnc_any lo lc n l u Hn.out (by unfold maxLen; omega) hu HOp.out
          generalize (H.encOut l).1 = es' at HEO HER
          generalize (H.encOut l).2 = ee' at HEO HER
          have u1 : (es'.toList == es'.toList) = true := by simp
          have u2 : (es'.toList != es'.toList) = false := by simp
          have u3 : (ee' != ee') = false := by simp
          clear h3 e3 hb11 hrow11 HBLK BG10 c0 c1 f0 f1 hlt10 hcopy HLa6 HSt HE HL6 HB6 HNL
          refine HEO.out.mono ?_
          rintro e w12 ⟨rfl, hb12⟩
          have HR12 : Hid (InsRow w12 G 0 l ∧ w12.cell? ⟨G, n * 2 + 1, none⟩ = some (.int .i64 (-200)) ∧ G < w12.heap.size) := ⟨HR11.out.1.below hb12 HR11.out.2.2, (hb12.cell HR11.out.2.2).trans HR11.out.2.1, by have := hb12.size; have := HR11.out.2.2; omega⟩
          have HLa12 : Hid (InsAt w12 lo l) := HLa11.out.below hb12 (Nat.le_refl _)
          have C12 : Hid (Below w11.heap.size w11 w12) := hb12
          clear hb12 HR11 HLa11 HEO
          go_wp2_with fail
          refine (HER.out w12 HLa12.out).mono ?_
          rintro e w13 ⟨rfl, hb13⟩
          have HR13 : Hid (InsRow w13 G 0 l ∧ w13.cell? ⟨G, n * 2 + 1, none⟩ = some (.int .i64 (-200)) ∧ G < w13.heap.size) := ⟨HR12.out.1.below hb13 HR12.out.2.2, (hb13.cell HR12.out.2.2).trans HR12.out.2.1, by have := hb13.size; have := HR12.out.2.2; omega⟩
          have HLa13 : Hid (InsAt w13 lo l) := HLa12.out.below hb13 (Nat.le_refl _)
          have C13 : Hid (Below w11.heap.size w11 w13) := C12.out.trans (hb13.mono C12.out.size)
          clear hb13 HR12 HLa12 HER C12
          go_wp2_with fail
          have hsm2 := same_any (some ⟨G, 0, none⟩) lo (n + 1) lc l l w13 (by rw [Hn.out]; unfold maxLen; omega) (by rw [Hn.out]; unfold maxLen; omega) (Or.inr ⟨G, 0, rfl, HR13.out.1⟩) HLa13.out
          rw [Hn.out] at hsm2
          refine hsm2.mono ?_
          rintro e w14 ⟨rfl, hb14⟩
          clear hsm2
          simp only [decide_true]
          have d1 : w14.cell? ⟨G, n * 2 + 1, none⟩ = some (.int .i64 (-200)) := (hb14.cell HR13.out.2.2).trans HR13.out.2.1
          have C14 : Hid (Below w11.heap.size w11 w14) := C13.out.trans (hb14.mono C13.out.size)
          have hn1 : (n : Int) < (n : Int) + 1 := by omega
          clear hb14 HR13 HLa13 C13
          go_wp2_with fail
          refine (dec_any s w14 HS.out).mono ?_
          rintro e w15 ⟨vc, rfl, hoc, hbc⟩
          rw [← HD.out] at hoc ⊢
          simp only at hoc ⊢
          obtain ⟨co, cc, rfl, hic⟩ := own_ins hoc
          rw [HNa.out] at ⊢
          have HIc : Hid (InsAt w15 co da) := hic
          have C15 : Hid (Below w11.heap.size w11 w15) := C14.out.trans (hbc.mono C14.out.size)
          have HSt15 : Hid (Stay w15 w1.heap.size w3.heap.size bo da) := HSt11.out.below C15.out (Nat.le_refl _)
          have HIb15 : Hid (InsAt w15 bo da) := by
            rcases HSt15.out.2 with h | ⟨gb, cur, e, _, _, _, h4⟩
            · exact Or.inl h
            · exact Or.inr ⟨gb, 0, e, h4⟩
          clear hoc hic hbc C14 d1 hn1
          go_wp2_with fail
          have hsm3 := same_any co bo cc bc da da w15 (by rw [HNa.out]; unfold maxLen; omega) (by rw [HNa.out]; unfold maxLen; omega) HIc.out HIb15.out
          rw [HNa.out] at hsm3
          refine hsm3.mono ?_
          rintro e w16 ⟨rfl, hb16⟩
          clear hsm3
          simp only [decide_true]
          have C16 : Hid (Below w11.heap.size w11 w16) := C15.out.trans (hb16.mono C15.out.size)
          have HSt16 : Hid (Stay w16 w1.heap.size w3.heap.size bo da) := HSt11.out.below C16.out (Nat.le_refl _)
          have HE16 : Hid (∀ q v, E[q]? = some v → MarkAt w16 v (k + q)) := fun q v hv => (HE11.out q v hv).below C16.out (Nat.le_refl _)
          have HL16 : Hid (w16.ownsRow w.heap.size 22 1 lv 4 E) := own_below' HL11.out C16.out (Nat.le_refl _)
          have HB16 : Hid (Below w.heap.size w w16) := HB11.out.trans (C16.out.mono HB11.out.size)
          obtain ⟨gl, cl, hlv, hcells⟩ : ∃ gl cl, lv = .slice (some ⟨gl, 0, none⟩) 4 cl ∧ ∀ q v, E[q]? = some v → w16.cell? ⟨gl, q, none⟩ = some v := by
            rcases HL16.out.2 with ⟨_, h⟩ | ⟨gl, cl, cur, hv, _⟩
            · omega
            · refine ⟨gl, cl, hv, fun q v hq => ?_⟩
              have h1 := World.ownsRow.cells HL16.out (g := gl) (by rw [hv]; rfl) q v hq
              rw [Addr.add_lit, Nat.zero_add] at h1
              exact h1
          have HCells : Hid (∀ q v, E[q]? = some v → w16.cell? ⟨gl, q, none⟩ = some v) := hcells
          have m0 := HSt16.out.1.cell 0
          have m1 := HSt16.out.1.cell 1
          simp at m0 m1
          subst hlv
          clear hb16 HSt11 HE11 HL11 HB11 C15 C16 HSt15 HIc HIb15 HL16 hcells
          go_wp2_with fail
          go_loopw [11, 25] (fun o i w17 => ∃ (q x : Nat), q ≤ 4 ∧ o = .bool true ∧ i = .int .i64 q ∧ w17 = w16.drewN x)
            (fun _ i _ => 4 - (intOf i).toNat)
          case atStart => exact ⟨0, 0, by omega, rfl, rfl, rfl⟩
          case round =>
            obtain ⟨q, x, hq4, rfl, rfl, rfl⟩ := hrel
            by_cases hqq : q < 4
            · obtain ⟨v, hv⟩ : ∃ v, E[q]? = some v := ⟨E[q]'(by have := HEl.out; omega), List.getElem?_eq_getElem (by have := HEl.out; omega)⟩
              have e0 := HCells.out q v hv
              obtain ⟨vo, vcap, rfl, hmk⟩ := HE16.out q v hv
              have HMk : Hid (k + q = 0 ∨ ∃ g cur, vo = some ⟨g, 0, none⟩ ∧ Blk w16 g cur 28 ∧ InsRow w16 g 0 (List.replicate (k + q) (200, 200))) := hmk
              have hqi : (q : Int) < 4 := by omega
              have hq0 : (0 : Int) ≤ (q : Int) := by omega
              obtain ⟨kq, hkq⟩ : ∃ kq, kq = k + q := ⟨_, rfl⟩
              have hkq68 : kq ≤ 68 := by omega
              rw [← hkq] at e0 HMk
              clear hv hmk hkq
              go_wp2_with fail
              go_loopw [11, 26] (fun o i w18 => ∃ (p x : Nat), p ≤ kq ∧ o = .bool true ∧ i = .int .i64 p ∧ w18 = w16.drewN x)
                (fun _ i _ => kq - (intOf i).toNat)
              case atStart => exact ⟨0, _, Nat.zero_le _, rfl, rfl, rfl⟩
              case round =>
                obtain ⟨p, x2, hpk, rfl, rfl, rfl⟩ := hrel
                by_cases hpp : p < kq
                · obtain ⟨g, cur, rfl, hbk, hrow⟩ : ∃ g cur, vo = some ⟨g, 0, none⟩ ∧ Blk w16 g cur 28 ∧ InsRow w16 g 0 (List.replicate kq (200, 200)) := HMk.out.resolve_left (by omega)
                  obtain ⟨r0, r1⟩ := hrow p (200, 200) (by rw [List.getElem?_replicate, if_pos hpp])
                  rw [Nat.zero_add] at r0 r1
                  have hpi : (p : Int) < (kq : Int) := by omega
                  have hp0 : (0 : Int) ≤ (p : Int) := by omega
                  clear hbk hrow
                  go_wp2_with fail
                  go_quiet (fail)
                  go_wp2
                  go_roundw
                  case rel => exact ⟨p + 1, _, by omega, rfl, by go_num, by first | rfl | simp⟩
                  case measure => simp [intOf]; omega
                · have hpn : ¬ (p : Int) < (kq : Int) := by omega
                  go_wp2
                  go_roundw
                  case rel => exact ⟨q + 1, _, by omega, rfl, by go_num, by first | rfl | simp⟩
                  case measure => simp [intOf]; omega
            · have hqn : ¬ (q : Int) < 4 := by omega
              go_wp2
              go_ret
              exact ⟨rfl, below_drewN HB16.out _⟩

end Go.Proofs.Ytfggaacijcggeaa
