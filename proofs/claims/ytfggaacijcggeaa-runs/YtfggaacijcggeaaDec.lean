/-
  The walk of Decode.
-/
import Derived.Test.YtfggaacijcggeaaRead
import Derived.Test.YtfggaacijcggeaaEnc
import Derived.Test.YtfggaacijcggeaaJCode
namespace Go.Proofs.Ytfggaacijcggeaa
open Go.RowKit
set_option linter.unusedVariables false

theorem info28 : (Try.prog.info? 28).map (fun i => (i.zero, i.size, i.bytes)) = some (some (.agg #[.int .u8 0, .int .i64 0]), 2, 16) := by kernel_rfl

/-- The cells of instructions. -/
def insCells (l : List (Int × Int)) : List Value := l.flatMap fun x => [.int .u8 x.1, .int .i64 x.2]

theorem insCells_snoc (l : List (Int × Int)) (x : Int × Int) : insCells (l ++ [x]) = insCells l ++ [.int .u8 x.1, .int .i64 x.2] := by simp [insCells]

theorem insCells_at : ∀ (l : List (Int × Int)) (i : Nat) (x : Int × Int), l[i]? = some x → (insCells l)[i * 2]? = some (.int .u8 x.1) ∧ (insCells l)[i * 2 + 1]? = some (.int .i64 x.2)
  | [], i, x, h => by simp at h
  | y :: r, 0, x, h => by simp at h; subst h; simp [insCells]
  | y :: r, i + 1, x, h => by
    have := insCells_at r i x (by simpa using h)
    simp only [insCells, List.flatMap_cons] at *
    rw [show (i + 1) * 2 = i * 2 + 2 by omega]
    simpa using this

theorem insCells_length (l : List (Int × Int)) : (insCells l).length = l.length * 2 := by
  induction l with
  | nil => rfl
  | cons x r ih => simp only [insCells, List.flatMap_cons, List.length_append, List.length_cons] at *; simp at *; omega

theorem own_insRow {w : World} {base g n cap : Nat} {l : List (Int × Int)} (h : w.ownsRow base 28 2 (.slice (some ⟨g, 0, none⟩) n cap) n (insCells l)) (hn : l.length = n) : InsRow w g 0 l := by
  intro i x hx
  obtain ⟨h0, h1⟩ := insCells_at l i x hx
  have hi : i < l.length := (List.getElem?_eq_some_iff.1 hx).1
  rw [Nat.zero_add]
  exact ⟨(h.cellAt (i * 2) (by omega)).trans h0, (h.cellAt (i * 2 + 1) (by omega)).trans h1⟩

/-- What Decode hands back. -/
def decEnd (L : List Int) (base : Nat) (w : World) (e : Ending) (w' : World) : Prop :=
  ∃ v, e = .returned (.tuple #[v, .int .i64 (H.decode L).2.1, .int .i64 (H.decode L).2.2]) ∧ w'.ownsRow base 28 2 v (H.decode L).1.length (insCells (H.decode L).1) ∧ Below base w w'

theorem decEnd_bad {L : List Int} {base : Nat} {w w' : World} {p : Int} (h : H.decode L = ([], 1, p)) (hb : Below base w w') :
    decEnd L base w (.returned (.tuple #[.slice none 0 0, .int .i64 1, .int .i64 p])) w' := by
  refine ⟨.slice none 0 0, by rw [h], ?_, hb⟩
  rw [h]
  exact World.ownsRow_nil _ _ _ _

theorem decEnd_ok {L : List Int} {base : Nat} {w w' : World} {l : List (Int × Int)} {v : Value} (h : H.decode L = (l, 0, 0)) (ho : w'.ownsRow base 28 2 v l.length (insCells l)) (hb : Below base w w') :
    decEnd L base w (.returned (.tuple #[v, .int .i64 0, .int .i64 0])) w' := by
  refine ⟨v, by rw [h], ?_, hb⟩
  rw [h]
  exact ho

set_option maxHeartbeats 4000000 in
theorem dec_any (s : ByteArray) (w : World) (hs : s.size ≤ maxLen) :
    Calls Try.prog 8 #[.string s] w fun e w' => decEnd (H.bts s) w.heap.size w e w' := by
  obtain ⟨i0, hi, hz0, hz1, hz2⟩ := info_parts info28
  have HS : Hid (s.size ≤ maxLen) := hs
  have HL : Hid ((H.bts s).length = s.size) := H.bts_length s
  unfold maxLen at hs
  go_enter Try.func8, Try.ntmps8
  go_wp2
  go_loopw [5, 6] (fun v i wr => ∃ (p cv : Nat) (ao : Option Addr) (acc : List (Int × Int)), v = .slice ao acc.length cv ∧ p ≤ s.size ∧ i = .int .i64 p ∧ wr.ownsRow w.heap.size 28 2 (.slice ao acc.length cv) acc.length (insCells acc) ∧ Below w.heap.size w wr ∧ acc.length ≤ 64 ∧ (∀ x ∈ acc, H.alone x.1 x.2 = true) ∧ H.scanAt (H.bts s) 0 [] = H.scanAt (H.bts s) p acc)
    (fun _ i _ => s.size - (intOf i).toNat)
  case atStart => exact ⟨0, 0, none, [], rfl, Nat.zero_le _, rfl, World.ownsRow_nil _ _ _ _, Below.refl _ _, by simp, by simp, rfl⟩
  case round =>
    obtain ⟨p, cv, ao, acc, rfl, hp, rfl, hown, hbel, h64, hal, hsc⟩ := hrel
    have HO : Hid (wr.ownsRow w.heap.size 28 2 (.slice ao acc.length cv) acc.length (insCells acc)) := hown
    have HB : Hid (Below w.heap.size w wr) := hbel
    have HC : Hid (H.scanAt (H.bts s) 0 [] = H.scanAt (H.bts s) p acc) := hsc
    have HA : Hid (∀ x ∈ acc, H.alone x.1 x.2 = true) := hal
    have hsz := hbel.size
    clear hown hbel hsc hal
    by_cases hlt : p < s.size
    · go_wp2_with fail
      by_cases hw : p + H.wid (H.at0 (H.bts s) p) < s.size
      · refine (read_any s p _ HS.out hlt hw).mono ?_
        rintro e w1 ⟨rfl, hb1⟩
        obtain ⟨o, ho⟩ : ∃ o, o = H.at0 (H.bts s) p := ⟨_, rfl⟩
        obtain ⟨a, ha⟩ : ∃ a, a = H.opnd (H.bts s) p := ⟨_, rfl⟩
        have hwl := H.wid_le o
        have HP : Hid (p + H.wid o < s.size) := by unfold Hid; rw [ho]; exact hw
        have Ho : Hid (o = H.at0 (H.bts s) p) := ho
        have Ha : Hid (a = H.opnd (H.bts s) p) := ha
        rw [← ho, ← ha]
        have hp2 : p + H.wid o < s.size := HP.out
        clear ho ha hw
        have hb1w : Below w.heap.size w w1 := HB.out.trans (hb1.mono hsz)
        have HB1 : Hid (Below w.heap.size w w1) := hb1w
        have hs1 := hb1w.size
        have HO1 : Hid (w1.ownsRow w.heap.size 28 2 (.slice ao acc.length cv) acc.length (insCells acc)) := own_below' HO.out hb1 (Nat.le_refl _)
        clear hb1 hb1w HB HO
        by_cases hl : acc.length = 64
        · have hd : Hid (H.decode (H.bts s) = ([], 1, (p : Int))) := H.decode_bad _ [] p (HC.out.trans (H.scanAt_bad _ _ _ (by have := HL.out; omega) (by rintro ⟨_, h, _⟩; exact h hl)))
          have hl2 : (acc.length : Int) = 64 := by omega
          clear hl HC HO1
          go_wp2
          go_ret3
          exact decEnd_bad hd.out (HB1.out.alloc HB1.out.size _)
        · have hl2 : ((acc.length : Int) == 64) = false := by simp; omega
          go_wp2_with fail
          refine (alone_any o a _).mono ?_
          rintro e w2 ⟨rfl, hb2⟩
          have hb2w : Below w.heap.size w w2 := (HB1.out.alloc hs1 _).trans (hb2.mono (by simp; omega))
          have HB2 : Hid (Below w.heap.size w w2) := hb2w
          have hs2 := hb2w.size
          have HX2 : Hid (Blk w2 w1.heap.size #[.int .u8 o, .int .i64 a] 28) := (Blk.new w1 _ 28).below hb2 (by simp)
          have HO2 : Hid (w2.ownsRow w.heap.size 28 2 (.slice ao acc.length cv) acc.length (insCells acc)) := own_below' (HO1.out.alloc _) hb2 (Nat.le_refl _)
          have hne2 : Hid (some w1.heap.size ≠ (Value.slice ao acc.length cv).ownBlock) := own_ne_new HO1.out (Nat.le_refl _)
          clear hb2 hb2w HB1 HO1
          cases halo : H.alone o a
          · have hd : Hid (H.decode (H.bts s) = ([], 1, (p : Int))) := H.decode_bad _ [] p (HC.out.trans (H.scanAt_bad _ _ _ (by have := HL.out; omega) (by rintro ⟨_, _, h⟩; rw [← Ho.out, ← Ha.out, halo] at h; cases h)))
            clear halo HC HO2 HX2 hne2
            go_wp2
            go_ret3
            exact decEnd_bad hd.out HB2.out
          · have Hal : Hid (H.alone o a = true) := halo
            have d0 := HX2.out.cell 0
            have d1 := HX2.out.cell 1
            simp at d0 d1
            clear halo
            go_wp2_with (at_builtin; refine wpList_append_own _ rfl (.tmp 34) (.tmp 36) 22 rfl w.heap.size 28 i0 (.agg #[.int .u8 0, .int .i64 0]) 2 16 Try.underlying22 hi hz0 hz1 hz2 rfl (by decide) _ _ _ rfl (HO2.out.alloc _) ⟨w2.heap.size, 0, none⟩ 1 1 [.int .u8 o, .int .i64 a] rfl rfl (new_two _ _ _ _) (by intro u hu; simp at hu; rcases hu with rfl | rfl <;> rfl) (by unfold maxLen; omega) (by omega) (by simp; omega) ?_)
            intro v3 w3 hown3 hg3 _
            have hb3 : Below w.heap.size w w3 := below_app (HB2.out.alloc hs2 _) hg3 (HO2.out.alloc _) (Nat.le_refl _) (by simp; omega)
            have hx3 : Blk w3 w1.heap.size #[.int .u8 o, .int .i64 a] 28 := (HX2.out.alloc _).grown hg3 hne2.out
            have f0 := hx3.cell 0
            have f1 := hx3.cell 1
            simp at f0 f1
            obtain ⟨g3, cap3, hv3⟩ : ∃ g3 cap3, v3 = .slice (some ⟨g3, 0, none⟩) (acc.length + 1) cap3 := by
              rcases hown3.2 with ⟨_, h⟩ | ⟨g3, cap3, _, h, _⟩
              · omega
              · exact ⟨g3, cap3, h⟩
            have HV : Hid (v3 = .slice (some ⟨g3, 0, none⟩) (acc.length + 1) cap3) := hv3
            have HB3 : Hid (Below w.heap.size w w3) := hb3
            have HO3 : Hid (w3.ownsRow w.heap.size 28 2 v3 (acc.length + 1) (insCells acc ++ [.int .u8 o, .int .i64 a])) := hown3
            clear hown3 hg3 hb3 hx3 HX2 HO2 HB2 hne2 d0 d1 hv3
            go_wp2_with (go_at_call 24; refine (width_any _ _).mono ?_; rintro e w' ⟨rfl, rfl⟩)
            go_roundw
            case rel =>
              refine ⟨p + 1 + H.wid o, cap3, some ⟨g3, 0, none⟩, acc ++ [(o, a)], by rw [HV.out]; simp, by omega, by go_num, ?_, HB3.out, by simp; omega, ?_, ?_⟩
              · rw [insCells_snoc]
                have h := HO3.out
                rw [HV.out] at h
                simpa using h
              · intro x hx
                rcases List.mem_append.1 hx with h | h
                · exact HA.out x h
                · simp at h; subst h; exact Hal.out
              · rw [HC.out, Ho.out, Ha.out]
                exact H.scanAt_ok _ _ _ (by have := HL.out; omega) (by rw [← Ho.out]; have := HL.out; omega) hl (by rw [← Ho.out, ← Ha.out]; exact Hal.out)
            case measure => simp [intOf]; omega
      · refine (read_cut s p _ HS.out hlt (by omega)).mono ?_
        rintro e w1 ⟨rfl, hb1⟩
        have hd : Hid (H.decode (H.bts s) = ([], 1, (p : Int))) := H.decode_bad _ [] p (HC.out.trans (H.scanAt_bad _ _ _ (by have := HL.out; omega) (by have := HL.out; omega)))
        have HB1 : Hid (Below w.heap.size w w1) := HB.out.trans (hb1.mono hsz)
        clear hb1 HC HO HB
        go_wp2
        go_ret3
        exact decEnd_bad hd.out (HB1.out.alloc HB1.out.size _)
    · have hsc : Hid (H.scanAt (H.bts s) 0 [] = (acc, none)) := HC.out.trans (H.scanAt_end _ _ _ (by have := HL.out; omega))
      clear HC
      by_cases hl0 : acc.length = 0
      · have hd : Hid (H.decode (H.bts s) = ([], 1, 0)) := H.decode_none _ (by rw [hsc.out, List.eq_nil_of_length_eq_zero hl0])
        have hl1 : (acc.length : Int) = 0 := by omega
        clear HO hl0
        go_wp2
        go_ret3
        exact decEnd_bad hd.out HB.out
      · have hl1 : ((acc.length : Int) == 0) = false := by rw [beq_eq_false_iff_ne]; omega
        obtain ⟨n, hn⟩ : ∃ n, n = acc.length := ⟨_, rfl⟩
        have Hn : Hid (n = acc.length) := hn
        rw [← hn] at hl1 h64 ⊢
        obtain ⟨g, rfl⟩ : ∃ g, ao = some ⟨g, 0, none⟩ := by
          rcases HO.out.2 with ⟨_, h⟩ | ⟨g, c, _, h, _⟩
          · omega
          · simp at h; exact ⟨g, h.1⟩
        have HO' : Hid (wr.ownsRow w.heap.size 28 2 (.slice (some ⟨g, 0, none⟩) n cv) n (insCells acc)) := by have h := HO.out; rw [← hn] at h; exact h
        have hn0 : n ≠ 0 := by omega
        clear HO hn hl0
        obtain ⟨wo, rfl⟩ : ∃ wo : World, wo = wr := ⟨_, rfl⟩
        go_wp2_with fail
        go_loopw [6, 49] (fun q i wr => ∃ (k p : Nat), k ≤ n ∧ p ≤ 3 * k ∧ q = .int .i64 p ∧ i = .int .i64 k ∧ Below w.heap.size w wr ∧ wr.ownsRow w.heap.size 28 2 (.slice (some ⟨g, 0, none⟩) n cv) n (insCells acc) ∧ H.stray n 0 0 acc = H.stray n k p (acc.drop k))
          (fun _ i _ => n - (intOf i).toNat)
        case atStart => exact ⟨0, 0, Nat.zero_le _, by omega, rfl, rfl, HB.out, HO'.out, by simp⟩
        case round =>
          obtain ⟨k, p, hk, hp, rfl, rfl, hbel, hown, hst⟩ := hrel
          have HBr : Hid (Below w.heap.size w wr) := hbel
          have HOr : Hid (wr.ownsRow w.heap.size 28 2 (.slice (some ⟨g, 0, none⟩) n cv) n (insCells acc)) := hown
          have HSt : Hid (H.stray n 0 0 acc = H.stray n k p (acc.drop k)) := hst
          have hsr := hbel.size
          clear hbel hown hst HB HO'
          by_cases hkn : k < n
          · obtain ⟨x, hx⟩ : ∃ x, acc[k]? = some x := ⟨acc[k]'(by have := Hn.out; omega), List.getElem?_eq_getElem (by have := Hn.out; omega)⟩
            obtain ⟨o, a⟩ := x
            have hrow := own_insRow HOr.out Hn.out.symm
            obtain ⟨c0, c1⟩ := hrow k _ hx
            rw [Nat.zero_add] at c0 c1
            have HX : Hid (acc[k]? = some (o, a)) := hx
            have Hal : Hid (H.alone o a = true) := HA.out (o, a) (List.mem_of_getElem? hx)
            have HR : Hid (InsRow wr g 0 acc) := hrow
            have HT : Hid (H.stray n 0 0 acc = if H.lands n k o a = true then H.stray n (k + 1) (p + 1 + H.wid o) (acc.drop (k + 1)) else some p) := HSt.out.trans (H.stray_step n acc k p (o, a) hx)
            have hgl : g < wr.heap.size := World.block_lt_of_cell? _ _ c0
            clear hx hrow HSt
            go_wp2_with fail
            have e0 : (wr.alloc (.cells #[.int .u8 o, .int .i64 a] 28)).cell? ⟨g, 0 + k * 2, none⟩ = some (.int .u8 o) := by rw [World.cell?_alloc_lt _ _ _ hgl]; exact (HR.out k _ HX.out).1
            have e1 : (wr.alloc (.cells #[.int .u8 o, .int .i64 a] 28)).cell? ⟨g, 0 + k * 2 + 1, none⟩ = some (.int .i64 a) := by rw [World.cell?_alloc_lt _ _ _ hgl]; exact (HR.out k _ HX.out).2
            refine (lands_any g 0 n cv k o a _ hkn h64 Hal.out (by exact e0) (by exact e1)).mono ?_
            rintro e w1 ⟨rfl, hb1⟩
            have hb1w : Below w.heap.size w w1 := (HBr.out.alloc hsr _).trans (hb1.mono (by simp; omega))
            have HB1 : Hid (Below w.heap.size w w1) := hb1w
            have HO1 : Hid (w1.ownsRow w.heap.size 28 2 (.slice (some ⟨g, 0, none⟩) n cv) n (insCells acc)) := own_below' (HOr.out.alloc _) hb1 (Nat.le_refl _)
            have hx1 : Blk w1 wr.heap.size #[.int .u8 o, .int .i64 a] 28 := (Blk.new wr _ 28).below hb1 (by simp)
            have d0 := hx1.cell 0
            have d1 := hx1.cell 1
            simp at d0 d1
            clear hb1 hb1w hx1 e0 e1 c0 c1 HR HOr HBr
            have hwl := H.wid_le o
            cases hla : H.lands n k o a
            · have hd : Hid (H.decode (H.bts s) = ([], 1, (p : Int))) := H.decode_stray _ acc p hsc.out (by have := Hn.out; omega) (by rw [← Hn.out, HT.out, hla]; rfl)
              clear hla HT
              go_wp2
              go_ret3
              exact decEnd_bad hd.out HB1.out
            · have HS2 : Hid (H.stray n 0 0 acc = H.stray n (k + 1) (p + 1 + H.wid o) (acc.drop (k + 1))) := by unfold Hid; rw [HT.out, hla]; rfl
              clear hla HT
              go_wp2_with (go_at_call 24; refine (width_any _ _).mono ?_; rintro e w' ⟨rfl, rfl⟩)
              go_roundw
              case rel => exact ⟨k + 1, p + 1 + H.wid o, by omega, by omega, by go_num, by go_num, HB1.out, HO1.out, HS2.out⟩
              case measure => simp [intOf]; omega
          · have hkn' : k = n := by omega
            have hd : Hid (H.decode (H.bts s) = (acc, 0, 0)) := H.decode_ok _ acc hsc.out (by have := Hn.out; omega) (by rw [← Hn.out, HSt.out, List.drop_of_length_le (by have := Hn.out; omega)]; rfl)
            have HO3 : Hid (wr.ownsRow w.heap.size 28 2 (.slice (some ⟨g, 0, none⟩) n cv) acc.length (insCells acc)) := by have h := HOr.out; have e := Hn.out; unfold Hid; rw [← e]; exact h
            clear hkn' HSt
            go_wp2
            go_ret3
            exact decEnd_ok hd.out HO3.out HBr.out

end Go.Proofs.Ytfggaacijcggeaa
