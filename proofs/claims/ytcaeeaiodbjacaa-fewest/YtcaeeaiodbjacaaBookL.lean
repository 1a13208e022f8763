/-
  The walks of keepNodes and ends.
-/
import Derived.Test.YtcaeeaiodbjacaaBookK
namespace Go.Proofs.Ytcaeeaiodbjacaa
open Go.RowKit
set_option linter.unusedVariables false

theorem BkSt.below {w w1 : World} {base B : Nat} {vn : Value} {E : List Value} {ao wo : Option Addr} {n cc wc : Nat} {l : List T.Nd} {o1 o2 o6 o7 o8 o9 : Value} (h : BkSt w base B vn E ao wo n cc wc l o1 o2 o6 o7 o8 o9) (hb : Below w.heap.size w w1) : BkSt w1 base B vn E ao wo n cc wc l o1 o2 o6 o7 o8 o9 := by
  refine ⟨h.bk.below hb h.bk.lt, own_below' h.row hb (Nat.le_refl _), own_below' h.own hb (Nat.le_refl _), h.len, h.was.below hb (Nat.le_refl _) hb.size, ?_, h.apart⟩
  intro i v hv
  obtain ⟨m, hm, q⟩ := h.marks i v hv
  exact ⟨m, hm, q.other fun g _ hg => hb.block g hg⟩

set_option maxRecDepth 100000 in
set_option maxHeartbeats 2000000 in
theorem keep_any {w : World} {base B : Nat} {vn : Value} {E : List Value} {ao wo : Option Addr} {n cc wc : Nat} {l : List T.Nd} {o1 o2 o6 o7 o8 o9 : Value} (h : BkSt w base B vn E ao wo n cc wc l o1 o2 o6 o7 o8 o9) (hB : base ≤ B) (g4 : Nat) (hE : E.length = 4 * g4) (hg4 : g4 ≤ 2) (hn : n ≤ 16) (hs : base ≤ w.heap.size)
    (lo : Option Addr) (k lc : Nat) (ll : List T.Nd) (hc : w.ownsRow base 60 3 (.slice lo k lc) k (ndCells ll)) (hcl : ll.length = k) (hk : k ≤ 16) (hne : Value.ownBlock (.slice lo k lc) ≠ none → Value.ownBlock (.slice lo k lc) ≠ Value.ownBlock (.slice ao n cc)) (hEc : ∀ v ∈ E, ∀ q, v.ownBlock = some q → some q ≠ Value.ownBlock (.slice lo k lc)) :
    Calls Try.prog 14 #[.pointer (some ⟨B, 0, none⟩), .slice lo k lc] w fun e w' => keepEnd base B vn E (Value.ownBlock (.slice ao n cc)) lo k lc ll o1 o2 o6 o7 o8 o9 w e w' := by
  obtain ⟨i0, hi, hz0, hz1, hz2⟩ := info_parts info60
  have HS : Hid (BkSt w base B vn E ao wo n cc wc l o1 o2 o6 o7 o8 o9) := h
  have HC : Hid (w.ownsRow base 60 3 (.slice lo k lc) k (ndCells ll)) := hc
  have Hk : Hid (ll.length = k) := hcl
  have HNe : Hid (Value.ownBlock (.slice lo k lc) ≠ none → Value.ownBlock (.slice lo k lc) ≠ Value.ownBlock (.slice ao n cc)) := hne
  have HEc : Hid (∀ v ∈ E, ∀ q, v.ownBlock = some q → some q ≠ Value.ownBlock (.slice lo k lc)) := hEc
  have HF : Hid (∀ u : World, Below w.heap.size w u → Calls Try.prog 34 #[.pointer (some ⟨B, 0, none⟩)] u fun e w' => e = .returned (.tuple #[]) ∧ ∃ vn' E', Blk w' B #[vn', o1, o2, .bool false, .slice none 0 0, .slice none 0 0, o6, o7, o8, o9] 39 ∧ w'.ownsRow base 22 1 vn' (E ++ E').length (E ++ E') ∧ E'.length = 4 ∧
      (∀ i v, (E ++ E')[i]? = some v → ∃ m, m ≤ 400 ∧ MarkAt w' 60 (mkNd (200 + ((i / 4 : Nat) : Int) * 4)) v m) ∧ (∀ v ∈ E', ∀ k, v.ownBlock = some k → some k = Value.ownBlock (.slice ao n cc) ∨ u.heap.size ≤ k) ∧
      Kept (fun k => k = B ∨ some k = Value.ownBlock (.slice ao n cc) ∨ some k = vn.ownBlock) u w' ∧ (∀ k, vn'.ownBlock = some k → some k = vn.ownBlock ∨ u.heap.size ≤ k)) :=
    fun u hu => markedB_any (h.below hu) hB g4 hE hg4 hn (by have := hu.size; omega)
  have hcn : lo = none → k = 0 ∧ lc = 0 := by
    rintro rfl
    rcases hc.2 with ⟨hv, h0⟩ | ⟨g, cap, cur, hv, _⟩
    · simp only [Value.slice.injEq] at hv
      exact ⟨h0, hv.2.2⟩
    · simp at hv
  clear h hc hcl hne hEc
  cases lo with
  | none =>
    obtain ⟨rfl, rfl⟩ := hcn rfl
    have HU : Hid (w.ownsRow w.heap.size 60 3 (.slice none 0 0) 0 (ndCells ll)) := by
      have : ll = [] := List.eq_nil_of_length_eq_zero Hk.out
      subst this
      exact World.ownsRow_nil _ _ _ _
    clear hcn
    go_enter Try.func14, Try.ntmps14
    go_wp2_with fail
    refine (HF.out w (Below.refl _ _)).mono ?_
    rintro e w2 ⟨rfl, vn', E', r1, r2, r3, r4, r5, r6, r7⟩
    have HE := keepEnd_of HS.out HC.out Hk.out HNe.out HEc.out (Below.refl _ _) HU.out r1 r2 r3 r4 r5 r6 r7
    have HEH : Hid (keepEnd base B vn E (Value.ownBlock (.slice ao n cc)) none 0 0 ll o1 o2 o6 o7 o8 o9 w (.returned (.tuple #[])) ((w2.setCell ⟨B, 4, none⟩ (.slice none 0 0)).setCell ⟨B, 5, none⟩ (.slice none 0 0))) := HE
    have b4 := r1.cell 4
    have b5 := r1.cell 5
    simp at b4 b5
    have f4 := r1.free 4
    have f5 := r1.free 5
    clear HE r1 r2 r3 r4 r5 r6 r7 HF
    go_wp2
    go_end0
    exact HEH.out
  | some a =>
    have HN3 : Hid ((ndCells ll).length = k * 3) := by unfold Hid; rw [ndCells_length, Hk.out]
    have HC3 : Hid (∀ j v, (ndCells ll)[j]? = some v → w.cell? (a.add j) = some v) := by
      intro j v hj
      rcases HC.out.2 with ⟨hv, _⟩ | ⟨g, cap, cur, hv, _⟩
      · simp at hv
      · simp only [Value.slice.injEq, Option.some.injEq] at hv
        rw [hv.1]
        exact World.ownsRow.cells HC.out (by rw [hv.1]; rfl) j v hj
    clear hcn
    go_enter Try.func14, Try.ntmps14
    go_wp2_with (at_builtin; refine wpList_append_own _ rfl (.tmp 5) (.tmp 6) 22 rfl w.heap.size 60 i0 (.agg #[.int .u8 0, .int .u16 0, .string ⟨#[]⟩]) 3 24 Try.underlying22 hi hz0 hz1 hz2 rfl (by decide) _ _ _ rfl (World.ownsRow_nil _ _ _ _) a k lc (ndCells ll) rfl HN3.out HC3.out (ndCells_one _) (by unfold maxLen; omega) (by omega) (Nat.le_refl _) ?_)
    intro v1 w1 ho1 hg1 _
    have ho1' : w1.ownsRow w.heap.size 60 3 v1 k (ndCells ll) := by simpa using ho1
    have hb1 : Below w.heap.size w w1 := (Below.refl _ _).grown hg1 (Nat.le_refl _) (by intro k hk; simp [Value.ownBlock] at hk)
    obtain ⟨uo, uc, rfl⟩ := own_is ho1'
    have HO1 : Hid (w1.ownsRow w.heap.size 60 3 (.slice uo k uc) k (ndCells ll)) := ho1'
    have HB1 : Hid (Below w.heap.size w w1) := hb1
    clear ho1 ho1' hg1 hb1
    go_wp2_with fail
    refine (HF.out w1 HB1.out).mono ?_
    rintro e w2 ⟨rfl, vn', E', r1, r2, r3, r4, r5, r6, r7⟩
    have HE := keepEnd_of HS.out HC.out Hk.out HNe.out HEc.out HB1.out HO1.out r1 r2 r3 r4 r5 r6 r7
    have HEH : Hid (keepEnd base B vn E (Value.ownBlock (.slice ao n cc)) (some a) k lc ll o1 o2 o6 o7 o8 o9 w (.returned (.tuple #[])) ((w2.setCell ⟨B, 4, none⟩ (.slice (some a) k lc)).setCell ⟨B, 5, none⟩ (.slice uo k uc))) := HE
    have b4 := r1.cell 4
    have b5 := r1.cell 5
    simp at b4 b5
    have f4 := r1.free 4
    have f5 := r1.free 5
    clear HE r1 r2 r3 r4 r5 r6 r7 HF
    go_wp2
    go_end0
    exact HEH.out

/-- What ends leaves. -/
def endsEnd (base B : Nat) (w : World) (e : Ending) (w' : World) : Prop := e = .returned (.bool true) ∧ Below base w w'

theorem MarkAt.keptB {w w' : World} {B : Nat} {t : TypeId} {cs : Array Value} {ms : List Value} {v : Value} {m : Nat} (h : MarkAt w t ms v m) (hk : Kept (fun k => k = B) w w') (hB : Blk w B cs 39) (ht : t ≠ 39) : MarkAt w' t ms v m := by
  obtain ⟨ao, cap, rfl, h⟩ := h
  refine ⟨ao, cap, rfl, ?_⟩
  rcases h with h | ⟨g, cur, e, hb, q⟩
  · exact Or.inl h
  · exact Or.inr ⟨g, cur, e, hb.of_block (hk.block g hb.lt (fun e => hb.ne hB ht e)), q⟩

theorem own_keptB {w w' : World} {B base n size : Nat} {t : TypeId} {cs : Array Value} {v : Value} {xs : List Value} (h : w.ownsRow base t size v n xs) (hk : Kept (fun k => k = B) w w') (hB : Blk w B cs 39) (ht : (39 : TypeId) ≠ t) : w'.ownsRow base t size v n xs :=
  own_block h fun k hv => hk.block k (h.lt k hv).2 (by
    rintro rfl
    exact hB.ne_own h ht hv.symm)

set_option maxRecDepth 100000 in
set_option maxHeartbeats 2000000 in
theorem ends_any {w : World} {base B : Nat} {vn : Value} {E : List Value} {ao wo : Option Addr} {n cc wc : Nat} {l : List T.Nd} (h : BkSt w base B vn E ao wo n cc wc l (.slice none 0 0) (.slice none 0 0) (.slice none 0 0) (.slice none 0 0) (.slice none 0 0) (.slice none 0 0)) (hB : base ≤ B) (g4 : Nat) (hE : E.length = 4 * g4) (hg4 : g4 ≤ 2) (hn : n ≤ 16) (hs : base ≤ w.heap.size) :
    Calls Try.prog 15 #[.pointer (some ⟨B, 0, none⟩)] w fun e w' => endsEnd base B w e w' := by
  have H1 := markedB_any h hB g4 hE hg4 hn hs
  have HS : Hid (BkSt w base B vn E ao wo n cc wc l (.slice none 0 0) (.slice none 0 0) (.slice none 0 0) (.slice none 0 0) (.slice none 0 0) (.slice none 0 0)) := h
  clear h
  go_enter Try.func15, Try.ntmps15
  go_wp2_with fail
  refine H1.mono ?_
  rintro e w1 ⟨rfl, vn1, E1, p1, p2, p3, p4, p5, p6, p7⟩
  have K1 : Hid (Below base w w1) := p6.below hs (by
    rintro k (q | q | q)
    · omega
    · exact (HS.out.own.lt k q.symm).1
    · exact (HS.out.row.lt k q.symm).1)
  have P1 : Hid (Blk w1 B #[vn1, .slice none 0 0, .slice none 0 0, .bool false, .slice none 0 0, .slice none 0 0, .slice none 0 0, .slice none 0 0, .slice none 0 0, .slice none 0 0] 39 ∧ w1.ownsRow base 22 1 vn1 (E ++ E1).length (E ++ E1) ∧ (∀ i v, (E ++ E1)[i]? = some v → ∃ m, m ≤ 400 ∧ MarkAt w1 60 (mkNd (200 + ((i / 4 : Nat) : Int) * 4)) v m)) := ⟨p1, p2, p4⟩
  have hlen : (E ++ E1).length ≤ 64 := by rw [List.length_append, p3]; omega
  clear p1 p2 p3 p4 p5 p6 p7 H1
  go_wp2_with fail
  refine (markedEv_any base B vn1 (.slice none 0 0) (.slice none 0 0) (.slice none 0 0) (.slice none 0 0) (.slice none 0 0) w1 hB P1.out.1 (by have := K1.out.size; omega)).mono ?_
  rintro e w2 ⟨rfl, ve, Ev, q1, q2, q3, q4, q5, q6⟩
  have K2 : Hid (Below base w w2) := K1.out.trans (q5.below (by have := K1.out.size; omega) (by rintro k rfl; exact hB))
  have P2 : Hid (Blk w2 B #[vn1, ve, .slice none 0 0, .bool false, .slice none 0 0, .slice none 0 0, .slice none 0 0, .slice none 0 0, .slice none 0 0, .slice none 0 0] 39 ∧ w2.ownsRow base 22 1 vn1 (E ++ E1).length (E ++ E1) ∧ (∀ i v, (E ++ E1)[i]? = some v → ∃ m, m ≤ 400 ∧ MarkAt w2 60 (mkNd (200 + ((i / 4 : Nat) : Int) * 4)) v m) ∧ w2.ownsRow base 36 1 ve 4 Ev ∧ ∀ v ∈ Ev, ∃ m, m ≤ 400 ∧ MarkAt w2 84 mkEv v m) := by
    refine ⟨q1, own_keptB P1.out.2.1 q5 P1.out.1 (by decide), fun i v hv => ?_, q2, q4⟩
    obtain ⟨m, hm, hk⟩ := P1.out.2.2 i v hv
    exact ⟨m, hm, hk.keptB q5 P1.out.1 (by decide)⟩
  clear q1 q2 q3 q4 q5 q6 P1
  go_wp2_with fail
  refine (markedEn_any base B vn1 ve (.slice none 0 0) (.slice none 0 0) (.slice none 0 0) (.slice none 0 0) w2 hB P2.out.1 (by have := K2.out.size; omega)).mono ?_
  rintro e w3 ⟨rfl, vt, En, q1, q2, q3, q4, q5, q6⟩
  have K3 : Hid (Below base w w3) := K2.out.trans (q5.below (by have := K2.out.size; omega) (by rintro k rfl; exact hB))
  have P3 : Hid (Whole w3 base B (E ++ E1).length vn1 ve vt (E ++ E1) Ev En) := by
    refine ⟨q1, own_keptB P2.out.2.1 q5 P2.out.1 (by decide), own_keptB P2.out.2.2.2.1 q5 P2.out.1 (by decide), q2, fun i v hv => ?_, fun v hv => ?_, q4⟩
    · obtain ⟨m, hm, hk⟩ := P2.out.2.2.1 i v hv
      exact ⟨m, hm, hk.keptB q5 P2.out.1 (by decide)⟩
    · obtain ⟨m, hm, hk⟩ := P2.out.2.2.2.2 v hv
      exact ⟨m, hm, hk.keptB q5 P2.out.1 (by decide)⟩
  clear q1 q2 q3 q4 q5 q6 P2
  go_wp2_with fail
  refine (still_any base B _ vn1 ve vt (E ++ E1) Ev En w3 hlen P3.out).mono ?_
  rintro e w4 ⟨rfl, rfl⟩
  go_wp2
  go_ret
  exact ⟨rfl, K3.out⟩

end Go.Proofs.Ytcaeeaiodbjacaa
