/-
  The document's own answer: the walk of used; and of without.
-/
import Derived.Test.YtcaeeaiodbjacaaIdFor
namespace Go.Proofs.Ytcaeeaiodbjacaa
open Go.RowKit
set_option linter.unusedVariables false

set_option maxHeartbeats 1000000 in
theorem used_any (ao : Option Addr) (cap : Nat) (l : List T.Nd) (id : Int) (w : World) (hl : l.length ≤ maxLen) (ha : NodeAt w ao l) (hk : ndOk l) :
    Calls Try.prog 33 #[.slice ao l.length cap, .int .i64 id] w fun e w' => e = .returned (.bool (T.has l id)) ∧ w = w' := by
  unfold maxLen at hl
  obtain ⟨n, hn⟩ : ∃ n, n = l.length := ⟨_, rfl⟩
  have Hn : Hid (l.length = n) := hn.symm
  rw [← hn]
  rw [← hn] at hl
  have HA : Hid (NodeAt w ao l) := ha
  have HK : Hid (ndOk l) := hk
  clear hn ha hk
  go_enter Try.func33, Try.ntmps33
  go_wp2
  go_loopw [5] (fun i wr => ∃ (k : Nat), k ≤ n ∧ i = .int .i64 k ∧ w = wr ∧ Hid (T.has l id = T.has (l.drop k) id))
    (fun i _ => n - (intOf i).toNat)
  case atStart => exact ⟨0, Nat.zero_le _, rfl, rfl, rfl⟩
  case round =>
    obtain ⟨k, hk, rfl, rfl, HD⟩ := hrel
    by_cases hlt : k < n
    · obtain ⟨y, hy⟩ : ∃ x, l[k]? = some x := ⟨l[k]'(by have := Hn.out; omega), List.getElem?_eq_getElem (by have := Hn.out; omega)⟩
      obtain ⟨b, off, rfl, hbl, hr⟩ : ∃ b off, ao = some ⟨b, off, none⟩ ∧ b < w.heap.size ∧ NodeRow w b off l := HA.out.resolve_left (by rintro rfl; simp at hy)
      have hyk := (HK.out y (List.mem_of_getElem? hy)).1
      obtain ⟨y1, y2, y3⟩ := y
      obtain ⟨c0, c1, c2⟩ := hr k _ hy
      simp only at c0 c1 c2
      have hw1 : wrap64 y1 = y1 := by
        obtain ⟨h0, h1, _⟩ := hyk
        simp only at h0 h1
        unfold wrap64; omega
      have HS : Hid (T.has l id = (decide (y1 = id) || T.has (l.drop (k + 1)) id)) := by
        unfold Hid
        rw [HD.out, drop_cons l k _ hy]
        rfl
      clear hy hr hyk
      by_cases h1 : y1 = id
      · subst h1
        have HT : Hid (T.has l y1 = true) := by unfold Hid; rw [HS.out]; simp
        go_wp2
        go_ret
        rw [HT.out]
        exact ⟨rfl, rfl⟩
      · have hb1 : (y1 == id) = false := by rw [beq_eq_false_iff_ne]; exact h1
        have HT : Hid (T.has l id = T.has (l.drop (k + 1)) id) := by unfold Hid; rw [HS.out]; simp [h1]
        clear h1
        go_wp2
        go_roundw
        case rel => exact ⟨k + 1, by omega, by go_num, trivial, HT⟩
        case measure => simp [intOf]; omega
    · have HT : Hid (T.has l id = false) := by
        unfold Hid
        rw [HD.out, List.drop_of_length_le (by have := Hn.out; omega)]
        rfl
      go_wp2
      go_ret
      rw [HT.out]
      exact ⟨rfl, rfl⟩

/-- What without hands back: the list without the node at a place. -/
def withoutEnd (l : List T.Nd) (at_ : Nat) (w : World) (e : Ending) (w' : World) : Prop :=
  ∃ v, e = .returned v ∧ w'.ownsRow w.heap.size 60 3 v (l.eraseIdx at_).length (ndCells (l.eraseIdx at_)) ∧ Below w.heap.size w w'

/-- The first k of a list, without the one at a place. -/
def upTo (l : List T.Nd) (at_ k : Nat) : List T.Nd := if at_ < k then (l.take k).eraseIdx at_ else l.take k

theorem upTo_next {l : List T.Nd} {at_ k : Nat} {x : T.Nd} (hx : l[k]? = some x) : upTo l at_ (k + 1) = if k = at_ then upTo l at_ k else upTo l at_ k ++ [x] := by
  have hk : k < l.length := (List.getElem?_eq_some_iff.1 hx).1
  have ht : l.take (k + 1) = l.take k ++ [x] := by rw [List.take_add_one, hx]; rfl
  have hl : (l.take k).length = k := by rw [List.length_take]; omega
  unfold upTo
  by_cases h : k = at_
  · subst h
    rw [if_pos rfl, if_pos (by omega), if_neg (by omega), ht, List.eraseIdx_append_of_length_le (by omega), hl]
    simp
  · rw [if_neg h]
    by_cases h2 : at_ < k
    · rw [if_pos h2, if_pos (by omega), ht, List.eraseIdx_append_of_lt_length (by omega)]
    · rw [if_neg h2, if_neg (by omega), ht]

theorem upTo_length {l : List T.Nd} {at_ k : Nat} (hk : k ≤ l.length) : (upTo l at_ k).length ≤ k := by
  unfold upTo
  split
  · rw [List.length_eraseIdx]
    split <;> (rw [List.length_take]; omega)
  · rw [List.length_take]; omega

theorem upTo_all {l : List T.Nd} {at_ : Nat} (h : at_ < l.length) : upTo l at_ l.length = l.eraseIdx at_ := by
  unfold upTo
  rw [if_pos h, List.take_length]

set_option maxRecDepth 100000 in
set_option maxHeartbeats 2000000 in
theorem without_any (ao : Option Addr) (cap : Nat) (l : List T.Nd) (at_ : Nat) (w : World) (hl : l.length ≤ 5864062014800) (ha : NodeAt w ao l) (hat : at_ < l.length) :
    Calls Try.prog 51 #[.slice ao l.length cap, .int .i64 at_] w fun e w' => withoutEnd l at_ w e w' := by
  obtain ⟨i0, hi, hz0, hz1, hz2⟩ := info_parts info60
  obtain ⟨n, hn⟩ : ∃ n, n = l.length := ⟨_, rfl⟩
  have Hn : Hid (l.length = n) := hn.symm
  rw [← hn]
  rw [← hn] at hl hat
  have HA : Hid (NodeAt w ao l) := ha
  clear hn ha
  go_enter Try.func51, Try.ntmps51
  go_wp2
  go_loopw [5, 10] (fun v i wr => ∃ (k cv m : Nat) (bo : Option Addr), v = .slice bo m cv ∧ m ≤ k ∧ k ≤ n ∧ i = .int .i64 k ∧ wr.ownsRow w.heap.size 60 3 (.slice bo m cv) m (ndCells (upTo l at_ k)) ∧ Below w.heap.size w wr ∧ Hid ((upTo l at_ k).length = m))
    (fun _ i _ => n - (intOf i).toNat)
  case atStart => exact ⟨0, 0, 0, none, rfl, Nat.le_refl _, Nat.zero_le _, rfl, by simpa [upTo, ndCells] using World.ownsRow_nil _ _ _ _, Below.refl _ _, by unfold Hid; simp [upTo]⟩
  case round =>
    obtain ⟨k, cv, m, bo, rfl, hmk, hk, rfl, hown, hbel, HL⟩ := hrel
    have HO : Hid (wr.ownsRow w.heap.size 60 3 (.slice bo m cv) m (ndCells (upTo l at_ k))) := hown
    have HB : Hid (Below w.heap.size w wr) := hbel
    have hsz := hbel.size
    clear hown hbel
    by_cases hlt : k < n
    · obtain ⟨y, hy⟩ : ∃ x, l[k]? = some x := ⟨l[k]'(by have := Hn.out; omega), List.getElem?_eq_getElem (by have := Hn.out; omega)⟩
      obtain ⟨b, off, rfl, hbl, hr⟩ : ∃ b off, ao = some ⟨b, off, none⟩ ∧ b < w.heap.size ∧ NodeRow w b off l := HA.out.resolve_left (by rintro rfl; simp at hy)
      have HU : Hid (upTo l at_ (k + 1) = if k = at_ then upTo l at_ k else upTo l at_ k ++ [y]) := upTo_next hy
      obtain ⟨y1, y2, y3⟩ := y
      obtain ⟨c0, c1, c2⟩ := (hr.below HB.out hbl) k _ hy
      simp only at c0 c1 c2
      have hbw : b < wr.heap.size := by omega
      have hbne : ¬ b = wr.heap.size := by omega
      clear hy hr
      by_cases hka : k = at_
      · have HU2 : Hid (upTo l at_ (k + 1) = upTo l at_ k) := by unfold Hid; rw [HU.out, if_pos hka]
        have hkb : ((k : Int) == (at_ : Int)) = true := by simp [hka]
        have hkn : ((k : Int) != (at_ : Int)) = false := by simp [hka]
        clear HU
        subst hka
        go_wp2
        go_roundw
        case rel =>
          refine ⟨k + 1, cv, m, bo, rfl, by omega, by omega, by go_num, ?_, HB.out.alloc hsz _, by unfold Hid; rw [HU2.out]; exact HL.out⟩
          rw [HU2.out]
          exact HO.out.alloc _
        case measure => simp [intOf]; omega
      · have HU2 : Hid (upTo l at_ (k + 1) = upTo l at_ k ++ [(y1, y2, y3)]) := by unfold Hid; rw [HU.out, if_neg hka]
        have hkb : ((k : Int) == (at_ : Int)) = false := by rw [beq_eq_false_iff_ne]; omega
        have hkn : ((k : Int) != (at_ : Int)) = true := by simp; omega
        clear HU hka
        go_wp2_with (at_builtin; refine wpList_append_own _ rfl (.tmp 18) (.tmp 20) 22 rfl w.heap.size 60 i0 (.agg #[.int .u8 0, .int .u16 0, .string ⟨#[]⟩]) 3 24 Try.underlying22 hi hz0 hz1 hz2 rfl (by decide) _ _ _ rfl ((HO.out.alloc _).alloc _) ⟨wr.heap.size + 1, 0, none⟩ 1 1 [.int .u8 y1, .int .u16 y2, .string y3] rfl rfl (new_three1 _ _ _ _ _ _) (by intro u hu; simp at hu; rcases hu with rfl | rfl | rfl <;> rfl) (by unfold maxLen; omega) (by omega) (by simp; omega) ?_)
        intro v3 w3 hown3 hg3 _
        have hb3 : Below w.heap.size w w3 := below_app ((HB.out.alloc hsz _).alloc (by simp; omega) _) hg3 ((HO.out.alloc _).alloc _) (Nat.le_refl _) (by simp; omega)
        obtain ⟨g3, cap3, hv3⟩ : ∃ g3 cap3, v3 = .slice (some ⟨g3, 0, none⟩) (m + 1) cap3 := by
          rcases hown3.2 with ⟨_, h⟩ | ⟨g3, cap3, _, h, _⟩
          · omega
          · exact ⟨g3, cap3, h⟩
        have HV : Hid (v3 = .slice (some ⟨g3, 0, none⟩) (m + 1) cap3) := hv3
        have HB3 : Hid (Below w.heap.size w w3) := hb3
        have HO3 : Hid (w3.ownsRow w.heap.size 60 3 v3 (m + 1) (ndCells (upTo l at_ k) ++ [.int .u8 y1, .int .u16 y2, .string y3])) := hown3
        clear hown3 hg3 hb3 HO HB hv3
        go_wp2
        go_roundw
        case rel =>
          refine ⟨k + 1, cap3, m + 1, some ⟨g3, 0, none⟩, HV.out, by omega, by omega, by go_num, ?_, HB3.out, by unfold Hid; rw [HU2.out]; simp [HL.out]⟩
          rw [HU2.out, ndCells_snoc, ← HV.out]
          exact HO3.out
        case measure => simp [intOf]; omega
    · have hkn : k = n := by omega
      subst hkn
      have HU : Hid (upTo l at_ k = l.eraseIdx at_) := by
        have h := upTo_all (l := l) (at_ := at_) (by rw [Hn.out]; exact hat)
        rw [Hn.out] at h
        exact h
      go_wp2
      go_ret
      refine ⟨_, rfl, ?_, HB.out⟩
      rw [← HU.out, HL.out]
      exact HO.out

end Go.Proofs.Ytcaeeaiodbjacaa
