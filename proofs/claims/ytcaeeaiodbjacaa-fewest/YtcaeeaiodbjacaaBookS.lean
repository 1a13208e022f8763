/-
  The walk of still.
-/
import Derived.Test.YtcaeeaiodbjacaaBookD
import Derived.Test.YtcaeeaiodbjacaaBookE
namespace Go.Proofs.Ytcaeeaiodbjacaa
open Go.RowKit
set_option linter.unusedVariables false

theorem row_cell {w : World} {base : Nat} {tn : TypeId} {ao : Option Addr} {n c : Nat} {E : List Value} (h : w.ownsRow base tn 1 (.slice ao n c) n E) {i : Nat} {u : Value} (hi : E[i]? = some u) : ∃ g, ao = some ⟨g, 0, none⟩ ∧ w.cell? ⟨g, i, none⟩ = some u := by
  rcases h.2 with ⟨hv, h0⟩ | ⟨g, cap, cur, hv, _⟩
  · have : E = [] := List.eq_nil_of_length_eq_zero (by have := h.1; omega)
    subst this
    simp at hi
  · simp only [Value.slice.injEq] at hv
    refine ⟨g, hv.1, ?_⟩
    have h1 := World.ownsRow.cells h (g := g) (by rw [hv.1]; rfl) i u hi
    rw [Addr.add_lit, Nat.zero_add] at h1
    exact h1

/-- A book in which every list reads as it was marked. -/
structure Whole (w : World) (base B n : Nat) (vn ve vt : Value) (E Ev En : List Value) : Prop where
  bk : Blk w B #[vn, ve, vt, .bool false, .slice none 0 0, .slice none 0 0, .slice none 0 0, .slice none 0 0, .slice none 0 0, .slice none 0 0] 39
  rn : w.ownsRow base 22 1 vn n E
  re : w.ownsRow base 36 1 ve 4 Ev
  rt : w.ownsRow base 37 1 vt 4 En
  mn : ∀ i v, E[i]? = some v → ∃ m, m ≤ 400 ∧ MarkAt w 60 (mkNd (200 + ((i / 4 : Nat) : Int) * 4)) v m
  me : ∀ v ∈ Ev, ∃ m, m ≤ 400 ∧ MarkAt w 84 mkEv v m
  mt : ∀ v ∈ En, ∃ m, m ≤ 400 ∧ MarkAt w 86 mkEn v m

set_option maxRecDepth 100000 in
set_option maxHeartbeats 4000000 in
theorem still_any (base B n : Nat) (vn ve vt : Value) (E Ev En : List Value) (w : World) (hn : n ≤ 64) (h : Whole w base B n vn ve vt E Ev En) :
    Calls Try.prog 37 #[.pointer (some ⟨B, 0, none⟩)] w fun e w' => e = .returned (.bool true) ∧ w = w' := by
  obtain ⟨no, nc, rfl⟩ := own_is h.rn
  obtain ⟨eo, ec, rfl⟩ := own_is h.re
  obtain ⟨tO, tc, rfl⟩ := own_is h.rt
  have HW : Hid (Whole w base B n (.slice no n nc) (.slice eo 4 ec) (.slice tO 4 tc) E Ev En) := h
  have b0 := h.bk.cell 0
  have b1 := h.bk.cell 1
  have b2 := h.bk.cell 2
  have b3 := h.bk.cell 3
  have b4 := h.bk.cell 4
  have b6 := h.bk.cell 6
  have b8 := h.bk.cell 8
  simp at b0 b1 b2 b3 b4 b6 b8
  clear h
  go_enter Try.func37, Try.ntmps37
  go_wp2_with fail
  go_loopw [3] (fun i wr => i = .int .i64 0 ∧ wr = w) (fun _ _ => 0)
  case atStart => exact ⟨rfl, rfl⟩
  case round =>
   obtain ⟨rfl, rfl⟩ := hrel
   go_wp2_with fail
   obtain ⟨w0, hw0⟩ : ∃ w0, w0 = wr := ⟨_, rfl⟩
   subst hw0
   go_loopw [4] (fun i wr => i = .int .i64 0 ∧ wr = w0) (fun _ _ => 0)
   case atStart => exact ⟨rfl, rfl⟩
   case round =>
    obtain ⟨rfl, rfl⟩ := hrel
    go_wp2_with fail
    obtain ⟨w0, hw0⟩ : ∃ w0, w0 = wr := ⟨_, rfl⟩
    subst hw0
    go_loopw [5] (fun i wr => i = .int .i64 0 ∧ wr = w0) (fun _ _ => 0)
    case atStart => exact ⟨rfl, rfl⟩
    case round =>
     obtain ⟨rfl, rfl⟩ := hrel
     go_wp2_with fail
     obtain ⟨w0, hw0⟩ : ∃ w0, w0 = wr := ⟨_, rfl⟩
     subst hw0
     clear b3 b4 b6 b8
     go_loopw [6] (fun i wr => ∃ k : Nat, k ≤ n ∧ i = .int .i64 k ∧ wr = w0) (fun i _ => n - (intOf i).toNat)
     case atStart => exact ⟨0, Nat.zero_le _, rfl, rfl⟩
     case round =>
      obtain ⟨k, hk, rfl, rfl⟩ := hrel
      obtain ⟨w0, hw0⟩ : ∃ w0, w0 = wr := ⟨_, rfl⟩
      subst hw0
      by_cases hlt : k < n
      · obtain ⟨v, hv⟩ : ∃ v, E[k]? = some v := ⟨E[k]'(by have := HW.out.rn.1; omega), List.getElem?_eq_getElem (by have := HW.out.rn.1; omega)⟩
        obtain ⟨gn, rfl, cn⟩ := row_cell HW.out.rn hv
        obtain ⟨m, hm4, ao, cap, rfl, hmk⟩ := HW.out.mn k v hv
        have HMk : Hid (m = 0 ∨ ∃ g cur, ao = some ⟨g, 0, none⟩ ∧ Blk w0 g cur 60 ∧ cur.toList.take (m * (mkNd (200 + ((k / 4 : Nat) : Int) * 4)).length) = rep m (mkNd (200 + ((k / 4 : Nat) : Int) * 4))) := hmk
        have hki : (k : Int) < (n : Int) := by omega
        have hk0 : (0 : Int) ≤ (k : Int) := by omega
        clear hv hmk
        go_wp2_with fail
        go_loopw [7] (fun i wr => ∃ p : Nat, p ≤ m ∧ i = .int .i64 p ∧ wr = w0) (fun i _ => m - (intOf i).toNat)
        case atStart => exact ⟨0, Nat.zero_le _, rfl, rfl⟩
        case round =>
          obtain ⟨p, hp, rfl, rfl⟩ := hrel
          by_cases hpm : p < m
          · obtain ⟨g, cur, rfl, hb, hr⟩ : ∃ g cur, ao = some ⟨g, 0, none⟩ ∧ Blk wr g cur 60 ∧ cur.toList.take (m * (mkNd (200 + ((k / 4 : Nat) : Int) * 4)).length) = rep m (mkNd (200 + ((k / 4 : Nat) : Int) * 4)) := HMk.out.resolve_left (by omega)
            have c0 := mark_cell (k := p) (i := 0) hb hr hpm (by simp [mkNd])
            have c1 := mark_cell (k := p) (i := 1) hb hr hpm (by simp [mkNd])
            have c2 := mark_cell (k := p) (i := 2) hb hr hpm (by simp [mkNd])
            simp [mkNd] at c0 c1 c2
            have hpi : (p : Int) < (m : Int) := by omega
            have hp0 : (0 : Int) ≤ (p : Int) := by omega
            have hd : (k : Int).tdiv 4 = ((k / 4 : Nat) : Int) := by rw [Int.tdiv_eq_ediv_of_nonneg (by omega)]; omega
            have hw1 : IntKind.i64.wrap ((k / 4 : Nat) : Int) = ((k / 4 : Nat) : Int) := by rw [IntKind.wrap_i64]; omega
            have hw16 : IntKind.u16.wrap ((200 : Int) + ((k / 4 : Nat) : Int) * 4) = (200 : Int) + ((k / 4 : Nat) : Int) * 4 := by
              simp [IntKind.wrap, IntKind.signed, IntKind.bits]
              omega
            clear hb hr HMk
            go_wp2
            go_roundw
            case rel => exact ⟨p + 1, by omega, by go_num, by first | rfl | trivial⟩
            case measure => simp [intOf]; omega
          · have hpn : ¬ (p : Int) < (m : Int) := by omega
            clear HMk
            go_wp2
            go_roundw
            case rel => exact ⟨k + 1, by omega, by go_num, by first | rfl | trivial⟩
            case measure => simp [intOf]; omega
      · have hkn : ¬ (k : Int) < (n : Int) := by omega
        go_wp2_with fail
        go_loopw [8] (fun i wr => ∃ k : Nat, k ≤ 4 ∧ i = .int .i64 k ∧ wr = w0) (fun i _ => 4 - (intOf i).toNat)
        case atStart => exact ⟨0, Nat.zero_le _, rfl, rfl⟩
        case round =>
         obtain ⟨k, hk, rfl, rfl⟩ := hrel
         obtain ⟨w0, hw0⟩ : ∃ w0, w0 = wr := ⟨_, rfl⟩
         subst hw0
         by_cases hlt : k < 4
         · obtain ⟨v, hv⟩ : ∃ v, Ev[k]? = some v := ⟨Ev[k]'(by have := HW.out.re.1; omega), List.getElem?_eq_getElem (by have := HW.out.re.1; omega)⟩
           obtain ⟨gn, rfl, cn⟩ := row_cell HW.out.re hv
           obtain ⟨m, hm4, ao, cap, rfl, hmk⟩ := HW.out.me v (List.mem_of_getElem? hv)
           have HMk : Hid (m = 0 ∨ ∃ g cur, ao = some ⟨g, 0, none⟩ ∧ Blk w0 g cur 84 ∧ cur.toList.take (m * (mkEv).length) = rep m (mkEv)) := hmk
           have hki : (k : Int) < 4 := by omega
           have hk0 : (0 : Int) ≤ (k : Int) := by omega
           clear hv hmk
           go_wp2_with fail
           go_loopw [9] (fun i wr => ∃ p : Nat, p ≤ m ∧ i = .int .i64 p ∧ wr = w0) (fun i _ => m - (intOf i).toNat)
           case atStart => exact ⟨0, Nat.zero_le _, rfl, rfl⟩
           case round =>
             obtain ⟨p, hp, rfl, rfl⟩ := hrel
             by_cases hpm : p < m
             · obtain ⟨g, cur, rfl, hb, hr⟩ : ∃ g cur, ao = some ⟨g, 0, none⟩ ∧ Blk wr g cur 84 ∧ cur.toList.take (m * (mkEv).length) = rep m (mkEv) := HMk.out.resolve_left (by omega)
               have c0 := mark_cell (k := p) (i := 0) hb hr hpm (by simp [mkEv])
               have c1 := mark_cell (k := p) (i := 1) hb hr hpm (by simp [mkEv])
               have c2 := mark_cell (k := p) (i := 2) hb hr hpm (by simp [mkEv])
               have c3 := mark_cell (k := p) (i := 3) hb hr hpm (by simp [mkEv])
               simp [mkEv] at c0 c1 c2 c3
               have hpi : (p : Int) < (m : Int) := by omega
               have hp0 : (0 : Int) ≤ (p : Int) := by omega
               have hd : (k : Int).tdiv 4 = 0 := by rw [Int.tdiv_eq_ediv_of_nonneg (by omega)]; omega
               clear hb hr HMk
               go_wp2
               go_roundw
               case rel => exact ⟨p + 1, by omega, by go_num, by first | rfl | trivial⟩
               case measure => simp [intOf]; omega
             · have hpn : ¬ (p : Int) < (m : Int) := by omega
               clear HMk
               go_wp2
               go_roundw
               case rel => exact ⟨k + 1, by omega, by go_num, by first | rfl | trivial⟩
               case measure => simp [intOf]; omega
         · have hkn : ¬ (k : Int) < 4 := by omega
           go_wp2_with fail
           go_loopw [10] (fun i wr => ∃ k : Nat, k ≤ 4 ∧ i = .int .i64 k ∧ wr = w0) (fun i _ => 4 - (intOf i).toNat)
           case atStart => exact ⟨0, Nat.zero_le _, rfl, rfl⟩
           case round =>
            obtain ⟨k, hk, rfl, rfl⟩ := hrel
            obtain ⟨w0, hw0⟩ : ∃ w0, w0 = wr := ⟨_, rfl⟩
            subst hw0
            by_cases hlt : k < 4
            · obtain ⟨v, hv⟩ : ∃ v, En[k]? = some v := ⟨En[k]'(by have := HW.out.rt.1; omega), List.getElem?_eq_getElem (by have := HW.out.rt.1; omega)⟩
              obtain ⟨gn, rfl, cn⟩ := row_cell HW.out.rt hv
              obtain ⟨m, hm4, ao, cap, rfl, hmk⟩ := HW.out.mt v (List.mem_of_getElem? hv)
              have HMk : Hid (m = 0 ∨ ∃ g cur, ao = some ⟨g, 0, none⟩ ∧ Blk w0 g cur 86 ∧ cur.toList.take (m * (mkEn).length) = rep m (mkEn)) := hmk
              have hki : (k : Int) < 4 := by omega
              have hk0 : (0 : Int) ≤ (k : Int) := by omega
              clear hv hmk
              go_wp2_with fail
              go_loopw [11] (fun i wr => ∃ p : Nat, p ≤ m ∧ i = .int .i64 p ∧ wr = w0) (fun i _ => m - (intOf i).toNat)
              case atStart => exact ⟨0, Nat.zero_le _, rfl, rfl⟩
              case round =>
                obtain ⟨p, hp, rfl, rfl⟩ := hrel
                by_cases hpm : p < m
                · obtain ⟨g, cur, rfl, hb, hr⟩ : ∃ g cur, ao = some ⟨g, 0, none⟩ ∧ Blk wr g cur 86 ∧ cur.toList.take (m * (mkEn).length) = rep m (mkEn) := HMk.out.resolve_left (by omega)
                  have c0 := mark_cell (k := p) (i := 0) hb hr hpm (by simp [mkEn])
                  have c1 := mark_cell (k := p) (i := 1) hb hr hpm (by simp [mkEn])
                  have c2 := mark_cell (k := p) (i := 2) hb hr hpm (by simp [mkEn])
                  have c3 := mark_cell (k := p) (i := 3) hb hr hpm (by simp [mkEn])
                  simp [mkEn] at c0 c1 c2 c3
                  have hpi : (p : Int) < (m : Int) := by omega
                  have hp0 : (0 : Int) ≤ (p : Int) := by omega
                  have hd : (k : Int).tdiv 4 = 0 := by rw [Int.tdiv_eq_ediv_of_nonneg (by omega)]; omega
                  clear hb hr HMk
                  go_wp2
                  go_roundw
                  case rel => exact ⟨p + 1, by omega, by go_num, by first | rfl | trivial⟩
                  case measure => simp [intOf]; omega
                · have hpn : ¬ (p : Int) < (m : Int) := by omega
                  clear HMk
                  go_wp2
                  go_roundw
                  case rel => exact ⟨k + 1, by omega, by go_num, by first | rfl | trivial⟩
                  case measure => simp [intOf]; omega
            · have hkn : ¬ (k : Int) < 4 := by omega
              go_wp2
              go_ret
              exact ⟨rfl, rfl⟩

end Go.Proofs.Ytcaeeaiodbjacaa
