/-
  Instructions copied into a row of one's own; Encode of any list.
-/
import Derived.Test.YtfggaacijcggeaaCodesA
import Derived.Laws.CopyOwn
import Derived.Laws.MakeOwn
namespace Go.Proofs.Ytfggaacijcggeaa
open Go.RowKit
set_option linter.unusedVariables false

theorem made_last2 (a b : Value) (n : Nat) : ((madeCells #[a, b] ((n + 1) * 2)).toList).drop (n * 2) = [a, b] := by
  apply List.ext_getElem?
  intro i
  rw [List.getElem?_drop]
  simp only [madeCells, Array.toList_map, Array.toList_range, List.getElem?_map]
  match i with
  | 0 => rw [List.getElem?_range (by omega)]; simp
  | 1 =>
    rw [List.getElem?_range (by omega)]
    have e : (n * 2 + 1) % 2 = 1 := by omega
    simp [e]
  | i + 2 =>
    rw [List.getElem?_eq_none (by simp; omega)]
    simp

/-- copy, of elements of two cells, into a row of one's own. -/
theorem run_copy_two (w : World) (g n cap : Nat) (lo : Option Addr) (sCap : Nat) (cur : Array Value) (cs : List Value) (hg : w.heap[g]? = some (.cells cur 28 (0, 0))) (hn : cs.length = n * 2)
    (hsrc : (lo = none ∧ n = 0 ∧ sCap = 0) ∨ ∃ a, lo = some a ∧ ∀ j v, cs[j]? = some v → w.cell? (a.add j) = some v) (hfit : cs.length ≤ cur.size) (h1 : ∀ v ∈ cs, v.oneCell' = true) :
    (Builtin.copy_ #[22, 22] 3 #[.slice (some ⟨g, 0, none⟩) (n + 1) cap, .slice lo n sCap]).run Try.prog w = .ok (goInt n) (w.setRow g (cs ++ cur.toList.drop cs.length).toArray) := by
  have hst := run_storeCells_at Try.prog g 0 28 cs 0 cur w hg (by simpa using hfit) h1
  obtain ⟨i, hq, hz0, hz1, hz2⟩ := info_parts info28
  have hm : Nat.min n (n + 1) = n := Nat.min_eq_left (by omega)
  rcases hsrc with ⟨rfl, rfl, rfl⟩ | ⟨a, rfl, hsrc⟩
  · have hcs : cs = [] := List.eq_nil_of_length_eq_zero (by omega)
    subst hcs
    simp [Builtin.copy_, run_underlying Try.underlying22, Builtin.lenOf, Builtin.firstCells, sizeOf, typeInfo, hq, storeCells]
    rw [setRow_self w g cur 28 (0, 0) hg]
  · have hl := run_loadCells_list (P := Try.prog) w a cs hsrc
    rw [hn] at hl
    simp [Builtin.copy_, run_underlying Try.underlying22, Builtin.lenOf, Builtin.firstCells, sizeOf, typeInfo, hq, hz1, hm, hl]
    simp at hst
    rw [hst]
    simp

theorem insCells_one (l : List (Int × Int)) : ∀ v ∈ insCells l, v.oneCell' = true := by
  intro v hv
  unfold insCells at hv
  obtain ⟨x, _, hx⟩ := List.mem_flatMap.1 hv
  simp at hx
  rcases hx with rfl | rfl <;> rfl

theorem insRow_cells {w : World} {b off : Nat} {l : List (Int × Int)} (h : InsRow w b off l) : ∀ j v, (insCells l)[j]? = some v → w.cell? ((⟨b, off, none⟩ : Addr).add j) = some v := by
  intro j v hj
  have hlt : j < l.length * 2 := by
    have := (List.getElem?_eq_some_iff.1 hj).1
    rwa [insCells_length] at this
  obtain ⟨x, hx⟩ : ∃ x, l[j / 2]? = some x := ⟨l[j / 2]'(by omega), List.getElem?_eq_getElem (by omega)⟩
  obtain ⟨c0, c1⟩ := h _ _ hx
  obtain ⟨d0, d1⟩ := insCells_at l _ _ hx
  rw [Addr.add_lit]
  rcases (show j = j / 2 * 2 ∨ j = j / 2 * 2 + 1 by omega) with e | e
  · rw [e] at hj ⊢
    rw [d0] at hj
    rw [← hj]
    exact c0
  · rw [e] at hj ⊢
    rw [d1] at hj
    rw [← hj]
    exact c1

/-- Encode, of a list in a row of one's own. -/
theorem enc_all (g n cap : Nat) (l : List (Int × Int)) (w : World) (hn : l.length = n) (hm : n ≤ maxLen) (hr : InsRow w g 0 l) :
    Calls Try.prog 11 #[.slice (some ⟨g, 0, none⟩) n cap] w fun e w' => e = .returned (.tuple #[.string (H.encOut l).1, .int .i64 (H.encOut l).2]) ∧ Below w.heap.size w w' := by
  by_cases h0 : n = 0
  · subst h0
    refine (enc_short (some ⟨g, 0, none⟩) cap w).mono ?_
    rintro e w' ⟨rfl, rfl⟩
    rw [H.encOut_bad (by omega)]
    exact ⟨rfl, Below.refl _ _⟩
  · by_cases h64 : n ≤ 64
    · refine (enc_mid g 0 n cap l w (by omega) h64 hn hr).mono ?_
      rintro e w' ⟨rfl, hb⟩
      refine ⟨?_, hb⟩
      unfold encS encE H.encOut
      rw [hn]
      by_cases hok : H.okFrom n 0 l = true
      · rw [if_pos hok, if_pos hok, if_pos ⟨h64, by omega, hok⟩]
      · rw [if_neg hok, if_neg hok, if_neg (fun h => hok h.2.2)]
    · refine (enc_long (some ⟨g, 0, none⟩) n cap w (by omega) hm).mono ?_
      rintro e w' ⟨rfl, rfl⟩
      rw [H.encOut_bad (by omega)]
      exact ⟨rfl, Below.refl _ _⟩

end Go.Proofs.Ytfggaacijcggeaa
