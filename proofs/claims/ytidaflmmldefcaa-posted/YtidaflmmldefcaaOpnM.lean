/-
  A host behind its first frame: plain mathematics.
-/
import Derived.Test.YtidaflmmldefcaaInvH
namespace Go.Proofs.Ytidaflmmldefcaa
open Go.RowKit
set_option linter.unusedVariables false

/-- A tenant on the page has a log, one beside it has none. -/
def Seen (x : Tn) : Prop := (x.routes % 2 = 1 → x.phase ≠ 0 ∧ x.log ≠ []) ∧ (x.routes % 2 ≠ 1 → x.phase = 0 ∧ x.log = [])

theorem sift_seen (n : Int) : ∀ (l : List (Int × Int)) (x : Tn), (x.sift n l).routes = x.routes ∧ (x.sift n l).phase = x.phase ∧ (x.log ≠ [] → (x.sift n l).log ≠ [])
  | [], x => ⟨rfl, rfl, fun h => h⟩
  | s :: r, x => by
    have e : x.sift n (s :: r) = (if goes x.pub s then x else x.note n 1 s.1 s.2).sift n r := rfl
    rw [e]
    split
    · exact sift_seen n r x
    · obtain ⟨h1, h2, h3⟩ := sift_seen n r (x.note n 1 s.1 s.2)
      exact ⟨h1, h2, fun _ => h3 (by simp [Tn.note])⟩

theorem Seen.receive {x : Tn} (h : Seen x) (n s t v : Int) : Seen (x.receive n s t v) := by
  unfold Tn.receive
  split
  · rename_i q
    have ho : x.routes % 2 = 1 := by
      by_cases e : x.routes % 2 = 1
      · exact e
      · have := (h.2 e).1
        omega
    split
    · exact ⟨fun _ => ⟨(h.1 ho).1, by simp [Tn.note]⟩, fun e => absurd ho e⟩
    · exact ⟨fun _ => h.1 ho, fun e => absurd ho e⟩
  · exact h
theorem Seen.get {x : Tn} (h : Seen x) (i : Nat) (n : Int) (L : Lt) : Seen (x.get i n L) := by
  unfold Tn.get
  split
  · exact h
  · exact h.receive _ _ _ _

theorem Seen.first (m : Mf) (ds : List Int) : Seen ((m.tn.come 1 0).turn 1 0 ds) := by
  have hb : bitOf m.routes 0 = decide (m.routes % 2 = 1) := by
    unfold bitOf
    simp
    rfl
  by_cases ho : m.routes % 2 = 1
  · have e1 : m.tn.come 1 0 = m.tn.start 0 := by
      unfold Tn.come
      rw [show m.tn.routes = m.routes from rfl, hb, decide_eq_true ho]
      exact come_c1 rfl
    rw [e1]
    unfold Tn.turn
    rw [if_pos (show (m.tn.start 0).phase = 1 from rfl)]
    unfold Tn.handle
    split
    · unfold Tn.finish
      obtain ⟨h1, h2, h3⟩ := sift_seen 1 (((m.tn.start 0).out 1 0 ds).sends) (((({ (m.tn.start 0).popBox with cells := ((m.tn.start 0).out 1 0 ds).cells } : Tn).show ((m.tn.start 0).out 1 0 ds).shows).note 1 0 ((m.tn.start 0).nextEv 1).what ((m.tn.start 0).nextEv 1).arg))
      refine ⟨fun _ => ⟨?_, h3 (by simp [Tn.note])⟩, fun e => ?_⟩
      · rw [h2]
        show (1 : Int) ≠ 0
        decide
      · rw [h1] at e
        exact absurd ho e
    · refine ⟨fun _ => ⟨?_, by simp [Tn.hold, Tn.note]⟩, fun e => absurd ho e⟩
      show (2 : Int) ≠ 0
      decide
  · have e1 : m.tn.come 1 0 = m.tn := by
      unfold Tn.come
      rw [show m.tn.routes = m.routes from rfl, hb, decide_eq_false ho]
      exact come_c0 rfl
    rw [e1]
    unfold Tn.turn
    rw [if_neg (show ¬ m.tn.phase = 1 by show ¬ (0 : Int) = 1; decide)]
    exact ⟨fun e => absurd e ho, fun _ => ⟨rfl, rfl⟩⟩

theorem delivers_all {P : Tn → Prop} (hP : ∀ i n L x, P x → P (Tn.get i n L x)) (n : Int) : ∀ (l : List Lt) (ts : List Tn), (∀ x ∈ ts, P x) → ∀ x ∈ l.foldl (deliver n) ts, P x
  | [], ts, h => h
  | L :: r, ts, h => by
    rw [List.foldl_cons]
    refine delivers_all hP n r _ ?_
    intro x hx
    unfold deliver at hx
    obtain ⟨i, hi⟩ := List.mem_iff_getElem?.1 hx
    rw [List.getElem?_mapIdx] at hi
    cases hy : ts[i]? with
    | none => rw [hy] at hi; simp at hi
    | some y =>
      rw [hy] at hi
      have : y.get i n L = x := by simpa using hi
      rw [← this]
      exact hP i n L y (h y (List.mem_of_getElem? hy))

theorem mem_mapIdx' {f : Nat → Tn → Tn} {ts : List Tn} {y : Tn} (h : y ∈ ts.mapIdx f) : ∃ i x, ts[i]? = some x ∧ y = f i x := by
  obtain ⟨i, hi⟩ := List.mem_iff_getElem?.1 h
  rw [List.getElem?_mapIdx] at hi
  cases hy : ts[i]? with
  | none => rw [hy] at hi; simp at hi
  | some x =>
    rw [hy] at hi
    exact ⟨i, x, hy, by simpa using hi.symm⟩

theorem opened_seen (ms : List Mf) : ∀ x ∈ ((newHs ms).frame []).ts, Seen x := by
  intro x hx
  unfold Hs.frame at hx
  rw [if_neg (by simp [newHs])] at hx
  refine delivers_all (fun i n L x h => h.get i n L) _ _ _ ?_ x hx
  intro y hy
  unfold Hs.turned at hy
  obtain ⟨i, z, hz, rfl⟩ := mem_mapIdx' hy
  have hzm := List.mem_of_getElem? hz
  unfold Hs.came at hzm
  obtain ⟨j, u, hu, rfl⟩ := mem_mapIdx' hzm
  have hum := List.mem_of_getElem? hu
  simp only [newHs, List.mem_map] at hum
  obtain ⟨m, _, rfl⟩ := hum
  exact Seen.first m _
end Go.Proofs.Ytidaflmmldefcaa
