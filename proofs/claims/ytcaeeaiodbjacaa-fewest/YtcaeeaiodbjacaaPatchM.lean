/-
  Patches: the document's own way, by a place.
-/
import Derived.Test.YtcaeeaiodbjacaaApplyW
namespace Go.Proofs.Ytcaeeaiodbjacaa
set_option linter.unusedVariables false
namespace T

theorem apart_at {l : List Nd} (h : l.Pairwise apart) {i j : Nat} {x y : Nd} (hi : l[i]? = some x) (hj : l[j]? = some y) (he : x.1 = y.1) : i = j := by
  obtain ⟨hi1, rfl⟩ := List.getElem?_eq_some_iff.1 hi
  obtain ⟨hj1, rfl⟩ := List.getElem?_eq_some_iff.1 hj
  rw [List.pairwise_iff_getElem] at h
  rcases Nat.lt_trichotomy i j with q | q | q
  · exact absurd he (h i j hi1 hj1 q).1
  · exact q
  · exact absurd he.symm (h j i hj1 hi1 q).1

theorem placeFrom_at : ∀ (l : List Nd) (j k : Nat) (y : Nd), l.Pairwise apart → l[j]? = some y → placeFrom l y.1 k = (k : Int) + j
  | [], j, k, y, _, hy => by simp at hy
  | x :: r, 0, k, y, _, hy => by
      simp at hy; subst hy
      unfold placeFrom
      rw [if_pos rfl]
      simp
  | x :: r, j + 1, k, y, h, hy => by
      rw [List.pairwise_cons] at h
      have hy' : r[j]? = some y := by simpa using hy
      unfold placeFrom
      rw [if_neg (h.1 y (List.mem_of_getElem? hy')).1, placeFrom_at r j (k + 1) y h.2 hy']
      omega

theorem place_at {l : List Nd} (h : l.Pairwise apart) {j : Nat} {y : Nd} (hy : l[j]? = some y) : place l y.1 = j := by
  unfold place
  rw [placeFrom_at l j 0 y h hy]
  simp

theorem has_at {l : List Nd} {id : Int} (h : has l id = true) : ∃ (j : Nat) (y : Nd), l[j]? = some y ∧ y.1 = id := by
  simp only [has, List.any_eq_true, decide_eq_true_eq] at h
  obtain ⟨y, hy, he⟩ := h
  obtain ⟨j, hj⟩ := List.mem_iff_getElem?.1 hy
  exact ⟨j, y, hj, he⟩

theorem has_of {l : List Nd} {j : Nat} {y : Nd} (h : l[j]? = some y) : has l y.1 = true := by
  simp only [has, List.any_eq_true, decide_eq_true_eq]
  exact ⟨y, List.mem_of_getElem? h, rfl⟩

theorem has_not {l : List Nd} {id : Int} (h : has l id = false) {j : Nat} {y : Nd} (hy : l[j]? = some y) : y.1 ≠ id := (has_false l id).1 h y (List.mem_of_getElem? hy)

/-- A second node with an Id: no tree. -/
theorem withO_twice {l : List Nd} {at_ id key : Int} {text : ByteArray} (h : has l id = true) : withO l at_ (id, key, text) = none := by
  obtain ⟨j, y, hy, he⟩ := has_at h
  unfold withO
  rw [if_neg]
  intro hok
  unfold withOk at hok
  simp only [Bool.and_eq_true] at hok
  have hp := ((isTree_iff _).1 hok.2).2.2
  unfold put at hp
  have hm : y ∈ l.take at_.toNat ∨ y ∈ l.drop at_.toNat := by
    have : y ∈ l.take at_.toNat ++ l.drop at_.toNat := by rw [List.take_append_drop]; exact List.mem_of_getElem? hy
    exact List.mem_append.1 this
  rw [List.pairwise_append] at hp
  obtain ⟨hp1, _, hp3⟩ := hp
  rcases hm with hm | hm
  · rw [List.pairwise_append] at hp1
    exact (hp1.2.2 y hm (id, key, text) (by simp)).1 he
  · exact (hp3 (id, key, text) (by simp) y hm).1 he.symm

/-- The document's node that is put in, its place, what comes of it: j: the place of the node with the Id; the number of nodes: there is none. -/
def rN (l : List Nd) (j : Nat) (kind id key : Int) (text : ByteArray) : Nd := if j < l.length then (id, (l.getD j (0, 0, ⟨#[]⟩)).2.1, if kind = 3 then (l.getD j (0, 0, ⟨#[]⟩)).2.2 else text) else (id, key, text)
def rAt (l : List Nd) (j : Nat) (kind at_ : Int) : Int := if j < l.length then (if kind = 3 then at_ else j) else at_
end T

def rO (l : List T.Nd) (j : Nat) (kind id at_ key : Int) (text : ByteArray) : Option (List T.Nd) :=
  if kind = 1 then some (upTo l j l.length) else T.withO (upTo l j l.length) (T.rAt l j kind at_) (T.rN l j kind id key text)

namespace T
theorem refPatch_ins {l : List Nd} {id at_ key : Int} {text : ByteArray} : patchO l 2 id at_ key text = rO l l.length 2 id at_ key text := by
  unfold patchO rO rAt rN
  rw [if_pos rfl, if_neg (by decide), if_neg (by omega), if_neg (by omega)]
  unfold upTo
  rw [if_neg (by omega), List.take_length]

theorem refPatch_old {l : List Nd} {kind at_ key : Int} {text : ByteArray} {j : Nat} {y : Nd} (h : l.Pairwise apart) (hy : l[j]? = some y) (hk : kind = 1 ∨ kind = 3 ∨ kind = 4) : patchO l kind y.1 at_ key text = rO l j kind y.1 at_ key text := by
  have hj := (List.getElem?_eq_some_iff.1 hy).1
  have hg : l.getD j (0, 0, ⟨#[]⟩) = y := by rw [List.getD, hy]; rfl
  unfold patchO rO rAt rN
  rw [if_neg (by omega), place_at h hy, if_neg (by omega), if_pos hj, if_pos hj, upTo_all hj, show ((j : Int)).toNat = j by omega, hg]
  rcases hk with rfl | rfl | rfl
  · rfl
  · rfl
  · rfl

theorem refPatch_bad {l : List Nd} {kind id at_ key : Int} {text : ByteArray} (h : kind < 1 ∨ 4 < kind ∨ (has l id = decide (kind = 2))) : patchO l kind id at_ key text = none := by
  unfold patchO
  by_cases h2 : kind = 2
  · rw [if_pos h2]
    rcases h with h | h | h
    · omega
    · omega
    · exact withO_twice (by rw [h]; simp [h2])
  · rw [if_neg h2]
    cases hh : has l id with
    | false => rw [if_pos (by rw [place_no hh]; omega)]
    | true =>
      rw [hh] at h
      have := place_yes hh
      rw [if_neg (by omega)]
      rcases h with h | h | h
      · rw [if_neg (by omega), if_neg (by omega), if_neg (by omega)]
      · rw [if_neg (by omega), if_neg (by omega), if_neg (by omega)]
      · simp [h2] at h

end T
end Go.Proofs.Ytcaeeaiodbjacaa
