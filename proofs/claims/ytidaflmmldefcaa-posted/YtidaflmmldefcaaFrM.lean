/-
  A frame of a host: plain mathematics.
-/
import Derived.Test.YtidaflmmldefcaaJHst
import Derived.Test.YtidaflmmldefcaaTenK
namespace Go.Proofs.Ytidaflmmldefcaa
open Go.RowKit
set_option linter.unusedVariables false

/-- The first k of a list are turned. -/
def upTo {α : Type} (f : Nat → α → α) (k : Nat) (l : List α) : List α := l.mapIdx fun i x => if i < k then f i x else x

section
variable {α : Type} (f : Nat → α → α)
theorem upTo_length (k : Nat) (l : List α) : (upTo f k l).length = l.length := by simp [upTo]
theorem upTo_zero (l : List α) : upTo f 0 l = l := by
  apply List.ext_getElem?
  intro i
  simp [upTo]
theorem upTo_get (k : Nat) (l : List α) : (upTo f k l)[k]? = l[k]? := by
  simp [upTo]
theorem upTo_all (l : List α) : upTo f l.length l = l.mapIdx f := by
  apply List.ext_getElem?
  intro i
  simp only [upTo, List.getElem?_mapIdx]
  cases h : l[i]? with
  | none => rfl
  | some x =>
    have := (List.getElem?_eq_some_iff.1 h).1
    simp [this]
theorem upTo_step {k : Nat} {l : List α} {x : α} (h : l[k]? = some x) : (upTo f k l).set k (f k x) = upTo f (k + 1) l := by
  have hk := (List.getElem?_eq_some_iff.1 h).1
  apply List.ext_getElem?
  intro i
  by_cases hi : i = k
  · subst hi
    rw [List.getElem?_set_self (by rw [upTo_length]; exact hk)]
    simp [upTo, h]
  · rw [List.getElem?_set_ne (fun e => hi e.symm)]
    simp only [upTo, List.getElem?_mapIdx]
    cases h2 : l[i]? with
    | none => rfl
    | some y =>
      by_cases hlt : i < k
      · simp [hlt, show i < k + 1 by omega]
      · simp [hlt, show ¬ i < k + 1 by omega]
theorem upTo_keep {k : Nat} {l : List α} {x : α} (h : l[k]? = some x) (he : f k x = x) : upTo f (k + 1) l = upTo f k l := by
  rw [← upTo_step f h, he]
  have h2 := upTo_get f k l
  rw [h] at h2
  have hk := (List.getElem?_eq_some_iff.1 h2).1
  apply List.ext_getElem?
  intro i
  by_cases hi : i = k
  · subst hi
    rw [List.getElem?_set_self hk, h2]
  · rw [List.getElem?_set_ne (fun e => hi e.symm)]
end

/-- A tenant in its turn, and what goes out. -/
def Tn.turn (x : Tn) (n route : Int) (ds : List Int) : Tn := if x.phase = 1 then x.handle n route ds else x
def Tn.gives (x : Tn) (n route : Int) (ds : List Int) : List (Int × Int) := if x.phase = 1 then x.sent n route ds else []
def drawsOf (dl : List (List Int)) (i : Nat) : List Int := dl.getD i []

/-- A letter: the sender, the topic, the value. -/
abbrev Lt := Int × Int × Int
def ltCells (l : List Lt) : List Value := l.flatMap fun x => [.int .i64 x.1, .int .u8 x.2.1, .int .u16 x.2.2]
def lettersOf (t : Nat) (l : List (Int × Int)) : List Lt := l.map fun s => ((t : Int), s.1, s.2)

theorem ltCells_snoc (l : List Lt) (x : Lt) : ltCells (l ++ [x]) = ltCells l ++ [.int .i64 x.1, .int .u8 x.2.1, .int .u16 x.2.2] := by simp [ltCells]
theorem ltCells_length : ∀ l : List Lt, (ltCells l).length = l.length * 3
  | [] => rfl
  | x :: r => by
    have e : ltCells (x :: r) = [.int .i64 x.1, .int .u8 x.2.1, .int .u16 x.2.2] ++ ltCells r := rfl
    rw [e, List.length_append, ltCells_length r]; simp; omega
theorem ltCells_at : ∀ (l : List Lt) (i : Nat) (x : Lt), l[i]? = some x → (ltCells l)[i * 3]? = some (.int .i64 x.1) ∧ (ltCells l)[i * 3 + 1]? = some (.int .u8 x.2.1) ∧ (ltCells l)[i * 3 + 2]? = some (.int .u16 x.2.2)
  | [], i, x, h => by simp at h
  | y :: r, 0, x, h => by simp at h; subst h; simp [ltCells]
  | y :: r, i + 1, x, h => by
    have := ltCells_at r i x (by simpa using h)
    simp only [ltCells, List.flatMap_cons] at *
    rw [show (i + 1) * 3 = i * 3 + 3 by omega]
    simpa using this

/-- The letters of the first k tenants. -/
def postTo (ts : List Tn) (n route : Int) (dl : List (List Int)) : Nat → List Lt
  | 0 => []
  | k + 1 => postTo ts n route dl k ++ (match ts[k]? with | some x => lettersOf k (x.gives n route (drawsOf dl k)) | none => [])

/-- A letter to all. -/
def Tn.get (i : Nat) (n : Int) (L : Lt) (x : Tn) : Tn := if (i : Int) = L.1 then x else x.receive n L.1 L.2.1 L.2.2
def deliver (n : Int) (ts : List Tn) (L : Lt) : List Tn := ts.mapIdx fun i x => x.get i n L

def Hs.came (H : Hs) : List Tn := H.ts.mapIdx fun _ x => x.come (H.frames + 1) H.route
def Hs.turned (H : Hs) (dl : List (List Int)) : List Tn := H.came.mapIdx fun i x => x.turn (H.frames + 1) H.route (drawsOf dl i)
def Hs.post (H : Hs) (dl : List (List Int)) : List Lt := postTo H.came (H.frames + 1) H.route dl H.ts.length
def Hs.posted (H : Hs) (dl : List (List Int)) (k : Nat) : List Tn := ((H.post dl).take k).foldl (deliver (H.frames + 1)) (H.turned dl)
/-- A frame. -/
def Hs.frame (H : Hs) (dl : List (List Int)) : Hs := if 200 ≤ H.frames then H else { H with frames := H.frames + 1, ts := (H.post dl).foldl (deliver (H.frames + 1)) (H.turned dl) }
def Hs.frameE (H : Hs) : Int := if 200 ≤ H.frames then 9 else 0

theorem posted_step (H : Hs) (dl : List (List Int)) {k : Nat} {L : Lt} (h : (H.post dl)[k]? = some L) : H.posted dl (k + 1) = deliver (H.frames + 1) (H.posted dl k) L := by
  unfold Hs.posted
  rw [List.take_add_one, h]
  simp
theorem deliver_length (n : Int) (ts : List Tn) (L : Lt) : (deliver n ts L).length = ts.length := by simp [deliver]
theorem posted_length (H : Hs) (dl : List (List Int)) (k : Nat) : (H.posted dl k).length = H.ts.length := by
  have hf : ∀ (l : List Lt) (ts : List Tn), (l.foldl (deliver (H.frames + 1)) ts).length = ts.length := by
    intro l
    induction l with
    | nil => intro ts; rfl
    | cons a r ih => intro ts; rw [List.foldl_cons, ih, deliver_length]
  unfold Hs.posted
  rw [hf]
  simp [Hs.turned, Hs.came]
theorem posted_all (H : Hs) (dl : List (List Int)) : H.posted dl (H.post dl).length = (H.post dl).foldl (deliver (H.frames + 1)) (H.turned dl) := by unfold Hs.posted; rw [List.take_length]
theorem posted_zero (H : Hs) (dl : List (List Int)) : H.posted dl 0 = H.turned dl := rfl

/-- A frame can be walked: all on its way is of its width, and not too long. -/
structure Fit (H : Hs) (dl : List (List Int)) : Prop where
  route : 0 ≤ H.route ∧ H.route ≤ 255
  frames : 0 ≤ H.frames ∧ H.frames ≤ 200
  len : H.ts.length ≤ 4
  start : ∀ x ∈ H.ts, x.box.length ≤ 100000 ∧ 0 ≤ x.routes ∧ x.routes ≤ 255
  came : ∀ x ∈ H.came, x.ok
  gives : ∀ x ∈ H.came, ∀ i, (x.gives (H.frames + 1) H.route (drawsOf dl i)).length ≤ 4
  post : ∀ L ∈ H.post dl, (0 ≤ L.1 ∧ L.1 ≤ 200) ∧ 0 ≤ L.2.1 ∧ L.2.1 ≤ 255
  posted : ∀ k, ∀ x ∈ H.posted dl k, x.box.length ≤ 100000 ∧ x.log.length ≤ 100000 ∧ 0 ≤ x.sub ∧ x.sub ≤ 255
end Go.Proofs.Ytidaflmmldefcaa
