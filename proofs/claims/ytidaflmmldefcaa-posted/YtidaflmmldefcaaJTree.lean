/-
  TreeM, TextA, TreeP, TextB, TextC, NodeC, IdFor, PlanW: joined.
-/
import Derived.Test.YtidaflmmldefcaaProg
import Derived.WalkKit
import Derived.WalkSpells
import Derived.WalkLawsBesides
import Derived.Deep.QuietTactic
import Derived.BigQuiet
import Derived.Test.YtidaflmmldefcaaJHeap
import Derived.Deep.RegionWith
import Derived.Laws.OwnMore

/-
  The plain mathematics of trees: texts in UTF-8, trees, their bytes, marks.
-/
namespace Go.Proofs.Ytidaflmmldefcaa.Tr
namespace T

/-- A node: its Id, its Key, its Text. -/
abbrev Nd := Int × Int × ByteArray

/-- The bytes of a text, as numbers. -/
def bts (s : ByteArray) : List Int := s.data.toList.map fun b => (b.toNat : Int)

theorem bts_length (s : ByteArray) : (bts s).length = s.size := by simp [bts]

/-- The number at a place. -/
def at0 (L : List Int) (i : Nat) : Int := L.getD i 0

theorem at0_bts (s : ByteArray) (i : Nat) (h : i < s.size) : at0 (bts s) i = ((s[i]).toNat : Int) := by
  have h2 : i < s.data.toList.length := by simpa using h
  simp only [at0, bts, List.getD, List.getElem?_map, List.getElem?_eq_getElem h2, Option.map_some, Option.getD_some]
  rfl

theorem at0_bts_range (s : ByteArray) (i : Nat) : 0 ≤ at0 (bts s) i ∧ at0 (bts s) i ≤ 255 := by
  by_cases h : i < s.size
  · rw [at0_bts s i h]
    have := (s[i]).toNat_lt
    omega
  · have : (bts s).length ≤ i := by rw [bts_length]; omega
    simp [at0, List.getD, List.getElem?_eq_none this]

theorem bts_range (s : ByteArray) : ∀ x ∈ bts s, 0 ≤ x ∧ x ≤ 255 := by
  intro x hx
  obtain ⟨b, _, rfl⟩ := List.mem_map.1 hx
  have := b.toNat_lt
  omega

theorem bts_inj {s t : ByteArray} (h : bts s = bts t) : s = t := by
  obtain ⟨⟨a⟩⟩ := s
  obtain ⟨⟨b⟩⟩ := t
  have h1 : a.map (fun b => ((b.toNat : Nat) : Int)) = b.map (fun b => ((b.toNat : Nat) : Int)) := h
  have h2 : a = b := by
    clear h
    induction a generalizing b with
    | nil => cases b with
      | nil => rfl
      | cons y b => simp at h1
    | cons x a ih => cases b with
      | nil => simp at h1
      | cons y b =>
        simp only [List.map_cons, List.cons.injEq] at h1
        rw [ih b h1.2, show x = y from UInt8.toNat_inj.1 (by omega)]
  rw [h2]

/-- How many bytes a character has by its first. -/
def lead (f : Int) : Nat := if f < 128 then 1 else if f < 194 then 0 else if f < 224 then 2 else if f < 240 then 3 else if f < 245 then 4 else 0

/-- May a character begin with these two? -/
def pair (f g : Int) : Bool :=
  if f = 224 then decide (160 ≤ g) else if f = 237 then decide (g < 160) else if f = 240 then decide (144 ≤ g) else if f = 244 then decide (g < 144) else true

/-- A byte that goes on. -/
def cont (x : Int) : Bool := decide (128 ≤ x ∧ x ≤ 191)

def conts (L : List Int) (p n : Nat) : Bool :=
  (decide (n ≤ 1) || cont (at0 L (p + 1))) && (decide (n ≤ 2) || cont (at0 L (p + 2))) && (decide (n ≤ 3) || cont (at0 L (p + 3)))

/-- How many bytes the character at p has; 0: none is there. -/
def size (L : List Int) (p : Nat) : Nat :=
  if L.length < p + lead (at0 L p) then 0
  else if conts L p (lead (at0 L p)) then (if lead (at0 L p) ≤ 1 then lead (at0 L p) else if pair (at0 L p) (at0 L (p + 1)) then lead (at0 L p) else 0)
  else 0

theorem lead_le (f : Int) : lead f ≤ 4 := by
  unfold lead
  repeat' split
  all_goals omega

theorem conts_of (L : List Int) (p n : Nat) (h : ∀ j, 1 ≤ j → j < n → cont (at0 L (p + j)) = true) : conts L p n = true := by
  unfold conts
  simp only [Bool.and_eq_true, Bool.or_eq_true, decide_eq_true_eq]
  refine ⟨⟨?_, ?_⟩, ?_⟩
  · by_cases h1 : n ≤ 1
    · exact Or.inl h1
    · exact Or.inr (h 1 (by omega) (by omega))
  · by_cases h1 : n ≤ 2
    · exact Or.inl h1
    · exact Or.inr (h 2 (by omega) (by omega))
  · by_cases h1 : n ≤ 3
    · exact Or.inl h1
    · exact Or.inr (h 3 (by omega) (by omega))

theorem conts_not (L : List Int) (p n j : Nat) (hn : n ≤ 4) (h1 : 1 ≤ j) (h2 : j < n) (h : cont (at0 L (p + j)) = false) : conts L p n = false := by
  rcases (show j = 1 ∨ j = 2 ∨ j = 3 by omega) with rfl | rfl | rfl
  · simp [conts, h, show ¬ n ≤ 1 by omega]
  · simp [conts, h, show ¬ n ≤ 2 by omega]
  · simp [conts, h, show ¬ n ≤ 3 by omega]

theorem size_cut (L : List Int) (p : Nat) (h : L.length < p + lead (at0 L p)) : size L p = 0 := by
  unfold size; rw [if_pos h]

theorem size_bad (L : List Int) (p j : Nat) (h1 : 1 ≤ j) (h2 : j < lead (at0 L p)) (h : cont (at0 L (p + j)) = false) : size L p = 0 := by
  unfold size
  rw [conts_not L p _ j (lead_le _) h1 h2 h]
  split <;> simp

theorem size_one (L : List Int) (p : Nat) (h0 : p + lead (at0 L p) ≤ L.length) (h : lead (at0 L p) ≤ 1) : size L p = lead (at0 L p) := by
  unfold size
  rw [if_neg (by omega), conts_of L p _ (by intro j h1 h2; omega), if_pos rfl, if_pos h]

theorem size_pair (L : List Int) (p : Nat) (h0 : p + lead (at0 L p) ≤ L.length) (h1 : 1 < lead (at0 L p)) (h : ∀ j, 1 ≤ j → j < lead (at0 L p) → cont (at0 L (p + j)) = true) :
    size L p = if pair (at0 L p) (at0 L (p + 1)) then lead (at0 L p) else 0 := by
  unfold size
  rw [if_neg (by omega), conts_of L p _ h, if_pos rfl, if_neg (by omega)]

theorem size_le (L : List Int) (p : Nat) : p + size L p ≤ L.length ∨ size L p = 0 := by
  unfold size
  by_cases h : L.length < p + lead (at0 L p)
  · rw [if_pos h]; exact Or.inr rfl
  · rw [if_neg h]
    by_cases h2 : conts L p (lead (at0 L p)) = true
    · rw [if_pos h2]
      by_cases h3 : lead (at0 L p) ≤ 1
      · rw [if_pos h3]; omega
      · rw [if_neg h3]
        by_cases h4 : pair (at0 L p) (at0 L (p + 1)) = true
        · rw [if_pos h4]; omega
        · rw [if_neg h4]; omega
    · rw [if_neg h2]; omega

theorem size_le4 (L : List Int) (p : Nat) : size L p ≤ 4 := by
  have := lead_le (at0 L p)
  unfold size
  repeat' split
  all_goals omega

/-- The text from p on: at most k characters, and no more. -/
def textFrom (L : List Int) : Nat → Nat → Bool
  | 0, p => decide (p = L.length)
  | k + 1, p => if p < L.length then (if size L p = 0 then false else textFrom L k (p + size L p)) else decide (p = L.length)

def isText (L : List Int) : Bool := textFrom L 6 0

theorem textFrom_end (L : List Int) (k p : Nat) (h : ¬ p < L.length) : textFrom L k p = decide (p = L.length) := by
  cases k with
  | zero => rfl
  | succ k => unfold textFrom; rw [if_neg h]

theorem textFrom_bad (L : List Int) (k p : Nat) (hk : 0 < k) (h : p < L.length) (hs : size L p = 0) : textFrom L k p = false := by
  cases k with
  | zero => omega
  | succ k => unfold textFrom; rw [if_pos h, if_pos hs]

theorem textFrom_next (L : List Int) (k p : Nat) (h : p < L.length) (hs : size L p ≠ 0) : textFrom L (k + 1) p = textFrom L k (p + size L p) := by
  conv => lhs; unfold textFrom
  rw [if_pos h, if_neg hs]

theorem textFrom_len (L : List Int) : ∀ (k p : Nat), textFrom L k p = true → p ≤ L.length ∧ L.length ≤ p + 4 * k
  | 0, p, h => by
      have : p = L.length := by simpa [textFrom] using h
      omega
  | k + 1, p, h => by
      by_cases hp : p < L.length
      · by_cases hs : size L p = 0
        · rw [textFrom_bad L _ p (by omega) hp hs] at h; cases h
        · rw [textFrom_next L k p hp hs] at h
          have := textFrom_len L k _ h
          have := size_le4 L p
          omega
      · rw [textFrom_end L _ p hp] at h
        have : p = L.length := by simpa using h
        omega

theorem isText_len {L : List Int} (h : isText L = true) : L.length ≤ 24 := by
  have := textFrom_len L 6 0 h
  omega

/-- A node that is right by itself. -/
def okNd (x : Nd) : Bool := decide (1 ≤ x.1 ∧ x.1 ≤ 16) && isText (bts x.2.2)

/-- Has one of these the Id or the Key of x? -/
def clash (l : List Nd) (x : Nd) : Bool := l.any fun y => decide (y.1 = x.1 ∨ y.2.1 = x.2.1)

def treeFrom (pre : List Nd) : List Nd → Bool
  | [] => true
  | x :: r => okNd x && !clash pre x && treeFrom (pre ++ [x]) r

def isTree (l : List Nd) : Bool := decide (l.length ≤ 16) && treeFrom [] l

/-- The bytes of a node. -/
def encN (x : Nd) : List Int := [x.1, x.2.1 / 256, x.2.1 % 256, (x.2.2.size : Int) % 256] ++ bts x.2.2

def bytesOf : List Nd → List Int
  | [] => []
  | x :: r => encN x ++ bytesOf r

/-- Numbers that a node can have in Go. -/
def inGo (x : Nd) : Prop := 0 ≤ x.1 ∧ x.1 ≤ 255 ∧ 0 ≤ x.2.1 ∧ x.2.1 ≤ 65535

theorem bytesOf_snoc (l : List Nd) (x : Nd) : bytesOf (l ++ [x]) = bytesOf l ++ encN x := by
  induction l with
  | nil => simp [bytesOf]
  | cons y r ih => simp [bytesOf, ih]

theorem encN_length (x : Nd) : (encN x).length = 4 + x.2.2.size := by simp [encN, bts_length]; omega

theorem encN_range (x : Nd) (h : inGo x) : ∀ y ∈ encN x, 0 ≤ y ∧ y ≤ 255 := by
  intro y hy
  obtain ⟨h0, h1, h2, h3⟩ := h
  simp only [encN, List.mem_append, List.mem_cons, List.not_mem_nil, or_false] at hy
  rcases hy with (rfl | rfl | rfl | rfl) | hy
  · omega
  · omega
  · omega
  · omega
  · exact bts_range _ y hy

theorem bytesOf_range (l : List Nd) (h : ∀ x ∈ l, inGo x) : ∀ y ∈ bytesOf l, 0 ≤ y ∧ y ≤ 255 := by
  induction l with
  | nil => intro y hy; simp [bytesOf] at hy
  | cons x r ih =>
    intro y hy
    simp only [bytesOf, List.mem_append] at hy
    rcases hy with hy | hy
    · exact encN_range x (h x (by simp)) y hy
    · exact ih (fun z hz => h z (by simp [hz])) y hy

/-- The same bytes, the same nodes. -/
theorem bytesOf_inj : ∀ (a b : List Nd), (∀ x ∈ a, inGo x ∧ x.2.2.size ≤ 255) → (∀ x ∈ b, inGo x ∧ x.2.2.size ≤ 255) → bytesOf a = bytesOf b → a = b
  | [], [], _, _, _ => rfl
  | [], y :: b, _, _, h => by simp [bytesOf, encN] at h
  | x :: a, [], _, _, h => by simp [bytesOf, encN] at h
  | x :: a, y :: b, ha, hb, h => by
      obtain ⟨x1, x2, x3⟩ := x
      obtain ⟨y1, y2, y3⟩ := y
      obtain ⟨⟨_, _, p2, p3⟩, p4⟩ := ha (x1, x2, x3) (by simp)
      obtain ⟨⟨_, _, q2, q3⟩, q4⟩ := hb (y1, y2, y3) (by simp)
      simp only at p2 p3 p4 q2 q3 q4
      simp only [bytesOf, encN, List.cons_append, List.nil_append, List.cons.injEq] at h
      obtain ⟨e1, e2, e3, e4, e5⟩ := h
      have hs : x3.size = y3.size := by omega
      have hl : (bts x3).length = (bts y3).length := by rw [bts_length, bts_length, hs]
      obtain ⟨e6, e7⟩ := List.append_inj e5 hl
      have hk : x2 = y2 := by omega
      rw [bytesOf_inj a b (fun z hz => ha z (by simp [hz])) (fun z hz => hb z (by simp [hz])) e7, bts_inj e6, e1, hk]

theorem treeFrom_snoc (pre : List Nd) (l : List Nd) : ∀ x ∈ l, treeFrom pre l = true → okNd x = true := by
  induction l generalizing pre with
  | nil => intro x hx; simp at hx
  | cons y r ih =>
    intro x hx h
    simp only [treeFrom, Bool.and_eq_true] at h
    rcases List.mem_cons.1 hx with rfl | hx
    · exact h.1.1
    · exact ih _ x hx h.2

theorem isTree_ok {l : List Nd} (h : isTree l = true) : ∀ x ∈ l, okNd x = true := by
  simp only [isTree, Bool.and_eq_true] at h
  exact fun x hx => treeFrom_snoc [] l x hx h.2

theorem okNd_size {x : Nd} (h : okNd x = true) : x.2.2.size ≤ 24 := by
  simp only [okNd, Bool.and_eq_true] at h
  have := isText_len h.2
  rwa [bts_length] at this

end T
end Go.Proofs.Ytidaflmmldefcaa.Tr

/-
  The walks of sizeBy, goTogether and charSize.
-/
namespace Go.Proofs.Ytidaflmmldefcaa.Tr
open Go.RowKit
set_option linter.unusedVariables false

set_option maxHeartbeats 400000 in
theorem lead_any (f : Int) (w : World) :
    Calls Try.prog 78 #[.int .u8 f] w fun e w' => e = .returned (.int .i64 (T.lead f)) ∧ w = w' := by
  by_cases h1 : f < 128
  · have e : T.lead f = 1 := by unfold T.lead; rw [if_pos h1]
    rw [e]
    go_enter Try.func78, Try.ntmps78
    go_wp2
    go_ret
    exact ⟨rfl, rfl⟩
  by_cases h2 : f < 194
  · have e : T.lead f = 0 := by unfold T.lead; rw [if_neg h1, if_pos h2]
    rw [e]
    go_enter Try.func78, Try.ntmps78
    go_wp2
    go_ret
    exact ⟨rfl, rfl⟩
  by_cases h3 : f < 224
  · have e : T.lead f = 2 := by unfold T.lead; rw [if_neg h1, if_neg h2, if_pos h3]
    rw [e]
    go_enter Try.func78, Try.ntmps78
    go_wp2
    go_ret
    exact ⟨rfl, rfl⟩
  by_cases h4 : f < 240
  · have e : T.lead f = 3 := by unfold T.lead; rw [if_neg h1, if_neg h2, if_neg h3, if_pos h4]
    rw [e]
    go_enter Try.func78, Try.ntmps78
    go_wp2
    go_ret
    exact ⟨rfl, rfl⟩
  by_cases h5 : f < 245
  · have e : T.lead f = 4 := by unfold T.lead; rw [if_neg h1, if_neg h2, if_neg h3, if_neg h4, if_pos h5]
    rw [e]
    go_enter Try.func78, Try.ntmps78
    go_wp2
    go_ret
    exact ⟨rfl, rfl⟩
  · have e : T.lead f = 0 := by unfold T.lead; rw [if_neg h1, if_neg h2, if_neg h3, if_neg h4, if_neg h5]
    rw [e]
    go_enter Try.func78, Try.ntmps78
    go_wp2
    go_ret
    exact ⟨rfl, rfl⟩

set_option maxHeartbeats 400000 in
theorem pair_any (f g : Int) (w : World) :
    Calls Try.prog 79 #[.int .u8 f, .int .u8 g] w fun e w' => e = .returned (.bool (T.pair f g)) ∧ w = w' := by
  by_cases h1 : f = 224
  · subst h1
    have e : T.pair 224 g = decide (160 ≤ g) := by unfold T.pair; rw [if_pos rfl]
    rw [e]
    go_enter Try.func79, Try.ntmps79
    go_wp2
    go_ret
    exact ⟨rfl, rfl⟩
  by_cases h2 : f = 237
  · subst h2
    have e : T.pair 237 g = decide (g < 160) := by unfold T.pair; rw [if_neg (by omega), if_pos rfl]
    rw [e]
    go_enter Try.func79, Try.ntmps79
    go_wp2
    go_ret
    exact ⟨rfl, rfl⟩
  by_cases h3 : f = 240
  · subst h3
    have e : T.pair 240 g = decide (144 ≤ g) := by unfold T.pair; rw [if_neg (by omega), if_neg (by omega), if_pos rfl]
    rw [e]
    go_enter Try.func79, Try.ntmps79
    go_wp2
    go_ret
    exact ⟨rfl, rfl⟩
  by_cases h4 : f = 244
  · subst h4
    have e : T.pair 244 g = decide (g < 144) := by unfold T.pair; rw [if_neg (by omega), if_neg (by omega), if_neg (by omega), if_pos rfl]
    rw [e]
    go_enter Try.func79, Try.ntmps79
    go_wp2
    go_ret
    exact ⟨rfl, rfl⟩
  have e : T.pair f g = true := by unfold T.pair; rw [if_neg h1, if_neg h2, if_neg h3, if_neg h4]
  rw [e]
  have b1 : (f == 224) = false := by simpa using h1
  have b2 : (f == 237) = false := by simpa using h2
  have b3 : (f == 240) = false := by simpa using h3
  have b4 : (f == 244) = false := by simpa using h4
  clear e h1 h2 h3 h4
  go_enter Try.func79, Try.ntmps79
  go_wp2
  go_ret
  exact ⟨rfl, rfl⟩

set_option maxHeartbeats 1000000 in
theorem char_any (s : ByteArray) (p : Nat) (w : World) (hs : s.size ≤ maxLen) (hp : p < s.size) :
    Calls Try.prog 77 #[.string s, .int .i64 p] w fun e w' => e = .returned (.int .i64 (T.size (T.bts s) p)) ∧ Below w.heap.size w w' := by
  unfold maxLen at hs
  have HL : Hid ((T.bts s).length = s.size) := T.bts_length s
  have e0 := T.at0_bts s p hp
  obtain ⟨f, hf⟩ : ∃ f : Int, f = ((s[p]).toNat : Int) := ⟨_, rfl⟩
  rw [← hf] at e0
  have He : Hid (T.at0 (T.bts s) p = f) := e0
  have hl4 := T.lead_le f
  obtain ⟨n, hn⟩ : ∃ n : Nat, n = T.lead f := ⟨_, rfl⟩
  have Hn : Hid (T.lead f = n) := hn.symm
  have hcall : ∀ u : World, Calls Try.prog 78 #[.int .u8 ((s[p]).toNat : Int)] u fun e w' => e = .returned (.int .i64 n) ∧ u = w' := by
    intro u; rw [hn, ← hf]; exact lead_any f u
  have HC : Hid (∀ u : World, Calls Try.prog 78 #[.int .u8 ((s[p]).toNat : Int)] u fun e w' => e = .returned (.int .i64 n) ∧ u = w') := hcall
  rw [← hn] at hl4
  have HF : Hid (f = ((s[p]).toNat : Int)) := hf
  clear hn e0 hcall hf
  by_cases hcut : s.size < p + n
  · have HS : Hid (T.size (T.bts s) p = 0) := T.size_cut _ _ (by rw [He.out, Hn.out, HL.out]; exact hcut)
    have hc : (s.size : Int) - p < (n : Int) := by omega
    go_enter Try.func77, Try.ntmps77
    go_wp2_with (go_at_call 78; refine (HC.out _).mono ?_; rintro e w' ⟨rfl, rfl⟩)
    go_ret
    rw [HS.out]
    exact ⟨rfl, by (repeat (first | exact Below.refl _ _ | assumption | refine Below.setCell ?_ (by first | exact Nat.le_refl _ | (simp; done) | (simp; omega)) _ | refine below_drewN ?_ _ | refine Below.drew ?_ | refine Below.alloc ?_ (by first | exact Nat.le_refl _ | (simp; done) | (simp; omega)) _))⟩
  · have hc : ¬ (s.size : Int) - p < (n : Int) := by omega
    go_enter Try.func77, Try.ntmps77
    go_wp2_with (go_at_call 78; refine (HC.out _).mono ?_; rintro e w' ⟨rfl, rfl⟩)
    go_loopw [6] (fun i wr => ∃ (k q : Nat), 1 ≤ k ∧ (k ≤ n ∨ k = 1) ∧ i = .int .i64 k ∧ wr = w.drewN q ∧ Hid (∀ j, 1 ≤ j → j < k → T.cont (T.at0 (T.bts s) (p + j)) = true))
      (fun i _ => 5 - (intOf i).toNat)
    case atStart => exact ⟨1, 0, by omega, by omega, rfl, rfl, fun j h1 h2 => by omega⟩
    case round =>
      obtain ⟨k, q, hk1, hk, rfl, rfl, HK⟩ := hrel
      by_cases hlt : k < n
      · have hpk : p + k < s.size := by omega
        have e1 := T.at0_bts s (p + k) hpk
        have hi1 : (p : Int) + k < (s.size : Int) := by omega
        have hi0 : (0 : Int) ≤ (p : Int) + k := by omega
        obtain ⟨g, hg⟩ : ∃ g : Nat, g = (s[p + k]).toNat := ⟨_, rfl⟩
        rw [← hg] at e1
        by_cases hlo : (g : Int) < 128
        · have HS : Hid (T.size (T.bts s) p = 0) := T.size_bad _ _ k hk1 (by rw [He.out, Hn.out]; exact hlt) (by rw [e1]; simp [T.cont]; omega)
          clear e1
          subst hg
          go_wp2
          go_ret
          rw [HS.out]
          exact ⟨rfl, by (repeat (first | exact Below.refl _ _ | assumption | refine Below.setCell ?_ (by first | exact Nat.le_refl _ | (simp; done) | (simp; omega)) _ | refine below_drewN ?_ _ | refine Below.drew ?_ | refine Below.alloc ?_ (by first | exact Nat.le_refl _ | (simp; done) | (simp; omega)) _))⟩
        · by_cases hhi : 191 < (g : Int)
          · have HS : Hid (T.size (T.bts s) p = 0) := T.size_bad _ _ k hk1 (by rw [He.out, Hn.out]; exact hlt) (by rw [e1]; simp [T.cont]; omega)
            clear e1
            subst hg
            go_wp2
            go_ret
            rw [HS.out]
            exact ⟨rfl, by (repeat (first | exact Below.refl _ _ | assumption | refine Below.setCell ?_ (by first | exact Nat.le_refl _ | (simp; done) | (simp; omega)) _ | refine below_drewN ?_ _ | refine Below.drew ?_ | refine Below.alloc ?_ (by first | exact Nat.le_refl _ | (simp; done) | (simp; omega)) _))⟩
          · have HK' : Hid (∀ j, 1 ≤ j → j < k + 1 → T.cont (T.at0 (T.bts s) (p + j)) = true) := by
              intro j h1 h2
              by_cases hj : j = k
              · subst hj; rw [e1]; simp [T.cont]; omega
              · exact HK.out j h1 (by omega)
            clear e1 HK
            subst hg
            go_wp2
            go_roundw
            case rel => exact ⟨k + 1, _, by omega, by omega, by go_num, by first | rfl | simp, HK'⟩
            case measure => simp [intOf]; omega
      · by_cases h1 : n ≤ 1
        · have HS : Hid (T.size (T.bts s) p = n) := by
            have := T.size_one (T.bts s) p (by rw [He.out, Hn.out, HL.out]; omega) (by rw [He.out, Hn.out]; exact h1)
            rwa [He.out, Hn.out] at this
          have cb : decide ((1 : Int) < (n : Int)) = false := by simp; omega
          go_wp2_with fail
          go_quiet (fail)
          go_wp2
          go_ret
          rw [HS.out]
          exact ⟨rfl, by (repeat (first | exact Below.refl _ _ | assumption | refine Below.setCell ?_ (by first | exact Nat.le_refl _ | (simp; done) | (simp; omega)) _ | refine below_drewN ?_ _ | refine Below.drew ?_ | refine Below.alloc ?_ (by first | exact Nat.le_refl _ | (simp; done) | (simp; omega)) _))⟩
        · have hp1 : p + 1 < s.size := by omega
          have hi1 : (p : Int) + 1 < (s.size : Int) := by omega
          have e1 := T.at0_bts s (p + 1) hp1
          have HS0 : Hid (T.size (T.bts s) p = if T.pair f (T.at0 (T.bts s) (p + 1)) then n else 0) := by
            have := T.size_pair (T.bts s) p (by rw [He.out, Hn.out, HL.out]; omega) (by rw [He.out, Hn.out]; omega) (by rw [He.out, Hn.out]; intro j j1 j2; exact HK.out j j1 (by omega))
            rwa [He.out, Hn.out] at this
          rw [e1] at HS0
          have hc1 : (1 : Int) < (n : Int) := by omega
          have hw1 : IntKind.i64.wrap ((p : Int) + 1) = (p : Int) + 1 := by rw [IntKind.wrap_i64]; omega
          have h01 : (0 : Int) ≤ (p : Int) + 1 := by omega
          rw [HF.out] at HS0
          clear e1
          cases hpr : T.pair ((s[p]).toNat : Int) ((s[p + 1]).toNat : Int) with
          | true =>
            have HS : Hid (T.size (T.bts s) p = n) := by have := HS0.out; rwa [hpr, if_pos rfl] at this
            clear HS0
            go_wp2_with fail
            go_quiet ((go_at_call 79; exact (pair_any _ _ _).mono fun _ _ h => ⟨h.1, _, h.2.symm⟩))
            go_wp2
            go_ret
            rw [HS.out]
            exact ⟨rfl, by (repeat (first | exact Below.refl _ _ | assumption | refine Below.setCell ?_ (by first | exact Nat.le_refl _ | (simp; done) | (simp; omega)) _ | refine below_drewN ?_ _ | refine Below.drew ?_ | refine Below.alloc ?_ (by first | exact Nat.le_refl _ | (simp; done) | (simp; omega)) _))⟩
          | false =>
            have HS : Hid (T.size (T.bts s) p = 0) := by have := HS0.out; rw [hpr] at this; exact this
            clear HS0
            go_wp2_with fail
            go_quiet ((go_at_call 79; exact (pair_any _ _ _).mono fun _ _ h => ⟨h.1, _, h.2.symm⟩))
            go_wp2
            go_ret
            rw [HS.out]
            exact ⟨rfl, by (repeat (first | exact Below.refl _ _ | assumption | refine Below.setCell ?_ (by first | exact Nat.le_refl _ | (simp; done) | (simp; omega)) _ | refine below_drewN ?_ _ | refine Below.drew ?_ | refine Below.alloc ?_ (by first | exact Nat.le_refl _ | (simp; done) | (simp; omega)) _))⟩

end Go.Proofs.Ytidaflmmldefcaa.Tr

/-
  Plans: which Id a show gets, and what of it lasts.
-/
namespace Go.Proofs.Ytidaflmmldefcaa.Tr
namespace T

/-- A show: its Key and its Text. -/
abbrev Sh := Int × ByteArray

def apart (x y : Nd) : Prop := x.1 ≠ y.1 ∧ x.2.1 ≠ y.2.1

theorem clash_iff (l : List Nd) (x : Nd) : clash l x = false ↔ ∀ y ∈ l, apart y x := by
  simp only [clash, List.any_eq_false, decide_eq_true_eq, apart]
  constructor
  · intro h y hy; have := h y hy; omega
  · intro h y hy; have := h y hy; omega

theorem treeFrom_iff (pre l : List Nd) : treeFrom pre l = true ↔ (∀ x ∈ l, okNd x = true) ∧ (∀ x ∈ l, ∀ y ∈ pre, apart y x) ∧ l.Pairwise apart := by
  induction l generalizing pre with
  | nil => simp [treeFrom]
  | cons a r ih =>
    simp only [treeFrom, Bool.and_eq_true, Bool.not_eq_true', clash_iff, ih, List.mem_cons, List.mem_append, List.not_mem_nil, or_false, List.pairwise_cons]
    constructor
    · rintro ⟨⟨h1, h2⟩, h3, h4, h5⟩
      refine ⟨?_, ?_, ?_, h5⟩
      · rintro x (rfl | hx)
        · exact h1
        · exact h3 x hx
      · rintro x (rfl | hx) y hy
        · exact h2 y hy
        · exact h4 x hx y (Or.inl hy)
      · intro x hx; exact h4 x hx a (Or.inr rfl)
    · rintro ⟨h1, h2, h3, h4⟩
      refine ⟨⟨h1 a (Or.inl rfl), h2 a (Or.inl rfl)⟩, fun x hx => h1 x (Or.inr hx), ?_, h4⟩
      rintro x hx y (hy | rfl)
      · exact h2 x (Or.inr hx) y hy
      · exact h3 x hx

theorem isTree_iff (l : List Nd) : isTree l = true ↔ l.length ≤ 16 ∧ (∀ x ∈ l, okNd x = true) ∧ l.Pairwise apart := by
  simp only [isTree, Bool.and_eq_true, decide_eq_true_eq, treeFrom_iff, List.not_mem_nil]
  constructor
  · rintro ⟨h1, h2, _, h3⟩; exact ⟨h1, h2, h3⟩
  · rintro ⟨h1, h2, h3⟩; exact ⟨h1, h2, by intro x _ y hy; exact absurd hy (by simp), h3⟩

theorem apart_mem {l : List Nd} (h : l.Pairwise apart) {x y : Nd} (hx : x ∈ l) (hy : y ∈ l) (he : x.1 = y.1 ∨ x.2.1 = y.2.1) : x = y := by
  induction l with
  | nil => simp at hx
  | cons a r ih =>
    rw [List.pairwise_cons] at h
    rcases List.mem_cons.1 hx with rfl | hx'
    · rcases List.mem_cons.1 hy with rfl | hy'
      · rfl
      · have h1 := h.1 y hy'
        unfold apart at h1
        omega
    · rcases List.mem_cons.1 hy with rfl | hy'
      · have h1 := h.1 x hx'
        unfold apart at h1
        omega
      · exact ih h.2 hx' hy'

/-- Has one of these this Id? -/
def has (l : List Nd) (i : Int) : Bool := l.any fun y => decide (y.1 = i)

theorem has_false (l : List Nd) (i : Int) : has l i = false ↔ ∀ y ∈ l, y.1 ≠ i := by
  simp only [has, List.any_eq_false, decide_eq_true_eq]

/-- The least of f numbers from i on that none of these has; 0: there is none. -/
def leastFrom (old next : List Nd) : Nat → Int → Int
  | 0, _ => 0
  | f + 1, i => if has old i = false ∧ has next i = false then i else leastFrom old next f (i + 1)

def idFor (key : Int) (old next : List Nd) : Int :=
  match old.find? (fun x => decide (x.2.1 = key)) with
  | some x => x.1
  | none => leastFrom old next 16 1

def mkN (old next : List Nd) (s : Sh) : Nd := (idFor s.1 old next, s.1, s.2)

def planFrom (old next : List Nd) : List Sh → List Nd
  | [] => next
  | s :: r => planFrom old (next ++ [mkN old next s]) r

def plan (old : List Nd) (shows : List Sh) : List Nd := planFrom old [] shows

theorem leastFrom_spec (old next : List Nd) : ∀ (f : Nat) (i : Int),
    (leastFrom old next f i = 0 ∧ ∀ j, i ≤ j → j < i + f → has old j = true ∨ has next j = true) ∨ (i ≤ leastFrom old next f i ∧ leastFrom old next f i < i + f ∧ has old (leastFrom old next f i) = false ∧ has next (leastFrom old next f i) = false)
  | 0, i => Or.inl ⟨rfl, by intro j h1 h2; omega⟩
  | f + 1, i => by
      unfold leastFrom
      by_cases h : has old i = false ∧ has next i = false
      · rw [if_pos h]; exact Or.inr ⟨by omega, by omega, h.1, h.2⟩
      · rw [if_neg h]
        rcases leastFrom_spec old next f (i + 1) with ⟨h1, h2⟩ | ⟨h1, h2, h3⟩
        · refine Or.inl ⟨h1, ?_⟩
          intro j j1 j2
          by_cases hj : j = i
          · subst hj
            cases ha : has old j with
            | true => exact Or.inl rfl
            | false =>
              cases hb : has next j with
              | true => exact Or.inr rfl
              | false => exact absurd ⟨ha, hb⟩ h
          · exact h2 j (by omega) (by omega)
        · exact Or.inr ⟨by omega, by omega, h3⟩

theorem pigeon : ∀ (n : Nat) (L : List Int), (∀ j : Int, 1 ≤ j → j < 1 + n → j ∈ L) → n ≤ L.length
  | 0, L, _ => Nat.zero_le _
  | n + 1, L, h => by
      have hm : ((n : Int) + 1) ∈ L := h _ (by omega) (by omega)
      have := pigeon n (L.erase ((n : Int) + 1)) (by
        intro j j1 j2
        exact (List.mem_erase_of_ne (by omega)).2 (h j j1 (by omega)))
      rw [List.length_erase_of_mem hm] at this
      have := List.length_pos_of_mem hm
      omega

theorem leastFrom_free (old next : List Nd) (hl : old.length + next.length < 16) :
    1 ≤ leastFrom old next 16 1 ∧ leastFrom old next 16 1 ≤ 16 ∧ has old (leastFrom old next 16 1) = false ∧ has next (leastFrom old next 16 1) = false := by
  rcases leastFrom_spec old next 16 1 with ⟨_, h⟩ | ⟨h1, h2, h3, h4⟩
  · exfalso
    have := pigeon 16 ((old ++ next).map (fun x => x.1)) (by
      intro j j1 j2
      have hj := h j j1 j2
      simp only [has, List.any_eq_true, decide_eq_true_eq] at hj
      rw [List.mem_map]
      rcases hj with ⟨x, hx, he⟩ | ⟨x, hx, he⟩
      · exact ⟨x, by simp [hx], he⟩
      · exact ⟨x, by simp [hx], he⟩)
    simp at this
    omega
  · exact ⟨h1, by omega, h3, h4⟩

/-- What stands of a plan that is on its way. -/
structure Way (old next : List Nd) : Prop where
  far : next.Pairwise apart
  right : ∀ x ∈ next, okNd x = true
  same : ∀ y ∈ next, ∀ o ∈ old, o.1 = y.1 ↔ o.2.1 = y.2.1

theorem Way.nil (old : List Nd) : Way old [] := ⟨List.Pairwise.nil, by simp, by simp⟩

theorem Way.step {old next : List Nd} (h : Way old next) (ho : old.Pairwise apart) (hk : ∀ x ∈ old, okNd x = true) (s : Sh) (ht : isText (bts s.2) = true) (hn : ∀ x ∈ next, x.2.1 ≠ s.1) (hl : old.length + next.length < 16) :
    Way old (next ++ [mkN old next s]) := by
  have key : (1 ≤ (mkN old next s).1 ∧ (mkN old next s).1 ≤ 16) ∧ (∀ z ∈ next, z.1 ≠ (mkN old next s).1) ∧ (∀ o ∈ old, o.1 = (mkN old next s).1 ↔ o.2.1 = s.1) := by
    cases hf : old.find? (fun x => decide (x.2.1 = s.1)) with
    | some o =>
      have e : (mkN old next s).1 = o.1 := by simp [mkN, idFor, hf]
      have hm : o ∈ old := List.mem_of_find?_eq_some hf
      have hs : o.2.1 = s.1 := by simpa using List.find?_some hf
      rw [e]
      refine ⟨?_, ?_, ?_⟩
      · have := hk o hm
        simp only [okNd, Bool.and_eq_true, decide_eq_true_eq] at this
        exact this.1
      · intro z hz he
        exact hn z hz (((h.same z hz o hm).1 he.symm) ▸ hs)
      · intro o' ho'
        constructor
        · intro he; rw [apart_mem ho ho' hm (Or.inl he)]; exact hs
        · intro he; rw [apart_mem ho ho' hm (Or.inr (by omega))]
    | none =>
      have e : (mkN old next s).1 = leastFrom old next 16 1 := by simp [mkN, idFor, hf]
      obtain ⟨h1, h2, h3, h4⟩ := leastFrom_free old next hl
      rw [e]
      rw [has_false] at h3 h4
      refine ⟨⟨h1, h2⟩, h4, ?_⟩
      intro o ho'
      have hno : o.2.1 ≠ s.1 := by
        have := List.find?_eq_none.1 hf o ho'
        simpa using this
      constructor
      · intro he; exact absurd he (h3 o ho')
      · intro he; exact absurd he hno
  obtain ⟨k1, k2, k3⟩ := key
  refine ⟨?_, ?_, ?_⟩
  · rw [List.pairwise_append]
    refine ⟨h.far, by simp, ?_⟩
    intro z hz y hy
    rw [List.mem_singleton] at hy
    subst hy
    exact ⟨k2 z hz, hn z hz⟩
  · intro x hx
    rcases List.mem_append.1 hx with hx | hx
    · exact h.right x hx
    · rw [List.mem_singleton] at hx
      subst hx
      simp only [okNd, Bool.and_eq_true, decide_eq_true_eq]
      exact ⟨k1, ht⟩
  · intro y hy o ho'
    rcases List.mem_append.1 hy with hy | hy
    · exact h.same y hy o ho'
    · rw [List.mem_singleton] at hy
      subst hy
      exact k3 o ho'

/-- Shows of which a plan can be made. -/
def okSh (l : List Sh) : Prop := l.length ≤ 8 ∧ (∀ s ∈ l, isText (bts s.2) = true) ∧ l.Pairwise (fun x y => x.1 ≠ y.1)

theorem planFrom_map (old : List Nd) : ∀ (l : List Sh) (next : List Nd), (planFrom old next l).map (fun x => ((x.2.1, x.2.2) : Sh)) = next.map (fun x => ((x.2.1, x.2.2) : Sh)) ++ l
  | [], next => by simp [planFrom]
  | s :: r, next => by
      unfold planFrom
      rw [planFrom_map old r]
      simp [mkN]

theorem planFrom_length (old : List Nd) (l : List Sh) (next : List Nd) : (planFrom old next l).length = next.length + l.length := by
  have := congrArg List.length (planFrom_map old l next)
  simpa using this

theorem planFrom_way {old : List Nd} (ho : old.Pairwise apart) (hk : ∀ x ∈ old, okNd x = true) (hl : old.length ≤ 8) : ∀ (l : List Sh) (next : List Nd), Way old next → next.length + l.length ≤ 8 →
    (∀ s ∈ l, isText (bts s.2) = true) → l.Pairwise (fun x y => x.1 ≠ y.1) → (∀ x ∈ next, ∀ s ∈ l, x.2.1 ≠ s.1) → Way old (planFrom old next l)
  | [], next, h, _, _, _, _ => h
  | s :: r, next, h, h8, ht, hp, hn => by
      rw [List.pairwise_cons] at hp
      simp only [List.length_cons] at h8
      unfold planFrom
      refine planFrom_way ho hk hl r _ (h.step ho hk s (ht s (by simp)) (fun x hx => hn x hx s (by simp)) (by omega)) (by simp; omega) (fun z hz => ht z (by simp [hz])) hp.2 ?_
      intro x hx z hz
      rcases List.mem_append.1 hx with hx | hx
      · exact hn x hx z (by simp [hz])
      · rw [List.mem_singleton] at hx
        subst hx
        exact hp.1 z hz

theorem plan_way {old : List Nd} {l : List Sh} (ho : isTree old = true) (hl : old.length ≤ 8) (h : okSh l) : Way old (plan old l) := by
  rw [isTree_iff] at ho
  exact planFrom_way ho.2.2 ho.2.1 hl l [] (Way.nil old) (by simpa using h.1) h.2.1 h.2.2 (by simp)

theorem plan_length (old : List Nd) (l : List Sh) : (plan old l).length = l.length := by
  have := planFrom_length old l []
  simpa [plan] using this

theorem plan_map (old : List Nd) (l : List Sh) : (plan old l).map (fun x => ((x.2.1, x.2.2) : Sh)) = l := by
  have := planFrom_map old l []
  simpa [plan] using this

theorem plan_tree {old : List Nd} {l : List Sh} (ho : isTree old = true) (hl : old.length ≤ 8) (h : okSh l) : isTree (plan old l) = true := by
  have hw := plan_way ho hl h
  rw [isTree_iff]
  have := plan_length old l
  exact ⟨by have := h.1; omega, hw.right, hw.far⟩

theorem find_mem {N : List Nd} (h : N.Pairwise apart) {x : Nd} (hx : x ∈ N) : N.find? (fun y => decide (y.2.1 = x.2.1)) = some x := by
  cases hf : N.find? (fun y => decide (y.2.1 = x.2.1)) with
  | none =>
    have := List.find?_eq_none.1 hf x hx
    simp at this
  | some y =>
    have hm : y ∈ N := List.mem_of_find?_eq_some hf
    have hs : y.2.1 = x.2.1 := by simpa using List.find?_some hf
    rw [apart_mem h hm hx (Or.inr hs)]

theorem planFrom_again {N : List Nd} (h : N.Pairwise apart) : ∀ (t acc : List Nd), (∀ x ∈ t, x ∈ N) → planFrom N acc (t.map (fun x => ((x.2.1, x.2.2) : Sh))) = acc ++ t
  | [], acc, _ => by simp [planFrom]
  | x :: t, acc, hm => by
      have e : mkN N acc (x.2.1, x.2.2) = x := by
        unfold mkN idFor
        rw [find_mem h (hm x (by simp))]
      rw [List.map_cons]
      unfold planFrom
      rw [e, planFrom_again h t (acc ++ [x]) (fun y hy => hm y (by simp [hy]))]
      simp

/-- Shown once more, all is as it was. -/
theorem plan_again {old : List Nd} {l : List Sh} (ho : isTree old = true) (hl : old.length ≤ 8) (h : okSh l) : plan (plan old l) l = plan old l := by
  have hw := plan_way ho hl h
  have := planFrom_again hw.far (plan old l) [] (fun x hx => hx)
  rw [plan_map] at this
  simpa [plan] using this

end T
end Go.Proofs.Ytidaflmmldefcaa.Tr

/-
  The walks of isText, clashes and isTree.
-/
namespace Go.Proofs.Ytidaflmmldefcaa.Tr
open Go.RowKit
set_option linter.unusedVariables false

set_option maxHeartbeats 1000000 in
theorem text_any (s : ByteArray) (w : World) (hs : s.size ≤ maxLen) :
    Calls Try.prog 73 #[.string s] w fun e w' => e = .returned (.bool (T.isText (T.bts s))) ∧ Below w.heap.size w w' := by
  have Hs : Hid (s.size ≤ maxLen) := hs
  unfold maxLen at hs
  have HL : Hid ((T.bts s).length = s.size) := T.bts_length s
  go_enter Try.func73, Try.ntmps73
  go_wp2
  go_loopw [3, 4] (fun p i wr => ∃ (k q : Nat), k ≤ 6 ∧ q ≤ s.size ∧ p = .int .i64 q ∧ i = .int .i64 k ∧ Below w.heap.size w wr ∧ Hid (T.isText (T.bts s) = T.textFrom (T.bts s) (6 - k) q))
    (fun _ i _ => 6 - (intOf i).toNat)
  case atStart => exact ⟨0, 0, by omega, by omega, rfl, rfl, Below.refl _ _, rfl⟩
  case round =>
    obtain ⟨k, q, hk, hq, rfl, rfl, hb, HT⟩ := hrel
    have HB : Hid (Below w.heap.size w wr) := hb
    have hsz : w.heap.size ≤ wr.heap.size := hb.size
    clear hb
    by_cases h6 : k < 6
    · by_cases hlt : q < s.size
      · obtain ⟨c, hc⟩ : ∃ c : Nat, c = T.size (T.bts s) q := ⟨_, rfl⟩
        have hle := T.size_le (T.bts s) q
        have hl4 := T.size_le4 (T.bts s) q
        rw [← hc, HL.out] at hle
        rw [← hc] at hl4
        have HC : Hid (∀ u : World, Calls Try.prog 77 #[.string s, .int .i64 q] u fun e w' => e = .returned (.int .i64 c) ∧ Below u.heap.size u w') := by
          intro u; rw [hc]; exact char_any s q u Hs.out hlt
        by_cases hc0 : c = 0
        · have HF : Hid (T.isText (T.bts s) = false) := by
            unfold Hid
            rw [HT.out, T.textFrom_bad _ _ _ (by omega) (by rw [HL.out]; exact hlt) (by omega)]
          clear hc hle hl4
          subst hc0
          go_wp2_with (go_at_call 77; refine (HC.out _).mono ?_; rintro e w1 ⟨rfl, hb1⟩)
          go_ret
          rw [HF.out]
          exact ⟨rfl, HB.out.trans (hb1.mono hsz)⟩
        · have HT' : Hid (T.isText (T.bts s) = T.textFrom (T.bts s) (6 - (k + 1)) (q + c)) := by
            unfold Hid
            rw [HT.out, show 6 - k = (6 - (k + 1)) + 1 by omega, T.textFrom_next _ _ _ (by rw [HL.out]; exact hlt) (by omega), ← hc]
          have hle2 : q + c ≤ s.size := by omega
          have hb0 : ((c : Int) == 0) = false := by rw [beq_eq_false_iff_ne]; omega
          clear hc hle HT hc0
          go_wp2_with (go_at_call 77; refine (HC.out _).mono ?_; rintro e w1 ⟨rfl, hb1⟩)
          go_roundw
          case rel => exact ⟨k + 1, q + c, by omega, by omega, by go_num, by go_num, HB.out.trans (hb1.mono hsz), HT'⟩
          case measure => simp [intOf]; omega
      · have HF : Hid (T.isText (T.bts s) = true) := by
          unfold Hid
          rw [HT.out, T.textFrom_end _ _ _ (by rw [HL.out]; exact hlt), HL.out]
          simp; omega
        have hq2 : q = s.size := by omega
        clear hlt
        subst hq2
        go_wp2
        go_ret
        rw [HF.out]
        exact ⟨rfl, HB.out⟩
    · have hk6 : k = 6 := by omega
      subst hk6
      have HF : Hid (T.isText (T.bts s) = decide (q = s.size)) := by
        unfold Hid
        rw [HT.out]
        show decide (q = (T.bts s).length) = _
        rw [HL.out]
      clear HT h6
      by_cases hq2 : q = s.size
      · have HG : Hid (T.isText (T.bts s) = true) := by unfold Hid; rw [HF.out]; simp [hq2]
        subst hq2
        go_wp2
        go_ret
        rw [HG.out]
        exact ⟨rfl, HB.out⟩
      · have HG : Hid (T.isText (T.bts s) = false) := by unfold Hid; rw [HF.out]; simp [hq2]
        have hb0 : ((q : Int) == (s.size : Int)) = false := by rw [beq_eq_false_iff_ne]; omega
        clear hq2
        go_wp2
        go_ret
        rw [HG.out]
        exact ⟨rfl, HB.out⟩

/-- Nodes lie in memory from ⟨b, off⟩ on. -/
def NodeRow (w : World) (b off : Nat) (l : List T.Nd) : Prop :=
  ∀ i x, l[i]? = some x → w.cell? ⟨b, off + i * 3, none⟩ = some (.int .u8 x.1) ∧ w.cell? ⟨b, off + i * 3 + 1, none⟩ = some (.int .u16 x.2.1) ∧ w.cell? ⟨b, off + i * 3 + 2, none⟩ = some (.string x.2.2)

theorem NodeRow.below {B : Nat} {w w' : World} {b off : Nat} {l : List T.Nd} (h : NodeRow w b off l) (hb : Below B w w') (hl : b < B) : NodeRow w' b off l := by
  intro i x hx
  obtain ⟨h0, h1, h2⟩ := h i x hx
  exact ⟨(hb.cell hl).trans h0, (hb.cell hl).trans h1, (hb.cell hl).trans h2⟩

theorem NodeRow.lt {w : World} {b off : Nat} {l : List T.Nd} (h : NodeRow w b off l) {i : Nat} {x : T.Nd} (hx : l[i]? = some x) : b < w.heap.size :=
  World.block_lt_of_cell? _ _ (h i x hx).1

theorem NodeRow.take {w : World} {b off : Nat} {l : List T.Nd} (h : NodeRow w b off l) (k : Nat) : NodeRow w b off (l.take k) := by
  intro i x hx
  rw [List.getElem?_take] at hx
  split at hx
  · exact h i x hx
  · cases hx

/-- A slice of nodes, also an empty one. -/
def NodeAt (w : World) (ao : Option Addr) (l : List T.Nd) : Prop :=
  l = [] ∨ ∃ b off, ao = some ⟨b, off, none⟩ ∧ b < w.heap.size ∧ NodeRow w b off l

theorem NodeAt.below {B : Nat} {w w' : World} {ao : Option Addr} {l : List T.Nd} (h : NodeAt w ao l) (hb : Below B w w') (hB : w.heap.size ≤ B) (hs : w.heap.size ≤ w'.heap.size) : NodeAt w' ao l := by
  rcases h with h | ⟨b, off, e, hl, h⟩
  · exact Or.inl h
  · exact Or.inr ⟨b, off, e, by omega, h.below hb (by omega)⟩

theorem drop_cons {α : Type} (l : List α) (k : Nat) (x : α) (h : l[k]? = some x) : l.drop k = x :: l.drop (k + 1) := by
  obtain ⟨hk, rfl⟩ := List.getElem?_eq_some_iff.1 h
  rw [List.drop_eq_getElem_cons hk]

set_option maxHeartbeats 2000000 in
theorem clash_any (ao : Option Addr) (cap : Nat) (l : List T.Nd) (x1 x2 : Int) (x3 : ByteArray) (w : World) (hl : l.length ≤ maxLen) (ha : NodeAt w ao l) :
    Calls Try.prog 74 #[.slice ao l.length cap, .agg #[.int .u8 x1, .int .u16 x2, .string x3]] w fun e w' => e = .returned (.bool (T.clash l (x1, x2, x3))) ∧ Below w.heap.size w w' := by
  unfold maxLen at hl
  obtain ⟨n, hn⟩ : ∃ n, n = l.length := ⟨_, rfl⟩
  have Hn : Hid (l.length = n) := hn.symm
  rw [← hn]
  rw [← hn] at hl
  have HA : Hid (NodeAt w ao l) := ha
  clear hn ha
  go_enter Try.func74, Try.ntmps74
  go_wp2
  go_loopw [9] (fun i wr => ∃ (k : Nat), k ≤ n ∧ i = .int .i64 k ∧ Below (w.heap.size + 1) (w.alloc (.cells #[.int .u8 x1, .int .u16 x2, .string x3] 77)) wr ∧ Hid (T.clash l (x1, x2, x3) = T.clash (l.drop k) (x1, x2, x3)))
    (fun i _ => n - (intOf i).toNat)
  case atStart => exact ⟨0, Nat.zero_le _, rfl, Below.refl _ _, rfl⟩
  case round =>
    obtain ⟨k, hk, rfl, hb, HD⟩ := hrel
    have HB : Hid (Below (w.heap.size + 1) (w.alloc (.cells #[.int .u8 x1, .int .u16 x2, .string x3] 77)) wr) := hb
    have HW : Hid (Below w.heap.size w wr) := (((Below.refl _ _).alloc (Nat.le_refl _) _).trans (hb.mono (by omega)))
    have hsz : w.heap.size + 1 ≤ wr.heap.size := by have := hb.size; simpa using this
    have hx : Blk wr w.heap.size #[.int .u8 x1, .int .u16 x2, .string x3] 77 := (Blk.new w _ 77).below hb (by omega)
    have d0 := hx.cell 0
    have d1 := hx.cell 1
    simp at d0 d1
    clear hx hb
    by_cases hlt : k < n
    · obtain ⟨y, hy⟩ : ∃ x, l[k]? = some x := ⟨l[k]'(by have := Hn.out; omega), List.getElem?_eq_getElem (by have := Hn.out; omega)⟩
      obtain ⟨b, off, rfl, hbl, hr⟩ : ∃ b off, ao = some ⟨b, off, none⟩ ∧ b < w.heap.size ∧ NodeRow w b off l := HA.out.resolve_left (by rintro rfl; simp at hy)
      obtain ⟨y1, y2, y3⟩ := y
      obtain ⟨c0, c1, c2⟩ := (hr.below HW.out hbl) k _ hy
      simp only at c0 c1 c2
      have HS : Hid (T.clash l (x1, x2, x3) = (decide (y1 = x1 ∨ y2 = x2) || T.clash (l.drop (k + 1)) (x1, x2, x3))) := by
        unfold Hid
        rw [HD.out, drop_cons l k _ hy]
        rfl
      have hbw : b < wr.heap.size := by omega
      have hbne : ¬ b = wr.heap.size := by omega
      have hwne : ¬ w.heap.size = wr.heap.size := by omega
      have hww : w.heap.size < wr.heap.size := by omega
      clear hy hr
      by_cases h1 : y1 = x1
      · subst h1
        have HT : Hid (T.clash l (y1, x2, x3) = true) := by unfold Hid; rw [HS.out]; simp
        go_wp2
        go_ret
        rw [HT.out]
        exact ⟨rfl, by have := HW.out; (repeat (first | exact Below.refl _ _ | assumption | refine Below.setCell ?_ (by first | exact Nat.le_refl _ | omega | (simp; done) | (simp; omega)) _ | refine below_drewN ?_ _ | refine Below.drew ?_ | refine Below.alloc ?_ (by first | exact Nat.le_refl _ | omega | (simp; done) | (simp; omega)) _))⟩
      · have hb1 : (y1 == x1) = false := by rw [beq_eq_false_iff_ne]; exact h1
        by_cases h2 : y2 = x2
        · subst h2
          have HT : Hid (T.clash l (x1, y2, x3) = true) := by unfold Hid; rw [HS.out]; simp
          clear h1
          go_wp2
          go_ret
          rw [HT.out]
          exact ⟨rfl, by have := HW.out; (repeat (first | exact Below.refl _ _ | assumption | refine Below.setCell ?_ (by first | exact Nat.le_refl _ | omega | (simp; done) | (simp; omega)) _ | refine below_drewN ?_ _ | refine Below.drew ?_ | refine Below.alloc ?_ (by first | exact Nat.le_refl _ | omega | (simp; done) | (simp; omega)) _))⟩
        · have hb2 : (y2 == x2) = false := by rw [beq_eq_false_iff_ne]; exact h2
          have HT : Hid (T.clash l (x1, x2, x3) = T.clash (l.drop (k + 1)) (x1, x2, x3)) := by unfold Hid; rw [HS.out]; simp [h1, h2]
          clear h1 h2
          go_wp2
          go_roundw
          case rel => exact ⟨k + 1, by omega, by go_num, by have := HB.out; (repeat (first | exact Below.refl _ _ | assumption | refine Below.setCell ?_ (by first | exact Nat.le_refl _ | omega | (simp; done) | (simp; omega)) _ | refine below_drewN ?_ _ | refine Below.drew ?_ | refine Below.alloc ?_ (by first | exact Nat.le_refl _ | omega | (simp; done) | (simp; omega)) _)), HT⟩
          case measure => simp [intOf]; omega
    · have HT : Hid (T.clash l (x1, x2, x3) = false) := by
        unfold Hid
        rw [HD.out, List.drop_of_length_le (by have := Hn.out; omega)]
        rfl
      go_wp2
      go_ret
      rw [HT.out]
      exact ⟨rfl, HW.out⟩

end Go.Proofs.Ytidaflmmldefcaa.Tr

/-
  The walk of isTree.
-/
namespace Go.Proofs.Ytidaflmmldefcaa.Tr
open Go.RowKit
set_option linter.unusedVariables false

/-- Nodes as Go has them. -/
def ndOk (l : List T.Nd) : Prop := ∀ x ∈ l, T.inGo x ∧ x.2.2.size ≤ maxLen

theorem treeFrom_cut {l : List T.Nd} {k : Nat} {y : T.Nd} (hy : l[k]? = some y) :
    T.treeFrom (l.take k) (l.drop k) = (T.okNd y && !T.clash (l.take k) y && T.treeFrom (l.take (k + 1)) (l.drop (k + 1))) := by
  rw [drop_cons l k _ hy, List.take_add_one, hy]
  rfl

set_option maxHeartbeats 2000000 in
theorem tree_any (ao : Option Addr) (cap : Nat) (l : List T.Nd) (w : World) (hl : l.length ≤ maxLen) (hc : l.length ≤ cap) (ha : NodeAt w ao l) (hk : ndOk l) :
    Calls Try.prog 69 #[.slice ao l.length cap] w fun e w' => e = .returned (.bool (T.isTree l)) ∧ Below w.heap.size w w' := by
  unfold maxLen at hl
  obtain ⟨n, hn⟩ : ∃ n, n = l.length := ⟨_, rfl⟩
  have Hn : Hid (l.length = n) := hn.symm
  rw [← hn]
  rw [← hn] at hl hc
  have HA : Hid (NodeAt w ao l) := ha
  have HK : Hid (ndOk l) := hk
  clear hn ha hk
  by_cases h16 : n ≤ 16
  · have HT0 : Hid (T.isTree l = T.treeFrom (l.take 0) (l.drop 0)) := by
      unfold Hid T.isTree
      rw [Hn.out]
      simp [h16]
    have hlt16 : ¬ (16 : Int) < (n : Int) := by omega
    go_enter Try.func69, Try.ntmps69
    go_wp2
    go_loopw [10] (fun i wr => ∃ (k : Nat), k ≤ n ∧ i = .int .i64 k ∧ Below w.heap.size w wr ∧ Hid (T.isTree l = T.treeFrom (l.take k) (l.drop k)))
      (fun i _ => n - (intOf i).toNat)
    case atStart => exact ⟨0, Nat.zero_le _, rfl, Below.refl _ _, HT0⟩
    case round =>
      obtain ⟨k, hk, rfl, hb, HD⟩ := hrel
      have HW : Hid (Below w.heap.size w wr) := hb
      have hsz : w.heap.size ≤ wr.heap.size := hb.size
      clear hb
      by_cases hlt : k < n
      · obtain ⟨y, hy⟩ : ∃ x, l[k]? = some x := ⟨l[k]'(by have := Hn.out; omega), List.getElem?_eq_getElem (by have := Hn.out; omega)⟩
        obtain ⟨b, off, rfl, hbl, hr⟩ : ∃ b off, ao = some ⟨b, off, none⟩ ∧ b < w.heap.size ∧ NodeRow w b off l := HA.out.resolve_left (by rintro rfl; simp at hy)
        have hyk := HK.out y (List.mem_of_getElem? hy)
        obtain ⟨y1, y2, y3⟩ := y
        obtain ⟨c0, c1, c2⟩ := (hr.below HW.out hbl) k _ hy
        simp only at c0 c1 c2
        have HS : Hid (T.isTree l = (T.okNd (y1, y2, y3) && !T.clash (l.take k) (y1, y2, y3) && T.treeFrom (l.take (k + 1)) (l.drop (k + 1)))) := by
          unfold Hid
          rw [HD.out, treeFrom_cut hy]
        have HY : Hid (y3.size ≤ maxLen) := hyk.2
        have HR : Hid (NodeRow w b off l) := hr
        have HC : Hid (∀ u : World, Below w.heap.size w u → Calls Try.prog 74 #[.slice (some ⟨b, off, none⟩) k cap, .agg #[.int .u8 y1, .int .u16 y2, .string y3]] u fun e w' => e = .returned (.bool (T.clash (l.take k) (y1, y2, y3))) ∧ Below u.heap.size u w') := by
          intro u hu
          have hlen : (l.take k).length = k := by rw [List.length_take, Hn.out]; omega
          have := clash_any (some ⟨b, off, none⟩) cap (l.take k) y1 y2 y3 u (by unfold maxLen; omega) (Or.inr ⟨b, off, rfl, by have := hu.size; omega, (HR.out.take k).below hu hbl⟩)
          rwa [hlen] at this
        have hbw : b < wr.heap.size := by omega
        have hbne : ¬ b = wr.heap.size := by omega
        have hkc : (k : Int) ≤ (cap : Int) := by omega
        have hkc2 : k ≤ cap := by omega
        clear hy hr hyk
        by_cases h1 : y1 < 1
        · have HT : Hid (T.isTree l = false) := by unfold Hid; rw [HS.out]; simp [T.okNd]; omega
          go_wp2
          go_ret
          rw [HT.out]
          exact ⟨rfl, by have := HW.out; (repeat (first | exact Below.refl _ _ | assumption | refine Below.setCell ?_ (by first | exact Nat.le_refl _ | omega | (simp; done) | (simp; omega)) _ | refine below_drewN ?_ _ | refine Below.drew ?_ | refine Below.alloc ?_ (by first | exact Nat.le_refl _ | omega | (simp; done) | (simp; omega)) _))⟩
        by_cases h2 : 16 < y1
        · have HT : Hid (T.isTree l = false) := by unfold Hid; rw [HS.out]; simp [T.okNd]; omega
          go_wp2
          go_ret
          rw [HT.out]
          exact ⟨rfl, by have := HW.out; (repeat (first | exact Below.refl _ _ | assumption | refine Below.setCell ?_ (by first | exact Nat.le_refl _ | omega | (simp; done) | (simp; omega)) _ | refine below_drewN ?_ _ | refine Below.drew ?_ | refine Below.alloc ?_ (by first | exact Nat.le_refl _ | omega | (simp; done) | (simp; omega)) _))⟩
        cases ht : T.isText (T.bts y3) with
        | false =>
          have HT : Hid (T.isTree l = false) := by unfold Hid; rw [HS.out]; simp [T.okNd, ht]
          go_wp2_with (go_at_call 73; refine (text_any y3 _ HY.out).mono ?_; rintro e w1 ⟨rfl, hb1⟩)
          go_ret
          rw [HT.out]
          have hs1 := hb1.size
          simp at hs1
          exact ⟨rfl, (HW.out.alloc (by omega) _).trans (hb1.mono (by simp; omega))⟩
        | true =>
          cases hcl : T.clash (l.take k) (y1, y2, y3) with
          | true =>
            have HT : Hid (T.isTree l = false) := by unfold Hid; rw [HS.out]; simp [hcl]
            go_wp2_with ((go_at_call 73; refine (text_any y3 _ HY.out).mono ?_; rintro e w1 ⟨rfl, hb1⟩; have hx1 : Blk w1 wr.heap.size #[.int .u8 y1, .int .u16 y2, .string y3] 77 := (Blk.new wr _ 77).below hb1 (by simp); have d0 := hx1.cell 0; have d1 := hx1.cell 1; have d2 := hx1.cell 2; simp at d0 d1 d2; have HB1 : Hid (Below w.heap.size w w1) := (HW.out.alloc (by omega) _).trans (hb1.mono (by simp; omega)); clear hx1 hb1))
            go_region_with ((go_at_call 74; refine (HC.out _ ?_).mono ?_; exact HB1.out.drew; rintro e w2 ⟨rfl, hb2⟩))
            all_goals
              go_wp2
              go_ret
              rw [HT.out]
              exact ⟨rfl, HB1.out.drew.trans (hb2.mono HB1.out.drew.size)⟩
          | false =>
            have HT : Hid (T.isTree l = T.treeFrom (l.take (k + 1)) (l.drop (k + 1))) := by unfold Hid; rw [HS.out]; simp [T.okNd, hcl, ht]; omega
            go_wp2_with ((go_at_call 73; refine (text_any y3 _ HY.out).mono ?_; rintro e w1 ⟨rfl, hb1⟩; have hx1 : Blk w1 wr.heap.size #[.int .u8 y1, .int .u16 y2, .string y3] 77 := (Blk.new wr _ 77).below hb1 (by simp); have d0 := hx1.cell 0; have d1 := hx1.cell 1; have d2 := hx1.cell 2; simp at d0 d1 d2; have HB1 : Hid (Below w.heap.size w w1) := (HW.out.alloc (by omega) _).trans (hb1.mono (by simp; omega)); clear hx1 hb1))
            go_region_with ((go_at_call 74; refine (HC.out _ ?_).mono ?_; exact HB1.out.drew; rintro e w2 ⟨rfl, hb2⟩))
            all_goals
              go_wp2
              go_roundw
              case rel => exact ⟨k + 1, by omega, by go_num, HB1.out.drew.trans (hb2.mono HB1.out.drew.size), HT⟩
              case measure => simp [intOf]; omega
      · have HT : Hid (T.isTree l = true) := by
          unfold Hid
          rw [HD.out, List.drop_of_length_le (by have := Hn.out; omega)]
          rfl
        go_wp2
        go_ret
        rw [HT.out]
        exact ⟨rfl, HW.out⟩
  · have HT : Hid (T.isTree l = false) := by
      unfold Hid T.isTree
      rw [Hn.out]
      simp [h16]
    have hlt16 : (16 : Int) < (n : Int) := by omega
    go_enter Try.func69, Try.ntmps69
    go_wp2
    go_ret
    rw [HT.out]
    exact ⟨rfl, Below.refl _ _⟩

end Go.Proofs.Ytidaflmmldefcaa.Tr

/-
  Rows of nodes of a call's own.
-/
namespace Go.Proofs.Ytidaflmmldefcaa.Tr
open Go.RowKit
set_option linter.unusedVariables false

theorem info60 : (Try.prog.info? 77).map (fun i => (i.zero, i.size, i.bytes)) = some (some (.agg #[.int .u8 0, .int .u16 0, .string ⟨#[]⟩]), 3, 24) := by kernel_rfl

def ndCells (l : List T.Nd) : List Value := l.flatMap fun x => [.int .u8 x.1, .int .u16 x.2.1, .string x.2.2]

theorem ndCells_snoc (l : List T.Nd) (x : T.Nd) : ndCells (l ++ [x]) = ndCells l ++ [.int .u8 x.1, .int .u16 x.2.1, .string x.2.2] := by simp [ndCells]

theorem ndCells_at : ∀ (l : List T.Nd) (i : Nat) (x : T.Nd), l[i]? = some x → (ndCells l)[i * 3]? = some (.int .u8 x.1) ∧ (ndCells l)[i * 3 + 1]? = some (.int .u16 x.2.1) ∧ (ndCells l)[i * 3 + 2]? = some (.string x.2.2)
  | [], i, x, h => by simp at h
  | y :: r, 0, x, h => by
    simp at h; subst h
    exact ⟨rfl, rfl, rfl⟩
  | y :: r, i + 1, x, h => by
    have := ndCells_at r i x (by simpa using h)
    have e : ndCells (y :: r) = .int .u8 y.1 :: .int .u16 y.2.1 :: .string y.2.2 :: ndCells r := rfl
    rw [e, show (i + 1) * 3 = i * 3 + 3 by omega]
    simpa using this

theorem ndCells_length (l : List T.Nd) : (ndCells l).length = l.length * 3 := by
  induction l with
  | nil => rfl
  | cons x r ih =>
    have e : ndCells (x :: r) = .int .u8 x.1 :: .int .u16 x.2.1 :: .string x.2.2 :: ndCells r := rfl
    rw [e]
    simp [ih]; omega

theorem own_nodeRow {w : World} {base g n cap : Nat} {l : List T.Nd} (h : w.ownsRow base 77 3 (.slice (some ⟨g, 0, none⟩) n cap) n (ndCells l)) (hn : l.length = n) : NodeRow w g 0 l := by
  intro i x hx
  obtain ⟨h0, h1, h2⟩ := ndCells_at l i x hx
  have hi : i < n := by have := (List.getElem?_eq_some_iff.1 hx).1; omega
  refine ⟨?_, ?_, ?_⟩
  · rw [Nat.zero_add, h.cellAt (i * 3) (by omega)]; exact h0
  · rw [Nat.zero_add, h.cellAt (i * 3 + 1) (by omega)]; exact h1
  · rw [Nat.zero_add, h.cellAt (i * 3 + 2) (by omega)]; exact h2

/-- A row of nodes of one's own, as a slice. -/
theorem own_node {w : World} {base : Nat} {v : Value} {l : List T.Nd} (h : w.ownsRow base 77 3 v l.length (ndCells l)) :
    ∃ ao cap, v = .slice ao l.length cap ∧ l.length ≤ cap ∧ l.length ≤ maxLen ∧ NodeAt w ao l := by
  rcases h.2 with ⟨hv, h0⟩ | ⟨g, cap, cur, hv, hb, hh, h1, h2, h3⟩
  · have : l = [] := List.eq_nil_of_length_eq_zero h0
    subst this
    exact ⟨none, 0, hv, by simp, by simp, Or.inl rfl⟩
  · subst hv
    exact ⟨some ⟨g, 0, none⟩, cap, rfl, h1, by omega, Or.inr ⟨g, 0, rfl, lt_of_block hh, own_nodeRow h rfl⟩⟩

theorem new_three (w : World) (x y z : Value) (t : TypeId) : ∀ j u, [x, y, z][j]? = some u → (w.alloc (.cells #[x, y, z] t)).cell? ((⟨w.heap.size, 0, none⟩ : Addr).add j) = some u := by
  intro j u hj
  match j, hj with
  | 0, hj => simp at hj; subst hj; simp [Addr.add]
  | 1, hj => simp at hj; subst hj; simp [Addr.add]
  | 2, hj => simp at hj; subst hj; simp [Addr.add]
  | (j + 3), hj => simp at hj

theorem new_three1 (w : World) (o : Obj) (x y z : Value) (t : TypeId) : ∀ j u, [x, y, z][j]? = some u → ((w.alloc o).alloc (.cells #[x, y, z] t)).cell? ((⟨w.heap.size + 1, 0, none⟩ : Addr).add j) = some u := by
  have h := new_three (w.alloc o) x y z t
  rwa [show (w.alloc o).heap.size = w.heap.size + 1 by simp] at h

end Go.Proofs.Ytidaflmmldefcaa.Tr

/-
  The walks of placeOf and idFor.
-/
namespace Go.Proofs.Ytidaflmmldefcaa.Tr
open Go.RowKit
set_option linter.unusedVariables false

namespace T
def placeFrom : List Nd → Int → Nat → Int
  | [], _, _ => -1
  | x :: r, i, k => if x.1 = i then (k : Int) else placeFrom r i (k + 1)

/-- Where the node with an Id stands; -1: there is none. -/
def place (l : List Nd) (i : Int) : Int := placeFrom l i 0

theorem placeFrom_has : ∀ (l : List Nd) (i : Int) (k : Nat), (has l i = false ∧ placeFrom l i k = -1) ∨ (has l i = true ∧ (k : Int) ≤ placeFrom l i k ∧ placeFrom l i k < k + l.length)
  | [], i, k => Or.inl ⟨rfl, rfl⟩
  | x :: r, i, k => by
      unfold placeFrom
      by_cases h : x.1 = i
      · rw [if_pos h]
        refine Or.inr ⟨by simp [has, h], by omega, ?_⟩
        simp only [List.length_cons]
        omega
      · rw [if_neg h]
        have e : has (x :: r) i = has r i := by simp [has, h]
        rw [e]
        rcases placeFrom_has r i (k + 1) with h1 | ⟨h1, h2, h3⟩
        · exact Or.inl h1
        · refine Or.inr ⟨h1, by omega, ?_⟩
          simp only [List.length_cons]
          omega

theorem place_no {l : List Nd} {i : Int} (h : has l i = false) : place l i = -1 := by
  rcases placeFrom_has l i 0 with ⟨_, h2⟩ | ⟨h2, _⟩
  · exact h2
  · rw [h] at h2; cases h2

theorem place_yes {l : List Nd} {i : Int} (h : has l i = true) : 0 ≤ place l i ∧ place l i < l.length := by
  rcases placeFrom_has l i 0 with ⟨h2, _⟩ | ⟨_, h2, h3⟩
  · rw [h] at h2; cases h2
  · unfold place
    omega

theorem idFor_found {old next : List Nd} {key : Int} {x : Nd} (h : old.find? (fun x => decide (x.2.1 = key)) = some x) : idFor key old next = x.1 := by
  unfold idFor; rw [h]

theorem idFor_none {old next : List Nd} {key : Int} (h : old.find? (fun x => decide (x.2.1 = key)) = none) : idFor key old next = leastFrom old next 16 1 := by
  unfold idFor; rw [h]

theorem leastFrom_take {old next : List Nd} {f : Nat} {i : Int} (h1 : has old i = false) (h2 : has next i = false) : leastFrom old next (f + 1) i = i := by
  unfold leastFrom; rw [if_pos ⟨h1, h2⟩]

theorem leastFrom_skip {old next : List Nd} {f : Nat} {i : Int} (h : ¬ (has old i = false ∧ has next i = false)) : leastFrom old next (f + 1) i = leastFrom old next f (i + 1) := by
  conv => lhs; unfold leastFrom
  rw [if_neg h]
end T

set_option maxHeartbeats 1000000 in
theorem place_any (ao : Option Addr) (cap : Nat) (l : List T.Nd) (id : Int) (w : World) (hl : l.length ≤ maxLen) (ha : NodeAt w ao l) :
    Calls Try.prog 75 #[.slice ao l.length cap, .int .u8 id] w fun e w' => e = .returned (.int .i64 (T.place l id)) ∧ Below w.heap.size w w' := by
  unfold maxLen at hl
  obtain ⟨n, hn⟩ : ∃ n, n = l.length := ⟨_, rfl⟩
  have Hn : Hid (l.length = n) := hn.symm
  rw [← hn]
  rw [← hn] at hl
  have HA : Hid (NodeAt w ao l) := ha
  clear hn ha
  go_enter Try.func75, Try.ntmps75
  go_wp2
  go_loopw [9] (fun i wr => ∃ (k : Nat), k ≤ n ∧ i = .int .i64 k ∧ Below w.heap.size w wr ∧ Hid (T.place l id = T.placeFrom (l.drop k) id k))
    (fun i _ => n - (intOf i).toNat)
  case atStart => exact ⟨0, Nat.zero_le _, rfl, Below.refl _ _, rfl⟩
  case round =>
    obtain ⟨k, hk, rfl, hb, HD⟩ := hrel
    have HW : Hid (Below w.heap.size w wr) := hb
    have hsz : w.heap.size ≤ wr.heap.size := hb.size
    clear hb
    by_cases hlt : k < n
    · obtain ⟨y, hy⟩ : ∃ x, l[k]? = some x := ⟨l[k]'(by have := Hn.out; omega), List.getElem?_eq_getElem (by have := Hn.out; omega)⟩
      obtain ⟨b, off, rfl, hbl, hr⟩ : ∃ b off, ao = some ⟨b, off, none⟩ ∧ b < w.heap.size ∧ NodeRow w b off l := HA.out.resolve_left (by rintro rfl; simp at hy)
      obtain ⟨y1, y2, y3⟩ := y
      obtain ⟨c0, c1, c2⟩ := (hr.below HW.out hbl) k _ hy
      simp only at c0 c1 c2
      have HS : Hid (T.place l id = if y1 = id then (k : Int) else T.placeFrom (l.drop (k + 1)) id (k + 1)) := by
        unfold Hid
        rw [HD.out, drop_cons l k _ hy]
        rfl
      have hbw : b < wr.heap.size := by omega
      have hbne : ¬ b = wr.heap.size := by omega
      clear hy hr
      by_cases h1 : y1 = id
      · subst h1
        have HT : Hid (T.place l y1 = k) := by unfold Hid; rw [HS.out, if_pos rfl]
        go_wp2
        go_ret
        rw [HT.out]
        exact ⟨rfl, by have := HW.out; (repeat (first | exact Below.refl _ _ | assumption | refine Below.setCell ?_ (by first | exact Nat.le_refl _ | omega | (simp; done) | (simp; omega)) _ | refine below_drewN ?_ _ | refine Below.drew ?_ | refine Below.alloc ?_ (by first | exact Nat.le_refl _ | omega | (simp; done) | (simp; omega)) _))⟩
      · have hb1 : (y1 == id) = false := by rw [beq_eq_false_iff_ne]; exact h1
        have HT : Hid (T.place l id = T.placeFrom (l.drop (k + 1)) id (k + 1)) := by unfold Hid; rw [HS.out, if_neg h1]
        clear h1
        go_wp2
        go_roundw
        case rel => exact ⟨k + 1, by omega, by go_num, by have := HW.out; (repeat (first | exact Below.refl _ _ | assumption | refine Below.setCell ?_ (by first | exact Nat.le_refl _ | omega | (simp; done) | (simp; omega)) _ | refine below_drewN ?_ _ | refine Below.drew ?_ | refine Below.alloc ?_ (by first | exact Nat.le_refl _ | omega | (simp; done) | (simp; omega)) _)), HT⟩
        case measure => simp [intOf]; omega
    · have HT : Hid (T.place l id = -1) := by
        unfold Hid
        rw [HD.out, List.drop_of_length_le (by have := Hn.out; omega)]
        rfl
      go_wp2
      go_ret
      rw [HT.out]
      exact ⟨rfl, HW.out⟩

set_option maxRecDepth 100000 in
set_option maxHeartbeats 2000000 in
theorem idFor_any (oo no : Option Addr) (oc nc : Nat) (old next : List T.Nd) (key : Int) (w : World) (hlo : old.length ≤ maxLen) (hln : next.length ≤ maxLen) (hao : NodeAt w oo old) (han : NodeAt w no next) :
    Calls Try.prog 70 #[.int .u16 key, .slice oo old.length oc, .slice no next.length nc] w fun e w' => e = .returned (.int .u8 (T.idFor key old next)) ∧ Below w.heap.size w w' := by
  have P1 : Hid (∀ (i : Int) (u : World), Below w.heap.size w u → Calls Try.prog 75 #[.slice oo old.length oc, .int .u8 i] u fun e w' => e = .returned (.int .i64 (T.place old i)) ∧ Below u.heap.size u w') := fun i u hu => place_any oo oc old i u hlo (hao.below hu (Nat.le_refl _) hu.size)
  have P2 : Hid (∀ (i : Int) (u : World), Below w.heap.size w u → Calls Try.prog 75 #[.slice no next.length nc, .int .u8 i] u fun e w' => e = .returned (.int .i64 (T.place next i)) ∧ Below u.heap.size u w') := fun i u hu => place_any no nc next i u hln (han.below hu (Nat.le_refl _) hu.size)
  unfold maxLen at hlo hln
  obtain ⟨n, hn⟩ : ∃ n, n = old.length := ⟨_, rfl⟩
  have Hn : Hid (old.length = n) := hn.symm
  obtain ⟨m, hm⟩ : ∃ n, n = next.length := ⟨_, rfl⟩
  have Hm : Hid (next.length = m) := hm.symm
  rw [← hn] at P1 hlo
  rw [← hm] at P2 hln
  rw [← hn, ← hm]
  have HA : Hid (NodeAt w oo old) := hao
  clear hn hm hao han
  go_enter Try.func70, Try.ntmps70
  go_wp2
  go_loopw [12] (fun i wr => ∃ (k : Nat), k ≤ n ∧ i = .int .i64 k ∧ Below w.heap.size w wr ∧ Hid (old.find? (fun x => decide (x.2.1 = key)) = (old.drop k).find? (fun x => decide (x.2.1 = key))))
    (fun i _ => n - (intOf i).toNat)
  case atStart => exact ⟨0, Nat.zero_le _, rfl, Below.refl _ _, rfl⟩
  case round =>
    obtain ⟨k, hk, rfl, hb, HD⟩ := hrel
    have HW : Hid (Below w.heap.size w wr) := hb
    have hsz : w.heap.size ≤ wr.heap.size := hb.size
    clear hb
    by_cases hlt : k < n
    · obtain ⟨y, hy⟩ : ∃ x, old[k]? = some x := ⟨old[k]'(by have := Hn.out; omega), List.getElem?_eq_getElem (by have := Hn.out; omega)⟩
      obtain ⟨b, off, rfl, hbl, hr⟩ : ∃ b off, oo = some ⟨b, off, none⟩ ∧ b < w.heap.size ∧ NodeRow w b off old := HA.out.resolve_left (by rintro rfl; simp at hy)
      obtain ⟨y1, y2, y3⟩ := y
      obtain ⟨c0, c1, c2⟩ := (hr.below HW.out hbl) k _ hy
      simp only at c0 c1 c2
      have HS : Hid (old.find? (fun x => decide (x.2.1 = key)) = if y2 = key then some (y1, y2, y3) else (old.drop (k + 1)).find? (fun x => decide (x.2.1 = key))) := by
        unfold Hid
        rw [HD.out, drop_cons old k _ hy, List.find?_cons]
        by_cases h : y2 = key <;> simp [h]
      have hbw : b < wr.heap.size := by omega
      have hbne : ¬ b = wr.heap.size := by omega
      clear hy hr
      by_cases h1 : y2 = key
      · subst h1
        have HT : Hid (T.idFor y2 old next = y1) := T.idFor_found (x := (y1, y2, y3)) (by rw [HS.out, if_pos rfl])
        go_wp2
        go_ret
        rw [HT.out]
        exact ⟨rfl, by have := HW.out; (repeat (first | exact Below.refl _ _ | assumption | refine Below.setCell ?_ (by first | exact Nat.le_refl _ | omega | (simp; done) | (simp; omega)) _ | refine below_drewN ?_ _ | refine Below.drew ?_ | refine Below.alloc ?_ (by first | exact Nat.le_refl _ | omega | (simp; done) | (simp; omega)) _))⟩
      · have hb1 : (y2 == key) = false := by rw [beq_eq_false_iff_ne]; exact h1
        have HT : Hid (old.find? (fun x => decide (x.2.1 = key)) = (old.drop (k + 1)).find? (fun x => decide (x.2.1 = key))) := by unfold Hid; rw [HS.out, if_neg h1]
        clear h1
        go_wp2
        go_roundw
        case rel => exact ⟨k + 1, by omega, by go_num, by have := HW.out; (repeat (first | exact Below.refl _ _ | assumption | refine Below.setCell ?_ (by first | exact Nat.le_refl _ | omega | (simp; done) | (simp; omega)) _ | refine below_drewN ?_ _ | refine Below.drew ?_ | refine Below.alloc ?_ (by first | exact Nat.le_refl _ | omega | (simp; done) | (simp; omega)) _)), HT⟩
        case measure => simp [intOf]; omega
    · have HF : Hid (T.idFor key old next = T.leastFrom old next 16 1) := T.idFor_none (by rw [HD.out, List.drop_of_length_le (by have := Hn.out; omega)]; rfl)
      clear HD
      go_wp2_with fail
      go_loopw [9] (fun i w2 => ∃ (j : Nat), 1 ≤ j ∧ j ≤ 17 ∧ i = .int .u8 j ∧ Below w.heap.size w w2 ∧ Hid (T.idFor key old next = T.leastFrom old next (17 - j) j))
        (fun i _ => 17 - (intOf i).toNat)
      case atStart => exact ⟨1, by omega, by omega, rfl, HW.out, HF⟩
      case round =>
        obtain ⟨j, hj1, hj, rfl, hb, HD⟩ := hrel
        have HW2 : Hid (Below w.heap.size w wr) := hb
        clear hb
        by_cases hj16 : j ≤ 16
        · have hji : (j : Int) ≤ 16 := by omega
          cases h1 : T.has old j with
          | true =>
            have hp := T.place_yes h1
            have HT : Hid (T.idFor key old next = T.leastFrom old next (17 - (j + 1)) ((j + 1 : Nat) : Int)) := by
              unfold Hid
              rw [HD.out, show 17 - j = (17 - (j + 1)) + 1 by omega, T.leastFrom_skip (by rw [h1]; simp)]
              rfl
            obtain ⟨p, hpe⟩ : ∃ p, p = T.place old j := ⟨_, rfl⟩
            have HP : Hid (p = T.place old j) := hpe
            rw [← hpe] at hp
            have hpn : ¬ p < 0 := by omega
            clear hpe h1 HD
            go_wp2_with fail
            refine (P1.out j wr HW2.out).mono ?_
            rintro e w3 ⟨rfl, hb3⟩
            rw [← HP.out]
            have HB3 : Hid (Below w.heap.size w w3) := HW2.out.trans (hb3.mono HW2.out.size)
            clear hb3 HP
            go_wp2
            go_roundw
            case rel => exact ⟨j + 1, by omega, by omega, by go_num, HB3.out, HT⟩
            case measure => simp [intOf]; omega
          | false =>
            have hp1 := T.place_no h1
            cases h2 : T.has next j with
            | true =>
              have hp := T.place_yes h2
              have HT : Hid (T.idFor key old next = T.leastFrom old next (17 - (j + 1)) ((j + 1 : Nat) : Int)) := by
                unfold Hid
                rw [HD.out, show 17 - j = (17 - (j + 1)) + 1 by omega, T.leastFrom_skip (by rw [h2]; simp)]
                rfl
              obtain ⟨p, hpe⟩ : ∃ p, p = T.place next j := ⟨_, rfl⟩
              have HP : Hid (p = T.place next j) := hpe
              rw [← hpe] at hp
              have hpn : ¬ p < 0 := by omega
              have HP1 : Hid (T.place old j = -1) := hp1
              clear hpe h1 h2 HD hp1
              go_wp2_with fail
              refine (P1.out j wr HW2.out).mono ?_
              rintro e w3 ⟨rfl, hb3⟩
              rw [HP1.out]
              have HB3 : Hid (Below w.heap.size w w3) := HW2.out.trans (hb3.mono HW2.out.size)
              clear hb3 HP1
              go_wp2_with fail
              refine (P2.out j w3 HB3.out).mono ?_
              rintro e w4 ⟨rfl, hb4⟩
              rw [← HP.out]
              have HB4 : Hid (Below w.heap.size w w4) := HB3.out.trans (hb4.mono HB3.out.size)
              clear hb4 HP
              go_wp2
              go_roundw
              case rel => exact ⟨j + 1, by omega, by omega, by go_num, HB4.out, HT⟩
              case measure => simp [intOf]; omega
            | false =>
              have HT : Hid (T.idFor key old next = j) := by
                unfold Hid
                rw [HD.out, show 17 - j = (17 - (j + 1)) + 1 by omega, T.leastFrom_take h1 h2]
              have HP1 : Hid (T.place old j = -1) := hp1
              have HP2 : Hid (T.place next j = -1) := T.place_no h2
              clear h1 h2 HD hp1
              go_wp2_with fail
              refine (P1.out j wr HW2.out).mono ?_
              rintro e w3 ⟨rfl, hb3⟩
              rw [HP1.out]
              have HB3 : Hid (Below w.heap.size w w3) := HW2.out.trans (hb3.mono HW2.out.size)
              clear hb3 HP1
              go_wp2_with fail
              refine (P2.out j w3 HB3.out).mono ?_
              rintro e w4 ⟨rfl, hb4⟩
              rw [HP2.out]
              have HB4 : Hid (Below w.heap.size w w4) := HB3.out.trans (hb4.mono HB3.out.size)
              clear hb4 HP2
              go_wp2
              go_ret
              rw [HT.out]
              exact ⟨rfl, HB4.out⟩
        · have hj17 : j = 17 := by omega
          subst hj17
          have HT : Hid (T.idFor key old next = 0) := by unfold Hid; rw [HD.out]; rfl
          go_wp2
          go_ret
          rw [HT.out]
          exact ⟨rfl, HW2.out⟩

end Go.Proofs.Ytidaflmmldefcaa.Tr

/-
  The walk of Plan.
-/
namespace Go.Proofs.Ytidaflmmldefcaa.Tr
open Go.RowKit
set_option linter.unusedVariables false

/-- Shows lie in memory from ⟨b, off⟩ on. -/
def ShRow (w : World) (b off : Nat) (l : List T.Sh) : Prop :=
  ∀ i x, l[i]? = some x → w.cell? ⟨b, off + i * 2, none⟩ = some (.int .u16 x.1) ∧ w.cell? ⟨b, off + i * 2 + 1, none⟩ = some (.string x.2)

theorem ShRow.below {B : Nat} {w w' : World} {b off : Nat} {l : List T.Sh} (h : ShRow w b off l) (hb : Below B w w') (hl : b < B) : ShRow w' b off l := by
  intro i x hx
  obtain ⟨h0, h1⟩ := h i x hx
  exact ⟨(hb.cell hl).trans h0, (hb.cell hl).trans h1⟩

def ShAt (w : World) (ao : Option Addr) (l : List T.Sh) : Prop :=
  l = [] ∨ ∃ b off, ao = some ⟨b, off, none⟩ ∧ b < w.heap.size ∧ ShRow w b off l

theorem ShAt.below {B : Nat} {w w' : World} {ao : Option Addr} {l : List T.Sh} (h : ShAt w ao l) (hb : Below B w w') (hB : w.heap.size ≤ B) (hs : w.heap.size ≤ w'.heap.size) : ShAt w' ao l := by
  rcases h with h | ⟨b, off, e, hl, h⟩
  · exact Or.inl h
  · exact Or.inr ⟨b, off, e, by omega, h.below hb (by omega)⟩

/-- Shows as Go has them. -/
def shOk (l : List T.Sh) : Prop := ∀ x ∈ l, (0 ≤ x.1 ∧ x.1 ≤ 65535) ∧ x.2.size ≤ maxLen

namespace T
def planOk (old : List Nd) (shows : List Sh) : Bool := isTree old && decide (shows.length ≤ 8) && isTree (plan old shows)
def planO (old : List Nd) (shows : List Sh) : List Nd := if planOk old shows then plan old shows else []
def planE (old : List Nd) (shows : List Sh) : Int := if planOk old shows then 0 else 3

theorem idFor_range {old next : List Nd} (h : ∀ x ∈ old, inGo x) (key : Int) : 0 ≤ idFor key old next ∧ idFor key old next ≤ 255 := by
  cases hf : old.find? (fun x => decide (x.2.1 = key)) with
  | some x =>
    rw [idFor_found hf]
    have := h x (List.mem_of_find?_eq_some hf)
    exact ⟨this.1, this.2.1⟩
  | none =>
    rw [idFor_none hf]
    rcases leastFrom_spec old next 16 1 with ⟨h1, _⟩ | ⟨h1, h2, _⟩
    · omega
    · omega

theorem planFrom_snoc (old : List Nd) : ∀ (l : List Sh) (next : List Nd) (s : Sh), planFrom old next (l ++ [s]) = planFrom old next l ++ [mkN old (planFrom old next l) s]
  | [], next, s => rfl
  | x :: r, next, s => by
      show planFrom old (next ++ [mkN old next x]) (r ++ [s]) = planFrom old (next ++ [mkN old next x]) r ++ [mkN old (planFrom old (next ++ [mkN old next x]) r) s]
      exact planFrom_snoc old r _ s
end T

theorem planFrom_ok {old : List T.Nd} (ho : ndOk old) : ∀ (l : List T.Sh) (next : List T.Nd), shOk l → ndOk next → ndOk (T.planFrom old next l)
  | [], next, _, h => h
  | s :: r, next, hs, h => by
      unfold T.planFrom
      refine planFrom_ok ho r _ (fun x hx => hs x (by simp [hx])) ?_
      intro x hx
      rcases List.mem_append.1 hx with hx | hx
      · exact h x hx
      · rw [List.mem_singleton] at hx
        subst hx
        obtain ⟨h1, h2⟩ := hs s (by simp)
        have h3 := T.idFor_range (next := next) (fun x hx => (ho x hx).1) s.1
        exact ⟨⟨h3.1, h3.2, h1.1, h1.2⟩, h2⟩

theorem plan_ok {old : List T.Nd} {l : List T.Sh} (ho : ndOk old) (hs : shOk l) : ndOk (T.plan old l) := planFrom_ok ho l [] hs (fun x hx => by simp at hx)

/-- What Plan hands back. -/
def planEnd (old : List T.Nd) (shows : List T.Sh) (w : World) (e : Ending) (w' : World) : Prop :=
  ∃ v, e = .returned (.tuple #[v, .int .i64 (T.planE old shows)]) ∧ w'.ownsRow w.heap.size 77 3 v (T.planO old shows).length (ndCells (T.planO old shows)) ∧ Below w.heap.size w w'

theorem planEnd_bad {old : List T.Nd} {shows : List T.Sh} {w w' : World} (h : T.planOk old shows = false) (hb : Below w.heap.size w w') : planEnd old shows w (.returned (.tuple #[.slice none 0 0, .int .i64 3])) w' := by
  refine ⟨.slice none 0 0, by simp [T.planE, h], ?_, hb⟩
  have : T.planO old shows = [] := by simp [T.planO, h]
  rw [this]
  exact World.ownsRow_nil _ _ _ _

theorem planEnd_good {old : List T.Nd} {shows : List T.Sh} {w w' : World} {v : Value} (h : T.planOk old shows = true) (ho : w'.ownsRow w.heap.size 77 3 v (T.plan old shows).length (ndCells (T.plan old shows))) (hb : Below w.heap.size w w') :
    planEnd old shows w (.returned (.tuple #[v, .int .i64 0])) w' := by
  refine ⟨v, by simp [T.planE, h], ?_, hb⟩
  have : T.planO old shows = T.plan old shows := by simp [T.planO, h]
  rw [this]
  exact ho

set_option maxRecDepth 100000 in
set_option maxHeartbeats 4000000 in
theorem plan_any (oo so : Option Addr) (oc sc : Nat) (old : List T.Nd) (shows : List T.Sh) (w : World) (hlo : old.length ≤ maxLen) (hco : old.length ≤ oc) (hls : shows.length ≤ maxLen) (hao : NodeAt w oo old) (hko : ndOk old) (has : ShAt w so shows) (hks : shOk shows) :
    Calls Try.prog 59 #[.slice oo old.length oc, .slice so shows.length sc] w fun e w' => planEnd old shows w e w' := by
  obtain ⟨i0, hi, hz0, hz1, hz2⟩ := info_parts info60
  have HT : Hid (∀ u : World, Below w.heap.size w u → Calls Try.prog 69 #[.slice oo old.length oc] u fun e w' => e = .returned (.bool (T.isTree old)) ∧ Below u.heap.size u w') := fun u hu => tree_any oo oc old u hlo hco (hao.below hu (Nat.le_refl _) hu.size) hko
  have HF : Hid (∀ (no : Option Addr) (nc : Nat) (next : List T.Nd) (key : Int) (u : World), Below w.heap.size w u → next.length ≤ maxLen → NodeAt u no next → Calls Try.prog 70 #[.int .u16 key, .slice oo old.length oc, .slice no next.length nc] u fun e w' => e = .returned (.int .u8 (T.idFor key old next)) ∧ Below u.heap.size u w') :=
    fun no nc next key u hu hn ha => idFor_any oo no oc nc old next key u hlo hn (hao.below hu (Nat.le_refl _) hu.size) ha
  unfold maxLen at hls
  generalize old.length = on at HT HF hco ⊢
  obtain ⟨n, hn⟩ : ∃ n, n = shows.length := ⟨_, rfl⟩
  have Hn : Hid (shows.length = n) := hn.symm
  rw [← hn]
  rw [← hn] at hls
  have HA : Hid (ShAt w so shows) := has
  have HK : Hid (shOk shows) := hks
  have HO : Hid (ndOk old) := hko
  clear hn hao hko has hks hlo
  cases hit : T.isTree old with
  | false =>
    have HV : Hid (T.planOk old shows = false) := by unfold Hid T.planOk; rw [hit]; rfl
    rw [hit] at HT
    clear hit
    go_enter Try.func59, Try.ntmps59
    go_wp2_with (go_at_call 69; refine (HT.out _ (Below.refl _ _)).mono ?_; rintro e w1 ⟨rfl, hb1⟩)
    go_ret2
    exact planEnd_bad HV.out hb1
  | true =>
    have HI : Hid (T.isTree old = true) := hit
    rw [hit] at HT
    clear hit
    by_cases h8 : n ≤ 8
    · have h8i : ¬ (8 : Int) < (n : Int) := by omega
      go_enter Try.func59, Try.ntmps59
      go_wp2_with (go_at_call 69; refine (HT.out _ (Below.refl _ _)).mono ?_; rintro e w1 ⟨rfl, hb1⟩)
      go_loopw [6, 18] (fun v i wr => ∃ (k cv : Nat) (bo : Option Addr) (acc : List T.Nd), v = .slice bo k cv ∧ k ≤ n ∧ i = .int .i64 k ∧ wr.ownsRow w.heap.size 77 3 (.slice bo k cv) k (ndCells acc) ∧ Below w.heap.size w wr ∧ Hid (acc = T.plan old (shows.take k)) ∧ Hid (acc.length = k))
        (fun _ i _ => n - (intOf i).toNat)
      case atStart => exact ⟨0, 0, none, [], rfl, Nat.zero_le _, rfl, World.ownsRow_nil _ _ _ _, hb1, rfl, rfl⟩
      case round =>
        obtain ⟨k, cv, bo, acc, rfl, hk, rfl, hown, hbel, HP, HL⟩ := hrel
        have HOw : Hid (wr.ownsRow w.heap.size 77 3 (.slice bo k cv) k (ndCells acc)) := hown
        have HB : Hid (Below w.heap.size w wr) := hbel
        have hsz := hbel.size
        have HNA : Hid (NodeAt wr bo acc ∧ k ≤ cv) := by
          have h1 : wr.ownsRow w.heap.size 77 3 (.slice bo acc.length cv) acc.length (ndCells acc) := by rw [HL.out]; exact hown
          obtain ⟨ao', cap', e1, h2, _, h3⟩ := own_node h1
          simp only [Value.slice.injEq] at e1
          obtain ⟨rfl, _, rfl⟩ := e1
          exact ⟨h3, by have := HL.out; omega⟩
        clear hown hbel hb1
        by_cases hlt : k < n
        · obtain ⟨y, hy⟩ : ∃ x, shows[k]? = some x := ⟨shows[k]'(by have := Hn.out; omega), List.getElem?_eq_getElem (by have := Hn.out; omega)⟩
          obtain ⟨b, off, rfl, hbl, hr⟩ : ∃ b off, so = some ⟨b, off, none⟩ ∧ b < w.heap.size ∧ ShRow w b off shows := HA.out.resolve_left (by rintro rfl; simp at hy)
          obtain ⟨y1, y2⟩ := y
          obtain ⟨c0, c1⟩ := (hr.below HB.out hbl) k _ hy
          simp only at c0 c1
          have HS : Hid (acc ++ [T.mkN old acc (y1, y2)] = T.plan old (shows.take (k + 1))) := by
            unfold Hid T.plan
            rw [List.take_add_one, hy]
            show _ = T.planFrom old [] (shows.take k ++ [(y1, y2)])
            rw [T.planFrom_snoc, HP.out]
            rfl
          have hir := T.idFor_range (next := acc) (fun x hx => (HO.out x hx).1) y1
          obtain ⟨id, hid⟩ : ∃ id, id = T.idFor y1 old acc := ⟨_, rfl⟩
          have HID : Hid (id = T.idFor y1 old acc) := hid
          have HC : Hid (∀ u : World, Below wr.heap.size wr u → Calls Try.prog 70 #[.int .u16 y1, .slice oo on oc, .slice bo k cv] u fun e w' => e = .returned (.int .u8 id) ∧ Below u.heap.size u w') := by
            intro u hu
            have := HF.out bo cv acc y1 u (HB.out.trans (hu.mono hsz)) (by rw [HL.out]; unfold maxLen; omega) (HNA.out.1.below hu (Nat.le_refl _) hu.size)
            rw [HL.out, ← hid] at this
            exact this
          rw [← hid] at hir
          have hbw : b < wr.heap.size := by omega
          have hbne : ¬ b = wr.heap.size := by omega
          clear hy hr hid
          go_wp2_with fail
          refine (HC.out _ ((Below.refl _ _).alloc (Nat.le_refl _) _)).mono ?_
          rintro e w2 ⟨rfl, hb2⟩
          have hx2 : Blk w2 wr.heap.size #[.int .u16 y1, .string y2] 129 := (Blk.new wr _ 129).below hb2 (by simp)
          have d0 := hx2.cell 0
          have d1 := hx2.cell 1
          simp at d0 d1
          have hx2l := hx2.lt
          have hbw2 : Below w.heap.size w w2 := (HB.out.alloc hsz _).trans (hb2.mono (by simp; omega))
          have HB2 : Hid (Below w.heap.size w w2) := hbw2
          have hs2 := hbw2.size
          have HO2 : Hid (w2.ownsRow w.heap.size 77 3 (.slice bo k cv) k (ndCells acc)) := own_below' (HOw.out.alloc _) hb2 (by simp)
          clear hx2 hb2 hbw2 HOw HB HNA c0 c1 HC
          go_wp2_with (at_builtin; refine wpList_append_own _ rfl (.tmp 27) (.tmp 34) 73 rfl w.heap.size 77 i0 (.agg #[.int .u8 0, .int .u16 0, .string ⟨#[]⟩]) 3 24 Try.underlying73 hi hz0 hz1 hz2 rfl (by decide) _ _ _ rfl (HO2.out.alloc _) ⟨w2.heap.size, 0, none⟩ 1 1 [.int .u8 id, .int .u16 y1, .string y2] rfl rfl (new_three _ _ _ _ _) (by intro u hu; simp at hu; rcases hu with rfl | rfl | rfl <;> rfl) (by unfold maxLen; omega) (by omega) (by simp; omega) ?_)
          intro v3 w3 hown3 hg3 _
          have hb3 : Below w.heap.size w w3 := below_app (HB2.out.alloc hs2 _) hg3 (HO2.out.alloc _) (Nat.le_refl _) (by simp; omega)
          obtain ⟨g3, cap3, hv3⟩ : ∃ g3 cap3, v3 = .slice (some ⟨g3, 0, none⟩) (k + 1) cap3 := by
            rcases hown3.2 with ⟨_, h⟩ | ⟨g3, cap3, _, h, _⟩
            · omega
            · exact ⟨g3, cap3, h⟩
          have HV : Hid (v3 = .slice (some ⟨g3, 0, none⟩) (k + 1) cap3) := hv3
          have HB3 : Hid (Below w.heap.size w w3) := hb3
          have HO3 : Hid (w3.ownsRow w.heap.size 77 3 v3 (k + 1) (ndCells acc ++ [.int .u8 id, .int .u16 y1, .string y2])) := hown3
          clear hown3 hg3 hb3 HO2 HB2 hv3 d0 d1
          go_wp2
          go_roundw
          case rel =>
            refine ⟨k + 1, cap3, some ⟨g3, 0, none⟩, acc ++ [T.mkN old acc (y1, y2)], HV.out, by omega, by go_num, ?_, HB3.out, HS, by unfold Hid; simp [HL.out]⟩
            rw [ndCells_snoc, ← HV.out]
            have h := HO3.out
            rw [HID.out] at h
            exact h
          case measure => simp [intOf]; omega
        · have hkn : k = n := by omega
          subst hkn
          have HPL : Hid (acc = T.plan old shows) := by unfold Hid; rw [HP.out, List.take_of_length_le (by have := Hn.out; omega)]
          have HC : Hid (Calls Try.prog 69 #[.slice bo k cv] wr fun e w' => e = .returned (.bool (T.isTree acc)) ∧ Below wr.heap.size wr w') := by
            have := tree_any bo cv acc wr (by rw [HL.out]; unfold maxLen; omega) (by rw [HL.out]; exact HNA.out.2) HNA.out.1 (by rw [HPL.out]; exact plan_ok HO.out HK.out)
            rw [HL.out] at this
            exact this
          clear hlt
          cases hit : T.isTree acc with
          | false =>
            have HV : Hid (T.planOk old shows = false) := by unfold Hid T.planOk; rw [← HPL.out, hit]; simp
            rw [hit] at HC
            clear hit
            go_wp2_with fail
            refine HC.out.mono ?_
            rintro e w2 ⟨rfl, hb2⟩
            have HB2 : Hid (Below w.heap.size w w2) := HB.out.trans (hb2.mono hsz)
            clear hb2 HC
            go_wp2
            go_ret2
            exact planEnd_bad HV.out HB2.out
          | true =>
            have HV : Hid (T.planOk old shows = true) := by unfold Hid T.planOk; rw [← HPL.out, hit, HI.out, Hn.out]; simp [h8]
            rw [hit] at HC
            clear hit
            go_wp2_with fail
            refine HC.out.mono ?_
            rintro e w2 ⟨rfl, hb2⟩
            have HB2 : Hid (Below w.heap.size w w2) := HB.out.trans (hb2.mono hsz)
            have HO2 : Hid (w2.ownsRow w.heap.size 77 3 (.slice bo k cv) k (ndCells acc)) := own_below' HOw.out hb2 (Nat.le_refl _)
            clear hb2 HC
            go_wp2
            go_ret2
            refine planEnd_good HV.out ?_ HB2.out
            rw [← HPL.out, HL.out]
            exact HO2.out
    · have h8i : (8 : Int) < (n : Int) := by omega
      have HV : Hid (T.planOk old shows = false) := by unfold Hid T.planOk; rw [Hn.out]; simp [h8]
      go_enter Try.func59, Try.ntmps59
      go_wp2_with (go_at_call 69; refine (HT.out _ (Below.refl _ _)).mono ?_; rintro e w1 ⟨rfl, hb1⟩)
      go_ret2
      exact planEnd_bad HV.out hb1

end Go.Proofs.Ytidaflmmldefcaa.Tr
