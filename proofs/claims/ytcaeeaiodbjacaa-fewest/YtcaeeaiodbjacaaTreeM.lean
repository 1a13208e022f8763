/-
  The plain mathematics of trees: texts in UTF-8, trees, their bytes, marks.
-/
namespace Go.Proofs.Ytcaeeaiodbjacaa
namespace T

/-- A node: its Id, its Key, its Text. -/
abbrev Nd := Int × Int × ByteArray

/-- The bytes of a text, as numbers. -/
def bts (s : ByteArray) : List Int := s.data.toList.map fun b => (b.toNat : Int)

theorem bts_length (s : ByteArray) : (bts s).length = s.size := by simp [bts]

/-- The number at a place. -/
def at0 (L : List Int) (i : Nat) : Int := L.getD i 0

theorem at0_bts (s : ByteArray) (i : Nat) (h : i < s.size) : at0 (bts s) i = ((s[i]).toNat : Int) := by
  have h2 : i < s.data.toList.length := by simpa using h
  simp only [at0, bts, List.getD, List.getElem?_map, List.getElem?_eq_getElem h2, Option.map_some, Option.getD_some]
  rfl

theorem at0_bts_range (s : ByteArray) (i : Nat) : 0 ≤ at0 (bts s) i ∧ at0 (bts s) i ≤ 255 := by
  by_cases h : i < s.size
  · rw [at0_bts s i h]
    have := (s[i]).toNat_lt
    omega
  · have : (bts s).length ≤ i := by rw [bts_length]; omega
    simp [at0, List.getD, List.getElem?_eq_none this]

theorem bts_range (s : ByteArray) : ∀ x ∈ bts s, 0 ≤ x ∧ x ≤ 255 := by
  intro x hx
  obtain ⟨b, _, rfl⟩ := List.mem_map.1 hx
  have := b.toNat_lt
  omega

theorem bts_inj {s t : ByteArray} (h : bts s = bts t) : s = t := by
  obtain ⟨⟨a⟩⟩ := s
  obtain ⟨⟨b⟩⟩ := t
  have h1 : a.map (fun b => ((b.toNat : Nat) : Int)) = b.map (fun b => ((b.toNat : Nat) : Int)) := h
  have h2 : a = b := by
    clear h
    induction a generalizing b with
    | nil => cases b with
      | nil => rfl
      | cons y b => simp at h1
    | cons x a ih => cases b with
      | nil => simp at h1
      | cons y b =>
        simp only [List.map_cons, List.cons.injEq] at h1
        rw [ih b h1.2, show x = y from UInt8.toNat_inj.1 (by omega)]
  rw [h2]

/-- How many bytes a character has by its first. -/
def lead (f : Int) : Nat := if f < 128 then 1 else if f < 194 then 0 else if f < 224 then 2 else if f < 240 then 3 else if f < 245 then 4 else 0

/-- May a character begin with these two? -/
def pair (f g : Int) : Bool :=
  if f = 224 then decide (160 ≤ g) else if f = 237 then decide (g < 160) else if f = 240 then decide (144 ≤ g) else if f = 244 then decide (g < 144) else true

/-- A byte that goes on. -/
def cont (x : Int) : Bool := decide (128 ≤ x ∧ x ≤ 191)

def conts (L : List Int) (p n : Nat) : Bool :=
  (decide (n ≤ 1) || cont (at0 L (p + 1))) && (decide (n ≤ 2) || cont (at0 L (p + 2))) && (decide (n ≤ 3) || cont (at0 L (p + 3)))

/-- How many bytes the character at p has; 0: none is there. -/
def size (L : List Int) (p : Nat) : Nat :=
  if L.length < p + lead (at0 L p) then 0
  else if conts L p (lead (at0 L p)) then (if lead (at0 L p) ≤ 1 then lead (at0 L p) else if pair (at0 L p) (at0 L (p + 1)) then lead (at0 L p) else 0)
  else 0

theorem lead_le (f : Int) : lead f ≤ 4 := by
  unfold lead
  repeat' split
  all_goals omega

theorem conts_of (L : List Int) (p n : Nat) (h : ∀ j, 1 ≤ j → j < n → cont (at0 L (p + j)) = true) : conts L p n = true := by
  unfold conts
  simp only [Bool.and_eq_true, Bool.or_eq_true, decide_eq_true_eq]
  refine ⟨⟨?_, ?_⟩, ?_⟩
  · by_cases h1 : n ≤ 1
    · exact Or.inl h1
    · exact Or.inr (h 1 (by omega) (by omega))
  · by_cases h1 : n ≤ 2
    · exact Or.inl h1
    · exact Or.inr (h 2 (by omega) (by omega))
  · by_cases h1 : n ≤ 3
    · exact Or.inl h1
    · exact Or.inr (h 3 (by omega) (by omega))

theorem conts_not (L : List Int) (p n j : Nat) (hn : n ≤ 4) (h1 : 1 ≤ j) (h2 : j < n) (h : cont (at0 L (p + j)) = false) : conts L p n = false := by
  rcases (show j = 1 ∨ j = 2 ∨ j = 3 by omega) with rfl | rfl | rfl
  · simp [conts, h, show ¬ n ≤ 1 by omega]
  · simp [conts, h, show ¬ n ≤ 2 by omega]
  · simp [conts, h, show ¬ n ≤ 3 by omega]

theorem size_cut (L : List Int) (p : Nat) (h : L.length < p + lead (at0 L p)) : size L p = 0 := by
  unfold size; rw [if_pos h]

theorem size_bad (L : List Int) (p j : Nat) (h1 : 1 ≤ j) (h2 : j < lead (at0 L p)) (h : cont (at0 L (p + j)) = false) : size L p = 0 := by
  unfold size
  rw [conts_not L p _ j (lead_le _) h1 h2 h]
  split <;> simp

theorem size_one (L : List Int) (p : Nat) (h0 : p + lead (at0 L p) ≤ L.length) (h : lead (at0 L p) ≤ 1) : size L p = lead (at0 L p) := by
  unfold size
  rw [if_neg (by omega), conts_of L p _ (by intro j h1 h2; omega), if_pos rfl, if_pos h]

theorem size_pair (L : List Int) (p : Nat) (h0 : p + lead (at0 L p) ≤ L.length) (h1 : 1 < lead (at0 L p)) (h : ∀ j, 1 ≤ j → j < lead (at0 L p) → cont (at0 L (p + j)) = true) :
    size L p = if pair (at0 L p) (at0 L (p + 1)) then lead (at0 L p) else 0 := by
  unfold size
  rw [if_neg (by omega), conts_of L p _ h, if_pos rfl, if_neg (by omega)]

theorem size_le (L : List Int) (p : Nat) : p + size L p ≤ L.length ∨ size L p = 0 := by
  unfold size
  by_cases h : L.length < p + lead (at0 L p)
  · rw [if_pos h]; exact Or.inr rfl
  · rw [if_neg h]
    by_cases h2 : conts L p (lead (at0 L p)) = true
    · rw [if_pos h2]
      by_cases h3 : lead (at0 L p) ≤ 1
      · rw [if_pos h3]; omega
      · rw [if_neg h3]
        by_cases h4 : pair (at0 L p) (at0 L (p + 1)) = true
        · rw [if_pos h4]; omega
        · rw [if_neg h4]; omega
    · rw [if_neg h2]; omega

theorem size_le4 (L : List Int) (p : Nat) : size L p ≤ 4 := by
  have := lead_le (at0 L p)
  unfold size
  repeat' split
  all_goals omega

/-- The text from p on: at most k characters, and no more. -/
def textFrom (L : List Int) : Nat → Nat → Bool
  | 0, p => decide (p = L.length)
  | k + 1, p => if p < L.length then (if size L p = 0 then false else textFrom L k (p + size L p)) else decide (p = L.length)

def isText (L : List Int) : Bool := textFrom L 6 0

theorem textFrom_end (L : List Int) (k p : Nat) (h : ¬ p < L.length) : textFrom L k p = decide (p = L.length) := by
  cases k with
  | zero => rfl
  | succ k => unfold textFrom; rw [if_neg h]

theorem textFrom_bad (L : List Int) (k p : Nat) (hk : 0 < k) (h : p < L.length) (hs : size L p = 0) : textFrom L k p = false := by
  cases k with
  | zero => omega
  | succ k => unfold textFrom; rw [if_pos h, if_pos hs]

theorem textFrom_next (L : List Int) (k p : Nat) (h : p < L.length) (hs : size L p ≠ 0) : textFrom L (k + 1) p = textFrom L k (p + size L p) := by
  conv => lhs; unfold textFrom
  rw [if_pos h, if_neg hs]

theorem textFrom_len (L : List Int) : ∀ (k p : Nat), textFrom L k p = true → p ≤ L.length ∧ L.length ≤ p + 4 * k
  | 0, p, h => by
      have : p = L.length := by simpa [textFrom] using h
      omega
  | k + 1, p, h => by
      by_cases hp : p < L.length
      · by_cases hs : size L p = 0
        · rw [textFrom_bad L _ p (by omega) hp hs] at h; cases h
        · rw [textFrom_next L k p hp hs] at h
          have := textFrom_len L k _ h
          have := size_le4 L p
          omega
      · rw [textFrom_end L _ p hp] at h
        have : p = L.length := by simpa using h
        omega

theorem isText_len {L : List Int} (h : isText L = true) : L.length ≤ 24 := by
  have := textFrom_len L 6 0 h
  omega

/-- A node that is right by itself. -/
def okNd (x : Nd) : Bool := decide (1 ≤ x.1 ∧ x.1 ≤ 16) && isText (bts x.2.2)

/-- Has one of these the Id or the Key of x? -/
def clash (l : List Nd) (x : Nd) : Bool := l.any fun y => decide (y.1 = x.1 ∨ y.2.1 = x.2.1)

def treeFrom (pre : List Nd) : List Nd → Bool
  | [] => true
  | x :: r => okNd x && !clash pre x && treeFrom (pre ++ [x]) r

def isTree (l : List Nd) : Bool := decide (l.length ≤ 16) && treeFrom [] l

/-- The bytes of a node. -/
def encN (x : Nd) : List Int := [x.1, x.2.1 / 256, x.2.1 % 256, (x.2.2.size : Int) % 256] ++ bts x.2.2

def bytesOf : List Nd → List Int
  | [] => []
  | x :: r => encN x ++ bytesOf r

/-- Numbers that a node can have in Go. -/
def inGo (x : Nd) : Prop := 0 ≤ x.1 ∧ x.1 ≤ 255 ∧ 0 ≤ x.2.1 ∧ x.2.1 ≤ 65535

theorem bytesOf_snoc (l : List Nd) (x : Nd) : bytesOf (l ++ [x]) = bytesOf l ++ encN x := by
  induction l with
  | nil => simp [bytesOf]
  | cons y r ih => simp [bytesOf, ih]

theorem encN_length (x : Nd) : (encN x).length = 4 + x.2.2.size := by simp [encN, bts_length]; omega

theorem encN_range (x : Nd) (h : inGo x) : ∀ y ∈ encN x, 0 ≤ y ∧ y ≤ 255 := by
  intro y hy
  obtain ⟨h0, h1, h2, h3⟩ := h
  simp only [encN, List.mem_append, List.mem_cons, List.not_mem_nil, or_false] at hy
  rcases hy with (rfl | rfl | rfl | rfl) | hy
  · omega
  · omega
  · omega
  · omega
  · exact bts_range _ y hy

theorem bytesOf_range (l : List Nd) (h : ∀ x ∈ l, inGo x) : ∀ y ∈ bytesOf l, 0 ≤ y ∧ y ≤ 255 := by
  induction l with
  | nil => intro y hy; simp [bytesOf] at hy
  | cons x r ih =>
    intro y hy
    simp only [bytesOf, List.mem_append] at hy
    rcases hy with hy | hy
    · exact encN_range x (h x (by simp)) y hy
    · exact ih (fun z hz => h z (by simp [hz])) y hy

/-- The same bytes, the same nodes. -/
theorem bytesOf_inj : ∀ (a b : List Nd), (∀ x ∈ a, inGo x ∧ x.2.2.size ≤ 255) → (∀ x ∈ b, inGo x ∧ x.2.2.size ≤ 255) → bytesOf a = bytesOf b → a = b
  | [], [], _, _, _ => rfl
  | [], y :: b, _, _, h => by simp [bytesOf, encN] at h
  | x :: a, [], _, _, h => by simp [bytesOf, encN] at h
  | x :: a, y :: b, ha, hb, h => by
      obtain ⟨x1, x2, x3⟩ := x
      obtain ⟨y1, y2, y3⟩ := y
      obtain ⟨⟨_, _, p2, p3⟩, p4⟩ := ha (x1, x2, x3) (by simp)
      obtain ⟨⟨_, _, q2, q3⟩, q4⟩ := hb (y1, y2, y3) (by simp)
      simp only at p2 p3 p4 q2 q3 q4
      simp only [bytesOf, encN, List.cons_append, List.nil_append, List.cons.injEq] at h
      obtain ⟨e1, e2, e3, e4, e5⟩ := h
      have hs : x3.size = y3.size := by omega
      have hl : (bts x3).length = (bts y3).length := by rw [bts_length, bts_length, hs]
      obtain ⟨e6, e7⟩ := List.append_inj e5 hl
      have hk : x2 = y2 := by omega
      rw [bytesOf_inj a b (fun z hz => ha z (by simp [hz])) (fun z hz => hb z (by simp [hz])) e7, bts_inj e6, e1, hk]

theorem treeFrom_snoc (pre : List Nd) (l : List Nd) : ∀ x ∈ l, treeFrom pre l = true → okNd x = true := by
  induction l generalizing pre with
  | nil => intro x hx; simp at hx
  | cons y r ih =>
    intro x hx h
    simp only [treeFrom, Bool.and_eq_true] at h
    rcases List.mem_cons.1 hx with rfl | hx
    · exact h.1.1
    · exact ih _ x hx h.2

theorem isTree_ok {l : List Nd} (h : isTree l = true) : ∀ x ∈ l, okNd x = true := by
  simp only [isTree, Bool.and_eq_true] at h
  exact fun x hx => treeFrom_snoc [] l x hx h.2

theorem okNd_size {x : Nd} (h : okNd x = true) : x.2.2.size ≤ 24 := by
  simp only [okNd, Bool.and_eq_true] at h
  have := isText_len h.2
  rwa [bts_length] at this

end T
end Go.Proofs.Ytcaeeaiodbjacaa
