/-
  Marks: exclusive-or bit by bit, by halves.
-/
import Derived.Test.YtcaeeaiodbjacaaTreeM
namespace Go.Proofs.Ytcaeeaiodbjacaa
namespace T

theorem xor_halves (a b : Nat) : (a + b) % 2 + 2 * (a / 2 ^^^ b / 2) = a ^^^ b := by
  have h1 : (a ^^^ b) / 2 = a / 2 ^^^ b / 2 := Nat.xor_div_two
  have h2 : (a ^^^ b) % 2 = (a + b) % 2 := by
    have := @Nat.xor_mod_two_eq_one a b
    by_cases h : (a ^^^ b) % 2 = 1
    · have h3 := this.1 h
      omega
    · have h3 : ¬ ¬ (a % 2 = 1 ↔ b % 2 = 1) := fun h4 => h (this.2 h4)
      omega
  omega

theorem xor_byte (h c : Nat) (hc : c < 256) : h / 256 * 256 + (h % 256 ^^^ c) = h ^^^ c := by
  have h1 : (h ^^^ c) % 2 ^ 8 = h % 2 ^ 8 ^^^ c % 2 ^ 8 := Nat.xor_mod_two_pow
  have h2 : (h ^^^ c) / 2 ^ 8 = h / 2 ^ 8 ^^^ c / 2 ^ 8 := Nat.xor_div_two_pow
  rw [Nat.mod_eq_of_lt (show c < 2 ^ 8 by omega)] at h1
  rw [Nat.div_eq_of_lt (show c < 2 ^ 8 by omega), Nat.xor_zero] at h2
  rw [show (2 : Nat) ^ 8 = 256 from rfl] at h1 h2
  omega

theorem xor_lt (h c : Nat) (hh : h < 4294967296) (hc : c < 256) : h ^^^ c < 4294967296 :=
  Nat.xor_lt_two_pow (n := 32) hh (by omega)

/-- A mark's next step. -/
def markStep (h c : Nat) : Nat := (h ^^^ c) * 16777619 % 4294967296

def markFrom (h : Nat) : List Nat → Nat
  | [] => h
  | c :: r => markFrom (markStep h c) r

/-- The bytes of a text, as numbers from 0 on. -/
def nats (s : ByteArray) : List Nat := s.data.toList.map fun b => b.toNat

def markOf (s : ByteArray) : Nat := markFrom 2166136261 (nats s)

theorem markFrom_snoc (h : Nat) (l : List Nat) (c : Nat) : markFrom h (l ++ [c]) = markStep (markFrom h l) c := by
  induction l generalizing h with
  | nil => rfl
  | cons x r ih => exact ih _

theorem markStep_lt (h c : Nat) : markStep h c < 4294967296 := Nat.mod_lt _ (by decide)

theorem markFrom_lt (h : Nat) (l : List Nat) (hh : h < 4294967296) : markFrom h l < 4294967296 := by
  induction l generalizing h with
  | nil => exact hh
  | cons x r ih => exact ih _ (markStep_lt _ _)

theorem nats_length (s : ByteArray) : (nats s).length = s.size := by simp [nats]

theorem nats_at (s : ByteArray) (i : Nat) (h : i < s.size) : (nats s)[i]? = some (s[i]).toNat := by
  have h2 : i < s.data.toList.length := by simpa using h
  simp only [nats, List.getElem?_map, List.getElem?_eq_getElem h2, Option.map_some]
  rfl

theorem take_snoc {α : Type} (l : List α) (i : Nat) (x : α) (h : l[i]? = some x) : l.take (i + 1) = l.take i ++ [x] := by
  rw [List.take_add_one, h]
  rfl

theorem mark_take (s : ByteArray) (i : Nat) (h : i < s.size) : markFrom 2166136261 ((nats s).take (i + 1)) = markStep (markFrom 2166136261 ((nats s).take i)) (s[i]).toNat := by
  rw [take_snoc _ _ _ (nats_at s i h), markFrom_snoc]

theorem mark_all (s : ByteArray) (i : Nat) (h : ¬ i < s.size) : markFrom 2166136261 ((nats s).take i) = markOf s := by
  rw [List.take_of_length_le (by rw [nats_length]; omega)]
  rfl

end T
end Go.Proofs.Ytcaeeaiodbjacaa
