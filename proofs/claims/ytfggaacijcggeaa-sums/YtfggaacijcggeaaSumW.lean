/-
  The walk of the statements' own function sum; a run of eight instructions, reckoned.
-/
import Derived.Test.YtfggaacijcggeaaRunA
import Derived.Test.YtfggaacijcggeaaPick
namespace Go.Proofs.Ytfggaacijcggeaa
open Go.RowKit
set_option linter.unusedVariables false

theorem ret_sum {a b : Int} (h : a = b) (x : Bool) : Ending.returned (.tuple #[.int .u16 a, .bool x]) = .returned (.tuple #[.int .u16 b, .bool x]) := by rw [h]

theorem and15 (b : Int) (h0 : 0 ≤ b) (h1 : b ≤ 65535) : bits .and .u16 b 15 = b % 16 := by
  rw [u16_and b 15 h0 (by omega) (by decide) (by decide)]
  rw [show (15 : Int).toNat = 15 from rfl, nat_mask4]
  omega

set_option maxHeartbeats 400000 in
theorem sum_4 (a b : Int) (w : World) (ha : 0 ≤ a) (ha2 : a ≤ 65535) (hb : 0 ≤ b) (hb2 : b ≤ 65535) : Calls Try.prog 21 #[.int .u8 4, .int .u16 a, .int .u16 b] w fun e w' => e = .returned (.tuple #[.int .u16 (H.combine 4 a b), .bool true]) ∧ w = w' := by
  have HE : Hid (IntKind.u16.wrap (a + b) = H.combine 4 a b) := by
    unfold Hid; rw [IntKind.wrap_u16]; rfl
  go_enter Try.func21, Try.ntmps21
  go_wp2
  go_ret2
  exact ⟨ret_sum HE.out _, rfl⟩

set_option maxHeartbeats 400000 in
theorem sum_5 (a b : Int) (w : World) (ha : 0 ≤ a) (ha2 : a ≤ 65535) (hb : 0 ≤ b) (hb2 : b ≤ 65535) : Calls Try.prog 21 #[.int .u8 5, .int .u16 a, .int .u16 b] w fun e w' => e = .returned (.tuple #[.int .u16 (H.combine 5 a b), .bool true]) ∧ w = w' := by
  have HE : Hid (IntKind.u16.wrap (a - b) = H.combine 5 a b) := by
    unfold Hid; rw [IntKind.wrap_u16]; rfl
  go_enter Try.func21, Try.ntmps21
  go_wp2
  go_ret2
  exact ⟨ret_sum HE.out _, rfl⟩

set_option maxHeartbeats 400000 in
theorem sum_6 (a b : Int) (w : World) (ha : 0 ≤ a) (ha2 : a ≤ 65535) (hb : 0 ≤ b) (hb2 : b ≤ 65535) : Calls Try.prog 21 #[.int .u8 6, .int .u16 a, .int .u16 b] w fun e w' => e = .returned (.tuple #[.int .u16 (H.combine 6 a b), .bool true]) ∧ w = w' := by
  have HE : Hid (IntKind.u16.wrap (a * b) = H.combine 6 a b) := by
    unfold Hid; rw [IntKind.wrap_u16]; rfl
  go_enter Try.func21, Try.ntmps21
  go_wp2
  go_ret2
  exact ⟨ret_sum HE.out _, rfl⟩

set_option maxHeartbeats 400000 in
theorem sum_8 (a b : Int) (w : World) (ha : 0 ≤ a) (ha2 : a ≤ 65535) (hb : 0 ≤ b) (hb2 : b ≤ 65535) : Calls Try.prog 21 #[.int .u8 8, .int .u16 a, .int .u16 b] w fun e w' => e = .returned (.tuple #[.int .u16 (H.combine 8 a b), .bool true]) ∧ w = w' := by
  have HE : Hid (bits BinOp.and IntKind.u16 a b = H.combine 8 a b) := by
    unfold Hid; rw [u16_and a b ha (by omega) hb (by omega)]; rfl
  go_enter Try.func21, Try.ntmps21
  go_wp2
  go_ret2
  exact ⟨ret_sum HE.out _, rfl⟩

set_option maxHeartbeats 400000 in
theorem sum_9 (a b : Int) (w : World) (ha : 0 ≤ a) (ha2 : a ≤ 65535) (hb : 0 ≤ b) (hb2 : b ≤ 65535) : Calls Try.prog 21 #[.int .u8 9, .int .u16 a, .int .u16 b] w fun e w' => e = .returned (.tuple #[.int .u16 (H.combine 9 a b), .bool true]) ∧ w = w' := by
  have HE : Hid (bits BinOp.xor IntKind.u16 a b = H.combine 9 a b) := by
    unfold Hid; rw [u16_xor a b ha (by omega) hb (by omega)]; rfl
  go_enter Try.func21, Try.ntmps21
  go_wp2
  go_ret2
  exact ⟨ret_sum HE.out _, rfl⟩

set_option maxHeartbeats 400000 in
theorem sum_10 (a b : Int) (w : World) (ha : 0 ≤ a) (ha2 : a ≤ 65535) (hb : 0 ≤ b) (hb2 : b ≤ 65535) : Calls Try.prog 21 #[.int .u8 10, .int .u16 a, .int .u16 b] w fun e w' => e = .returned (.tuple #[.int .u16 (H.combine 10 a b), .bool true]) ∧ w = w' := by
  have HE : Hid (IntKind.u16.wrap (a * 2 ^ (b % 16).toNat) = H.combine 10 a b) := by
    unfold Hid; rw [IntKind.wrap_u16]; rfl
  have h15 := and15 b hb hb2
  have hm0 : 0 ≤ b % 16 := by omega
  have hm1 : b % 16 < 16 := by omega
  go_enter Try.func21, Try.ntmps21
  go_wp2
  go_ret2
  exact ⟨ret_sum HE.out _, rfl⟩

set_option maxHeartbeats 400000 in
theorem sum_11 (a b : Int) (w : World) (ha : 0 ≤ a) (ha2 : a ≤ 65535) (hb : 0 ≤ b) (hb2 : b ≤ 65535) : Calls Try.prog 21 #[.int .u8 11, .int .u16 a, .int .u16 b] w fun e w' => e = .returned (.tuple #[.int .u16 (H.combine 11 a b), .bool true]) ∧ w = w' := by
  have HE : Hid (a / 2 ^ (b % 16).toNat = H.combine 11 a b) := by
    unfold Hid; rfl
  have h15 := and15 b hb hb2
  have hm0 : 0 ≤ b % 16 := by omega
  have hm1 : b % 16 < 16 := by omega
  go_enter Try.func21, Try.ntmps21
  go_wp2
  go_ret2
  exact ⟨ret_sum HE.out _, rfl⟩

set_option maxHeartbeats 400000 in
theorem sum_12 (a b : Int) (w : World) (ha : 0 ≤ a) (ha2 : a ≤ 65535) (hb : 0 ≤ b) (hb2 : b ≤ 65535) : Calls Try.prog 21 #[.int .u8 12, .int .u16 a, .int .u16 b] w fun e w' => e = .returned (.tuple #[.int .u16 (H.combine 12 a b), .bool true]) ∧ w = w' := by
  have HE : Hid (IntKind.u16.wrap (IntKind.i16.wrap a / 2 ^ (b % 16).toNat) = H.combine 12 a b) := by
    unfold Hid; rw [IntKind.wrap_u16, wrap_s16 a ha ha2]; rfl
  have h15 := and15 b hb hb2
  have hm0 : 0 ≤ b % 16 := by omega
  have hm1 : b % 16 < 16 := by omega
  go_enter Try.func21, Try.ntmps21
  go_wp2
  go_ret2
  exact ⟨ret_sum HE.out _, rfl⟩

set_option maxHeartbeats 400000 in
theorem sum_13 (a b : Int) (w : World) (ha : 0 ≤ a) (ha2 : a ≤ 65535) (hb : 0 ≤ b) (hb2 : b ≤ 65535) : Calls Try.prog 21 #[.int .u8 13, .int .u16 a, .int .u16 b] w fun e w' => e = .returned (.tuple #[.int .u16 (H.combine 13 a b), .bool true]) ∧ w = w' := by
  by_cases h : a < b
  · have HE : Hid (1 = H.combine 13 a b) := by
      unfold Hid; show 1 = H.yes (decide (a < b)); rw [decide_eq_true h]; rfl
    go_enter Try.func21, Try.ntmps21
    go_wp2
    go_ret2
    exact ⟨ret_sum HE.out _, rfl⟩
  · have HE : Hid (0 = H.combine 13 a b) := by
      unfold Hid; show 0 = H.yes (decide (a < b)); rw [decide_eq_false h]; rfl
    have hb0 : decide (a < b) = false := by simpa using h
    clear h
    go_enter Try.func21, Try.ntmps21
    go_wp2
    go_ret2
    exact ⟨ret_sum HE.out _, rfl⟩

set_option maxHeartbeats 400000 in
theorem sum_14 (a b : Int) (w : World) (ha : 0 ≤ a) (ha2 : a ≤ 65535) (hb : 0 ≤ b) (hb2 : b ≤ 65535) : Calls Try.prog 21 #[.int .u8 14, .int .u16 a, .int .u16 b] w fun e w' => e = .returned (.tuple #[.int .u16 (H.combine 14 a b), .bool true]) ∧ w = w' := by
  by_cases h : H.s16 a < H.s16 b
  · have HE : Hid (1 = H.combine 14 a b) := by
      unfold Hid; show 1 = H.yes (decide (H.s16 a < H.s16 b)); rw [decide_eq_true h]; rfl
    have e1 := wrap_s16 a ha ha2
    have e2 := wrap_s16 b hb hb2
    go_enter Try.func21, Try.ntmps21
    go_wp2
    go_ret2
    exact ⟨ret_sum HE.out _, rfl⟩
  · have HE : Hid (0 = H.combine 14 a b) := by
      unfold Hid; show 0 = H.yes (decide (H.s16 a < H.s16 b)); rw [decide_eq_false h]; rfl
    have e1 := wrap_s16 a ha ha2
    have e2 := wrap_s16 b hb hb2
    have hb0 : decide (H.s16 a < H.s16 b) = false := by simpa using h
    clear h
    go_enter Try.func21, Try.ntmps21
    go_wp2
    go_ret2
    exact ⟨ret_sum HE.out _, rfl⟩

set_option maxHeartbeats 400000 in
theorem sum_15 (a b : Int) (w : World) (ha : 0 ≤ a) (ha2 : a ≤ 65535) (hb : 0 ≤ b) (hb2 : b ≤ 65535) : Calls Try.prog 21 #[.int .u8 15, .int .u16 a, .int .u16 b] w fun e w' => e = .returned (.tuple #[.int .u16 (H.combine 15 a b), .bool true]) ∧ w = w' := by
  by_cases h : a = b
  · have HE : Hid (1 = H.combine 15 a b) := by
      unfold Hid; show 1 = H.yes (decide (a = b)); rw [decide_eq_true h]; rfl
    subst h
    go_enter Try.func21, Try.ntmps21
    go_wp2
    go_ret2
    exact ⟨ret_sum HE.out _, rfl⟩
  · have HE : Hid (0 = H.combine 15 a b) := by
      unfold Hid; show 0 = H.yes (decide (a = b)); rw [decide_eq_false h]; rfl
    have hb0 : (a == b) = false := by simpa using h
    clear h
    go_enter Try.func21, Try.ntmps21
    go_wp2
    go_ret2
    exact ⟨ret_sum HE.out _, rfl⟩

set_option maxHeartbeats 400000 in
theorem sum_7z (a : Int) (w : World) : Calls Try.prog 21 #[.int .u8 7, .int .u16 a, .int .u16 0] w fun e w' => e = .returned (.tuple #[.int .u16 0, .bool false]) ∧ w = w' := by
  go_enter Try.func21, Try.ntmps21
  go_wp2
  go_ret2
  exact ⟨rfl, rfl⟩

set_option maxHeartbeats 400000 in
theorem sum_7 (a b : Int) (w : World) (ha : 0 ≤ a) (ha2 : a ≤ 65535) (hb : 0 < b) (hb2 : b ≤ 65535) : Calls Try.prog 21 #[.int .u8 7, .int .u16 a, .int .u16 b] w fun e w' => e = .returned (.tuple #[.int .u16 (a / b), .bool true]) ∧ w = w' := by
  have hz : (b == 0) = false := by rw [beq_eq_false_iff_ne]; omega
  have h1 := Int.ediv_nonneg ha (Int.le_of_lt hb)
  have h2 := Int.ediv_le_self b ha
  have hqe : IntKind.u16.wrap (a.tdiv b) = a / b := by rw [IntKind.wrap_u16, Int.tdiv_eq_ediv_of_nonneg ha]; omega
  clear h1 h2
  go_enter Try.func21, Try.ntmps21
  go_wp2
  go_ret2
  exact ⟨rfl, rfl⟩

/-- What an Op makes of two numbers, and whether it is fine. -/
def sumV (op a b : Int) : Int := if op = 7 then (if b = 0 then 0 else a / b) else H.combine op a b
def sumOk (op b : Int) : Bool := !(decide (op = 7 ∧ b = 0))

theorem sum_any (op a b : Int) (w : World) (h4 : 4 ≤ op) (h15 : op ≤ 15) (ha : 0 ≤ a) (ha2 : a ≤ 65535) (hb : 0 ≤ b) (hb2 : b ≤ 65535) : Calls Try.prog 21 #[.int .u8 op, .int .u16 a, .int .u16 b] w fun e w' => e = .returned (.tuple #[.int .u16 (sumV op a b), .bool (sumOk op b)]) ∧ w = w' := by
  by_cases h7 : op = 7
  · subst h7
    by_cases hz : b = 0
    · subst hz; exact sum_7z a w
    · have e1 : sumV 7 a b = a / b := by unfold sumV; rw [if_pos rfl, if_neg hz]
      have e2 : sumOk 7 b = true := by simp [sumOk, hz]
      rw [e1, e2]
      exact sum_7 a b w ha ha2 (by omega) hb2
  · have e1 : sumV op a b = H.combine op a b := by unfold sumV; rw [if_neg h7]
    have e2 : sumOk op b = true := by simp [sumOk, h7]
    rw [e1, e2]
    rcases (show op = 4 ∨ op = 5 ∨ op = 6 ∨ op = 8 ∨ op = 9 ∨ op = 10 ∨ op = 11 ∨ op = 12 ∨ op = 13 ∨ op = 14 ∨ op = 15 by omega) with rfl | rfl | rfl | rfl | rfl | rfl | rfl | rfl | rfl | rfl | rfl
    · exact sum_4 a b w ha ha2 hb hb2
    · exact sum_5 a b w ha ha2 hb hb2
    · exact sum_6 a b w ha ha2 hb hb2
    · exact sum_8 a b w ha ha2 hb hb2
    · exact sum_9 a b w ha ha2 hb hb2
    · exact sum_10 a b w ha ha2 hb hb2
    · exact sum_11 a b w ha ha2 hb hb2
    · exact sum_12 a b w ha ha2 hb hb2
    · exact sum_13 a b w ha ha2 hb hb2
    · exact sum_14 a b w ha ha2 hb hb2
    · exact sum_15 a b w ha ha2 hb hb2

/-- The program of Sums. -/
def prog8 (o a b : Int) : List (Int × Int) := [(1, a), (1, b), (o, 0), (3, 3), (1, a), (23, 0), (1, b), (24, 0)]
def I0 : H.Inp := { fuel := 8, what := 0, arg := 0, src := 0, route := 0, draws := [] }
def zeros : List Int := [0, 0, 0, 0, 0, 0, 0, 0]

theorem doOp_sum (o : Int) (h4 : 4 ≤ o) (h15 : o ≤ 15) (I : H.Inp) (M : H.Mach) : H.doOp o 0 I M = H.reckon o M := by
  unfold H.doOp
  rw [if_neg (by omega), if_neg (by omega), if_neg (by omega), if_neg (by omega), if_neg (by omega), if_neg (by omega), if_neg (by omega), if_neg (by omega), if_neg (by omega), if_neg (by omega), if_neg (by omega), if_neg (by omega), if_neg (by omega), if_neg (by omega), if_neg (by omega), if_neg (by omega)]

theorem doOp_push (a : Int) (I : H.Inp) (M : H.Mach) : H.doOp 1 a I M = H.push a M := rfl

def mk8 (st cells : List Int) (text : ByteArray) (chars : Nat) (shows : List (Int × ByteArray)) (k : Nat) (ft : Int) : H.Mach :=
  { st := st, cells := cells, text := text, chars := chars, shows := shows, sends := [], next := k, steps := k, draws := 0, ended := false, fault := ft }

theorem adv1 (o a b : Int) : H.adv (prog8 o a b) I0 (H.mach0 zeros) = mk8 [a] zeros ⟨#[]⟩ 0 [] 1 0 := rfl
theorem adv2 (o a b : Int) : H.adv (prog8 o a b) I0 (mk8 [a] zeros ⟨#[]⟩ 0 [] 1 0) = mk8 [a, b] zeros ⟨#[]⟩ 0 [] 2 0 := rfl
theorem adv3 (o a b : Int) (h4 : 4 ≤ o) (h15 : o ≤ 15) : H.adv (prog8 o a b) I0 (mk8 [a, b] zeros ⟨#[]⟩ 0 [] 2 0) = if o = 7 ∧ b = 0 then mk8 [] zeros ⟨#[]⟩ 0 [] 3 3 else mk8 [sumV o a b] zeros ⟨#[]⟩ 0 [] 3 0 := by
  have e : H.adv (prog8 o a b) I0 (mk8 [a, b] zeros ⟨#[]⟩ 0 [] 2 0) = H.doOp o 0 I0 (mk8 [a, b] zeros ⟨#[]⟩ 0 [] 3 0) := rfl
  rw [e, doOp_sum o h4 h15]
  by_cases h7 : o = 7
  · subst h7
    by_cases hz : b = 0
    · rw [if_pos ⟨rfl, hz⟩, reckon_eq2 (M := mk8 [a, b] zeros ⟨#[]⟩ 0 [] 3 0) rfl hz]; rfl
    · rw [if_neg (by intro h; exact hz h.2), reckon_eq3 (M := mk8 [a, b] zeros ⟨#[]⟩ 0 [] 3 0) rfl hz]
      have : sumV 7 a b = a / b := by unfold sumV; rw [if_pos rfl, if_neg hz]
      rw [this]; rfl
  · rw [if_neg (by intro h; exact h7 h.1), reckon_eq1 (M := mk8 [a, b] zeros ⟨#[]⟩ 0 [] 3 0) rfl h7]
    have : sumV o a b = H.combine o a b := by unfold sumV; rw [if_neg h7]
    rw [this]; rfl
theorem adv4 (o a b r : Int) : H.adv (prog8 o a b) I0 (mk8 [r] zeros ⟨#[]⟩ 0 [] 3 0) = mk8 [] [0, 0, 0, r, 0, 0, 0, 0] ⟨#[]⟩ 0 [] 4 0 := rfl
theorem adv5 (o a b r : Int) : H.adv (prog8 o a b) I0 (mk8 [] [0, 0, 0, r, 0, 0, 0, 0] ⟨#[]⟩ 0 [] 4 0) = mk8 [a] [0, 0, 0, r, 0, 0, 0, 0] ⟨#[]⟩ 0 [] 5 0 := rfl
theorem adv6 (o a b r : Int) : H.adv (prog8 o a b) I0 (mk8 [a] [0, 0, 0, r, 0, 0, 0, 0] ⟨#[]⟩ 0 [] 5 0) = mk8 [] [0, 0, 0, r, 0, 0, 0, 0] (⟨#[]⟩ ++ Utf8.encode a) 1 [] 6 0 := rfl
theorem adv7 (o a b r : Int) (t : ByteArray) : H.adv (prog8 o a b) I0 (mk8 [] [0, 0, 0, r, 0, 0, 0, 0] t 1 [] 6 0) = mk8 [b] [0, 0, 0, r, 0, 0, 0, 0] t 1 [] 7 0 := rfl
theorem adv8 (o a b r : Int) (t : ByteArray) : H.adv (prog8 o a b) I0 (mk8 [b] [0, 0, 0, r, 0, 0, 0, 0] t 1 [] 7 0) = mk8 [] [0, 0, 0, r, 0, 0, 0, 0] ⟨#[]⟩ 0 [(b, t)] 8 0 := rfl

theorem runM_go {o a b : Int} {r k : Nat} {M M' : H.Mach} (hh : H.halt 8 M = false) (hs : M.steps = k) (hk : k ≠ 8) (ha : H.adv (prog8 o a b) I0 M = M') : H.runM (prog8 o a b) I0 8 (r + 1) M = H.runM (prog8 o a b) I0 8 r M' := by
  rw [runM_step (by exact hh) (by omega), ha]

theorem sums_zero (o a b : Int) (h4 : 4 ≤ o) (h15 : o ≤ 15) (hz : o = 7 ∧ b = 0) : H.runM (prog8 o a b) I0 8 9 (H.mach0 zeros) = mk8 [] zeros ⟨#[]⟩ 0 [] 3 3 := by
  rw [runM_go (k := 0) rfl rfl (by decide) (adv1 o a b), runM_go (k := 1) rfl rfl (by decide) (adv2 o a b), runM_go (k := 2) rfl rfl (by decide) (adv3 o a b h4 h15), if_pos hz]
  exact runM_halt rfl

theorem sums_fine (o a b : Int) (h4 : 4 ≤ o) (h15 : o ≤ 15) (hz : ¬ (o = 7 ∧ b = 0)) : H.runM (prog8 o a b) I0 8 9 (H.mach0 zeros) = mk8 [] [0, 0, 0, sumV o a b, 0, 0, 0, 0] ⟨#[]⟩ 0 [(b, ⟨#[]⟩ ++ Utf8.encode a)] 8 0 := by
  rw [runM_go (k := 0) rfl rfl (by decide) (adv1 o a b), runM_go (k := 1) rfl rfl (by decide) (adv2 o a b), runM_go (k := 2) rfl rfl (by decide) (adv3 o a b h4 h15), if_neg hz,
    runM_go (k := 3) rfl rfl (by decide) (adv4 o a b _), runM_go (k := 4) rfl rfl (by decide) (adv5 o a b _), runM_go (k := 5) rfl rfl (by decide) (adv6 o a b _), runM_go (k := 6) rfl rfl (by decide) (adv7 o a b _ _), runM_go (k := 7) rfl rfl (by decide) (adv8 o a b _ _)]
  exact runM_halt rfl

end Go.Proofs.Ytfggaacijcggeaa
