/-
  What bounded counts: plain mathematics.
-/
import Derived.Test.YtidaflmmldefcaaInvH
import Derived.Test.YtidaflmmldefcaaCnt
namespace Go.Proofs.Ytidaflmmldefcaa
open Go.RowKit
set_option linter.unusedVariables false

theorem linked_all : ∀ (p q : Fin 16) (k : Fin 4), bitOf ((p : Nat) : Int) ((k : Nat) : Int) = true → bitOf ((q : Nat) : Int) ((k : Nat) : Int) = true → bits BinOp.and IntKind.u8 ((p : Nat) : Int) ((q : Nat) : Int) ≠ 0 := by decide +kernel
theorem linked_bits {p q : Int} (hp : 0 ≤ p ∧ p < 16) (hq : 0 ≤ q ∧ q < 16) (h : linked p q) : bits BinOp.and IntKind.u8 p q ≠ 0 := by
  obtain ⟨k, hk, h1, h2⟩ := h
  obtain ⟨a, rfl⟩ := Int.eq_ofNat_of_zero_le hp.1
  obtain ⟨b, rfl⟩ := Int.eq_ofNat_of_zero_le hq.1
  obtain ⟨c, rfl⟩ := Int.eq_ofNat_of_zero_le hk.1
  exact linked_all ⟨a, by omega⟩ ⟨b, by omega⟩ ⟨c, by omega⟩ h1 h2

theorem countP_same {p q : Ev → Bool} : ∀ {l : List Ev}, (∀ e ∈ l, p e = q e) → l.countP p = l.countP q
  | [], _ => rfl
  | e :: r, h => by
    rw [List.countP_cons, List.countP_cons, countP_same (fun y hy => h y (by simp [hy])), h e (by simp)]

section
variable {ms : List Mf} {i lim : Nat} {x : Tn}
theorem TnI.ev0 (h : TnI ms i lim x) : x.box.countP (isEv 0 0) = x.box.countP isStart := by
  refine countP_same fun e he => ?_
  rcases (h.box e he).2 with ⟨h1, h2⟩ | ⟨h1, h2⟩ | ⟨h1, _⟩
  · simp [isEv, isStart, h1, h2]
  · simp [isEv, isStart, h1]
  · simp [isEv, isStart, h1]
theorem TnI.ev1 (h : TnI ms i lim x) : x.box.countP (isEv 1 0) = x.box.countP isClick := by
  refine countP_same fun e he => ?_
  rcases (h.box e he).2 with ⟨h1, h2⟩ | ⟨h1, h2⟩ | ⟨h1, _⟩
  · simp [isEv, isClick, h1]
  · simp [isEv, isClick, h1, h2]
  · simp [isEv, isClick, h1]
theorem TnI.ev2 (h : TnI ms i lim x) {s : Nat} (hs : x.box.countP (isEv 2 ((s : Int) + 1)) ≠ 0) : s ≠ i ∧ ∃ m, ms[s]? = some m ∧ linked m.pub x.sub := by
  have hp : 0 < x.box.countP (isEv 2 ((s : Int) + 1)) := by omega
  obtain ⟨e, he, h2⟩ := List.countP_pos_iff.1 hp
  simp only [isEv, Bool.and_eq_true, beq_iff_eq] at h2
  rcases (h.box e he).2 with ⟨h1, _⟩ | ⟨h1, _⟩ | ⟨h1, s', m, m', hm, hm', hb, hne, hl⟩
  · omega
  · omega
  · have : s' = s := by omega
    subst this
    have e2 : x.mf = m' := by
      have q := h.mf
      rw [hm'] at q
      exact (Option.some.inj q).symm
    subst e2
    exact ⟨hne, m, hm, hl⟩
theorem TnI.sum (h : TnI ms i lim x) : x.box.length = x.box.countP (isEv 0 0) + x.box.countP (isEv 1 0) + sumTo (fun s => x.box.countP (isEv 2 ((s : Int) + 1))) ms.length := by
  rw [h.ev0, h.ev1]
  exact box_sum ms i x.box h.box
end
end Go.Proofs.Ytidaflmmldefcaa
