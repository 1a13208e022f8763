/-
  What a step keeps, as plain mathematics; the rounds of a run.
-/
import Derived.Test.YtfggaacijcggeaaStepA
namespace Go.Proofs.Ytfggaacijcggeaa
set_option linter.unusedVariables false

/-- A step lets the count of steps be, draws no more than there is, and is never Spent. -/
structure Kp (dl : Nat) (M M' : H.Mach) : Prop where
  steps : M'.steps = M.steps
  draws : M.draws ≤ dl → M'.draws ≤ dl
  fault : M.fault ≠ 1 → M'.fault ≠ 1

section
variable {n dl : Nat} {M : H.Mach}

theorem Kp.refl : Kp dl M M := ⟨rfl, id, id⟩
theorem Kp.trans {M1 M2 : H.Mach} (h : Kp dl M M1) (k : Kp dl M1 M2) : Kp dl M M2 := ⟨k.steps.trans h.steps, fun x => k.draws (h.draws x), fun x => k.fault (h.fault x)⟩
theorem Kp.push (v : Int) : Kp dl M (H.push v M) := by
  unfold H.push; split
  · exact ⟨rfl, id, fun _ => by simp⟩
  · exact ⟨rfl, id, id⟩
theorem Kp.pop : Kp dl M (H.popM M) := by
  unfold H.popM; split
  · exact ⟨rfl, id, fun _ => by simp⟩
  · exact ⟨rfl, id, id⟩

theorem MOk.fault (h : MOk n M) (x : Int) : MOk n { M with fault := x } := ⟨h.st, h.cells, h.text, h.chars, h.next0, h.next1⟩
theorem InR.snoc {l : List Int} {v : Int} (h : InR l) (h0 : 0 ≤ v) (h1 : v ≤ 65535) : InR (l ++ [v]) := by
  intro x hx
  rcases List.mem_append.1 hx with h' | h'
  · exact h x h'
  · simp at h'; subst h'; exact ⟨h0, h1⟩
theorem MOk.push (h : MOk n M) {v : Int} (h0 : 0 ≤ v) (h1 : v ≤ 65535) : MOk n (H.push v M) := by
  unfold H.push; split
  · exact h.fault 2
  · exact ⟨h.st.snoc h0 h1, h.cells, h.text, h.chars, h.next0, h.next1⟩
theorem MOk.pop (h : MOk n M) : MOk n (H.popM M) := by
  have hp := h.st.pop
  unfold H.popM at *; split
  · exact h.fault 2
  · rename_i hl; rw [if_neg hl] at hp; exact ⟨hp, h.cells, h.text, h.chars, h.next0, h.next1⟩
theorem popM_cells (M : H.Mach) : (H.popM M).cells = M.cells := by unfold H.popM; split <;> rfl

theorem MOk.jumpIf (h : MOk n M) {a : Int} (h0 : 0 ≤ M.next + a) (h1 : M.next + a ≤ n) : MOk n (H.jumpIf a M) := by
  unfold H.jumpIf; split
  · exact h.pop
  · have hp := h.pop
    exact ⟨hp.st, hp.cells, hp.text, hp.chars, by rw [popM_next]; exact h0, by rw [popM_next]; exact h1⟩
theorem Kp.jumpIf (a : Int) : Kp dl M (H.jumpIf a M) := by
  unfold H.jumpIf; split
  · exact Kp.pop
  · have hp : Kp dl M (H.popM M) := Kp.pop
    exact ⟨hp.steps, hp.draws, hp.fault⟩
theorem MOk.draw (h : MOk n M) {ds : List Int} (hd : InR ds) : MOk n (H.draw ds M) := by
  unfold H.draw; split
  · rename_i hl
    have hx : ds.getD M.draws 0 = ds[M.draws] := by simp [List.getD, List.getElem?_eq_getElem hl]
    have hr := hd _ (List.getElem_mem hl)
    have h' : MOk n { M with draws := M.draws + 1 } := ⟨h.st, h.cells, h.text, h.chars, h.next0, h.next1⟩
    exact h'.push (by rw [hx]; exact hr.1) (by rw [hx]; exact hr.2)
  · exact h.push (by decide) (by decide)
theorem Kp.draw (ds : List Int) : Kp ds.length M (H.draw ds M) := by
  unfold H.draw; split
  · rename_i hl
    have h1 : Kp ds.length M { M with draws := M.draws + 1 } := ⟨rfl, fun _ => hl, id⟩
    exact h1.trans (Kp.push _)
  · exact Kp.push _
theorem MOk.double (h : MOk n M) : MOk n (H.double M) := by
  have hv := h.st.popV
  unfold H.double; split
  · exact (h.pop.push hv.1 hv.2).push hv.1 hv.2
  · exact h.pop
theorem Kp.double : Kp dl M (H.double M) := by
  unfold H.double; split
  · exact (Kp.pop.trans (Kp.push _)).trans (Kp.push _)
  · exact Kp.pop

theorem encode_size (y : Int) : (Utf8.encode y).size ≤ 4 := by
  unfold Utf8.encode
  simp only
  repeat' split
  all_goals simp [ByteArray.size]

theorem MOk.char (h : MOk n M) : MOk n (H.char M) := by
  have hp := h.pop
  unfold H.char; split
  · split
    · exact hp.fault 4
    · rename_i h6
      refine ⟨hp.st, hp.cells, ?_, by show M.chars + 1 ≤ 6; omega, hp.next0, hp.next1⟩
      show (M.text ++ Utf8.encode (H.popV M)).size ≤ 4 * (M.chars + 1)
      rw [ByteArray.size_append]
      have := encode_size (H.popV M)
      have := h.text
      omega
  · exact hp
theorem Kp.char : Kp dl M (H.char M) := by
  have hp : Kp dl M (H.popM M) := Kp.pop
  unfold H.char; split
  · split
    · exact ⟨hp.steps, hp.draws, fun _ => by simp⟩
    · exact ⟨hp.steps, hp.draws, hp.fault⟩
  · exact hp
theorem MOk.showM (h : MOk n M) : MOk n (H.showM M) := by
  have hp := h.pop
  unfold H.showM; split
  · split
    · exact hp.fault 5
    · split
      · exact hp.fault 6
      · exact ⟨hp.st, hp.cells, by show (0 : Nat) ≤ _; omega, by show (0 : Nat) ≤ 6; omega, hp.next0, hp.next1⟩
  · exact hp
theorem Kp.showM : Kp dl M (H.showM M) := by
  have hp : Kp dl M (H.popM M) := Kp.pop
  unfold H.showM; split
  · split
    · exact ⟨hp.steps, hp.draws, fun _ => by simp⟩
    · split
      · exact ⟨hp.steps, hp.draws, fun _ => by simp⟩
      · exact ⟨hp.steps, hp.draws, hp.fault⟩
  · exact hp
theorem MOk.send (h : MOk n M) (t : Int) : MOk n (H.send t M) := by
  have hp := h.pop
  unfold H.send; split
  · split
    · exact hp.fault 5
    · exact ⟨hp.st, hp.cells, hp.text, hp.chars, hp.next0, hp.next1⟩
  · exact hp
theorem Kp.send (t : Int) : Kp dl M (H.send t M) := by
  have hp : Kp dl M (H.popM M) := Kp.pop
  unfold H.send; split
  · split
    · exact ⟨hp.steps, hp.draws, fun _ => by simp⟩
    · exact ⟨hp.steps, hp.draws, hp.fault⟩
  · exact hp
theorem MOk.reckon (h : MOk n M) (op : Int) : MOk n (H.reckon op M) := by
  have hp := h.pop.pop
  have hb := h.st.popV
  have ha := h.st.pop.popV
  unfold H.reckon; split
  · split
    · split
      · exact hp.fault 3
      · have h1 := Int.ediv_nonneg ha.1 hb.1
        have h2 := Int.ediv_le_self (H.popV M) ha.1
        exact hp.push h1 (by omega)
    · have hc := comb_range op _ _ ha.1 ha.2 hb.1 hb.2
      exact hp.push hc.1 hc.2
  · exact hp
theorem Kp.reckon (op : Int) : Kp dl M (H.reckon op M) := by
  have hp : Kp dl M (H.popM (H.popM M)) := Kp.pop.trans Kp.pop
  unfold H.reckon; split
  · split
    · split
      · exact ⟨hp.steps, hp.draws, fun _ => by simp⟩
      · exact hp.trans (Kp.push _)
    · exact hp.trans (Kp.push _)
  · exact hp

theorem getD_range {l : List Int} (h : InR l) (i : Nat) : 0 ≤ l.getD i 0 ∧ l.getD i 0 ≤ 65535 := by
  by_cases hi : i < l.length
  · have : l.getD i 0 = l[i] := by simp [List.getD, List.getElem?_eq_getElem hi]
    rw [this]; exact h _ (List.getElem_mem hi)
  · have : l.getD i 0 = 0 := by simp [List.getD, List.getElem?_eq_none (Nat.le_of_not_lt hi)]
    rw [this]; omega

theorem MOk.doOp (h : MOk n M) (v : InV) (hv : v.ok) {ds : List Int} (hd : InR ds) {o a : Int} (ha : H.alone o a = true) (hj : o = 16 ∨ o = 17 → 0 ≤ M.next + a ∧ M.next + a ≤ n) : MOk n (H.doOp o a (v.inp ds) M) := by
  unfold H.doOp
  by_cases e0 : o = 0
  · rw [if_pos e0]
    exact ⟨h.st, h.cells, h.text, h.chars, h.next0, h.next1⟩
  rw [if_neg e0]
  by_cases e1 : o = 1
  · rw [if_pos e1]
    subst e1; simp [H.alone] at ha; exact h.push ha.1 ha.2
  rw [if_neg e1]
  by_cases e2 : o = 2
  · rw [if_pos e2]
    have := getD_range h.cells a.toNat; exact h.push this.1 this.2
  rw [if_neg e2]
  by_cases e3 : o = 3
  · rw [if_pos e3]
    have hp := h.pop
    refine ⟨hp.st, ?_, hp.text, hp.chars, hp.next0, hp.next1⟩
    intro x hx
    have hv := h.st.popV
    rcases List.mem_or_eq_of_mem_set hx with h' | h'
    · exact h.cells x h'
    · subst h'; exact hv
  rw [if_neg e3]
  by_cases e16 : o = 16
  · rw [if_pos e16]
    have := hj (.inl e16); exact ⟨h.st, h.cells, h.text, h.chars, this.1, this.2⟩
  rw [if_neg e16]
  by_cases e17 : o = 17
  · rw [if_pos e17]
    have := hj (.inr e17); exact h.jumpIf this.1 this.2
  rw [if_neg e17]
  by_cases e18 : o = 18
  · rw [if_pos e18]
    exact h.push hv.what.1 (by have := hv.what.2; show v.what ≤ 65535; omega)
  rw [if_neg e18]
  by_cases e19 : o = 19
  · rw [if_pos e19]
    exact h.push hv.arg.1 hv.arg.2
  rw [if_neg e19]
  by_cases e20 : o = 20
  · rw [if_pos e20]
    exact h.push hv.src.1 (by have := hv.src.2; show v.src ≤ 65535; omega)
  rw [if_neg e20]
  by_cases e21 : o = 21
  · rw [if_pos e21]
    exact h.push hv.route.1 (by have := hv.route.2; show v.route ≤ 65535; omega)
  rw [if_neg e21]
  by_cases e22 : o = 22
  · rw [if_pos e22]
    exact h.draw hd
  rw [if_neg e22]
  by_cases e23 : o = 23
  · rw [if_pos e23]
    exact h.char
  rw [if_neg e23]
  by_cases e24 : o = 24
  · rw [if_pos e24]
    exact h.showM
  rw [if_neg e24]
  by_cases e25 : o = 25
  · rw [if_pos e25]
    exact h.send a
  rw [if_neg e25]
  by_cases e26 : o = 26
  · rw [if_pos e26]
    exact h.double
  rw [if_neg e26]
  by_cases e27 : o = 27
  · rw [if_pos e27]
    exact h.pop
  rw [if_neg e27]
  exact h.reckon o

theorem Kp.doOp (o a : Int) (I : H.Inp) : Kp I.draws.length M (H.doOp o a I M) := by
  unfold H.doOp
  by_cases e0 : o = 0
  · rw [if_pos e0]
    exact ⟨rfl, id, id⟩
  rw [if_neg e0]
  by_cases e1 : o = 1
  · rw [if_pos e1]
    exact Kp.push _
  rw [if_neg e1]
  by_cases e2 : o = 2
  · rw [if_pos e2]
    exact Kp.push _
  rw [if_neg e2]
  by_cases e3 : o = 3
  · rw [if_pos e3]
    have hp : Kp I.draws.length M (H.popM M) := Kp.pop
    exact ⟨hp.steps, hp.draws, hp.fault⟩
  rw [if_neg e3]
  by_cases e16 : o = 16
  · rw [if_pos e16]
    exact ⟨rfl, id, id⟩
  rw [if_neg e16]
  by_cases e17 : o = 17
  · rw [if_pos e17]
    exact Kp.jumpIf _
  rw [if_neg e17]
  by_cases e18 : o = 18
  · rw [if_pos e18]
    exact Kp.push _
  rw [if_neg e18]
  by_cases e19 : o = 19
  · rw [if_pos e19]
    exact Kp.push _
  rw [if_neg e19]
  by_cases e20 : o = 20
  · rw [if_pos e20]
    exact Kp.push _
  rw [if_neg e20]
  by_cases e21 : o = 21
  · rw [if_pos e21]
    exact Kp.push _
  rw [if_neg e21]
  by_cases e22 : o = 22
  · rw [if_pos e22]
    exact Kp.draw _
  rw [if_neg e22]
  by_cases e23 : o = 23
  · rw [if_pos e23]
    exact Kp.char
  rw [if_neg e23]
  by_cases e24 : o = 24
  · rw [if_pos e24]
    exact Kp.showM
  rw [if_neg e24]
  by_cases e25 : o = 25
  · rw [if_pos e25]
    exact Kp.send _
  rw [if_neg e25]
  by_cases e26 : o = 26
  · rw [if_pos e26]
    exact Kp.double
  rw [if_neg e26]
  by_cases e27 : o = 27
  · rw [if_pos e27]
    exact Kp.pop
  rw [if_neg e27]
  exact Kp.reckon _
end

namespace H
/-- Is the run at its end? -/
def halt (n : Nat) (M : Mach) : Bool := M.ended || !(M.fault == 0) || decide ((n : Int) ≤ M.next)
/-- One round: the next instruction, one step more. -/
def adv (prog : List (Int × Int)) (I : Inp) (M : Mach) : Mach :=
  step (prog.getD M.next.toNat (0, 0)).1 (prog.getD M.next.toNat (0, 0)).2 I { M with steps := M.steps + 1 }
/-- At most r rounds, with the fuel F. -/
def runM (prog : List (Int × Int)) (I : Inp) (F : Nat) : Nat → Mach → Mach
  | 0, M => M
  | r + 1, M => if halt prog.length M then M else if M.steps = F then { M with fault := 1 } else runM prog I F r (adv prog I M)
/-- What a run begins with. -/
def mach0 (cells : List Int) : Mach := { st := [], cells := cells, text := ⟨#[]⟩, chars := 0, shows := [], sends := [], next := 0, steps := 0, draws := 0, ended := false, fault := 0 }
end H

theorem adv_kp (prog : List (Int × Int)) (I : H.Inp) (M : H.Mach) : (H.adv prog I M).steps = M.steps + 1 ∧ (M.draws ≤ I.draws.length → (H.adv prog I M).draws ≤ I.draws.length) ∧ (M.fault ≠ 1 → (H.adv prog I M).fault ≠ 1) := by
  have h := Kp.doOp (M := { M with steps := M.steps + 1, next := M.next + 1 }) (prog.getD M.next.toNat (0, 0)).1 (prog.getD M.next.toNat (0, 0)).2 I
  exact ⟨h.steps, h.draws, h.fault⟩

theorem okFrom_at (m : Nat) : ∀ (l : List (Int × Int)) (k i : Nat) (x : Int × Int), H.okFrom m k l = true → l[i]? = some x → H.alone x.1 x.2 = true ∧ H.lands m (k + i) x.1 x.2 = true
  | [], k, i, x, h, hx => by simp at hx
  | y :: r, k, 0, x, h, hx => by
    simp only [H.okFrom, Bool.and_eq_true] at h
    simp at hx; subst hx
    exact ⟨h.1.1, h.1.2⟩
  | y :: r, k, i + 1, x, h, hx => by
    simp only [H.okFrom, Bool.and_eq_true] at h
    have := okFrom_at m r (k + 1) i x h.2 (by simpa using hx)
    rwa [show k + 1 + i = k + (i + 1) by omega] at this

theorem adv_ok {prog : List (Int × Int)} {M : H.Mach} (hp : H.okFrom prog.length 0 prog = true) (h : MOk prog.length M) (hlt : M.next < prog.length) (v : InV) (hv : v.ok) {ds : List Int} (hd : InR ds) : MOk prog.length (H.adv prog (v.inp ds) M) := by
  have n0 := h.next0
  have hx : prog[M.next.toNat]? = some (prog.getD M.next.toNat (0, 0)) := by simp [List.getD, List.getElem?_eq_getElem (show M.next.toNat < prog.length by omega)]
  obtain ⟨h1, h2⟩ := okFrom_at _ _ _ _ _ hp hx
  rw [Nat.zero_add] at h2
  unfold H.adv H.step
  generalize prog.getD M.next.toNat (0, 0) = x at *
  have h' : MOk prog.length { M with steps := M.steps + 1, next := M.next + 1 } := ⟨h.st, h.cells, h.text, h.chars, by show 0 ≤ M.next + 1; omega, by show M.next + 1 ≤ _; omega⟩
  refine h'.doOp v hv hd h1 (fun hj => ?_)
  unfold H.lands at h2
  rw [if_pos hj] at h2
  simp at h2
  show 0 ≤ M.next + 1 + x.2 ∧ M.next + 1 + x.2 ≤ _
  omega

end Go.Proofs.Ytfggaacijcggeaa
