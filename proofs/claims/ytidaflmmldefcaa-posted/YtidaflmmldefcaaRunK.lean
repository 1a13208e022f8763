/-
  What an outcome holds: how long its lists are, and that their numbers are of their widths.
-/
import Derived.Test.YtidaflmmldefcaaRunA
namespace Go.Proofs.Ytidaflmmldefcaa
set_option linter.unusedVariables false
namespace H

/-- The lists and the fault are as they may be. -/
structure Lk (M : Mach) : Prop where
  shows : M.shows.length ≤ 8
  sends : M.sends.length ≤ 4
  keys : ∀ x ∈ M.shows, (0 ≤ x.1 ∧ x.1 ≤ 65535) ∧ x.2.size ≤ 1000
  topics : ∀ y ∈ M.sends, (0 ≤ y.1 ∧ y.1 ≤ 3) ∧ 0 ≤ y.2 ∧ y.2 ≤ 65535
  fault : 0 ≤ M.fault ∧ M.fault ≤ 6

theorem Lk.of_eq {M N : Mach} (h : Lk M) (e1 : N.shows = M.shows) (e2 : N.sends = M.sends) (e3 : 0 ≤ N.fault ∧ N.fault ≤ 6) : Lk N := ⟨by rw [e1]; exact h.shows, by rw [e2]; exact h.sends, by rw [e1]; exact h.keys, by rw [e2]; exact h.topics, e3⟩
theorem Lk.push {M : Mach} (h : Lk M) (v : Int) : Lk (push v M) := by
  unfold H.push; split
  · exact h.of_eq rfl rfl (by simp)
  · exact h.of_eq rfl rfl h.fault
theorem Lk.pop {M : Mach} (h : Lk M) : Lk (popM M) := by
  unfold popM; split
  · exact h.of_eq rfl rfl (by simp)
  · exact h.of_eq rfl rfl h.fault

theorem Lk.doOp {n : Nat} {M : Mach} (h : Lk M) (hm : MOk n M) (o a : Int) (I : Inp) (ha : alone o a = true) : Lk (doOp o a I M) := by
  have hp := h.pop
  have hv := hm.st.popV
  have ht := hm.small
  have fl : ∀ k : Int, 0 ≤ k → k ≤ 6 → ∀ N : Mach, N.shows = M.shows → N.sends = M.sends → Lk { N with fault := k } := fun k h0 h1 N e1 e2 => h.of_eq e1 e2 ⟨h0, h1⟩
  have pe1 := popM_shows M
  have pe2 := popM_sends M
  unfold H.doOp
  by_cases e0 : o = 0
  · rw [if_pos e0]; exact h.of_eq rfl rfl h.fault
  rw [if_neg e0]
  by_cases e1 : o = 1
  · rw [if_pos e1]; exact h.push _
  rw [if_neg e1]
  by_cases e2 : o = 2
  · rw [if_pos e2]; exact h.push _
  rw [if_neg e2]
  by_cases e3 : o = 3
  · rw [if_pos e3]; exact hp.of_eq rfl rfl hp.fault
  rw [if_neg e3]
  by_cases e16 : o = 16
  · rw [if_pos e16]; exact h.of_eq rfl rfl h.fault
  rw [if_neg e16]
  by_cases e17 : o = 17
  · rw [if_pos e17]
    unfold jumpIf
    split
    · exact hp
    · exact hp.of_eq rfl rfl hp.fault
  rw [if_neg e17]
  by_cases e18 : o = 18
  · rw [if_pos e18]; exact h.push _
  rw [if_neg e18]
  by_cases e19 : o = 19
  · rw [if_pos e19]; exact h.push _
  rw [if_neg e19]
  by_cases e20 : o = 20
  · rw [if_pos e20]; exact h.push _
  rw [if_neg e20]
  by_cases e21 : o = 21
  · rw [if_pos e21]; exact h.push _
  rw [if_neg e21]
  by_cases e22 : o = 22
  · rw [if_pos e22]
    unfold draw
    split
    · have h' : Lk { M with draws := M.draws + 1 } := h.of_eq rfl rfl h.fault
      exact h'.push _
    · exact h.push _
  rw [if_neg e22]
  by_cases e23 : o = 23
  · rw [if_pos e23]
    unfold H.char
    split
    · split
      · exact hp.of_eq rfl rfl (by simp)
      · exact hp.of_eq rfl rfl hp.fault
    · exact hp
  rw [if_neg e23]
  by_cases e24 : o = 24
  · rw [if_pos e24]
    unfold showM
    split
    · split
      · exact hp.of_eq rfl rfl (by simp)
      · rename_i h8
        split
        · exact hp.of_eq rfl rfl (by simp)
        · refine ⟨by simp; omega, hp.sends, ?_, hp.topics, hp.fault⟩
          intro x hx
          simp at hx
          rcases hx with hx | rfl
          · exact h.keys x hx
          · exact ⟨hv, ht⟩
    · exact hp
  rw [if_neg e24]
  by_cases e25 : o = 25
  · rw [if_pos e25]
    unfold send
    split
    · split
      · exact hp.of_eq rfl rfl (by simp)
      · rename_i h4
        refine ⟨hp.shows, by simp; omega, hp.keys, ?_, hp.fault⟩
        intro y hy
        simp at hy
        rcases hy with hy | rfl
        · exact h.topics y hy
        · subst e25
          simp [alone] at ha
          exact ⟨by show 0 ≤ a ∧ a ≤ 3; omega, hv⟩
    · exact hp
  rw [if_neg e25]
  by_cases e26 : o = 26
  · rw [if_pos e26]
    unfold double
    split
    · exact (hp.push _).push _
    · exact hp
  rw [if_neg e26]
  by_cases e27 : o = 27
  · rw [if_pos e27]; exact hp
  rw [if_neg e27]
  unfold reckon
  split
  · split
    · split
      · exact hp.pop.of_eq rfl rfl (by simp)
      · exact hp.pop.push _
    · exact hp.pop.push _
  · exact hp.pop

theorem Lk.adv {prog : List (Int × Int)} {N : Mach} (I : Inp) (hp : okFrom prog.length 0 prog = true) (h : Lk N) (hm : MOk prog.length N) (hlt : N.next < prog.length) : Lk (H.adv prog I N) := by
  have n0 := hm.next0
  obtain ⟨k, hk⟩ := Int.eq_ofNat_of_zero_le n0
  obtain ⟨x, hx⟩ : ∃ x, prog[k]? = some x := ⟨prog[k]'(by omega), List.getElem?_eq_getElem (by omega)⟩
  obtain ⟨o, a⟩ := x
  have hal := (okFrom_at _ _ _ _ _ hp hx).1
  have e : H.adv prog I N = H.doOp o a I { N with steps := N.steps + 1, next := N.next + 1 } := by
    unfold H.adv step
    have : prog.getD N.next.toNat (0, 0) = (o, a) := by rw [hk, Int.toNat_natCast]; simp [List.getD, hx]
    rw [this]
  rw [e]
  have h1 : Lk { N with steps := N.steps + 1, next := N.next + 1 } := h.of_eq rfl rfl h.fault
  have h2 : MOk prog.length { N with steps := N.steps + 1, next := N.next + 1 } := ⟨hm.st, hm.cells, hm.text, hm.chars, by show 0 ≤ N.next + 1; omega, by show N.next + 1 ≤ prog.length; omega⟩
  exact h1.doOp h2 o a I hal

theorem Lk.run {prog : List (Int × Int)} {F : Nat} (v : InV) (hv : v.ok) {ds : List Int} (hd : InR ds) (hp : okFrom prog.length 0 prog = true) :
    ∀ (k : Nat) (N : Mach), Lk N → MOk prog.length N → N.steps ≤ F → Lk (runM prog (v.inp ds) F k N) ∧ MOk prog.length (runM prog (v.inp ds) F k N) ∧ (runM prog (v.inp ds) F k N).steps ≤ F
  | 0, N, h, hm, hs => ⟨h, hm, hs⟩
  | k + 1, N, h, hm, hs => by
    by_cases hh : halt prog.length N = true
    · rw [runM_halt hh]; exact ⟨h, hm, hs⟩
    · have hh' : halt prog.length N = false := by simpa using hh
      by_cases hq : N.steps = F
      · rw [runM_spent hh' hq]; exact ⟨h.of_eq rfl rfl (by simp), hm.fault 1, hs⟩
      · rw [runM_step hh' hq]
        have hlt : N.next < prog.length := by
          unfold halt at hh'
          simp at hh'
          omega
        have hkp := adv_kp prog (v.inp ds) N
        exact Lk.run v hv hd hp k _ (h.adv (v.inp ds) hp hm hlt) (adv_ok hp hm hlt v hv hd) (by rw [hkp.1]; omega)

theorem push_cl (v : Int) (M : Mach) : (push v M).cells = M.cells := by unfold push; split <;> rfl
theorem popM_cl (M : Mach) : (popM M).cells = M.cells := by unfold popM; split <;> rfl
theorem jumpIf_cl (a : Int) (M : Mach) : (jumpIf a M).cells = M.cells := by
  unfold jumpIf; split
  · exact popM_cl M
  · exact popM_cl M
theorem draw_cl (ds : List Int) (M : Mach) : (draw ds M).cells = M.cells := by
  unfold draw; split
  · exact push_cl _ _
  · exact push_cl _ _
theorem char_cl (M : Mach) : (H.char M).cells = M.cells := by
  unfold H.char; split
  · split
    · exact popM_cl M
    · exact popM_cl M
  · exact popM_cl M
theorem showM_cl (M : Mach) : (showM M).cells = M.cells := by
  unfold showM; split
  · split
    · exact popM_cl M
    · split
      · exact popM_cl M
      · exact popM_cl M
  · exact popM_cl M
theorem send_cl (t : Int) (M : Mach) : (send t M).cells = M.cells := by
  unfold send; split
  · split
    · exact popM_cl M
    · exact popM_cl M
  · exact popM_cl M
theorem double_cl (M : Mach) : (double M).cells = M.cells := by
  unfold double; split
  · rw [push_cl, push_cl, popM_cl]
  · exact popM_cl M
theorem reckon_cl (op : Int) (M : Mach) : (reckon op M).cells = M.cells := by
  have h : (popM (popM M)).cells = M.cells := by rw [popM_cl, popM_cl]
  unfold reckon; split
  · split
    · split
      · exact h
      · rw [push_cl, h]
    · rw [push_cl, h]
  · exact h
theorem doOp_cl (o a : Int) (I : Inp) (M : Mach) : (doOp o a I M).cells.length = M.cells.length := by
  unfold doOp
  by_cases e0 : o = 0
  · rw [if_pos e0]
  rw [if_neg e0]
  by_cases e1 : o = 1
  · rw [if_pos e1]; rw [push_cl]
  rw [if_neg e1]
  by_cases e2 : o = 2
  · rw [if_pos e2]; rw [push_cl]
  rw [if_neg e2]
  by_cases e3 : o = 3
  · rw [if_pos e3]; exact List.length_set
  rw [if_neg e3]
  by_cases e16 : o = 16
  · rw [if_pos e16]
  rw [if_neg e16]
  by_cases e17 : o = 17
  · rw [if_pos e17]; rw [jumpIf_cl]
  rw [if_neg e17]
  by_cases e18 : o = 18
  · rw [if_pos e18]; rw [push_cl]
  rw [if_neg e18]
  by_cases e19 : o = 19
  · rw [if_pos e19]; rw [push_cl]
  rw [if_neg e19]
  by_cases e20 : o = 20
  · rw [if_pos e20]; rw [push_cl]
  rw [if_neg e20]
  by_cases e21 : o = 21
  · rw [if_pos e21]; rw [push_cl]
  rw [if_neg e21]
  by_cases e22 : o = 22
  · rw [if_pos e22]; rw [draw_cl]
  rw [if_neg e22]
  by_cases e23 : o = 23
  · rw [if_pos e23]; rw [char_cl]
  rw [if_neg e23]
  by_cases e24 : o = 24
  · rw [if_pos e24]; rw [showM_cl]
  rw [if_neg e24]
  by_cases e25 : o = 25
  · rw [if_pos e25]; rw [send_cl]
  rw [if_neg e25]
  by_cases e26 : o = 26
  · rw [if_pos e26]; rw [double_cl]
  rw [if_neg e26]
  by_cases e27 : o = 27
  · rw [if_pos e27]; rw [popM_cl]
  rw [if_neg e27]
  rw [reckon_cl]
theorem run_cl (prog : List (Int × Int)) (I : Inp) (F : Nat) : ∀ (k : Nat) (N : Mach), (runM prog I F k N).cells.length = N.cells.length
  | 0, N => rfl
  | k + 1, N => by
    by_cases hh : halt prog.length N = true
    · rw [runM_halt hh]
    · have hh' : halt prog.length N = false := by simpa using hh
      by_cases hq : N.steps = F
      · rw [runM_spent hh' hq]
      · rw [runM_step hh' hq, run_cl prog I F k]
        unfold adv step
        rw [doOp_cl]

/-- What is known of the outcome of a program that can be run. -/
structure OutOk (O : Out) : Prop where
  shows : O.shows.length ≤ 8
  sends : O.sends.length ≤ 4
  keys : ∀ x ∈ O.shows, (0 ≤ x.1 ∧ x.1 ≤ 65535) ∧ x.2.size ≤ 1000
  topics : ∀ y ∈ O.sends, (0 ≤ y.1 ∧ y.1 ≤ 3) ∧ 0 ≤ y.2 ∧ y.2 ≤ 65535
  fault : 0 ≤ O.fault ∧ O.fault ≤ 6
  steps : O.steps ≤ 1000
  cells : InR O.cells
  clen : O.cells.length = 8

theorem run_ok (code : ByteArray) (v : InV) (hv : v.ok) (ds : List Int) (hd : InR ds) : OutOk (run (bts code) v.cells (v.inp ds)) := by
  have none_ : ∀ e, OutOk (outNone e) := fun e => ⟨Nat.zero_le _, Nat.zero_le _, by intro x hx; simp [outNone] at hx, by intro x hx; simp [outNone] at hx, by simp [outNone], Nat.zero_le _, by intro x hx; simp [outNone] at hx; omega, rfl⟩
  unfold run
  rcases decode_cases (bts code) (at0_bts_range code) with ⟨p, hp, h⟩ | ⟨l, h, hl1, hl64, hlok, hle⟩
  · rw [h, if_neg (by simp)]
    exact none_ _
  · rw [h, if_pos rfl]
    by_cases hf : (v.inp ds).fuel < 0 ∨ 1000 < (v.inp ds).fuel
    · rw [if_pos hf]; exact none_ _
    · rw [if_neg hf]
      have h0 : Lk (mach0 v.cells) := ⟨by show 0 ≤ 8; omega, by show 0 ≤ 4; omega, by intro x hx; simp [mach0] at hx, by intro x hx; simp [mach0] at hx, by show (0 : Int) ≤ 0 ∧ (0 : Int) ≤ 6; omega⟩
      have m0 : MOk l.length (mach0 v.cells) := ⟨by intro x hx; simp [mach0] at hx, hv.cells, by show 0 ≤ _; omega, by show 0 ≤ 6; omega, by show (0 : Int) ≤ 0; omega, by show (0 : Int) ≤ l.length; omega⟩
      obtain ⟨hl, hm, hs⟩ := Lk.run (F := (v.inp ds).fuel.toNat) v hv hd hlok ((v.inp ds).fuel.toNat + 1) _ h0 m0 (Nat.zero_le _)
      unfold outOf
      split
      · exact ⟨hl.shows, hl.sends, hl.keys, hl.topics, by show (0 : Int) ≤ 0 ∧ (0 : Int) ≤ 6; omega, by refine Nat.le_trans hs ?_; omega, hm.cells, by rw [run_cl]; rfl⟩
      · exact ⟨Nat.zero_le _, Nat.zero_le _, by intro x hx; simp at hx, by intro x hx; simp at hx, hl.fault, by refine Nat.le_trans hs ?_; omega, hv.cells, rfl⟩
end H
end Go.Proofs.Ytidaflmmldefcaa
