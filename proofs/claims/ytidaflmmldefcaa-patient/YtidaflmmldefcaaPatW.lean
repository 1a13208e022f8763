/-
  The walk of Patient.
-/
import Derived.Test.YtidaflmmldefcaaPatM
namespace Go.Proofs.Ytidaflmmldefcaa
open Go.RowKit
set_option linter.unusedVariables false

theorem gsAt_below {w w' : World} {ao : Option Addr} {l : List Gs} (h : GsAt w ao l) (hb : Below w.heap.size w w') : GsAt w' ao l := by
  refine ⟨?_, fun x hx => ⟨(h.2 x hx).code.below hb, (h.2 x hx).num⟩⟩
  rcases h.1 with h | ⟨b, off, e, hl, hr⟩
  · exact Or.inl h
  · exact Or.inr ⟨b, off, e, Nat.lt_of_lt_of_le hl hb.size, hr.below hb hl⟩
theorem mfCells_len : ∀ l : List Mf, (mfCells l).length = l.length * 7
  | [] => rfl
  | x :: r => by
    have e : mfCells (x :: r) = x.arr.toList ++ mfCells r := rfl
    rw [e, List.length_append, mfCells_len r]
    have : x.arr.toList.length = 7 := rfl
    rw [this]; simp; omega
theorem mfCells_ones (l : List Mf) : ∀ v ∈ mfCells l, v.oneCell' = true := by
  intro v hv
  obtain ⟨m, _, hm⟩ := List.mem_flatMap.1 hv
  exact mfArr_one m v hm

def counterEnd (w : World) (e : Ending) (w' : World) : Prop := ∃ g, e = .returned (.slice (some ⟨g, 0, none⟩) 11 11) ∧ InsRow w' g 0 pcode ∧ Below w.heap.size w w'

def pcells : Array Value := #[.int .u8 1, .int .i64 5, .int .u8 24, .int .i64 0, .int .u8 18, .int .i64 0, .int .u8 1, .int .i64 1, .int .u8 15, .int .i64 0, .int .u8 17, .int .i64 1, .int .u8 0, .int .i64 0, .int .u8 2, .int .i64 0, .int .u8 1, .int .i64 1, .int .u8 4, .int .i64 0, .int .u8 3, .int .i64 0]
theorem pcells_row {w : World} {g : Nat} (h : Blk w g pcells 52) : InsRow w g 0 pcode := by
  intro i x hx
  have hi : i < 11 := by
    have := (List.getElem?_eq_some_iff.1 hx).1
    simpa [pcode] using this
  rw [h.cell, h.cell]
  rcases (show i = 0 ∨ i = 1 ∨ i = 2 ∨ i = 3 ∨ i = 4 ∨ i = 5 ∨ i = 6 ∨ i = 7 ∨ i = 8 ∨ i = 9 ∨ i = 10 by omega) with rfl | rfl | rfl | rfl | rfl | rfl | rfl | rfl | rfl | rfl | rfl
  all_goals
    simp only [pcode] at hx
    simp at hx
    subst hx
    exact ⟨rfl, rfl⟩

set_option maxRecDepth 100000 in
set_option maxHeartbeats 4000000 in
theorem counter_any (w : World) : Calls Try.prog 13 #[] w fun e w' => counterEnd w e w' := by
  go_enter Try.func13, Try.ntmps13
  go_wp2
  go_ret
  refine ⟨w.heap.size, rfl, pcells_row (Blk.new w pcells 52), (Below.refl _ _).alloc (Nat.le_refl _) _⟩

/-- A host whose first tenant counts. -/
def PatIn (base : Nat) (ms : List Mf) (hp tb cap : Nat) (u : World) (taken : Nat) (fr : Nat) : Prop := ∃ H vs, HostAt u hp tb cap H vs ∧ HI ms H ∧ (∀ k, ownOf hp tb vs k → base ≤ k) ∧ Counts taken H ∧ H.frames ≤ fr
def PatAt (base : Nat) (ms : List Mf) (hp tb cap : Nat) (u : World) (c k fr : Nat) : Prop := ∃ H vs, HostAt u hp tb cap H vs ∧ HI ms H ∧ (∀ k, ownOf hp tb vs k → base ≤ k) ∧ PtAt c k H ∧ H.frames ≤ fr

section
variable {w u u' : World} {hp tb cap taken fr : Nat} {ms : List Mf}
theorem PatIn.below (h : PatIn w.heap.size ms hp tb cap u taken fr) (hm : 1 ≤ ms.length) (hb : Below u.heap.size u u') : PatIn w.heap.size ms hp tb cap u' taken fr := by
  obtain ⟨H, vs, h1, h2, h3, h4, h5⟩ := h
  exact ⟨H, vs, h1.below hb (h1.tbl (h2.ne hm)), h2, h3, h4, h5⟩
theorem PatAt.below {c k : Nat} (h : PatAt w.heap.size ms hp tb cap u c k fr) (hm : 1 ≤ ms.length) (hb : Below u.heap.size u u') : PatAt w.heap.size ms hp tb cap u' c k fr := by
  obtain ⟨H, vs, h1, h2, h3, h4, h5⟩ := h
  exact ⟨H, vs, h1.below hb (h1.tbl (h2.ne hm)), h2, h3, h4, h5⟩
theorem PatIn.does_any (h : PatIn w.heap.size ms hp tb cap u taken fr) (hm : 1 ≤ ms.length) (hm4 : ms.length ≤ 4) (ht : taken ≤ 1000) (hf : fr < 200) (hu : Below w.heap.size w u) {x : St} (hx : x.ok w) (hno : ¬ (H.pk x.kind 3 = 1 ∧ H.pk x.a 400 = 1)) :
    Calls Try.prog 9 #[.pointer (some ⟨hp, 0, none⟩), .agg #[.int .i64 x.kind, .int .i64 x.a, .slice x.dao x.dl.length x.dcap]] u fun e w' => e = .returned (.bool true) ∧ PatIn w.heap.size ms hp tb cap w' taken (fr + 1) ∧ Below w.heap.size w w' := by
  obtain ⟨H, vs, h1, h2, h3, h4, h5⟩ := h
  refine (Go.Proofs.Ytidaflmmldefcaa.does_any h1 h2 hm4 (h2.ne hm) x.kind x.a hx.kind hx.a x.dao x.dcap x.dl hx.len (hx.dr.toK hu h3) hx.rng).mono ?_
  rintro e w' ⟨rfl, vs', a1, a2, a3⟩
  refine ⟨rfl, ⟨_, vs', a1, h2.does hm4 _ _ hx.rng, fun k q => ?_, h4.does ht h2.route (by omega) _ _ _ hno, ?_⟩, hu.trans (a2.below hu.size h3)⟩
  · rcases a3 k q with e | e
    · exact h3 k e
    · exact Nat.le_trans hu.size e
  · have := Hs.does_frames H x.kind x.a x.dl
    omega
/-- A click at the node. -/
theorem PatIn.click_any (h : PatIn w.heap.size ms hp tb cap u taken fr) (hm : 1 ≤ ms.length) (hm4 : ms.length ≤ 4) (hu : Below w.heap.size w u) :
    ∃ k, (k < 6 ∧ Calls Try.prog 14 #[.pointer (some ⟨hp, 0, none⟩), .int .i64 1] u (fun e w' => e = .returned (.int .i64 0) ∧ PatIn w.heap.size ms hp tb cap w' (taken + 1) fr ∧ Below w.heap.size w w')) ∨ (k = 6 ∧ Calls Try.prog 14 #[.pointer (some ⟨hp, 0, none⟩), .int .i64 1] u (fun e w' => e = .returned (.int .i64 8) ∧ PatAt w.heap.size ms hp tb cap w' (taken - 6) 6 fr ∧ 6 ≤ taken ∧ Below w.heap.size w w')) := by
  obtain ⟨H, vs, h1, h2, h3, ⟨c, k, hpk, hs, hk6⟩, h5⟩ := h
  have hle : H.ts.length ≤ 100000 := by have := h2.len; omega
  have q := hclick_any h1 1 (by decide) (by decide) hle (h2.clickOk hm4)
  by_cases hk : k < 6
  · obtain ⟨p1, p2⟩ := hpk.click.1 hk
    refine ⟨k, Or.inl ⟨hk, q.mono ?_⟩⟩
    rintro e w' ⟨rfl, vs', a1, a2, a3⟩
    refine ⟨by rw [p2], ⟨_, vs', a1, h2.click _, fun z r => ?_, ⟨c, k + 1, p1, by omega, by omega⟩, by rw [click_frames]; exact h5⟩, hu.trans (a2.below hu.size h3)⟩
    rcases a3 z r with e | e
    · exact h3 z e
    · exact Nat.le_trans hu.size e
  · have hk' : k = 6 := by omega
    obtain ⟨p1, p2⟩ := hpk.click.2 hk
    refine ⟨6, Or.inr ⟨rfl, q.mono ?_⟩⟩
    rintro e w' ⟨rfl, vs', a1, a2, a3⟩
    subst hk'
    refine ⟨by rw [p2], ⟨_, vs', a1, h2.click _, fun z r => ?_, ?_, by rw [click_frames]; exact h5⟩, by omega, hu.trans (a2.below hu.size h3)⟩
    · rcases a3 z r with e | e
      · exact h3 z e
      · exact Nat.le_trans hu.size e
    · have : taken - 6 = c := by omega
      rw [this]
      exact p1
theorem PatIn.weaken (h : PatIn w.heap.size ms hp tb cap u taken fr) {fr' : Nat} (hf : fr ≤ fr') : PatIn w.heap.size ms hp tb cap u taken fr' := by
  obtain ⟨H, vs, h1, h2, h3, h4, h5⟩ := h
  exact ⟨H, vs, h1, h2, h3, h4, by omega⟩
theorem PatAt.toIn {c k : Nat} (h : PatAt w.heap.size ms hp tb cap u c k fr) (hk : k ≤ 6) : PatIn w.heap.size ms hp tb cap u (c + k) fr := by
  obtain ⟨H, vs, h1, h2, h3, h4, h5⟩ := h
  exact ⟨H, vs, h1, h2, h3, ⟨c, k, h4, rfl, hk⟩, h5⟩
theorem PatIn.toAt (h : PatIn w.heap.size ms hp tb cap u taken fr) : ∃ c k, PatAt w.heap.size ms hp tb cap u c k fr ∧ c + k = taken ∧ k ≤ 6 := by
  obtain ⟨H, vs, h1, h2, h3, ⟨c, k, h4, hs, hk⟩, h5⟩ := h
  exact ⟨c, k, ⟨H, vs, h1, h2, h3, h4, h5⟩, hs, hk⟩
/-- What waits. -/
theorem PatAt.box_any {c k : Nat} (h : PatAt w.heap.size ms hp tb cap u c k fr) (hm : 1 ≤ ms.length) (hm4 : ms.length ≤ 4) (hk : k ≤ 6) :
    Calls Try.prog 15 #[.pointer (some ⟨hp, 0, none⟩), .int .i64 0] u fun e w' => ∃ ao c, e = .returned (.slice ao k c) ∧ Below u.heap.size u w' := by
  obtain ⟨H, vs, h1, h2, h3, ⟨x, hx, hpt⟩, h5⟩ := h
  have hle : H.ts.length ≤ 100000 := by have := h2.len; omega
  have hl : x.box.length = k := by rw [hpt.box, List.length_replicate]
  refine (hbox_any h1 0 hx hle (by omega)).mono ?_
  rintro e w' ⟨rv, rfl, ho, hb⟩
  obtain ⟨ao, c, rfl⟩ := own_is ho
  exact ⟨ao, c, by rw [hl], hb⟩
theorem PatAt.frame_any {c k : Nat} (h : PatAt w.heap.size ms hp tb cap u c (k + 1) fr) (hm : 1 ≤ ms.length) (hm4 : ms.length ≤ 4) (hf : fr < 200) (hc : c < 65535) (hu : Below w.heap.size w u) :
    Calls Try.prog 16 #[.pointer (some ⟨hp, 0, none⟩), .slice none 0 0] u fun e w' => e = .returned (.int .i64 0) ∧ PatAt w.heap.size ms hp tb cap w' (c + 1) k (fr + 1) ∧ Below w.heap.size w w' := by
  obtain ⟨H, vs, h1, h2, h3, h4, h5⟩ := h
  have e0 : H.frameE = 0 := by unfold Hs.frameE; rw [if_neg (by omega)]
  have q := Go.Proofs.Ytidaflmmldefcaa.frame_any h1 (h2.ne hm) none 0 [] (h2.fit hm4 (fun l hl => by simp at hl)) (Nat.zero_le _) (DrsK.nil _ _ _)
  rw [e0] at q
  refine q.mono ?_
  rintro e w' ⟨rfl, vs', a1, a2, a3⟩
  refine ⟨rfl, ⟨_, vs', a1, h2.frame hm4 (fun l hl => by simp at hl), fun z r => ?_, (h4.frame [] h2.route (by omega) hc).2 k rfl, ?_⟩, hu.trans (a2.below hu.size h3)⟩
  · rcases a3 z r with e | e
    · exact h3 z e
    · exact Nat.le_trans hu.size e
  · unfold Hs.frame
    split
    · omega
    · show H.frames + 1 ≤ _
      omega
theorem PatAt.cells_any {c k : Nat} (h : PatAt w.heap.size ms hp tb cap u c k fr) (hm4 : ms.length ≤ 4) :
    ∃ k1 k2 k3 k4 k5 k6 k7, Calls Try.prog 17 #[.pointer (some ⟨hp, 0, none⟩), .int .i64 0] u fun e w' => e = .returned (.agg #[.int .u16 (c : Int), .int .u16 k1, .int .u16 k2, .int .u16 k3, .int .u16 k4, .int .u16 k5, .int .u16 k6, .int .u16 k7]) ∧ Below u.heap.size u w' := by
  obtain ⟨H, vs, h1, h2, h3, ⟨x, hx, hpt⟩, h5⟩ := h
  have hle : H.ts.length ≤ 100000 := by have := h2.len; omega
  have q := Go.Proofs.Ytidaflmmldefcaa.cells_any h1 0 hx hle (h1.tb_lt hx)
  rw [hpt.cell] at q
  exact ⟨_, _, _, _, _, _, _, q⟩
theorem PatAt.phase_any {c k : Nat} (h : PatAt w.heap.size ms hp tb cap u c k fr) (hm4 : ms.length ≤ 4) :
    Calls Try.prog 18 #[.pointer (some ⟨hp, 0, none⟩), .int .i64 0] u fun e w' => e = .returned (.int .u8 1) ∧ u = w' := by
  obtain ⟨H, vs, h1, h2, h3, ⟨x, hx, hpt⟩, h5⟩ := h
  have hle : H.ts.length ≤ 100000 := by have := h2.len; omega
  have q := Go.Proofs.Ytidaflmmldefcaa.phase_any h1 0 hx hle
  rw [hpt.phase] at q
  exact q
end

theorem frames_open (ms : List Mf) : (openHs ms).frames = 1 := rfl

set_option maxRecDepth 100000 in
set_option maxHeartbeats 32000000 in
theorem patientLaw_any (ga sa : Option Addr) (gcap scap : Nat) (gl : List Gs) (sl : List St) (sh : Int) (w : World) (hgl : gl.length ≤ maxLen) (hsl : sl.length ≤ maxLen) (hga : GsAt w ga gl) (hsa : StAt w sa sl) (hsh : in64 sh) :
    Calls Try.prog 4 #[.slice ga gl.length gcap, .slice sa sl.length scap, .int .i64 sh] w fun e w' => e = .returned (.bool true) ∧ Below w.heap.size w w' := by
  obtain ⟨i0, hi, hz0, hz1, hz2⟩ := info_parts info41
  have HCo : Hid (Calls Try.prog 13 #[] w fun e w' => counterEnd w e w') := counter_any w
  have HTn : Hid (∀ u, Below w.heap.size w u → Calls Try.prog 7 #[.slice ga gl.length gcap, .int .i64 3] u fun e w' => ∃ v ms, e = .returned v ∧ 1 ≤ ms.length ∧ ms.length ≤ 3 ∧ (∀ m ∈ ms, m.good) ∧ w'.ownsRow u.heap.size 41 7 v ms.length (mfCells ms) ∧ Below u.heap.size u w') := fun u hu => tenants_any ga gcap gl 3 u (by decide) (by decide) (gsAt_below hga hu) hgl
  have HSa : Hid (StAt w sa sl) := hsa
  obtain ⟨N, hN⟩ : ∃ N, N = sl.length := ⟨_, rfl⟩
  have HN : Hid (sl.length = N) := hN.symm
  have hmx : N ≤ 9223372036854775807 := by rw [hN]; unfold maxLen at hsl; omega
  obtain ⟨GL, hGL⟩ : ∃ GL, GL = gl.length := ⟨_, rfl⟩
  have P0 : Hid (∀ u : World, Calls Try.prog 10 #[.int .i64 sh, .int .i64 3] u fun e w' => e = .returned (.int .i64 (H.pk sh 3)) ∧ u = w') := fun u => pick_any sh 3 u hsh.1 hsh.2 (by decide) (by decide)
  have hps := H.pk_range sh 3 (by decide)
  generalize H.pk sh 3 = ps at P0 hps
  have hpw : IntKind.i64.wrap (1 + ps) = 1 + ps := by rw [IntKind.wrap_i64]; omega
  rw [← hGL] at HTn ⊢
  rw [← hN]
  obtain ⟨pr, hpr⟩ : ∃ pr, pr = pprog := ⟨_, rfl⟩
  have HPr : Hid (pprog = pr) := hpr.symm
  clear hga hsa hN hgl hsl hGL hsh hpr
  go_enter Try.func4, Try.ntmps4
  go_wp2_with fail
  refine HCo.out.mono ?_
  rintro e w1 ⟨g, rfl, hrow, hb1⟩
  have HEn : Hid (Calls Try.prog 12 #[.slice (some ⟨g, 0, none⟩) 11 11] w1 fun e w' => e = .returned (.tuple #[.string pr, .int .i64 0]) ∧ Below w1.heap.size w1 w') := by
    have q := enc_mid g 0 11 11 pcode w1 (by decide) (by decide) rfl hrow
    have e1 : encS 11 pcode = pr := HPr.out
    have e2 : encE 11 pcode = 0 := by unfold encE; rw [if_pos pcode_ok]
    rw [e1, e2] at q
    exact q
  have HB1 : Hid (Below w.heap.size w w1) := hb1
  clear hrow hb1 HCo
  go_wp2_with fail
  refine HEn.out.mono ?_
  rintro e w2 ⟨rfl, hb2⟩
  have HB2 : Hid (Below w.heap.size w w2) := HB1.out.trans (hb2.mono HB1.out.size)
  clear hb2 HB1 HEn
  go_wp2_with fail
  refine (P0.out _).mono ?_
  rintro e w' ⟨rfl, rfl⟩
  obtain ⟨W, hW⟩ : ∃ W, W = w2.alloc (.cells #[.string pr, .int .i64 11, .int .u8 15, .int .u8 0, .int .u8 0, .int .i64 (1 + ps), .int .i64 1] 41) := ⟨_, rfl⟩
  have HBW : Hid (Below w.heap.size w W) := by unfold Hid; rw [hW]; exact HB2.out.alloc HB2.out.size _
  obtain ⟨g1, hg1⟩ : ∃ g1, g1 = w2.heap.size := ⟨_, rfl⟩
  have HOW : Hid (W.ownsRow w.heap.size 41 7 (.slice (some ⟨g1, 0, none⟩) 1 1) 1 (mfCells [pMf (1 + ps)])) := by
    unfold Hid
    rw [hW, hg1]
    refine ⟨rfl, Or.inr ⟨w2.heap.size, 1, #[.string pr, .int .i64 11, .int .u8 15, .int .u8 0, .int .u8 0, .int .i64 (1 + ps), .int .i64 1], rfl, HB2.out.size, Blk.new w2 _ 41, Nat.le_refl _, by decide, rfl, ?_⟩⟩
    rw [← HPr.out]
    rfl
  go_upto_region 5 with fail
  rw [← hW, ← hg1]
  clear hW hg1
  go_wp2_with fail
  refine (HTn.out W HBW.out).mono ?_
  rintro e w3 ⟨v, more, rfl, hm1, hm3, hgm, ho3, hb3⟩
  obtain ⟨n2, hn2⟩ : ∃ n, n = more.length := ⟨_, rfl⟩
  have Hn2 : Hid (more.length = n2) := hn2.symm
  have HGm : Hid (∀ m ∈ more, m.good) := hgm
  obtain ⟨g2, lc, rfl⟩ : ∃ g lc, v = .slice (some ⟨g, 0, none⟩) n2 lc := by
    rcases ho3.2 with ⟨_, h0⟩ | ⟨g, cp, cur, hv, _⟩
    · omega
    · exact ⟨g, cp, by rw [hn2]; exact hv⟩
  rw [← hn2] at ho3 hm1 hm3
  have HO3 : Hid (w3.ownsRow w.heap.size 41 7 (.slice (some ⟨g1, 0, none⟩) 1 1) 1 (mfCells [pMf (1 + ps)])) := own_below' HOW.out hb3 (Nat.le_refl _)
  have HB3 : Hid (Below w.heap.size w w3) := HBW.out.trans (hb3.mono HBW.out.size)
  have HNw : Hid (∀ j u, (mfCells more)[j]? = some u → w3.cell? ((⟨g2, 0, none⟩ : Addr).add j) = some u) := fun j u hj => World.ownsRow.cells ho3 rfl j u hj
  have HLn : Hid ((mfCells more).length = n2 * 7) := by unfold Hid; rw [mfCells_len, Hn2.out]
  have hs3 := HB3.out.size
  clear ho3 hb3 hgm hn2 HTn HOW HBW HB2
  go_wp2_with (at_builtin; refine wpList_append_own_at _ rfl (.tmp 36) (.tmp 37) 24 rfl w.heap.size 41 i0 (.agg #[.string ⟨#[]⟩, .int .i64 0, .int .u8 0, .int .u8 0, .int .u8 0, .int .i64 0, .int .i64 0]) 7 48 Try.underlying24 hi hz0 hz1 hz2 rfl (by decide) _ 1 _ rfl HO3.out ⟨g2, 0, none⟩ n2 lc (mfCells more) rfl HLn.out HNw.out (mfCells_ones more) (by unfold maxLen; omega) (by omega) hs3 ?_)
  intro v4 w4 ho4 hg4 _ _
  obtain ⟨ms, hms⟩ : ∃ ms, ms = pMf (1 + ps) :: more := ⟨_, rfl⟩
  obtain ⟨n, hn⟩ : ∃ n, n = 1 + n2 := ⟨_, rfl⟩
  have Hn : Hid (ms.length = n) := by unfold Hid; rw [hms, List.length_cons, Hn2.out]; omega
  have ho4' : w4.ownsRow w.heap.size 41 7 v4 n (mfCells ms) := by
    rw [hms, hn]
    exact ho4
  obtain ⟨g4, lc4, rfl⟩ : ∃ g lc, v4 = .slice (some ⟨g, 0, none⟩) n lc := by
    rcases ho4'.2 with ⟨_, h0⟩ | ⟨g, cp, cur, hv, _⟩
    · omega
    · exact ⟨g, cp, hv⟩
  have HB4 : Hid (Below w.heap.size w w4) := HB3.out.grown hg4 hs3 (fun z hz => (HO3.out.lt z hz).1)
  have HG : Hid (∀ m ∈ ms, m.good) := by
    intro m hm
    rw [hms] at hm
    rcases List.mem_cons.1 hm with rfl | hm
    · exact pMf_good (by omega)
    · exact HGm.out m hm
  have HM : Hid (1 ≤ ms.length ∧ ms.length ≤ 4) := by unfold Hid; rw [Hn.out]; omega
  have HCn : Hid (PtAt 0 0 (openHs ms)) := by unfold Hid; rw [hms]; exact PtAt.opened (1 + ps) more
  have HOp : Hid (Calls Try.prog 8 #[.slice (some ⟨g4, 0, none⟩) n lc4] w4 fun e w' => ∃ hb' tb cap vs, e = .returned (.pointer (some ⟨hb', 0, none⟩)) ∧ HostAt w' hb' tb cap (openHs ms) vs ∧ (∀ k, ownOf hb' tb vs k → w4.heap.size ≤ k) ∧ Below w4.heap.size w4 w') := by
    have q := opened_any g4 0 lc4 ms w4 HM.out.1 HM.out.2 HG.out (own_mfRow ho4') (ho4'.lt g4 rfl).2
    rw [Hn.out] at q
    exact q
  clear ho4 ho4' hg4 hn hms HO3 HB3 HNw HLn Hn2 HGm hm1 hm3 hs3 HPr
  go_wp2_with fail
  refine HOp.out.mono ?_
  rintro e w5 ⟨hp, tb, cap, vs, rfl, hh5, ho5, hb5⟩
  have HB5 : Hid (Below w.heap.size w w5) := HB4.out.trans (hb5.mono HB4.out.size)
  have HP5 : Hid (PatIn w.heap.size ms hp tb cap w5 0 1) := ⟨openHs ms, vs, hh5, openHs_ok HG.out HM.out.2, fun k q => Nat.le_trans HB4.out.size (ho5 k q), ⟨0, 0, HCn.out, rfl, by decide⟩, Int.le_refl _⟩
  clear hh5 ho5 hb5 HOp HB4 HCn
  go_wp2_with fail
  go_loopw [12, 13] (fun v i wr => ∃ (k tk : Nat), k ≤ N ∧ k ≤ 150 ∧ i = .int .i64 k ∧ v = .int .i64 tk ∧ tk ≤ k ∧ Hid (PatIn w.heap.size ms hp tb cap wr tk (k + 1)) ∧ Hid (Below w.heap.size w wr))
    (fun _ i _ => N - (intOf i).toNat)
  case atStart => exact ⟨0, 0, Nat.zero_le _, by omega, rfl, rfl, Nat.le_refl _, HP5.out, HB5.out⟩
  case round =>
    obtain ⟨k, tk, hk, hk150, rfl, rfl, htk, HP, HB⟩ := hrel
    clear HP5 HB5
    by_cases hlt : k < N ∧ k < 150
    · obtain ⟨hlt, hl150⟩ := hlt
      obtain ⟨x, hx⟩ : ∃ x, sl[k]? = some x := ⟨sl[k]'(by have := HN.out; omega), List.getElem?_eq_getElem (by have := HN.out; omega)⟩
      obtain ⟨b, off, rfl, hbl, hr⟩ : ∃ b off, sa = some ⟨b, off, none⟩ ∧ b < w.heap.size ∧ StRow w b off sl := HSa.out.1.resolve_left (by rintro rfl; simp at hx)
      have hxo := HSa.out.2 x (List.mem_of_getElem? hx)
      obtain ⟨c0, c1, c2⟩ := (hr.below HB.out hbl) k x hx
      obtain ⟨kd, ax, dao, dcap, dl⟩ := x
      simp only at c0 c1 c2
      have HXo : Hid (St.ok w ⟨kd, ax, dao, dcap, dl⟩) := hxo
      obtain ⟨DL, hDL⟩ : ∃ DL, DL = dl.length := ⟨_, rfl⟩
      have HDL : Hid (dl.length = DL) := hDL.symm
      rw [← hDL] at c2
      have hki : (k : Int) < (N : Int) := by omega
      have hk0 : (0 : Int) ≤ (k : Int) := by omega
      have hkl : (k : Int) < 150 := by omega
      obtain ⟨W2, hW2⟩ : ∃ W, W = wr.alloc (.cells #[.int .i64 kd, .int .i64 ax, .slice dao DL dcap] 31) := ⟨_, rfl⟩
      have HXW : Hid (Blk W2 wr.heap.size #[.int .i64 kd, .int .i64 ax, .slice dao DL dcap] 31) := by unfold Hid; rw [hW2]; exact Blk.new wr _ 31
      have hbWr : Below wr.heap.size wr W2 := by rw [hW2]; exact (Below.refl _ _).alloc (Nat.le_refl _) _
      have HBW : Hid (Below w.heap.size w W2) := HB.out.trans (hbWr.mono HB.out.size)
      have HPW : Hid (PatIn w.heap.size ms hp tb cap W2 tk (k + 1)) := HP.out.below HM.out.1 hbWr
      clear hx hr hxo hDL hbWr HP HB
      go_upto_region 15 with fail
      rw [← hW2]
      obtain ⟨A, hA⟩ : ∃ A, A = wr.heap.size := ⟨_, rfl⟩
      rw [← hA] at HXW ⊢
      clear hW2 hA c0 c1 c2
      have e0 : W2.cell? ⟨A, 0, none⟩ = some (.int .i64 kd) := by rw [HXW.out.cell 0]; rfl
      have e1 : W2.cell? ⟨A, 1, none⟩ = some (.int .i64 ax) := by rw [HXW.out.cell 1]; rfl
      have e2 : W2.cell? ⟨A, 2, none⟩ = some (.slice dao DL dcap) := by rw [HXW.out.cell 2]; rfl
      have P1 : Hid (∀ u : World, Calls Try.prog 10 #[.int .i64 kd, .int .i64 3] u fun e w' => e = .returned (.int .i64 (H.pk kd 3)) ∧ u = w') := fun u => pick_any kd 3 u HXo.out.kind.1 HXo.out.kind.2 (by decide) (by decide)
      have P2 : Hid (∀ u : World, Calls Try.prog 10 #[.int .i64 ax, .int .i64 400] u fun e w' => e = .returned (.int .i64 (H.pk ax 400)) ∧ u = w') := fun u => pick_any ax 400 u HXo.out.a.1 HXo.out.a.2 (by decide) (by decide)
      have hqa := H.pk_range ax 400 (by decide)
      have HDs : Hid (¬ (H.pk kd 3 = 1 ∧ H.pk ax 400 = 1) → Calls Try.prog 9 #[.pointer (some ⟨hp, 0, none⟩), .agg #[.int .i64 kd, .int .i64 ax, .slice dao DL dcap]] W2 fun e w' => e = .returned (.bool true) ∧ PatIn w.heap.size ms hp tb cap w' tk (k + 1 + 1) ∧ Below w.heap.size w w') := by
        intro hno
        have q := HPW.out.does_any HM.out.1 HM.out.2 (by omega) (by omega) HBW.out HXo.out hno
        rw [HDL.out] at q
        exact q
      generalize H.pk kd 3 = QK at P1 HDs
      generalize H.pk ax 400 = QA at P2 HDs hqa
      have hmd : QA.tmod 4 = QA % 4 := Int.tmod_eq_emod_of_nonneg hqa.1
      have hmw : IntKind.i64.wrap (QA % 4) = QA % 4 := by rw [IntKind.wrap_i64]; omega
      go_wp2_with fail
      refine (P2.out _).mono ?_
      rintro e w' ⟨rfl, rfl⟩
      go_wp2_with fail
      refine (P1.out _).mono ?_
      rintro e w' ⟨rfl, rfl⟩
      -- which way it goes
      have hways : (QK = 1 ∧ ((QA == 1) = true ∨ ((QA == 1) = false ∧ (QA % 4 == 0) = true))) ∨ (QK == 1) = false ∨ (QK = 1 ∧ (QA == 1) = false ∧ (QA % 4 == 0) = false) := by
        by_cases a1 : QK = 1
        · by_cases a2 : QA = 1
          · exact Or.inl ⟨a1, Or.inl (by simp [a2])⟩
          · by_cases a3 : QA % 4 = 0
            · exact Or.inl ⟨a1, Or.inr ⟨by rw [beq_eq_false_iff_ne]; exact a2, by simp [a3]⟩⟩
            · exact Or.inr (Or.inr ⟨a1, by rw [beq_eq_false_iff_ne]; exact a2, by rw [beq_eq_false_iff_ne]; exact a3⟩)
        · exact Or.inr (Or.inl (by rw [beq_eq_false_iff_ne]; exact a1))
      clear HXo HDL
      rcases hways with ⟨rfl, hq⟩ | hk1 | ⟨rfl, hq1, hq4⟩
      · rcases hq with hq1 | ⟨hq1, hq4⟩
        all_goals
          obtain ⟨kk, hc⟩ := HPW.out.click_any HM.out.1 HM.out.2 HBW.out
          rcases hc with ⟨hk6, hcall⟩ | ⟨hk6, hcall⟩
          · have HC : Hid (Calls Try.prog 14 #[.pointer (some ⟨hp, 0, none⟩), .int .i64 1] W2 (fun e w' => e = .returned (.int .i64 0) ∧ PatIn w.heap.size ms hp tb cap w' (tk + 1) (k + 1) ∧ Below w.heap.size w w')) := hcall
            clear hcall HDs
            go_wp2_with fail
            refine HC.out.mono ?_
            rintro e w6 ⟨rfl, hp6, hb6⟩
            have HP6 : Hid (PatIn w.heap.size ms hp tb cap w6 (tk + 1) (k + 1 + 1)) := hp6.weaken (by omega)
            have HB6 : Hid (Below w.heap.size w w6) := hb6
            clear hp6 hb6 HC e0 e1 e2
            go_wp2
            go_roundw
            case rel => exact ⟨k + 1, tk + 1, by omega, by omega, by go_num, by go_num, by omega, HP6, HB6⟩
            case measure => simp [intOf]; omega
          · have HC : Hid (Calls Try.prog 14 #[.pointer (some ⟨hp, 0, none⟩), .int .i64 1] W2 (fun e w' => e = .returned (.int .i64 8) ∧ PatAt w.heap.size ms hp tb cap w' (tk - 6) 6 (k + 1) ∧ 6 ≤ tk ∧ Below w.heap.size w w')) := hcall
            clear hcall HDs
            go_wp2_with fail
            refine HC.out.mono ?_
            rintro e w6 ⟨rfl, hp6, h6t, hb6⟩
            have HBx : Hid (Calls Try.prog 15 #[.pointer (some ⟨hp, 0, none⟩), .int .i64 0] w6 fun e w' => ∃ ao c, e = .returned (.slice ao 6 c) ∧ Below w6.heap.size w6 w') := hp6.box_any HM.out.1 HM.out.2 (by decide)
            have HP6 : Hid (PatIn w.heap.size ms hp tb cap w6 tk (k + 1 + 1)) := by
              have q := hp6.toIn (by decide)
              have e6 : tk - 6 + 6 = tk := by omega
              rw [e6] at q
              exact q.weaken (by omega)
            have HB6 : Hid (Below w.heap.size w w6) := hb6
            clear hp6 hb6 HC e0 e1 e2 h6t
            go_wp2_with fail
            refine HBx.out.mono ?_
            rintro e w7 ⟨ao, bc, rfl, hb7⟩
            have HP7 : Hid (PatIn w.heap.size ms hp tb cap w7 tk (k + 1 + 1)) := HP6.out.below HM.out.1 hb7
            have HB7 : Hid (Below w.heap.size w w7) := HB6.out.trans (hb7.mono HB6.out.size)
            clear hb7 HP6 HB6 HBx
            go_wp2
            go_roundw
            case rel => exact ⟨k + 1, tk, by omega, by omega, by go_num, rfl, by omega, HP7, HB7⟩
            case measure => simp [intOf]; omega
      · have HD : Hid (Calls Try.prog 9 #[.pointer (some ⟨hp, 0, none⟩), .agg #[.int .i64 kd, .int .i64 ax, .slice dao DL dcap]] W2 fun e w' => e = .returned (.bool true) ∧ PatIn w.heap.size ms hp tb cap w' tk (k + 1 + 1) ∧ Below w.heap.size w w') := HDs.out (fun h => by rw [beq_eq_false_iff_ne] at hk1; exact hk1 h.1)
        clear HDs
        go_wp2_with fail
        refine HD.out.mono ?_
        rintro e w6 ⟨rfl, hp6, hb6⟩
        have HP6 : Hid (PatIn w.heap.size ms hp tb cap w6 tk (k + 1 + 1)) := hp6
        have HB6 : Hid (Below w.heap.size w w6) := hb6
        clear hp6 hb6 HD e0 e1 e2
        go_wp2
        go_roundw
        case rel => exact ⟨k + 1, tk, by omega, by omega, by go_num, rfl, by omega, HP6, HB6⟩
        case measure => simp [intOf]; omega
      · have HD : Hid (Calls Try.prog 9 #[.pointer (some ⟨hp, 0, none⟩), .agg #[.int .i64 kd, .int .i64 ax, .slice dao DL dcap]] W2 fun e w' => e = .returned (.bool true) ∧ PatIn w.heap.size ms hp tb cap w' tk (k + 1 + 1) ∧ Below w.heap.size w w') := HDs.out (fun h => by rw [beq_eq_false_iff_ne] at hq1; exact hq1 h.2)
        clear HDs
        go_wp2_with fail
        refine HD.out.mono ?_
        rintro e w6 ⟨rfl, hp6, hb6⟩
        have HP6 : Hid (PatIn w.heap.size ms hp tb cap w6 tk (k + 1 + 1)) := hp6
        have HB6 : Hid (Below w.heap.size w w6) := hb6
        clear hp6 hb6 HD e0 e1 e2
        go_wp2
        go_roundw
        case rel => exact ⟨k + 1, tk, by omega, by omega, by go_num, rfl, by omega, HP6, HB6⟩
        case measure => simp [intOf]; omega
    · obtain ⟨c, kk, hpa, hck, hkk⟩ := HP.out.toAt
      have HBx : Hid (Calls Try.prog 15 #[.pointer (some ⟨hp, 0, none⟩), .int .i64 0] wr fun e w' => ∃ ao c, e = .returned (.slice ao kk c) ∧ Below wr.heap.size wr w') := hpa.box_any HM.out.1 HM.out.2 hkk
      have HPa : Hid (PatAt w.heap.size ms hp tb cap wr c kk (k + 1)) := hpa
      have HCk : Hid (c + kk = tk) := hck
      clear hpa hck HP
      have hway : ¬ (k : Int) < (N : Int) ∨ ((k : Int) < (N : Int) ∧ ¬ (k : Int) < 150) := by omega
      rcases hway with hki | ⟨hki, hkl⟩
      all_goals
        go_wp2_with fail
        refine HBx.out.mono ?_
        rintro e w6 ⟨ao, bc, rfl, hb6⟩
        have HPa6 : Hid (PatAt w.heap.size ms hp tb cap w6 c kk (k + 1)) := HPa.out.below HM.out.1 hb6
        have HB6 : Hid (Below w.heap.size w w6) := HB.out.trans (hb6.mono HB.out.size)
        clear hb6 HBx HPa HB
        go_wp2_with fail
        go_loopw [18] (fun i wr => ∃ (j c2 : Nat), i = .int .i64 j ∧ j ≤ 6 ∧ c2 ≤ 160 ∧ Hid (PatAt w.heap.size ms hp tb cap wr c2 j (158 - j)) ∧ Hid (c2 + j = tk) ∧ Hid (Below w.heap.size w wr))
          (fun i _ => (intOf i).toNat)
        case atStart =>
          refine ⟨kk, c, rfl, hkk, by have := HCk.out; omega, ?_, HCk.out, HB6.out⟩
          obtain ⟨H, vs, a1, a2, a3, a4, a5⟩ := HPa6.out
          exact ⟨H, vs, a1, a2, a3, a4, by omega⟩
        case round =>
          obtain ⟨j, c2, rfl, hj6, hc2, HPj, HCj, HBj⟩ := hrel
          clear HPa6 HB6
          cases j with
          | succ j =>
            have HFr : Hid (Calls Try.prog 16 #[.pointer (some ⟨hp, 0, none⟩), .slice none 0 0] wr fun e w' => e = .returned (.int .i64 0) ∧ PatAt w.heap.size ms hp tb cap w' (c2 + 1) j (158 - (j + 1) + 1) ∧ Below w.heap.size w w') := HPj.out.frame_any HM.out.1 HM.out.2 (by omega) (by omega) HBj.out
            have hjp : (0 : Int) < ((j + 1 : Nat) : Int) := by omega
            have HCk2 : Hid (c2 + 1 ≤ 160) := by have := HCj.out; unfold Hid; omega
            go_wp2_with fail
            refine HFr.out.mono ?_
            rintro e w7 ⟨rfl, hp7, hb7⟩
            have HP7 : Hid (PatAt w.heap.size ms hp tb cap w7 (c2 + 1) j (158 - j)) := by
              have e7 : 158 - (j + 1) + 1 = 158 - j := by omega
              rw [e7] at hp7
              exact hp7
            have HB7 : Hid (Below w.heap.size w w7) := hb7
            clear hp7 hb7 HFr HPj HBj
            go_wp2
            go_roundw
            case rel => exact ⟨j, c2 + 1, by go_num, by omega, HCk2.out, HP7, by have := HCj.out; show c2 + 1 + j = tk; omega, HB7⟩
            case measure => simp [intOf]
          | zero =>
            have hct : c2 = tk := HCj.out
            obtain ⟨k1, k2, k3, k4, k5, k6, k7, hcells⟩ := HPj.out.cells_any HM.out.2
            have HCe : Hid (Calls Try.prog 17 #[.pointer (some ⟨hp, 0, none⟩), .int .i64 0] wr fun e w' => e = .returned (.agg #[.int .u16 (c2 : Int), .int .u16 k1, .int .u16 k2, .int .u16 k3, .int .u16 k4, .int .u16 k5, .int .u16 k6, .int .u16 k7]) ∧ Below wr.heap.size wr w') := hcells
            have hcw : IntKind.i64.wrap (c2 : Int) = (c2 : Int) := by rw [IntKind.wrap_i64]; omega
            subst hct
            clear hcells
            go_wp2_with fail
            refine HCe.out.mono ?_
            rintro e w7 ⟨rfl, hb7⟩
            obtain ⟨W7, hW7⟩ : ∃ W, W = w7.alloc (.cells #[.int .u16 (c2 : Int), .int .u16 k1, .int .u16 k2, .int .u16 k3, .int .u16 k4, .int .u16 k5, .int .u16 k6, .int .u16 k7] 47) := ⟨_, rfl⟩
            have hb7' : Below wr.heap.size wr W7 := by rw [hW7]; exact hb7.alloc hb7.size _
            have HX7 : Hid (Blk W7 w7.heap.size #[.int .u16 (c2 : Int), .int .u16 k1, .int .u16 k2, .int .u16 k3, .int .u16 k4, .int .u16 k5, .int .u16 k6, .int .u16 k7] 47) := by unfold Hid; rw [hW7]; exact Blk.new w7 _ 47
            have HP7 : Hid (PatAt w.heap.size ms hp tb cap W7 c2 0 158) := HPj.out.below HM.out.1 hb7'
            have HB7 : Hid (Below w.heap.size w W7) := HBj.out.trans (hb7'.mono HBj.out.size)
            have HPh : Hid (Calls Try.prog 18 #[.pointer (some ⟨hp, 0, none⟩), .int .i64 0] W7 fun e w' => e = .returned (.int .u8 1) ∧ W7 = w') := HP7.out.phase_any HM.out.2
            have HBx : Hid (Calls Try.prog 15 #[.pointer (some ⟨hp, 0, none⟩), .int .i64 0] W7 fun e w' => ∃ ao c, e = .returned (.slice ao 0 c) ∧ Below W7.heap.size W7 w') := HP7.out.box_any HM.out.1 HM.out.2 (by decide)
            clear hb7 hb7' HCe
            go_upto_region 32 with fail
            rw [← hW7]
            clear hW7
            have g0 : W7.cell? ⟨w7.heap.size, 0, none⟩ = some (.int .u16 (c2 : Int)) := by rw [HX7.out.cell 0]; rfl
            go_wp2_with fail
            refine HPh.out.mono ?_
            rintro e w8 ⟨rfl, rfl⟩
            go_wp2_with fail
            refine HBx.out.mono ?_
            rintro e w8 ⟨ao2, bc2, rfl, hb8⟩
            have HB8 : Hid (Below w.heap.size w w8) := HB7.out.trans (hb8.mono HB7.out.size)
            clear hb8
            go_wp2
            go_ret
            exact ⟨rfl, HB8.out⟩
end Go.Proofs.Ytidaflmmldefcaa
