/-
  Apart, for every list of guests, every other guest, every script, clicks and draws: the call returns true, and what came in reads as it did. No condition.
-/
import Derived.Test.YtidaflmmldefcaaRows
import Derived.Test.YtidaflmmldefcaaOpnG
import Derived.Test.YtidaflmmldefcaaApW
namespace Go.Proofs.Ytidaflmmldefcaa
open Go.ChangeShapes Go.WideShapes Go.ChangeAt Go.RowKit Go.Deep
set_option linter.unusedVariables false

theorem open_clicks {H : Type} {enc : TypeId × Value → H} {W : World} {v : Value} {x : DataW H × List MemPlace} {fuel : Nat}
    (h : DataW.trod enc Try.prog W 0 (fun _ => true) true fuel 62 [v] = some x) :
    ∃ (ao : Option Addr) (cap : Nat) (l : List Int), v = .slice ao l.length cap ∧ l.length ≤ maxLen ∧ IntAt W ao l ∧ ∀ c ∈ l, in64 c := by
  rcases open_ints Try.underlying62 Try.underlying3 cells3 h with ⟨hcs, _⟩ | ⟨ad, len, cap, zs, hcs, _, hlc, hm, hz, _, hcell, hwz⟩
  · simp at hcs
    subst hcs
    exact ⟨none, 0, [], rfl, Nat.zero_le _, Or.inl rfl, by intro x hx; simp at hx⟩
  · simp at hcs
    subst hcs
    obtain ⟨bd, off, spot⟩ := ad
    simp at hz
    have hlen : (zs.take len).length = len := by rw [List.length_take]; omega
    refine ⟨some ⟨bd, off, spot⟩, cap, zs.take len, by rw [hlen], by rw [hlen]; omega, ?_, ?_⟩
    · by_cases h0 : 0 < len
      · right
        have hs : spot = none := by
          have := hcell 0 (by omega)
          simpa [Addr.add] using World.cell?_spot this
        subst hs
        have hrow : IntRow W bd off (zs.take len) := by
          intro i x hx
          have hi := (List.getElem?_eq_some_iff.1 hx).1
          rw [hlen] at hi
          have h1 := hcell i (by omega)
          rw [Addr.add_lit] at h1
          rw [h1]
          rw [List.getElem?_take, if_pos (by omega)] at hx
          simp [List.getD, hx]
        have h1 := hcell 0 (by omega)
        rw [Addr.add_lit] at h1
        exact ⟨bd, off, rfl, World.block_lt_of_cell? _ _ h1, hrow⟩
      · left
        have : len = 0 := by omega
        subst this
        rfl
    · intro c hc
      exact bounds_i64 (hwz c (List.mem_of_mem_take hc))

set_option maxRecDepth 100000 in
theorem apart_lifted (os : Os) (started : os.Started) (H : Type) (enc : TypeId × Value → H) :
    ReturnsInHanded {} Try.checked os 6 .any (Rows.apartSpec.pre6 enc Try.prog Try.f6 Rows.apartRow.domain false) (Rows.apartSpec.post enc Try.prog Try.f6 false true false false) := by
  refine returnsInHanded_of_change (C := Try.checked) own started (by kernel_rfl) Try.func6
    (ChangeSpec.witness6 (enc := enc) (C := Try.checked) false ⟨#[], #[.slice none 0 0, .int .i64 0, .agg #[.slice none 0 0, .int .i64 0, .int .i64 0, .int .i64 0, .int .i64 0, .int .i64 0, .int .i64 0], .slice none 0 0, .slice none 0 0, .slice none 0 0], []⟩ 8 (by kernel_rfl) (by kernel_rfl) (by kernel_rfl) (by kernel_rfl)) ?_
  intro W base args ds gs before hval0 hW hcnd _
  have hval : ∀ (j : Nat) t v, Try.f6.params[j]? = some t → args[j]? = some v → Value.okWide Try.prog W .any base t v := hval0
  have hW' := hW
  obtain ⟨p, q, hA0, hV, rfl, hfz, hnd⟩ := hW
  have hA : DataW.TrodAll enc Try.prog W 0 (fun _ => true) true Try.f6.params.toList args.toList ds p := hA0
  rw [Try.params6] at hA hval
  obtain ⟨v0, vs0, d0, ds0, p0, q0, hargs, rfl, rfl, h0, r0⟩ := trodAll_cons hA
  obtain ⟨v1, vs1, d1, ds1, p1, q1, rfl, rfl, rfl, h1, r1⟩ := trodAll_cons r0
  obtain ⟨v2, vs2, d2, ds2, p2, q2, rfl, rfl, rfl, h2, r2⟩ := trodAll_cons r1
  obtain ⟨v3, vs3, d3, ds3, p3, q3, rfl, rfl, rfl, h3, r3⟩ := trodAll_cons r2
  obtain ⟨v4, vs4, d4, ds4, p4, q4, rfl, rfl, rfl, h4, r4⟩ := trodAll_cons r3
  obtain ⟨v5, vs5, d5, ds5, p5, q5, rfl, rfl, rfl, h5, r5⟩ := trodAll_cons r4
  obtain ⟨rfl, rfl, rfl⟩ := trodAll_nil r5
  obtain rfl : args = #[v0, v1, v2, v3, v4, v5] := by cases args; simp_all
  obtain ⟨rfl, rfl⟩ := trodVars_none hV
  obtain ⟨a0, len0, cap0, rfl⟩ := okWide_slice Try.underlying22 (hval 0 22 v0 rfl rfl)
  obtain ⟨a3, len3, cap3, rfl⟩ := okWide_slice Try.underlying23 (hval 3 23 v3 rfl rfl)
  obtain ⟨a4, len4, cap4, rfl⟩ := okWide_slice Try.underlying62 (hval 4 62 v4 rfl rfl)
  obtain ⟨a5, len5, cap5, rfl⟩ := okWide_slice Try.underlying63 (hval 5 63 v5 rfl rfl)
  obtain ⟨cs2, rfl, hsz2⟩ := okWide_struct Try.underlying61 (hval 2 61 v2 rfl rfl)
  rw [cells61] at hsz2
  have k0 := h0
  have lt0 : ∀ x ∈ p0, x.block < W.heap.size := by obtain ⟨m, hm⟩ := k0; exact DataW.trod_lt m _ _ _ hm
  have k2 := h2
  have lt2 : ∀ x ∈ p2, x.block < W.heap.size := by obtain ⟨m, hm⟩ := k2; exact DataW.trod_lt m _ _ _ hm
  have k3 := h3
  have lt3 : ∀ x ∈ p3, x.block < W.heap.size := by obtain ⟨m, hm⟩ := k3; exact DataW.trod_lt m _ _ _ hm
  have k4 := h4
  have lt4 : ∀ x ∈ p4, x.block < W.heap.size := by obtain ⟨m, hm⟩ := k4; exact DataW.trod_lt m _ _ _ hm
  have k5 := h5
  have lt5 : ∀ x ∈ p5, x.block < W.heap.size := by obtain ⟨m, hm⟩ := k5; exact DataW.trod_lt m _ _ _ hm
  obtain ⟨fuel, hf⟩ := h0
  obtain ⟨gl, rfl, hgl, hga⟩ := open_guests (by simpa [Value.cells] using hf)
  obtain ⟨a1, rfl, rfl, rfl, w1⟩ := open_int Try.underlying3 (hval 1 3 v1 rfl rfl) h1
  have b1 := bounds_i64 w1
  obtain ⟨fuel2, hf2⟩ := h2
  have hl7 : cs2.toList.length = 7 := by rw [Array.length_toList]; exact hsz2
  obtain ⟨bad, hbe, hbad⟩ := open_guest hl7 (by simpa [Value.cells] using hf2)
  have hbe' : cs2 = bad.arr := by rw [← Array.toArray_toList (xs := cs2), hbe]
  subst hbe'
  obtain ⟨fuel3, hf3⟩ := h3
  obtain ⟨sl, rfl, hsl, hsa⟩ := open_steps (by simpa [Value.cells] using hf3)
  obtain ⟨fuel4, hf4⟩ := h4
  obtain ⟨ca, ccap, cl, ce, hcl, hca, hcr⟩ := open_clicks (by simpa [Value.cells] using hf4)
  simp only [Value.slice.injEq] at ce
  obtain ⟨rfl, rfl, rfl⟩ := ce
  obtain ⟨fuel5, hf5⟩ := h5
  obtain ⟨eo, ec, ods, oe, hol, hor, hrow⟩ := open_draw (by simpa [Value.cells] using hf5)
  simp only [Value.slice.injEq] at oe
  obtain ⟨rfl, rfl, rfl⟩ := oe
  clear hA0 hval0
  refine (apartLaw_any a0 a3 a4 cap0 cap3 cap4 gl a1 bad sl cl ⟨a5, cap5, ods⟩ W hgl hsl hcl b1 hga hbad hsa hca hcr ⟨hol, hor, hrow⟩).mono fun e W' ⟨he, bel⟩ => ?_
  subst he
  exact ⟨_, rfl, _, _, _, [], _, [], hW', trodAll_mk1 (shut_bool Try.underlying4 _), (trodAll_cons_mk (Below.trod laidOut (by kernel_rfl) (of_decide_eq_true (by kernel_rfl)) k0 bel lt0) (trodAll_cons_mk (shut_int Try.underlying3 w1) (trodAll_cons_mk (Below.trod laidOut (by kernel_rfl) (of_decide_eq_true (by kernel_rfl)) k2 bel lt2) (trodAll_cons_mk (Below.trod laidOut (by kernel_rfl) (of_decide_eq_true (by kernel_rfl)) k3 bel lt3) (trodAll_cons_mk (Below.trod laidOut (by kernel_rfl) (of_decide_eq_true (by kernel_rfl)) k4 bel lt4) (trodAll_cons_mk (Below.trod laidOut (by kernel_rfl) (of_decide_eq_true (by kernel_rfl)) k5 bel lt5) trodAll_mk0)))))), rfl, bel.frame _, fun h => by cases h⟩

theorem apart_holds : Rows.ApartSaid :=
  OpenClaim.holds_of_wide 6 Try.f6 rfl rfl rfl rfl rfl rfl rfl ⟨rfl, rfl, rfl, rfl, rfl⟩ rfl rfl rfl rfl rfl (by kernel_rfl) Try.func6 (by kernel_rfl)
    (of_decide_eq_true (by kernel_rfl)) (by unfold Func.isWrapper; first | (rw [if_pos (by decide +kernel)]; kernel_rfl) | (rw [if_neg (by decide +kernel)]; exact ⟨rfl, rfl⟩))
    (fun os started H enc _ => apart_lifted os started H enc)

#print axioms apart_holds
end Go.Proofs.Ytidaflmmldefcaa
