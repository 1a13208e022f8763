/-
  The document's own answer: the walk of patch, where a node is put in, or taken out.
-/
import Derived.Test.YtcaeeaiodbjacaaPatchR
namespace Go.Proofs.Ytcaeeaiodbjacaa
open Go.RowKit
set_option linter.unusedVariables false

/-- The node's Key and Text and the place, behind k nodes. -/
def st (l : List T.Nd) (j : Nat) (kind at_ key : Int) (text : ByteArray) (k : Nat) : Int × ByteArray × Int :=
  if j < k then ((l.getD j (0, 0, ⟨#[]⟩)).2.1, if kind = 3 then (l.getD j (0, 0, ⟨#[]⟩)).2.2 else text, if kind = 3 then at_ else j) else (key, text, at_)

theorem st_same {l : List T.Nd} {j : Nat} {kind at_ key : Int} {text : ByteArray} {k : Nat} (h : k ≠ j) : st l j kind at_ key text (k + 1) = st l j kind at_ key text k := by
  unfold st
  by_cases hj : j < k
  · rw [if_pos hj, if_pos (by omega)]
  · rw [if_neg hj, if_neg (by omega)]

theorem st_before {l : List T.Nd} {j : Nat} {kind at_ key : Int} {text : ByteArray} : st l j kind at_ key text j = (key, text, at_) := by
  unfold st
  rw [if_neg (by omega)]

theorem st_move {l : List T.Nd} {j : Nat} {at_ key : Int} {text : ByteArray} {y : T.Nd} (h : l[j]? = some y) : st l j 3 at_ key text (j + 1) = (y.2.1, y.2.2, at_) := by
  unfold st
  rw [if_pos (by omega), List.getD, h]
  rfl

theorem st_else {l : List T.Nd} {j : Nat} {kind at_ key : Int} {text : ByteArray} {y : T.Nd} (h : l[j]? = some y) (hk : kind ≠ 3) : st l j kind at_ key text (j + 1) = (y.2.1, text, (j : Int)) := by
  unfold st
  rw [if_pos (by omega), List.getD, h, if_neg hk, if_neg hk]
  rfl

theorem st_end {l : List T.Nd} {j : Nat} {kind id at_ key nk av : Int} {text nt : ByteArray} (h : (nk, nt, av) = st l j kind at_ key text l.length) : T.rN l j kind id key text = (id, nk, nt) ∧ T.rAt l j kind at_ = av := by
  unfold st at h
  unfold T.rN T.rAt
  by_cases hj : j < l.length
  · rw [if_pos hj] at h
    rw [if_pos hj, if_pos hj]
    simp only [Prod.mk.injEq] at h
    obtain ⟨rfl, rfl, rfl⟩ := h
    exact ⟨rfl, rfl⟩
  · rw [if_neg hj] at h
    rw [if_neg hj, if_neg hj]
    simp only [Prod.mk.injEq] at h
    obtain ⟨rfl, rfl, rfl⟩ := h
    exact ⟨rfl, rfl⟩

theorem upTo_mem {l : List T.Nd} {j k : Nat} {x : T.Nd} (h : x ∈ upTo l j k) : x ∈ l := by
  unfold upTo at h
  split at h
  · exact List.mem_of_mem_take (List.mem_of_mem_eraseIdx h)
  · exact List.mem_of_mem_take h

/-- What is known behind the first loop. -/
structure LoopEnd (w wr : World) (l : List T.Nd) (j k m cv : Nat) (bo : Option Addr) (kind id at_ key : Int) (text : ByteArray) (nk : Int) (nt : ByteArray) : Prop where
  rest : wr.ownsRow (w.heap.size + 2) 60 3 (.slice bo m cv) m (ndCells (upTo l j k))
  node : Blk wr (w.heap.size + 1) #[.int .u8 id, .int .u16 nk, .string nt] 60
  pat : Blk wr w.heap.size #[.int .u8 kind, .int .u8 id, .int .i64 at_, .int .u16 key, .string text] 46
  bel : Below w.heap.size w wr
  len : (upTo l j k).length = m

theorem LoopEnd.drewN {w wr : World} {l : List T.Nd} {j k m cv : Nat} {bo : Option Addr} {kind id at_ key : Int} {text : ByteArray} {nk : Int} {nt : ByteArray} (h : LoopEnd w wr l j k m cv bo kind id at_ key text nk nt) (q : Nat) : LoopEnd w (wr.drewN q) l j k m cv bo kind id at_ key text nk nt :=
  ⟨own_below' h.rest (below_drewN (Below.refl _ _) q) (Nat.le_refl _), h.node, h.pat, below_drewN h.bel q, h.len⟩

theorem LoopEnd.set {w wr : World} {l : List T.Nd} {j k m cv i : Nat} {bo : Option Addr} {kind id at_ key : Int} {text : ByteArray} {nk nk' : Int} {nt nt' : ByteArray} {u : Value} (h : LoopEnd w wr l j k m cv bo kind id at_ key text nk nt) (e : #[Value.int .u8 id, .int .u16 nk, .string nt].setIfInBounds i u = #[Value.int .u8 id, .int .u16 nk', .string nt']) : LoopEnd w (wr.setCell ⟨w.heap.size + 1, i, none⟩ u) l j k m cv bo kind id at_ key text nk' nt' := by
  refine ⟨?_, by rw [← e]; exact h.node.set i u, h.pat.other _ _ (by simp), h.bel.setCell (by simp) _, h.len⟩
  refine own_block h.rest fun g hg => Below.heap_setCell _ _ _ _ ?_
  have := (h.rest.lt g hg).1
  simp
  omega

theorem LoopEnd.skip {w wr : World} {l : List T.Nd} {j m cv : Nat} {bo : Option Addr} {kind id at_ key : Int} {text : ByteArray} {nk : Int} {nt : ByteArray} {y : T.Nd} (h : LoopEnd w wr l j j m cv bo kind id at_ key text nk nt) (hy : l[j]? = some y) : LoopEnd w wr l j (j + 1) m cv bo kind id at_ key text nk nt := by
  have e : upTo l j (j + 1) = upTo l j j := by rw [upTo_next hy, if_pos rfl]
  exact ⟨by rw [e]; exact h.rest, h.node, h.pat, h.bel, by rw [e]; exact h.len⟩

set_option maxRecDepth 100000 in
set_option maxHeartbeats 8000000 in
theorem refPatch_in (ao : Option Addr) (cap : Nat) (l : List T.Nd) (kind id at_ key : Int) (text : ByteArray) (j : Nat) (w : World) (hl : l.length ≤ 64) (ha : NodeAt w ao l) (hk : ndOk l) (hsm : ndSmall l) (hid : 0 ≤ id ∧ id ≤ 255) (htx : text.size ≤ 4611686018427387904)
    (hk1 : 1 ≤ kind) (hk4 : kind ≤ 4) (hhas : T.has l id = !decide (kind = 2)) (hj : j ≤ l.length) (hji : ∀ (i : Nat) (x : T.Nd), l[i]? = some x → (x.1 = id ↔ i = j)) :
    Calls Try.prog 39 #[.slice ao l.length cap, .agg #[.int .u8 kind, .int .u8 id, .int .i64 at_, .int .u16 key, .string text]] w fun e w' => refEnd (rO l j kind id at_ key text) w.heap.size w e w' := by
  obtain ⟨i0, hi, hz0, hz1, hz2⟩ := info_parts info60
  have HU : Hid (∀ u : World, Below w.heap.size w u → Calls Try.prog 33 #[.slice ao l.length cap, .int .i64 id] u fun e w' => e = .returned (.bool (T.has l id)) ∧ u = w') := fun u hu => used_any ao cap l id u (by unfold maxLen; omega) (ha.below hu (Nat.le_refl _) hu.size) hk
  have hw : wrap64 id = id := by unfold wrap64; omega
  obtain ⟨n, hn⟩ : ∃ n, n = l.length := ⟨_, rfl⟩
  have Hn : Hid (l.length = n) := hn.symm
  rw [← hn] at HU hl hj ⊢
  rw [hhas] at HU
  have HA : Hid (NodeAt w ao l) := ha
  have HJ : Hid (∀ (i : Nat) (x : T.Nd), l[i]? = some x → (x.1 = id ↔ i = j)) := hji
  have HSm : Hid (∀ x ∈ l, x.2.2.size ≤ 4611686018427387904) := hsm
  have HTx : Hid (text.size ≤ 4611686018427387904) := htx
  have h1 : ¬ kind < 1 := by omega
  have h4 : ¬ 4 < kind := by omega
  obtain ⟨b2, hb2⟩ : ∃ b, b = decide (kind = 2) := ⟨_, rfl⟩
  have he2 : (kind == 2) = b2 := by rw [hb2]; by_cases h : kind = 2 <;> simp [h]
  rw [← hb2] at HU
  have hne : ((!b2) == b2) = false := by cases b2 <;> rfl
  clear hn ha hk hhas hji hsm htx hb2
  go_enter Try.func39, Try.ntmps39
  go_wp2_with fail
  refine (HU.out _ ((Below.refl _ _).alloc (Nat.le_refl _) _)).mono ?_
  rintro e w1 ⟨rfl, rfl⟩
  clear HU
  go_wp2_with fail
  have HS0 : Hid (LoopEnd w ((w.alloc (.cells #[.int .u8 kind, .int .u8 id, .int .i64 at_, .int .u16 key, .string text] 46)).alloc (.cells #[.int .u8 id, .int .u16 key, .string text] 60)) l j 0 0 0 none kind id at_ key text key text) := by
    refine ⟨by simpa [upTo, ndCells] using World.ownsRow_nil _ _ _ _, ?_, (Blk.new w _ 46).alloc _, ((Below.refl _ _).alloc (Nat.le_refl _) _).alloc (by simp) _, by simp [upTo]⟩
    have := Blk.new (w.alloc (.cells #[.int .u8 kind, .int .u8 id, .int .i64 at_, .int .u16 key, .string text] 46)) #[.int .u8 id, .int .u16 key, .string text] 60
    simpa using this
  go_loopw [7, 9, 10] (fun v a i wr => ∃ (k m cv : Nat) (bo : Option Addr) (nk : Int) (nt : ByteArray) (av : Int), v = .slice bo m cv ∧ a = .int .i64 av ∧ i = .int .i64 k ∧ m ≤ k ∧ k ≤ n ∧ Hid (LoopEnd w wr l j k m cv bo kind id at_ key text nk nt) ∧ Hid ((nk, nt, av) = st l j kind at_ key text k))
    (fun _ _ i _ => n - (intOf i).toNat)
  case atStart => exact ⟨0, 0, 0, none, key, text, at_, rfl, rfl, rfl, Nat.le_refl _, Nat.zero_le _, HS0, by unfold Hid st; rw [if_neg (by omega)]⟩
  case round =>
    obtain ⟨k, m, cv, bo, nk, nt, av, rfl, rfl, rfl, hmk, hkn, HL, HS⟩ := hrel
    clear HS0
    have p0 := HL.out.pat.cell 0
    have p1 := HL.out.pat.cell 1
    simp at p0 p1
    have n0 := HL.out.node.cell 0
    have n1 := HL.out.node.cell 1
    have n2 := HL.out.node.cell 2
    simp at n0 n1 n2
    have f1 := HL.out.node.free 1
    have f2 := HL.out.node.free 2
    have hsz := HL.out.bel.size
    have hnl := HL.out.node.lt
    by_cases hlt : k < n
    · obtain ⟨y, hy⟩ : ∃ x, l[k]? = some x := ⟨l[k]'(by have := Hn.out; omega), List.getElem?_eq_getElem (by have := Hn.out; omega)⟩
      obtain ⟨b, off, rfl, hbl, hr⟩ : ∃ b off, ao = some ⟨b, off, none⟩ ∧ b < w.heap.size ∧ NodeRow w b off l := HA.out.resolve_left (by rintro rfl; simp at hy)
      have hyj := HJ.out k y hy
      have HY : Hid (l[k]? = some y) := hy
      obtain ⟨y1, y2, y3⟩ := y
      obtain ⟨c0, c1, c2⟩ := (hr.below HL.out.bel hbl) k _ hy
      simp only at c0 c1 c2 hyj
      have hki : (k : Int) < (n : Int) := by omega
      have hk0 : (0 : Int) ≤ (k : Int) := by omega
      have hbw : b < wr.heap.size := by omega
      have hb1 : ¬ b = w.heap.size + 1 := by omega
      clear hy hr
      by_cases hkj : k = j
      · have hye : y1 = id := hyj.2 hkj
        subst hkj
        subst hye
        have hs0 : nk = key ∧ nt = text ∧ av = at_ := by
          have h := HS.out
          rw [st_before] at h
          simp only [Prod.mk.injEq] at h
          exact h
        obtain ⟨rfl, rfl, rfl⟩ := hs0
        by_cases k3 : kind = 3
        · subst k3
          have HS' : Hid ((y2, y3, av) = st l k 3 av nk nt (k + 1)) := by unfold Hid; rw [st_move HY.out]
          have HL' : Hid (LoopEnd w wr l k (k + 1) m cv bo 3 y1 av nk nt nk nt) := HL.out.skip HY.out
          clear HS hyj
          go_wp2_with fail
          go_quiet (fail)
          go_wp2
          go_roundw
          case rel =>
            refine ⟨k + 1, m, cv, bo, y2, y3, av, rfl, rfl, by go_num, by omega, by omega, ?_, HS'⟩
            exact ((HL'.out.drewN _).set (nk' := y2) (nt' := nt) rfl).set rfl
          case measure => simp [intOf]; omega
        · have hk3 : (kind == 3) = false := by rw [beq_eq_false_iff_ne]; exact k3
          have HS' : Hid ((y2, nt, (k : Int)) = st l k kind av nk nt (k + 1)) := by unfold Hid; rw [st_else HY.out k3]
          have HL' : Hid (LoopEnd w wr l k (k + 1) m cv bo kind y1 av nk nt nk nt) := HL.out.skip HY.out
          clear HS hyj k3
          go_wp2_with fail
          go_quiet (fail)
          go_wp2
          go_roundw
          case rel =>
            refine ⟨k + 1, m, cv, bo, y2, nt, k, rfl, rfl, by go_num, by omega, by omega, ?_, HS'⟩
            exact (HL'.out.drewN _).set rfl
          case measure => simp [intOf]; omega
      · have hye : (y1 == id) = false := by
          rw [beq_eq_false_iff_ne]
          intro h
          exact hkj (hyj.1 h)
        have hyn : (y1 != id) = true := by simp [bne, hye]
        have HS' : Hid ((nk, nt, av) = st l j kind at_ key text (k + 1)) := by unfold Hid; rw [st_same hkj]; exact HS.out
        have HU2 : Hid (upTo l j (k + 1) = upTo l j k ++ [(y1, y2, y3)]) := by unfold Hid; rw [upTo_next HY.out, if_neg hkj]
        have HLq : Hid (∀ q, LoopEnd w (wr.drewN q) l j k m cv bo kind id at_ key text nk nt) := fun q => HL.out.drewN q
        clear HS hyj hkj
        go_wp2_with fail
        go_quiet (fail)
        go_wp2_with (at_builtin; refine wpList_append_own _ rfl (.tmp 56) (.tmp 61) 22 rfl (w.heap.size + 2) 60 i0 (.agg #[.int .u8 0, .int .u16 0, .string ⟨#[]⟩]) 3 24 Try.underlying22 hi hz0 hz1 hz2 rfl (by decide) _ _ _ rfl ((HLq.out _).rest.alloc _) ⟨wr.heap.size, 0, none⟩ 1 1 [.int .u8 y1, .int .u16 y2, .string y3] rfl rfl (new_three _ _ _ _ _) (by intro u hu; simp at hu; rcases hu with rfl | rfl | rfl <;> rfl) (by unfold maxLen; omega) (by omega) (by simp; omega) ?_)
        intro v3 w3 hown3 hg3 _
        have HL3 : ∃ g3 cap3, v3 = .slice (some ⟨g3, 0, none⟩) (m + 1) cap3 ∧ Hid (LoopEnd w w3 l j (k + 1) (m + 1) cap3 (some ⟨g3, 0, none⟩) kind id at_ key text nk nt) := by
          have hq := (HLq.out 0)
          obtain ⟨g3, cap3, hv3⟩ : ∃ g3 cap3, v3 = .slice (some ⟨g3, 0, none⟩) (m + 1) cap3 := by
            rcases hown3.2 with ⟨_, h⟩ | ⟨g3, cap3, _, h, _⟩
            · omega
            · exact ⟨g3, cap3, h⟩
          refine ⟨g3, cap3, hv3, ?_⟩
          subst hv3
          have hno : ∀ (q b : Nat), b < w.heap.size + 2 → some b ≠ Value.ownBlock (.slice bo m cv) := by
            intro q b hb he
            have := (HL.out.rest.lt b he.symm).1
            omega
          refine ⟨by rw [HU2.out, ndCells_snoc]; exact hown3, ((HLq.out _).node.alloc _).grown hg3 (hno 0 _ (by omega)), ((HLq.out _).pat.alloc _).grown hg3 (hno 0 _ (by omega)), below_app ((below_drewN HL.out.bel _).alloc hsz _) hg3 ((HLq.out _).rest.alloc _) (by omega) (by simp; omega), by rw [HU2.out]; simp [HL.out.len]⟩
        obtain ⟨g3, cap3, hv3, HL3⟩ := HL3
        have HV : Hid (v3 = .slice (some ⟨g3, 0, none⟩) (m + 1) cap3) := hv3
        clear hown3 hg3 HLq HL hv3
        go_wp2
        go_roundw
        case rel => exact ⟨k + 1, m + 1, cap3, some ⟨g3, 0, none⟩, nk, nt, av, HV.out, rfl, by go_num, by omega, by omega, HL3, HS'⟩
        case measure => simp [intOf]; omega
    · obtain rfl : k = n := by omega
      have hRN := st_end (id := id) (l := l) (j := j) (kind := kind) (at_ := at_) (key := key) (text := text) (nk := nk) (nt := nt) (av := av) (by rw [Hn.out]; exact HS.out)
      have HR : Hid (rO l j kind id at_ key text = if kind = 1 then some (upTo l j k) else T.withO (upTo l j k) av (id, nk, nt)) := by unfold Hid rO; rw [Hn.out, hRN.1, hRN.2]
      have HNt : Hid (nt.size ≤ 4611686018427387904) := by
        have h := HS.out
        unfold st at h
        unfold Hid
        split at h
        · simp only [Prod.mk.injEq] at h
          rw [h.2.1]
          split
          · rename_i hjk _
            have hjl : j < l.length := by rw [Hn.out]; exact hjk
            have hm : l.getD j (0, 0, ⟨#[]⟩) ∈ l := by
              rw [List.getD, List.getElem?_eq_getElem hjl]
              exact List.getElem_mem hjl
            exact HSm.out _ hm
          · exact HTx.out
        · simp only [Prod.mk.injEq] at h
          rw [h.2.1]
          exact HTx.out
      have hki : ¬ (k : Int) < (k : Int) := by omega
      have HLl : Hid ((upTo l j k).length = m) := HL.out.len
      have HLm : Hid (∀ x ∈ upTo l j k, x.2.2.size ≤ 4611686018427387904) := fun x hx => HSm.out x (upTo_mem hx)
      clear hRN HS
      by_cases k1 : kind = 1
      · subst k1
        have HR1 : Hid (rO l j 1 id at_ key text = some (upTo l j k)) := by unfold Hid; rw [HR.out, if_pos rfl]
        go_wp2
        go_ret2
        exact refEnd_some HR1.out (by rw [HLl.out]; exact own_weaken HL.out.rest (by omega)) HL.out.bel
      · have hk1b : (kind == 1) = false := by rw [beq_eq_false_iff_ne]; exact k1
        have HR1 : Hid (rO l j kind id at_ key text = T.withO (upTo l j k) av (id, nk, nt)) := by unfold Hid; rw [HR.out, if_neg k1]
        clear k1 HR
        obtain ⟨L, hL⟩ : ∃ L, L = upTo l j k := ⟨_, rfl⟩
        rw [← hL] at HR1 HLl HLm
        have HRest : Hid (wr.ownsRow (w.heap.size + 2) 60 3 (.slice bo m cv) m (ndCells L)) := by unfold Hid; rw [hL]; exact HL.out.rest
        have HBel : Hid (Below w.heap.size w wr) := HL.out.bel
        clear hL
        have HOut : ∀ av' : Int, ¬ (0 ≤ av' ∧ av' ≤ m) → T.withO L av' (id, nk, nt) = none := by
          intro av' h
          unfold T.withO T.withOk
          rw [HLl.out]
          rw [if_neg]
          simp
          intro h1 h2
          exact absurd ⟨h1, h2⟩ h
        have HOutH : Hid (∀ av' : Int, ¬ (0 ≤ av' ∧ av' ≤ m) → T.withO L av' (id, nk, nt) = none) := HOut
        clear HOut
        by_cases hav0 : av < 0
        · have HN : Hid (rO l j kind id at_ key text = none) := by unfold Hid; rw [HR1.out]; exact HOutH.out av (by omega)
          go_wp2
          go_ret2
          exact refEnd_none HN.out HBel.out
        · by_cases havm : (m : Int) < av
          · have HN : Hid (rO l j kind id at_ key text = none) := by unfold Hid; rw [HR1.out]; exact HOutH.out av (by omega)
            go_wp2
            go_ret2
            exact refEnd_none HN.out HBel.out
          · obtain ⟨q, rfl⟩ : ∃ q : Nat, av = q := ⟨av.toNat, by omega⟩
            have hqm : q ≤ m := by omega
            have HFin : Hid (∀ (v3 : Value) (w3 : World), w3.ownsRow wr.heap.size 60 3 v3 (m + 1) (ndCells (T.put L q (id, nk, nt))) → ∃ ao3 c3, v3 = .slice ao3 (m + 1) c3 ∧ (Calls Try.prog 21 #[.slice ao3 (m + 1) c3] w3 fun e w' => e = .returned (.bool (T.isTree (T.put L q (id, nk, nt)))) ∧ Below w3.heap.size w3 w') ∧ w3.ownsRow wr.heap.size 60 3 v3 (T.put L q (id, nk, nt)).length (ndCells (T.put L q (id, nk, nt)))) := by
              intro v3 w3 h
              have hlen : (T.put L q (id, nk, nt)).length = m + 1 := by
                unfold T.put
                simp [List.length_take, List.length_drop, HLl.out]
                omega
              rw [← hlen] at h
              obtain ⟨ao3, c3, e3, h3, h4, h5⟩ := own_node h
              rw [hlen] at e3
              refine ⟨ao3, c3, e3, ?_, h⟩
              have := refTree_any ao3 c3 (T.put L q (id, nk, nt)) w3 h4 h5 (by
                intro y hy
                unfold T.put at hy
                simp only [List.mem_append, List.mem_singleton] at hy
                rcases hy with (hy | hy) | hy
                · exact HLm.out y (List.mem_of_mem_take hy)
                · subst hy; exact HNt.out
                · exact HLm.out y (List.mem_of_mem_drop hy))
              rw [hlen] at this
              exact this
            cases bo with
            | none =>
              obtain ⟨rfl, rfl⟩ : m = 0 ∧ cv = 0 := by
                rcases HRest.out.2 with ⟨hv, h0⟩ | ⟨g, cp, cur, hv, _⟩
                · simp only [Value.slice.injEq] at hv
                  exact ⟨h0, hv.2.2⟩
                · simp at hv
              obtain rfl : q = 0 := by omega
              have hL0 : L = [] := List.eq_nil_of_length_eq_zero HLl.out
              subst hL0
              clear HRest HOutH HLl HLm
              go_wp2_with (at_builtin; refine wpList_append_own _ rfl (.tmp 96) (.tmp 98) 22 rfl wr.heap.size 60 i0 (.agg #[.int .u8 0, .int .u16 0, .string ⟨#[]⟩]) 3 24 Try.underlying22 hi hz0 hz1 hz2 rfl (by decide) _ _ _ rfl (World.ownsRow_nil _ _ _ _) ⟨wr.heap.size, 0, none⟩ 1 1 [.int .u8 id, .int .u16 nk, .string nt] rfl rfl (new_three _ _ _ _ _) (by intro u hu; simp at hu; rcases hu with rfl | rfl | rfl <;> rfl) (by unfold maxLen; omega) (by omega) (by simp) ?_)
              intro v2 w2 ho2 hg2 _
              have hb2 : Below wr.heap.size wr w2 := ((Below.refl _ _).alloc (Nat.le_refl _) _).grown hg2 (by simp) (by intro k hk; simp [Value.ownBlock] at hk)
              obtain ⟨ao3, c3, hv3, hcall, hown⟩ := HFin.out v2 w2 (by simpa [T.put, ndCells] using ho2)
              subst hv3
              have HO2' : Hid (w2.ownsRow wr.heap.size 60 3 (.slice ao3 1 c3) 1 (ndCells (T.put [] 0 (id, nk, nt)))) := by unfold Hid; simpa [T.put, ndCells] using ho2
              have HCall : Hid (Calls Try.prog 21 #[.slice ao3 1 c3] w2 fun e w' => e = .returned (.bool (T.isTree (T.put [] 0 (id, nk, nt)))) ∧ Below w2.heap.size w2 w') := hcall
              have HOwn : Hid (w2.ownsRow wr.heap.size 60 3 (.slice ao3 1 c3) (T.put [] 0 (id, nk, nt)).length (ndCells (T.put [] 0 (id, nk, nt)))) := hown
              have HB2 : Hid (Below w.heap.size w w2) := HBel.out.trans (hb2.mono hsz)
              clear ho2 hg2 hb2 hcall hown HFin
              go_wp2_with (at_builtin; refine wpList_append_own_none rfl (.tmp 100) (.tmp 103) 22 rfl wr.heap.size 60 i0 3 Try.underlying22 hi _ _ _ rfl HO2'.out rfl ?_)
              go_wp2_with fail
              refine HCall.out.mono ?_
              rintro e w4 ⟨rfl, hb4⟩
              have HB4 : Hid (Below w.heap.size w w4) := HB2.out.trans (hb4.mono HB2.out.size)
              have HO4 : Hid (w4.ownsRow w.heap.size 60 3 (.slice ao3 1 c3) (T.put [] 0 (id, nk, nt)).length (ndCells (T.put [] 0 (id, nk, nt)))) := own_weaken (own_below' HOwn.out hb4 (Nat.le_refl _)) hsz
              clear hb4 HCall HOwn HO2'
              go_wp2
              go_ret2
              exact refEnd_tree HR1.out (Nat.zero_le _) HO4.out HB4.out
            | some a =>
              have hmc : m ≤ cv := by
                rcases HRest.out.2 with ⟨hv, h0⟩ | ⟨g, cp, cur, hv, _, _, h1, _⟩
                · simp at hv
                · simp only [Value.slice.injEq] at hv
                  omega
              have HCell : Hid (∀ u : World, Below wr.heap.size wr u → ∀ jj v, (ndCells L)[jj]? = some v → u.cell? (a.add jj) = some v) := by
                intro u hu jj v hjj
                rcases HRest.out.2 with ⟨hv, _⟩ | ⟨g, cap, cur, hv, _, hh, _⟩
                · simp at hv
                · have h1 := World.ownsRow.cells HRest.out (g := g) (by rw [hv]; rfl) jj v hjj
                  simp only [Value.slice.injEq, Option.some.injEq] at hv
                  rw [hv.1, ← h1]
                  exact World.cell?_of_block (by rw [Addr.add_lit]; exact hu.block g (lt_of_block hh))
              have hav1 : ¬ (q : Int) < 0 := by omega
              have hqc : (q : Int) ≤ (cv : Int) := by omega
              have hqmi : (q : Int) ≤ (m : Int) := by omega
              have HT1 : Hid ((ndCells (L.take q)).length = q * 3) := by unfold Hid; rw [ndCells_length, List.length_take, HLl.out]; congr 1; omega
              have HT2 : Hid ((ndCells (L.drop q)).length = (m - q) * 3) := by unfold Hid; rw [ndCells_length, List.length_drop, HLl.out]
              have HSplit : Hid (ndCells L = ndCells (L.take q) ++ ndCells (L.drop q)) := by
                unfold Hid
                have e4 : ndCells (L.take q ++ L.drop q) = ndCells (L.take q) ++ ndCells (L.drop q) := by simp only [ndCells, List.flatMap_append]
                rw [List.take_append_drop] at e4
                exact e4
              have HC1 : Hid (∀ u : World, Below wr.heap.size wr u → ∀ jj v, (ndCells (L.take q))[jj]? = some v → u.cell? (a.add jj) = some v) := by
                intro u hu jj v hjj
                refine HCell.out u hu jj v ?_
                rw [HSplit.out, List.getElem?_append_left (List.getElem?_eq_some_iff.1 hjj).1]
                exact hjj
              have HC3 : Hid (∀ u : World, Below wr.heap.size wr u → ∀ jj v, (ndCells (L.drop q))[jj]? = some v → u.cell? ((a.add (q * 3)).add jj) = some v) := by
                intro u hu jj v hjj
                rw [show (a.add (q * 3)).add jj = a.add (q * 3 + jj) by unfold Addr.add; by_cases hm : q * 3 = 0 <;> by_cases hn : jj = 0 <;> simp [hm, hn, Nat.add_assoc]]
                refine HCell.out u hu _ v ?_
                rw [HSplit.out, List.getElem?_append_right (by rw [HT1.out]; omega), HT1.out]
                simpa using hjj
              have HFin2 : Hid (∀ (v3 : Value) (w3 : World), w3.ownsRow wr.heap.size 60 3 v3 (q + 1 + (m - q)) (ndCells (L.take q ++ [(id, nk, nt)]) ++ ndCells (L.drop q)) → ∃ ao3 c3, v3 = .slice ao3 (m + 1) c3 ∧ (Calls Try.prog 21 #[.slice ao3 (m + 1) c3] w3 fun e w' => e = .returned (.bool (T.isTree (T.put L q (id, nk, nt)))) ∧ Below w3.heap.size w3 w') ∧ w3.ownsRow wr.heap.size 60 3 v3 (T.put L q (id, nk, nt)).length (ndCells (T.put L q (id, nk, nt)))) := by
                intro v3 w3 h
                have hcell : ndCells (L.take q ++ [(id, nk, nt)]) ++ ndCells (L.drop q) = ndCells (T.put L q (id, nk, nt)) := by unfold T.put ndCells; simp
                rw [hcell, show q + 1 + (m - q) = m + 1 by omega] at h
                exact HFin.out v3 w3 h
              have HNode : Hid (Blk wr (w.heap.size + 1) #[.int .u8 id, .int .u16 nk, .string nt] 60) := HL.out.node
              clear HCell HSplit HL HFin HLm HNt HOutH n0 n1 n2 f1 f2 p1
              go_wp2_with (at_builtin; refine wpList_append_own _ rfl (.tmp 91) (.tmp 94) 22 rfl wr.heap.size 60 i0 (.agg #[.int .u8 0, .int .u16 0, .string ⟨#[]⟩]) 3 24 Try.underlying22 hi hz0 hz1 hz2 rfl (by decide) _ _ _ rfl (World.ownsRow_nil _ _ _ _) a q cv (ndCells (L.take q)) rfl HT1.out (HC1.out _ (Below.refl _ _)) (ndCells_one _) (by unfold maxLen; omega) (by omega) (Nat.le_refl _) ?_)
              intro v1 w1 ho1 hg1 _
              have hx1 : Blk w1 (w.heap.size + 1) #[.int .u8 id, .int .u16 nk, .string nt] 60 := HNode.out.grown hg1 (by simp [Value.ownBlock])
              have c0 := hx1.cell 0
              have c1 := hx1.cell 1
              have c2 := hx1.cell 2
              simp at c0 c1 c2
              have hb1 : Below wr.heap.size wr w1 := (Below.refl _ _).grown hg1 (Nat.le_refl _) (by intro k hk; simp [Value.ownBlock] at hk)
              have HB1 : Hid (Below wr.heap.size wr w1) := hb1
              have hs1 := hb1.size
              have HO1 : Hid (w1.ownsRow wr.heap.size 60 3 v1 q (ndCells (L.take q))) := by unfold Hid; simpa using ho1
              clear ho1 hg1 hx1 hb1
              go_wp2_with (at_builtin; refine wpList_append_own _ rfl (.tmp 96) (.tmp 98) 22 rfl wr.heap.size 60 i0 (.agg #[.int .u8 0, .int .u16 0, .string ⟨#[]⟩]) 3 24 Try.underlying22 hi hz0 hz1 hz2 rfl (by decide) _ _ _ rfl (HO1.out.alloc _) ⟨w1.heap.size, 0, none⟩ 1 1 [.int .u8 id, .int .u16 nk, .string nt] rfl rfl (new_three _ _ _ _ _) (by intro u hu; simp at hu; rcases hu with rfl | rfl | rfl <;> rfl) (by unfold maxLen; omega) (by omega) (by simp; omega) ?_)
              intro v2 w2 ho2 hg2 _
              have hb2 : Below wr.heap.size wr w2 := below_app (HB1.out.alloc hs1 _) hg2 (HO1.out.alloc _) (Nat.le_refl _) (by simp; omega)
              have HB2 : Hid (Below wr.heap.size wr w2) := hb2
              have hs2 := hb2.size
              have HO2 : Hid (w2.ownsRow wr.heap.size 60 3 v2 (q + 1) (ndCells (L.take q ++ [(id, nk, nt)]))) := by unfold Hid; rw [ndCells_snoc]; exact ho2
              clear ho2 hg2 hb2 HO1 HB1 c0 c1 c2 HT1 HC1
              by_cases hck : cv = q
              · have hnk : m - q = 0 := by omega
                have hckI : (cv : Int) = (q : Int) := by omega
                have HN : Hid (ndCells (L.drop q) = []) := List.eq_nil_of_length_eq_zero (by rw [HT2.out, hnk])
                obtain rfl : m = q := by omega
                subst hck
                go_wp2_with (at_builtin; refine wpList_append_own _ rfl (.tmp 100) (.tmp 103) 22 rfl wr.heap.size 60 i0 (.agg #[.int .u8 0, .int .u16 0, .string ⟨#[]⟩]) 3 24 Try.underlying22 hi hz0 hz1 hz2 rfl (by decide) _ _ _ rfl HO2.out a 0 0 [] rfl rfl (by intro j v hj; simp at hj) (by intro v hv; simp at hv) (by unfold maxLen; omega) (by omega) hs2 ?_)
                intro v3 w3 ho3 hg3 _
                have hb3 : Below wr.heap.size wr w3 := below_app HB2.out hg3 HO2.out (Nat.le_refl _) hs2
                have HB3 : Hid (Below w.heap.size w w3) := HBel.out.trans (hb3.mono hsz)
                obtain ⟨ao3, c3, hv3, hcall, hown⟩ := HFin2.out v3 w3 (by rw [HN.out, List.append_nil, show cv + 1 + (cv - cv) = cv + 1 by omega]; exact ho3)
                subst hv3
                have HCall : Hid (Calls Try.prog 21 #[.slice ao3 (cv + 1) c3] w3 fun e w' => e = .returned (.bool (T.isTree (T.put L cv (id, nk, nt)))) ∧ Below w3.heap.size w3 w') := hcall
                have HOwn : Hid (w3.ownsRow wr.heap.size 60 3 (.slice ao3 (cv + 1) c3) (T.put L cv (id, nk, nt)).length (ndCells (T.put L cv (id, nk, nt)))) := hown
                clear ho3 hg3 hb3 hcall hown HO2 HB2 HFin2 HT2 HN
                go_wp2_with fail
                refine HCall.out.mono ?_
                rintro e w4 ⟨rfl, hb4⟩
                have HB4 : Hid (Below w.heap.size w w4) := HB3.out.trans (hb4.mono HB3.out.size)
                have HO4 : Hid (w4.ownsRow w.heap.size 60 3 (.slice ao3 (cv + 1) c3) (T.put L cv (id, nk, nt)).length (ndCells (T.put L cv (id, nk, nt)))) := own_weaken (own_below' HOwn.out hb4 (Nat.le_refl _)) hsz
                clear hb4 HCall HOwn
                go_wp2
                go_ret2
                exact refEnd_tree HR1.out (by rw [HLl.out]; exact Nat.le_refl _) HO4.out HB4.out
              · have hckI : ¬ (cv : Int) = (q : Int) := by omega
                go_wp2_with (at_builtin; refine wpList_append_own _ rfl (.tmp 100) (.tmp 103) 22 rfl wr.heap.size 60 i0 (.agg #[.int .u8 0, .int .u16 0, .string ⟨#[]⟩]) 3 24 Try.underlying22 hi hz0 hz1 hz2 rfl (by decide) _ _ _ rfl HO2.out (a.add (q * 3)) (m - q) (cv - q) (ndCells (L.drop q)) rfl HT2.out (HC3.out _ HB2.out) (ndCells_one _) (by unfold maxLen; omega) (by omega) hs2 ?_)
                intro v3 w3 ho3 hg3 _
                have hb3 : Below wr.heap.size wr w3 := below_app HB2.out hg3 HO2.out (Nat.le_refl _) hs2
                have HB3 : Hid (Below w.heap.size w w3) := HBel.out.trans (hb3.mono hsz)
                obtain ⟨ao3, c3, hv3, hcall, hown⟩ := HFin2.out v3 w3 ho3
                subst hv3
                have HCall : Hid (Calls Try.prog 21 #[.slice ao3 (m + 1) c3] w3 fun e w' => e = .returned (.bool (T.isTree (T.put L q (id, nk, nt)))) ∧ Below w3.heap.size w3 w') := hcall
                have HOwn : Hid (w3.ownsRow wr.heap.size 60 3 (.slice ao3 (m + 1) c3) (T.put L q (id, nk, nt)).length (ndCells (T.put L q (id, nk, nt)))) := hown
                clear ho3 hg3 hb3 hcall hown HO2 HB2 HFin2 HT2 HC3
                go_wp2_with fail
                refine HCall.out.mono ?_
                rintro e w4 ⟨rfl, hb4⟩
                have HB4 : Hid (Below w.heap.size w w4) := HB3.out.trans (hb4.mono HB3.out.size)
                have HO4 : Hid (w4.ownsRow w.heap.size 60 3 (.slice ao3 (m + 1) c3) (T.put L q (id, nk, nt)).length (ndCells (T.put L q (id, nk, nt)))) := own_weaken (own_below' HOwn.out hb4 (Nat.le_refl _)) hsz
                clear hb4 HCall HOwn
                go_wp2
                go_ret2
                exact refEnd_tree HR1.out (by rw [HLl.out]; exact hqm) HO4.out HB4.out

end Go.Proofs.Ytcaeeaiodbjacaa
