/-
  The walk of finish.
-/
import Derived.Test.YtidaflmmldefcaaTenI
namespace Go.Proofs.Ytidaflmmldefcaa
open Go.RowKit
set_option linter.unusedVariables false

theorem infoSent : (Try.prog.info? 93).map (fun i => (i.zero, i.size, i.bytes)) = some (some (.agg #[.int .u8 0, .int .u16 0]), 2, 4) := by kernel_rfl

theorem TenAt.grown {w w' : World} {tb o : Nat} {x : Tn} {nv bv lv : Value} (h : TenAt w tb o x nv bv lv) {base : Nat} {t : TypeId} {size : Nat} {v : Value} {n : Nat} {xs : List Value} (ho : w.ownsRow base t size v n xs) (hg : w.grownBy w' v.ownBlock) (h1 : t ≠ 84) (h2 : t ≠ 77) (h3 : t ≠ 58) (h4 : t ≠ 56) : TenAt w' tb o x nv bv lv := by
  have hk : ∀ {u : TypeId} {b : Nat} {cs : Array Value}, Blk w b cs u → u ≠ t → w'.heap[b]? = w.heap[b]? := fun hb hu => hg.block _ hb.lt (fun e => hb.ne_own ho hu e)
  refine ⟨?_, own_block h.nodes fun k hk' => ?_, h.box.keep fun k hk' => ?_, own_block h.log fun k hk' => ?_⟩
  · obtain ⟨cur, hb, r⟩ := h.slot
    exact ⟨cur, hb.of_block (hk hb (fun e => h1 e.symm)), r⟩
  · obtain ⟨c2, hb2⟩ := own_blk h.nodes hk'
    exact hk hb2 (fun e => h2 e.symm)
  · obtain ⟨c2, hb2⟩ := h.box.blk hk'
    exact hk hb2 (fun e => h3 e.symm)
  · obtain ⟨c2, hb2⟩ := own_blk h.log hk'
    exact hk hb2 (fun e => h4 e.symm)

set_option maxRecDepth 100000 in
set_option maxHeartbeats 8000000 in
theorem finish_any {w : World} {tb o : Nat} {x : Tn} {nv bv lv : Value} (h : TenAt w tb o x nv bv lv) (n : Int) (ev : Ev) (f s d k0 k1 k2 k3 k4 k5 k6 k7 : Int) (shows : List (Int × ByteArray)) (sends : List (Int × Int)) (sv dv : Value) (b1 : Nat)
    (hsv : w.ownsRow b1 129 2 sv shows.length (showCells shows)) (hdv : w.ownsRow b1 93 2 dv sends.length (sendCells sends)) (hsl : shows.length ≤ 100) (hdl : sends.length ≤ 100) (hsk : Tr.shOk shows) (hdk : ∀ y ∈ sends, 0 ≤ y.1 ∧ y.1 ≤ 255) (hko : Tr.ndOk x.nodes) (hll : x.log.length ≤ 90000) (hp0 : 0 ≤ x.pub) (hp1 : x.pub ≤ 255) (he0 : 0 ≤ ev.what) (he1 : ev.what ≤ 255) :
    Calls Try.prog 50 #[.pointer (some ⟨tb, o, none⟩), .int .i64 n, .agg #[.int .u8 ev.what, .int .u8 ev.by_, .int .u16 ev.arg, .int .u8 ev.src], .agg #[.int .u8 f, .int .i64 s, .int .i64 d, .int .u16 k0, .int .u16 k1, .int .u16 k2, .int .u16 k3, .int .u16 k4, .int .u16 k5, .int .u16 k6, .int .u16 k7, sv, dv]] w fun e w' => ∃ gv, e = .returned gv ∧ TAft w tb o bv lv (x.finish n ev [k0, k1, k2, k3, k4, k5, k6, k7] shows sends) w' ∧ w'.ownsRow w.heap.size 93 2 gv (sends.filter (goes x.pub)).length (sendCells (sends.filter (goes x.pub))) := by
  obtain ⟨i0, hi, hz0, hz1, hz2⟩ := info_parts infoSent
  obtain ⟨so, sc, rfl⟩ := own_is hsv
  obtain ⟨dO, dc, rfl⟩ := own_is hdv
  have HT : Hid (TenAt w tb o x nv bv lv) := h
  have htb := h.slot.lt
  have hne : ¬ tb = w.heap.size := by omega
  have hne1 : ¬ tb = w.heap.size + 1 := by omega
  have c8 := h.slot.cell 8 rfl
  have c9 := h.slot.cell 9 rfl
  have c10 := h.slot.cell 10 rfl
  have c11 := h.slot.cell 11 rfl
  have c12 := h.slot.cell 12 rfl
  have c13 := h.slot.cell 13 rfl
  have c14 := h.slot.cell 14 rfl
  have c15 := h.slot.cell 15 rfl
  have fz : ∀ i, w.frozen? ⟨tb, i, none⟩ = false := fun i => h.slot.free i
  obtain ⟨W2, hW2⟩ : ∃ W2, W2 = ((((((((((w.setCell ⟨tb, o + 8, none⟩ (.int .u16 k0)).setCell ⟨tb, o + 8 + 1, none⟩ (.int .u16 k1)).setCell ⟨tb, o + 8 + 2, none⟩ (.int .u16 k2)).setCell ⟨tb, o + 8 + 3, none⟩ (.int .u16 k3)).setCell ⟨tb, o + 8 + 4, none⟩ (.int .u16 k4)).setCell ⟨tb, o + 8 + 5, none⟩ (.int .u16 k5)).setCell ⟨tb, o + 8 + 6, none⟩ (.int .u16 k6)).setCell ⟨tb, o + 8 + 7, none⟩ (.int .u16 k7)).alloc (.cells #[.int .u8 ev.what, .int .u8 ev.by_, .int .u16 ev.arg, .int .u8 ev.src] 58)).alloc (.cells #[.int .u8 f, .int .i64 s, .int .i64 d, .int .u16 k0, .int .u16 k1, .int .u16 k2, .int .u16 k3, .int .u16 k4, .int .u16 k5, .int .u16 k6, .int .u16 k7, .slice so shows.length sc, .slice dO sends.length dc] 115)) := ⟨_, rfl⟩
  have HT2 : Hid (TenAt W2 tb o { x with cells := [k0, k1, k2, k3, k4, k5, k6, k7] } nv bv lv) := by unfold Hid; rw [hW2]; exact ((h.set_cells k0 k1 k2 k3 k4 k5 k6 k7).alloc _).alloc _
  have HF2 : Hid (TFr w W2 tb o bv lv) := by
    unfold Hid; rw [hW2]
    exact (((TFr.refl w tb o bv lv).set_cells k0 k1 k2 k3 k4 k5 k6 k7).alloc (by simpa using htb) _).alloc (by simp; omega) _
  have hsz2 : W2.heap.size = w.heap.size + 2 := by rw [hW2]; simp
  have HS2 : Hid (W2.ownsRow b1 129 2 (.slice so shows.length sc) shows.length (showCells shows) ∧ W2.ownsRow b1 93 2 (.slice dO sends.length dc) sends.length (sendCells sends)) := ⟨HF2.out.own h hsv (by decide) (by decide) (by decide), HF2.out.own h hdv (by decide) (by decide) (by decide)⟩
  have HE2 : Hid (Blk W2 w.heap.size #[.int .u8 ev.what, .int .u8 ev.by_, .int .u16 ev.arg, .int .u8 ev.src] 58) := by
    unfold Hid; rw [hW2]
    have q := Blk.new ((((((((w.setCell ⟨tb, o + 8, none⟩ (.int .u16 k0)).setCell ⟨tb, o + 8 + 1, none⟩ (.int .u16 k1)).setCell ⟨tb, o + 8 + 2, none⟩ (.int .u16 k2)).setCell ⟨tb, o + 8 + 3, none⟩ (.int .u16 k3)).setCell ⟨tb, o + 8 + 4, none⟩ (.int .u16 k4)).setCell ⟨tb, o + 8 + 5, none⟩ (.int .u16 k5)).setCell ⟨tb, o + 8 + 6, none⟩ (.int .u16 k6)).setCell ⟨tb, o + 8 + 7, none⟩ (.int .u16 k7)) #[.int .u8 ev.what, .int .u8 ev.by_, .int .u16 ev.arg, .int .u8 ev.src] 58
    rw [show ((((((((w.setCell ⟨tb, o + 8, none⟩ (.int .u16 k0)).setCell ⟨tb, o + 8 + 1, none⟩ (.int .u16 k1)).setCell ⟨tb, o + 8 + 2, none⟩ (.int .u16 k2)).setCell ⟨tb, o + 8 + 3, none⟩ (.int .u16 k3)).setCell ⟨tb, o + 8 + 4, none⟩ (.int .u16 k4)).setCell ⟨tb, o + 8 + 5, none⟩ (.int .u16 k5)).setCell ⟨tb, o + 8 + 6, none⟩ (.int .u16 k6)).setCell ⟨tb, o + 8 + 7, none⟩ (.int .u16 k7)).heap.size = w.heap.size by simp [World.setCell]] at q
    exact q.alloc _
  have HO2 : Hid (Blk W2 (w.heap.size + 1) #[.int .u8 f, .int .i64 s, .int .i64 d, .int .u16 k0, .int .u16 k1, .int .u16 k2, .int .u16 k3, .int .u16 k4, .int .u16 k5, .int .u16 k6, .int .u16 k7, .slice so shows.length sc, .slice dO sends.length dc] 115) := by
    unfold Hid; rw [hW2]
    have q := Blk.new (((((((((w.setCell ⟨tb, o + 8, none⟩ (.int .u16 k0)).setCell ⟨tb, o + 8 + 1, none⟩ (.int .u16 k1)).setCell ⟨tb, o + 8 + 2, none⟩ (.int .u16 k2)).setCell ⟨tb, o + 8 + 3, none⟩ (.int .u16 k3)).setCell ⟨tb, o + 8 + 4, none⟩ (.int .u16 k4)).setCell ⟨tb, o + 8 + 5, none⟩ (.int .u16 k5)).setCell ⟨tb, o + 8 + 6, none⟩ (.int .u16 k6)).setCell ⟨tb, o + 8 + 7, none⟩ (.int .u16 k7)).alloc (.cells #[.int .u8 ev.what, .int .u8 ev.by_, .int .u16 ev.arg, .int .u8 ev.src] 58)) #[.int .u8 f, .int .i64 s, .int .i64 d, .int .u16 k0, .int .u16 k1, .int .u16 k2, .int .u16 k3, .int .u16 k4, .int .u16 k5, .int .u16 k6, .int .u16 k7, .slice so shows.length sc, .slice dO sends.length dc] 115
    rw [show (((((((((w.setCell ⟨tb, o + 8, none⟩ (.int .u16 k0)).setCell ⟨tb, o + 8 + 1, none⟩ (.int .u16 k1)).setCell ⟨tb, o + 8 + 2, none⟩ (.int .u16 k2)).setCell ⟨tb, o + 8 + 3, none⟩ (.int .u16 k3)).setCell ⟨tb, o + 8 + 4, none⟩ (.int .u16 k4)).setCell ⟨tb, o + 8 + 5, none⟩ (.int .u16 k5)).setCell ⟨tb, o + 8 + 6, none⟩ (.int .u16 k6)).setCell ⟨tb, o + 8 + 7, none⟩ (.int .u16 k7)).alloc (.cells #[.int .u8 ev.what, .int .u8 ev.by_, .int .u16 ev.arg, .int .u8 ev.src] 58)).heap.size = w.heap.size + 1 by simp [World.setCell]] at q
    exact q
  have HBx : Hid (∀ k, bv.ownBlock = some k → k < w.heap.size) := fun k hk => by obtain ⟨cur, q⟩ := h.box.blk hk; exact q.lt
  have HKo : Hid (Tr.ndOk x.nodes) := hko
  have HSk : Hid (Tr.shOk shows) := hsk
  have HDk : Hid (∀ y ∈ sends, 0 ≤ y.1 ∧ y.1 ≤ 255) := hdk
  have HDl : Hid (∀ k, Value.ownBlock (.slice dO sends.length dc) = some k → k < w.heap.size) := fun k hk => (hdv.lt k hk).2
  have hwe : IntKind.u16.wrap ev.what = ev.what := by rw [IntKind.wrap_u16]; omega
  have hp0' := hp0
  clear h hsv hdv hko hsk hdk
  go_enter Try.func50, Try.ntmps50
  go_upto_region 2 with fail
  rw [← hW2]
  clear hW2 c8 c9 c10 c11 c12 c13 c14 c15 fz
  have o11 : W2.cell? ⟨w.heap.size + 1, 11, none⟩ = some (.slice so shows.length sc) := by rw [HO2.out.cell 11]; rfl
  go_wp2_with fail
  refine (tshow_any HT2.out so sc shows (by unfold maxLen; omega) (own_shAt HS2.out.1) HSk.out HKo.out).mono ?_
  rintro e W3 ⟨rfl, nv3, bv3, lv3, ht3, hf3, hm3, hm4⟩
  have HT3 : Hid (TenAt W3 tb o (({ x with cells := [k0, k1, k2, k3, k4, k5, k6, k7] } : Tn).show shows) nv3 bv3 lv3) := ht3
  have HF3 : Hid (TFr w W3 tb o bv lv) := HF2.out.trans hf3 (Moved.refl _ _) (Moved.refl _ _)
  have HM3 : Hid (Moved w bv bv3 ∧ Moved w lv lv3) := ⟨(Moved.refl w bv).trans hm3 HF2.out.kept.size, (Moved.refl w lv).trans hm4 HF2.out.kept.size⟩
  have HS3 : Hid (W3.ownsRow b1 93 2 (.slice dO sends.length dc) sends.length (sendCells sends)) := hf3.own HT2.out HS2.out.2 (by decide) (by decide) (by decide)
  have HO3 : Hid (Blk W3 (w.heap.size + 1) #[.int .u8 f, .int .i64 s, .int .i64 d, .int .u16 k0, .int .u16 k1, .int .u16 k2, .int .u16 k3, .int .u16 k4, .int .u16 k5, .int .u16 k6, .int .u16 k7, .slice so shows.length sc, .slice dO sends.length dc] 115) := hf3.blk HT2.out HO2.out (by decide) (by decide) (by decide)
  have HE3 : Hid (Blk W3 w.heap.size #[.int .u8 ev.what, .int .u8 ev.by_, .int .u16 ev.arg, .int .u8 ev.src] 58) := by
    refine HE2.out.of_block (hf3.kept.block _ HE2.out.lt ?_)
    obtain ⟨c1, q1, _⟩ := HT2.out.slot
    intro q
    rcases q with q | q | q
    · exact HE2.out.ne q1 (by decide) q
    · have := HBx.out _ q.symm; omega
    · exact HE2.out.ne_own HT2.out.log (by decide) q
  have e0 : W3.cell? ⟨w.heap.size, 0, none⟩ = some (.int .u8 ev.what) := by rw [HE3.out.cell 0]; rfl
  have e2 : W3.cell? ⟨w.heap.size, 2, none⟩ = some (.int .u16 ev.arg) := by rw [HE3.out.cell 2]; rfl
  clear ht3 hf3 hm3 hm4 HT2 HF2 HS2 HO2 HE2 o11
  go_wp2_with fail
  refine (note_any HT3.out n 0 ev.what ev.arg (by show x.log.length ≤ 100000; omega)).mono ?_
  rintro e W4 ⟨rfl, nv4, bv4, lv4, ht4, hf4, hm5, hm6⟩
  obtain ⟨y, hy⟩ : ∃ y, y = (({ x with cells := [k0, k1, k2, k3, k4, k5, k6, k7] } : Tn).show shows).note n 0 ev.what ev.arg := ⟨_, rfl⟩
  have HFin : Hid (x.finish n ev [k0, k1, k2, k3, k4, k5, k6, k7] shows sends = y.sift n sends) := by unfold Hid Tn.finish; rw [hy]
  have HYp : Hid (y.pub = x.pub) := by unfold Hid; rw [hy]; rfl
  have HYl : Hid (y.log.length ≤ 90001) := by unfold Hid; rw [hy]; simp [Tn.note, Tn.show]; omega
  have HT4 : Hid (TenAt W4 tb o y nv4 bv4 lv4) := by unfold Hid; rw [hy]; exact ht4
  have HF4 : Hid (TFr w W4 tb o bv lv) := HF3.out.trans hf4 HM3.out.1 HM3.out.2
  have HM4 : Hid (Moved w bv bv4 ∧ Moved w lv lv4) := ⟨HM3.out.1.trans hm5 HF3.out.kept.size, HM3.out.2.trans hm6 HF3.out.kept.size⟩
  have HS4 : Hid (W4.ownsRow b1 93 2 (.slice dO sends.length dc) sends.length (sendCells sends)) := hf4.own HT3.out HS3.out (by decide) (by decide) (by decide)
  have HO4 : Hid (Blk W4 (w.heap.size + 1) #[.int .u8 f, .int .i64 s, .int .i64 d, .int .u16 k0, .int .u16 k1, .int .u16 k2, .int .u16 k3, .int .u16 k4, .int .u16 k5, .int .u16 k6, .int .u16 k7, .slice so shows.length sc, .slice dO sends.length dc] 115) := hf4.blk HT3.out HO3.out (by decide) (by decide) (by decide)
  have o12 : W4.cell? ⟨w.heap.size + 1, 12, none⟩ = some (.slice dO sends.length dc) := by rw [HO4.out.cell 12]; rfl
  clear ht4 hf4 hm5 hm6 HT3 HF3 HM3 HS3 HO3 HE3 e0 e2 hy
  obtain ⟨N, hN⟩ : ∃ N, N = sends.length := ⟨_, rfl⟩
  have HN : Hid (sends.length = N) := hN.symm
  rw [← hN] at HS4 o12 hdl HDl
  clear hN HO4
  go_wp2_with fail
  go_loopw [9, 32] (fun g i wr => ∃ (k m gc : Nat) (go : Option Addr) (nv' bv' lv' : Value), k ≤ N ∧ m ≤ k ∧ i = .int .i64 k ∧ g = .slice go m gc ∧ Hid (((sends.take k).filter (goes x.pub)).length = m) ∧ Hid (TenAt wr tb o (y.sift n (sends.take k)) nv' bv' lv') ∧ Hid (TFr w wr tb o bv lv) ∧ Hid (Moved w bv bv' ∧ Moved w lv lv') ∧ Hid (wr.ownsRow b1 93 2 (.slice dO N dc) N (sendCells sends)) ∧ Hid (wr.ownsRow w.heap.size 93 2 (.slice go m gc) m (sendCells ((sends.take k).filter (goes x.pub)))))
    (fun _ i _ => N - (intOf i).toNat)
  case atStart => exact ⟨0, 0, 0, none, nv4, bv4, lv4, Nat.zero_le _, Nat.le_refl _, rfl, rfl, rfl, HT4.out, HF4.out, HM4.out, HS4.out, World.ownsRow_nil _ _ _ _⟩
  case round =>
    obtain ⟨k, m, gc, go, nv', bv', lv', hk, hmk, rfl, rfl, HLn, HTk, HFk, HMk, HSk', HGk⟩ := hrel
    clear HT4 HF4 HM4 HS4 o12
    by_cases hlt : k < N
    · obtain ⟨sd, hsd⟩ : ∃ q, sends[k]? = some q := ⟨sends[k]'(by have := HN.out; omega), List.getElem?_eq_getElem (by have := HN.out; omega)⟩
      have hr := HDk.out sd (List.mem_of_getElem? hsd)
      obtain ⟨s0, s1⟩ := sendCells_at sends k _ hsd
      obtain ⟨gd, rfl, d0, d1⟩ := own_pair HSk'.out s0 s1
      have HSt := show Hid _ from sift_step y n hsd
      have HFt := show Hid _ from filter_step (p := goes x.pub) hsd
      obtain ⟨t, v⟩ := sd
      simp only at d0 d1 hr
      have hki : (k : Int) < (N : Int) := by omega
      have hk0 : (0 : Int) ≤ (k : Int) := by omega
      have hgd : gd < wr.heap.size := World.block_lt_of_cell? _ _ d0
      have c3 : wr.cell? ⟨tb, o + 3, none⟩ = some (.int .u8 x.pub) := by
        have q := HTk.out.slot.cell 3 rfl
        rw [sift_pub, HYp.out] at q
        exact q
      have htk := HTk.out.slot.lt
      have hnk : ¬ tb = wr.heap.size := by omega
      have hsk2 : w.heap.size ≤ wr.heap.size := HFk.out.kept.size
      have HBit : Hid (∀ u, Calls Try.prog 41 #[.int .u8 x.pub, .int .u8 t] u fun e w' => e = .returned (.bool (goes x.pub (t, v))) ∧ u = w') := fun u => hasBit_any x.pub t u hp0 hp1 hr.1 hr.2
      clear hsd s0 s1
      go_wp2_with fail
      go_quiet ((go_at_call 41; exact (HBit.out _).mono fun _ _ h => ⟨h.1, _, h.2.symm⟩))
      obtain ⟨W, hW⟩ : ∃ W, W = (wr.alloc (.cells #[.int .u8 t, .int .u16 v] 93)).drewN nq := ⟨_, rfl⟩
      have HTW : Hid (TenAt W tb o (y.sift n (sends.take k)) nv' bv' lv') := by unfold Hid; rw [hW]; exact (HTk.out.alloc _).drewN nq
      have HFW : Hid (TFr w W tb o bv lv) := by unfold Hid; rw [hW]; exact (HFk.out.alloc htk _).drewN nq
      have HSW : Hid (W.ownsRow b1 93 2 (.slice (some ⟨gd, 0, none⟩) N dc) N (sendCells sends)) := by unfold Hid; rw [hW]; exact HSk'.out.alloc _
      have HGW : Hid (W.ownsRow w.heap.size 93 2 (.slice go m gc) m (sendCells ((sends.take k).filter (goes x.pub)))) := by unfold Hid; rw [hW]; exact HGk.out.alloc _
      have x0 : W.cell? ⟨wr.heap.size, 0, none⟩ = some (.int .u8 t) := by rw [hW]; exact (Blk.new wr #[.int .u8 t, .int .u16 v] 93).cell 0
      have x1 : W.cell? ⟨wr.heap.size, 1, none⟩ = some (.int .u16 v) := by rw [hW]; exact (Blk.new wr #[.int .u8 t, .int .u16 v] 93).cell 1
      have hsW : w.heap.size ≤ W.heap.size := HFW.out.kept.size
      have hwt : IntKind.u16.wrap t = t := by rw [IntKind.wrap_u16]; omega
      have HLg : Hid ((y.sift n (sends.take k)).log.length ≤ 100000) := by
        have q := sift_log y n (sends.take k)
        have := HYl.out
        have : (sends.take k).length ≤ k := by simp; omega
        unfold Hid; omega
      rw [← hW]
      clear hW d0 d1 c3 HBit HTk HFk HSk' HGk
      obtain ⟨gg, hgg⟩ : ∃ gg, gg = goes x.pub (t, v) := ⟨_, rfl⟩
      rw [← hgg]
      have HGg : Hid (goes x.pub (t, v) = gg) := hgg.symm
      clear hgg
      cases gg with
      | true =>
        have HNw : Hid (∀ jj u, [Value.int .u8 t, .int .u16 v][jj]? = some u → (W.alloc (.cells #[.int .u8 t, .int .u16 v] 93)).cell? ((⟨W.heap.size, 0, none⟩ : Addr).add jj) = some u) := new_two W _ _ _
        go_wp2_with (at_builtin; refine wpList_append_own_at _ rfl (.tmp 44) (.tmp 46) 90 rfl w.heap.size 93 i0 (.agg #[.int .u8 0, .int .u16 0]) 2 4 Try.underlying90 hi hz0 hz1 hz2 rfl (by decide) _ m _ rfl (HGW.out.alloc _) ⟨W.heap.size, 0, none⟩ 1 1 [.int .u8 t, .int .u16 v] rfl rfl HNw.out (by intro u hu; simp at hu; rcases hu with rfl | rfl <;> rfl) (by unfold maxLen; omega) (by omega) (by simp; omega) ?_)
        intro g1 w1 ho1 hg1 _ _
        obtain ⟨go1, gc1, rfl⟩ := own_is ho1
        have HGn : Hid (w1.ownsRow w.heap.size 93 2 (.slice go1 (m + 1) gc1) (m + 1) (sendCells ((sends.take (k + 1)).filter (goes x.pub)))) := by
          unfold Hid
          rw [HFt.out, HGg.out, if_pos rfl, sendCells_snoc]
          exact ho1
        have HLn2 : Hid (((sends.take (k + 1)).filter (goes x.pub)).length = m + 1) := by
          unfold Hid; rw [HFt.out, HGg.out, if_pos rfl, List.length_append, HLn.out]; rfl
        have HTn : Hid (TenAt w1 tb o (y.sift n (sends.take (k + 1))) nv' bv' lv') := by
          unfold Hid
          rw [HSt.out, HYp.out, HGg.out, if_pos rfl]
          exact (HTW.out.alloc _).grown (HGW.out.alloc _) hg1 (by decide) (by decide) (by decide) (by decide)
        have HFn : Hid (TFr w w1 tb o bv lv) := by
          refine (HFW.out.alloc HTW.out.slot.lt _).grow hg1 (fun z hz => Or.inr (HGW.out.lt z hz).1) (fun e => ?_) (by simp; have := HTW.out.slot.lt; omega)
          obtain ⟨c1, q1, _⟩ := HTW.out.slot
          exact q1.ne_own HGW.out (by decide) e.symm
        have HSn : Hid (w1.ownsRow b1 93 2 (.slice (some ⟨gd, 0, none⟩) N dc) N (sendCells sends)) := by
          refine own_block (HSW.out.alloc (.cells #[.int .u8 t, .int .u16 v] 93)) fun z hz => ?_
          have hzl := HDl.out z hz
          refine hg1.block z (by simp; omega) (fun e => ?_)
          have := (HGW.out.lt z e.symm).1
          omega
        clear ho1 hg1 HTW HFW HSW HGW HNw
        go_wp2
        go_roundw
        case rel => exact ⟨k + 1, m + 1, gc1, go1, nv', bv', lv', by omega, by omega, by go_num, rfl, HLn2, HTn, HFn, HMk, HSn, HGn⟩
        case measure => simp [intOf]; omega
      | false =>
        go_wp2_with fail
        refine (note_any HTW.out n 1 t v HLg.out).mono ?_
        rintro e w1 ⟨rfl, nv1, bv1, lv1, ht1, hf1, hm1, hm2⟩
        have HTn : Hid (TenAt w1 tb o (y.sift n (sends.take (k + 1))) nv1 bv1 lv1) := by
          unfold Hid
          rw [HSt.out, HYp.out, HGg.out, if_neg (by decide)]
          exact ht1
        have HFn : Hid (TFr w w1 tb o bv lv) := HFW.out.trans hf1 HMk.out.1 HMk.out.2
        have HMn : Hid (Moved w bv bv1 ∧ Moved w lv lv1) := ⟨HMk.out.1.trans hm1 HFW.out.kept.size, HMk.out.2.trans hm2 HFW.out.kept.size⟩
        have HSn : Hid (w1.ownsRow b1 93 2 (.slice (some ⟨gd, 0, none⟩) N dc) N (sendCells sends)) := hf1.own HTW.out HSW.out (by decide) (by decide) (by decide)
        have HGn : Hid (w1.ownsRow w.heap.size 93 2 (.slice go m gc) m (sendCells ((sends.take (k + 1)).filter (goes x.pub)))) := by
          unfold Hid
          rw [HFt.out, HGg.out, if_neg (by decide), List.append_nil]
          exact hf1.own HTW.out HGW.out (by decide) (by decide) (by decide)
        have HLn2 : Hid (((sends.take (k + 1)).filter (goes x.pub)).length = m) := by
          unfold Hid; rw [HFt.out, HGg.out, if_neg (by decide), List.append_nil, HLn.out]
        clear ht1 hf1 hm1 hm2 HTW HFW HSW HGW
        go_wp2
        go_roundw
        case rel => exact ⟨k + 1, m, gc, go, nv1, bv1, lv1, by omega, by omega, by go_num, rfl, HLn2, HTn, HFn, HMn, HSn, HGn⟩
        case measure => simp [intOf]; omega
    · have hkn : k = N := by omega
      subst hkn
      have hki : ¬ (k : Int) < (k : Int) := by omega
      have HAl : Hid (sends.take k = sends) := List.take_of_length_le (by have := HN.out; omega)
      go_wp2
      go_ret
      refine ⟨_, rfl, ?_, ?_⟩
      · rw [HFin.out, ← HAl.out]
        exact ⟨nv', bv', lv', HTk.out, HFk.out, HMk.out.1, HMk.out.2⟩
      · have q := HGk.out
        rw [HAl.out] at q
        have q2 := HLn.out
        rw [HAl.out] at q2
        rw [q2]
        exact q
end Go.Proofs.Ytidaflmmldefcaa
