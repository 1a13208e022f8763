/-
  The walk of Telling.
-/
import Derived.Test.YtcaeeaiodbjacaaGrown
import Derived.Test.YtcaeeaiodbjacaaTextD
import Derived.Test.YtcaeeaiodbjacaaTextE
namespace Go.Proofs.Ytcaeeaiodbjacaa
open Go.RowKit
set_option linter.unusedVariables false

theorem bts_strOfNums (xs : List Int) (h : ∀ x ∈ xs, 0 ≤ x ∧ x ≤ 255) : T.bts (strOfNums xs) = xs := by
  unfold T.bts
  rw [strOfNums_data]
  simp only [List.map_map]
  conv => rhs; rw [← List.map_id xs]
  apply List.map_congr_left
  intro x hx
  have := h x hx
  simp [UInt8.toNat_ofNat']
  omega

theorem bytes_inj {a b : List T.Nd} (ha : Grows a) (hb : Grows b) (h : strOfNums (T.bytesOf a) = strOfNums (T.bytesOf b)) : a = b := by
  have h1 := congrArg T.bts h
  rw [bts_strOfNums _ (T.bytesOf_range a fun x hx => (ha.right x hx).2), bts_strOfNums _ (T.bytesOf_range b fun x hx => (hb.right x hx).2)] at h1
  exact T.bytesOf_inj a b (fun x hx => ⟨(ha.right x hx).2, by have := T.okNd_size (ha.right x hx).1; omega⟩) (fun x hx => ⟨(hb.right x hx).2, by have := T.okNd_size (hb.right x hx).1; omega⟩) h1

theorem bytesS_good {g : List T.Nd} (h : Grows g) : bytesS g = strOfNums (T.bytesOf g) := by simp [bytesS, h.tree]
theorem bytesE_good {g : List T.Nd} (h : Grows g) : bytesE g = 0 := by simp [bytesE, h.tree]

theorem mark_next (s : ByteArray) (c : Nat) (hc : c < 256) : T.markOf (s ++ strOfNums [(c : Int)]) = T.markStep (T.markOf s) c := by
  have e : T.nats (s ++ strOfNums [(c : Int)]) = T.nats s ++ [c] := by
    have h1 : (s ++ strOfNums [(c : Int)]).data = s.data ++ (strOfNums [(c : Int)]).data := ByteArray.data_append
    unfold T.nats
    rw [h1]
    simp [strOfNums, UInt8.toNat_ofNat']
    omega
  unfold T.markOf
  rw [e, T.markFrom_snoc]

theorem own_slice {w : World} {base : Nat} {v : Value} {l : List T.Nd} (h : w.ownsRow base 60 3 v l.length (ndCells l)) :
    ∃ ao cap, v = .slice ao l.length cap ∧ l.length ≤ cap ∧ l.length ≤ maxLen ∧ NodeAt w ao l := own_node h

set_option maxRecDepth 100000 in
set_option maxHeartbeats 4000000 in
theorem telling_any (xo yo : Option Addr) (xc yc : Nat) (x y : List Int) (s : ByteArray) (c : Int) (w : World) (hx : x.length ≤ 4611686018427387904) (hy : y.length ≤ 4611686018427387904) (hxr : rawOk x) (hyr : rawOk y) (hxa : IntAt w xo x) (hya : IntAt w yo y)
    (hs : s.size ≤ 4611686018427387904) (hc0 : -9223372036854775808 ≤ c) (hc1 : c ≤ 9223372036854775807) :
    Calls Try.prog 9 #[.slice xo x.length xc, .slice yo y.length yc, .string s, .int .i64 c] w fun e w' => e = .returned (.bool true) ∧ Below w.heap.size w w' := by
  have G1 : Hid (∀ u : World, Below w.heap.size w u → Calls Try.prog 29 #[.slice xo x.length xc] u fun e w' => growEnd u e w') := fun u hu => grown_any xo xc x u hx hxr (hxa.below hu (Nat.le_refl _) hu.size)
  have G2 : Hid (∀ u : World, Below w.heap.size w u → Calls Try.prog 29 #[.slice yo y.length yc] u fun e w' => growEnd u e w') := fun u hu => grown_any yo yc y u hy hyr (hya.below hu (Nat.le_refl _) hu.size)
  generalize x.length = xn at G1 ⊢
  generalize y.length = yn at G2 ⊢
  clear hxa hya hxr hyr hx hy
  go_enter Try.func9, Try.ntmps9
  go_wp2_with fail
  refine (G1.out w (Below.refl _ _)).mono ?_
  rintro e w1 ⟨v1, ga, rfl, hga, ho1, hb1⟩
  obtain ⟨ao, ac, rfl, hac, ham, hna1⟩ := own_node ho1
  have GA : Hid (Grows ga) := hga
  have BT : Hid (∀ u : World, NodeAt u ao ga → Calls Try.prog 23 #[.slice ao ga.length ac] u fun e w' => e = .returned (.tuple #[.string (strOfNums (T.bytesOf ga)), .int .i64 0]) ∧ Below u.heap.size u w') := by
    intro u hu
    have := bytes_any ao ac ga u ham hac hu hga.ok
    rwa [bytesS_good hga, bytesE_good hga] at this
  have NA1 : Hid (NodeAt w1 ao ga) := hna1
  have B1 : Hid (Below w.heap.size w w1) := hb1
  obtain ⟨an, han⟩ : ∃ an, an = ga.length := ⟨_, rfl⟩
  have HAn : Hid (ga.length = an) := han.symm
  rw [← han] at BT hac ham ⊢
  have ha10 : an ≤ 10 := by have := hga.few; omega
  clear ho1 hb1 hna1 hga han
  go_wp2_with fail
  refine (G2.out w1 B1.out).mono ?_
  rintro e w2 ⟨v2, gb, rfl, hgb, ho2, hb2⟩
  obtain ⟨bo, bc, rfl, hbc, hbm, hnb2⟩ := own_node ho2
  have GB : Hid (Grows gb) := hgb
  have BU : Hid (∀ u : World, NodeAt u bo gb → Calls Try.prog 23 #[.slice bo gb.length bc] u fun e w' => e = .returned (.tuple #[.string (strOfNums (T.bytesOf gb)), .int .i64 0]) ∧ Below u.heap.size u w') := by
    intro u hu
    have := bytes_any bo bc gb u hbm hbc hu hgb.ok
    rwa [bytesS_good hgb, bytesE_good hgb] at this
  have SM : Hid (∀ u : World, NodeAt u ao ga → NodeAt u bo gb → Calls Try.prog 28 #[.slice ao an ac, .slice bo gb.length bc] u fun e w' => e = .returned (.bool (decide (ga = gb))) ∧ Below u.heap.size u w') := by
    intro u h1 h2
    have := same_any ao bo ac bc ga gb u (by rw [HAn.out]; unfold maxLen; omega) hbm h1 h2
    rwa [HAn.out] at this
  have NA2 : Hid (NodeAt w2 ao ga) := NA1.out.below hb2 (Nat.le_refl _) hb2.size
  have NB2 : Hid (NodeAt w2 bo gb) := hnb2
  have B2 : Hid (Below w.heap.size w w2) := B1.out.trans (hb2.mono B1.out.size)
  obtain ⟨bn, hbn⟩ : ∃ bn, bn = gb.length := ⟨_, rfl⟩
  rw [← hbn] at BU SM ⊢
  clear ho2 hb2 hnb2 hgb hbn hbc hbm NA1 B1 G1 G2
  go_wp2_with fail
  refine (BT.out w2 NA2.out).mono ?_
  rintro e w3 ⟨rfl, hb3⟩
  have NA3 : Hid (NodeAt w3 ao ga) := NA2.out.below hb3 (Nat.le_refl _) hb3.size
  have NB3 : Hid (NodeAt w3 bo gb) := NB2.out.below hb3 (Nat.le_refl _) hb3.size
  have B3 : Hid (Below w.heap.size w w3) := B2.out.trans (hb3.mono B2.out.size)
  clear hb3 NA2 NB2 B2 BT
  go_wp2_with fail
  refine (BU.out w3 NB3.out).mono ?_
  rintro e w4 ⟨rfl, hb4⟩
  have NA4 : Hid (NodeAt w4 ao ga) := NA3.out.below hb4 (Nat.le_refl _) hb4.size
  have NB4 : Hid (NodeAt w4 bo gb) := NB3.out.below hb4 (Nat.le_refl _) hb4.size
  have B4 : Hid (Below w.heap.size w w4) := B3.out.trans (hb4.mono B3.out.size)
  clear hb4 NA3 NB3 B3 BU
  go_wp2_with fail
  refine (SM.out w4 NA4.out NB4.out).mono ?_
  rintro e w5 ⟨rfl, hb5⟩
  have NA5 : Hid (NodeAt w5 ao ga) := NA4.out.below hb5 (Nat.le_refl _) hb5.size
  have B5 : Hid (Below w.heap.size w w5) := B4.out.trans (hb5.mono B4.out.size)
  have HEQ : Hid (((strOfNums (T.bytesOf ga)).toList == (strOfNums (T.bytesOf gb)).toList) = decide (ga = gb)) := by
    unfold Hid
    by_cases h : ga = gb
    · subst h; simp
    · rw [text_ne (fun h2 => h (bytes_inj GA.out GB.out h2))]; simp [h]
  obtain ⟨td, htd⟩ : ∃ td, td = strOfNums (T.bytesOf ga) := ⟨_, rfl⟩
  obtain ⟨ud, hud⟩ : ∃ ud, ud = strOfNums (T.bytesOf gb) := ⟨_, rfl⟩
  have HSZ : Hid (td.size = (T.bytesOf ga).length) := by unfold Hid; rw [htd, strOfNums_size]
  have HB28 : (T.bytesOf ga).length ≤ 280 := by
    have := bytesOf_len ga (fun x hx => T.okNd_size (GA.out.right x hx).1)
    have := HAn.out
    omega
  rw [← htd, ← hud] at HEQ ⊢
  obtain ⟨eq, heq⟩ : ∃ eq, eq = decide (ga = gb) := ⟨_, rfl⟩
  rw [← heq] at HEQ ⊢
  clear hb5 NA4 NB4 B4 SM htd hud heq GB
  obtain ⟨tl, htl⟩ : ∃ tl, tl = td.size := ⟨_, rfl⟩
  rw [← htl] at HSZ
  have hpr := T.pk_range c 256 (by omega)
  obtain ⟨p, hp⟩ : ∃ p : Nat, (p : Int) = T.pk c 256 := ⟨(T.pk c 256).toNat, by omega⟩
  have P1 : Hid (∀ u : World, Calls Try.prog 30 #[.int .i64 c, .int .i64 256] u fun e w' => e = .returned (.int .i64 p) ∧ u = w') := by
    intro u; rw [hp]; exact pick_any c 256 u hc0 hc1 (by omega) (by omega)
  have hp256 : p < 256 := by omega
  have M1 : Hid (∀ u : World, Calls Try.prog 25 #[.string s] u fun e w' => e = .returned (.int .u32 (T.markOf s)) ∧ Below u.heap.size u w') := fun u => mark_any s u (by unfold maxLen; omega)
  have heq2 : (td.toList == ud.toList) = eq := HEQ.out
  have hbb : (eq != eq) = false := by simp
  clear hp hpr HEQ
  go_wp2_with fail
  go_loopw [16, 17] (fun v i wr => ∃ (k m : Nat), k ≤ an ∧ m ≤ 280 ∧ v = .int .i64 m ∧ i = .int .i64 k ∧ w5 = wr ∧ Hid (m = (T.bytesOf (ga.take k)).length))
    (fun _ i _ => an - (intOf i).toNat)
  case atStart => exact ⟨0, 0, Nat.zero_le _, by omega, rfl, rfl, rfl, rfl⟩
  case round =>
    obtain ⟨k, m, hk, hm280, rfl, rfl, rfl, HM⟩ := hrel
    by_cases hlt : k < an
    · obtain ⟨z, hz⟩ : ∃ x, ga[k]? = some x := ⟨ga[k]'(by have := HAn.out; omega), List.getElem?_eq_getElem (by have := HAn.out; omega)⟩
      obtain ⟨b, off, rfl, hbl, hr⟩ : ∃ b off, ao = some ⟨b, off, none⟩ ∧ b < w5.heap.size ∧ NodeRow w5 b off ga := NA5.out.resolve_left (by rintro rfl; simp at hz)
      have hz24 := T.okNd_size (GA.out.right z (List.mem_of_getElem? hz)).1
      have hts : T.bytesOf (ga.take (k + 1)) = T.bytesOf (ga.take k) ++ T.encN z := by rw [List.take_add_one, hz]; exact T.bytesOf_snoc _ _
      have hle : (T.bytesOf (ga.take (k + 1))).length ≤ 280 := by
        have h1 := bytesOf_len (ga.take (k + 1)) (fun x hx => T.okNd_size (GA.out.right x (List.mem_of_mem_take hx)).1)
        have h2 := List.length_take_le (k + 1) ga
        omega
      obtain ⟨z1, z2, z3⟩ := z
      obtain ⟨c0, c1, c2⟩ := hr k _ hz
      simp only at c0 c1 c2 hz24
      have HS : Hid (m + 4 + z3.size = (T.bytesOf (ga.take (k + 1))).length) := by
        unfold Hid
        rw [hts, List.length_append, T.encN_length, ← HM.out]
        show _ = m + (4 + z3.size)
        omega
      have hms : m + 4 + z3.size ≤ 280 := by have := HS.out; omega
      clear hz hr hts hle
      go_wp2
      go_roundw
      case rel => exact ⟨k + 1, m + 4 + z3.size, by omega, by omega, by go_num, by go_num, trivial, HS⟩
      case measure => simp [intOf]; omega
    · have hkn : k = an := by omega
      have hmt : m = tl := by rw [HM.out, HSZ.out, List.take_of_length_le (by have := HAn.out; omega)]
      clear HM hlt NA5 hk
      subst hkn
      subst hmt
      go_wp2_with fail
      refine (P1.out _).mono ?_
      rintro e w6 ⟨rfl, rfl⟩
      go_wp2_with fail
      refine (M1.out _).mono ?_
      rintro e w7 ⟨rfl, hb7⟩
      have B7 : Hid (Below w.heap.size w w7) := B5.out.trans (hb7.mono B5.out.size)
      have hs7 := B7.out.size
      obtain ⟨q, hq⟩ : ∃ q, q = strOfNums [(p : Int)] := ⟨_, rfl⟩
      have hqs : q.size = 1 := by rw [hq, strOfNums_size]; rfl
      have hconv := run_convert_bytes_arg (P := Try.prog) (w7.alloc (.cells #[.int .u8 p] 5)) 67 5 Try.underlying67 Try.underlying5 w7.heap.size 0 1 1 [(p : Int)] rfl (fun i hi => by
        obtain rfl : i = 0 := by omega
        exact (Blk.new w7 #[.int .u8 p] 5).cell 0) 9 Try.underlying9
      rw [← hq] at hconv
      have HM2 : Hid (T.markOf (s ++ q) = T.markStep (T.markOf s) p) := by unfold Hid; rw [hq, mark_next s p hp256]
      have hasz : (s ++ q).size = s.size + 1 := by rw [ByteArray.size_append, hqs]
      have M2 : Hid (∀ u : World, Calls Try.prog 25 #[.string (s ++ q)] u fun e w' => e = .returned (.int .u32 (T.markOf (s ++ q))) ∧ Below u.heap.size u w') := fun u => mark_any (s ++ q) u (by unfold maxLen; omega)
      have M3 : Hid (∀ u : World, Calls Try.prog 25 #[.string ⟨#[]⟩] u fun e w' => e = .returned (.int .u32 2166136261) ∧ Below u.heap.size u w') := fun u => mark_any ⟨#[]⟩ u (by unfold maxLen; exact Nat.zero_le _)
      clear hb7 B5 hq M1
      go_wp2_with fail
      refine (M2.out _).mono ?_
      rintro e w8 ⟨rfl, hb8⟩
      have B8 : Hid (Below w.heap.size w w8) := (B7.out.alloc hs7 _).trans (hb8.mono (by simp; omega))
      obtain ⟨h, hh⟩ : ∃ h : Nat, h = T.markOf s := ⟨_, rfl⟩
      have hlt32 : h < 4294967296 := by rw [hh]; exact T.markFrom_lt _ _ (by omega)
      have hxor := xor_u32 h p hlt32 hp256
      obtain ⟨xx, hxe⟩ : ∃ x, x = h ^^^ p := ⟨_, rfl⟩
      rw [← hxe] at hxor
      rw [HM2.out, ← hh]
      have hmm : ((T.markStep h p : Nat) : Int) = (xx : Int) * 16777619 % 4294967296 := by unfold T.markStep; rw [← hxe]; omega
      obtain ⟨mk, hmk⟩ : ∃ mk : Int, (xx : Int) * 16777619 % 4294967296 = mk := ⟨_, rfl⟩
      rw [hmm, hmk]
      have hbm : (mk == mk) = true := by simp
      clear hb8 B7 M2 HM2 hh hxe hmm hp256 hlt32
      go_wp2_with fail
      refine (M3.out _).mono ?_
      rintro e w9 ⟨rfl, hb9⟩
      have B9 : Hid (Below w.heap.size w w9) := B8.out.trans (hb9.mono B8.out.size)
      clear hb9 B8 M3
      go_wp2
      go_ret
      exact ⟨rfl, B9.out⟩

end Go.Proofs.Ytcaeeaiodbjacaa
