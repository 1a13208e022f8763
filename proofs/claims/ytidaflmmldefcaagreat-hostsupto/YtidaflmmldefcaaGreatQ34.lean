/- Parts of the proof of Hosts: JSpotR. -/
import Derived.Test.YtidaflmmldefcaaGreatQ32
import Derived.Test.YtidaflmmldefcaaGreatQ33
set_option maxHeartbeats 2000000
namespace Go.Proofs.YtidaflmmldefcaaGreat
open Go.RowKit
set_option linter.unusedVariables false
set_option maxRecDepth 100000
theorem take_pop {M:H.Mach} {k:Nat} (h:M.st.length=k+1):({M with st:=M.st.take k}:H.Mach)=H.popM M:=by
 unfold H.popM;rw[if_neg (by omega),List.dropLast_eq_take,h,Nat.add_sub_cancel]
theorem take_top {M:H.Mach} {k:Nat} (h:M.st.length=k+1):M.st.getD k 0=H.popV M:=by
 unfold H.popV;rw[h,Nat.add_sub_cancel]
theorem pass_few_3 {w:World} {base b:Nat} {pv sv dv:Value} {M:H.Mach} (h:SB w base b pv sv dv M) (v:InV) (a:Int) (hl:M.st.length=0): Calls Tryz.prog 71 (passArgs b 3 a v) w fun e w'=>e= .returned (.tuple #[])∧SAft w base b {M with fault:=2} w':=by
 obtain⟨fuel,k0,k1,k2,k3,k4,k5,k6,k7,what,by_,arg,src,route,ao,n,cap⟩:=v;unfold passArgs InV.arr;simp only at*;obtain⟨o2,ho2⟩:∃o2,o2=Obj.cells #[.int .i64 fuel,.int .u16 k0,.int .u16 k1,.int .u16 k2,.int .u16 k3,.int .u16 k4,.int .u16 k5,.int .u16 k6,.int .u16 k7,.int .u8 what,.int .u8 by_,.int .u16 arg,.int .u8 src,.int .u8 route,.slice ao n cap] 128:=⟨_,rfl⟩;have hbl:=h.blk.lt;have hlt:=h.lt;have HM:Hid (SB (w.alloc o2) base b pv sv dv M):=h.alloc o2;have HF:Hid (SFr base w (w.alloc o2)):=(SFr.refl base w).alloc hlt o2;have hb1:¬b=w.heap.size:=by omega
 have hb3:¬w.heap.size=b:=by omega
 subst ho2;clear h;go_enter Tryz.func71,Tryz.ntmps71;go_wp2_with fail;refine(take_few HM.out 1 (by omega) (by omega)).mono ?_;rintro e w1 ⟨rfl,ha⟩;have HA:Hid (SAft w base b _ w1):=⟨ha.1,HF.out.trans ha.2⟩;clear ha;go_wp2;go_end0;exact⟨rfl,HA.out⟩
theorem pass_one_3 {w:World} {base b:Nat} {pv sv dv:Value} {M:H.Mach} (h:SB w base b pv sv dv M) (v:InV) (a:Int) (hl:M.st.length≠0) (R:H.Mach)
 (C:∀w1 pv sv dv,SB w1 base b pv sv dv (H.popM M)→Calls Tryz.prog 79 #[.pointer (some ⟨b,0,none⟩),.int .i64 3,.int .i64 a,.int .i64 (H.popV M)] w1 fun e w'=>e= .returned (.tuple #[])∧SAft w1 base b R w'): Calls Tryz.prog 71 (passArgs b 3 a v) w fun e w'=>e= .returned (.tuple #[])∧SAft w base b R w':=by
 obtain⟨fuel,k0,k1,k2,k3,k4,k5,k6,k7,what,by_,arg,src,route,ao,n,cap⟩:=v;unfold passArgs InV.arr;simp only at*;obtain⟨o2,ho2⟩:∃o2,o2=Obj.cells #[.int .i64 fuel,.int .u16 k0,.int .u16 k1,.int .u16 k2,.int .u16 k3,.int .u16 k4,.int .u16 k5,.int .u16 k6,.int .u16 k7,.int .u8 what,.int .u8 by_,.int .u16 arg,.int .u8 src,.int .u8 route,.slice ao n cap] 128:=⟨_,rfl⟩;have hbl:=h.blk.lt;have hlt:=h.lt;have HM:Hid (SB (w.alloc o2) base b pv sv dv M):=h.alloc o2;have HF:Hid (SFr base w (w.alloc o2)):=(SFr.refl base w).alloc hlt o2;have hb1:¬b=w.heap.size:=by omega
 have hb3:¬w.heap.size=b:=by omega
 obtain⟨k,hk⟩:∃k,M.st.length=k+1:=⟨M.st.length-1,by omega⟩;have HK:Hid (M.st.length=k+1):=hk;have HC:Hid (∀w1 pv sv dv,SB w1 base b pv sv dv (H.popM M)→Calls Tryz.prog 79 #[.pointer (some ⟨b,0,none⟩),.int .i64 3,.int .i64 a,.int .i64 (H.popV M)] w1 fun e w'=>e= .returned (.tuple #[])∧SAft w1 base b R w'):=C;have hst:=h.hst;have hk8:k<8:=by omega
 clear C hk hl;subst ho2;clear h;go_enter Tryz.func71,Tryz.ntmps71;go_wp2_with fail;refine(take_some HM.out k 1 (by omega) HK.out).mono ?_;rintro e w1 ⟨g,c,rfl,hc,⟨pv1,sv1,dv1,hm1⟩,hf1⟩;have d0:=hc 0 (by omega);rw[Nat.add_zero,take_top HK.out] at d0;rw[take_pop HK.out] at hm1;have HM1:Hid (SB w1 base b pv1 sv1 dv1 (H.popM M)):=hm1;have HF1:Hid (SFr base w w1):=HF.out.trans hf1;have HC1:Hid (Calls Tryz.prog 79 #[.pointer (some ⟨b,0,none⟩),.int .i64 3,.int .i64 a,.int .i64 (H.popV M)] w1 fun e w'=>e= .returned (.tuple #[])∧SAft w1 base b R w'):=HC.out w1 pv1 sv1 dv1 hm1;clear hc hm1 hf1 HM HF HC;obtain⟨y,hy⟩:∃y,y=H.popV M:=⟨_,rfl⟩;rw[←hy] at d0 HC1;clear hy;go_wp2_with fail;refine HC1.out.mono ?_;rintro e w2 ⟨rfl,ha⟩;have HA:Hid (SAft w base b _ w2):=⟨ha.1,HF1.out.trans ha.2⟩;clear ha;go_wp2;go_end0;exact⟨rfl,HA.out⟩
theorem pass_few_17 {w:World} {base b:Nat} {pv sv dv:Value} {M:H.Mach} (h:SB w base b pv sv dv M) (v:InV) (a:Int) (hl:M.st.length=0): Calls Tryz.prog 71 (passArgs b 17 a v) w fun e w'=>e= .returned (.tuple #[])∧SAft w base b {M with fault:=2} w':=by
 obtain⟨fuel,k0,k1,k2,k3,k4,k5,k6,k7,what,by_,arg,src,route,ao,n,cap⟩:=v;unfold passArgs InV.arr;simp only at*;obtain⟨o2,ho2⟩:∃o2,o2=Obj.cells #[.int .i64 fuel,.int .u16 k0,.int .u16 k1,.int .u16 k2,.int .u16 k3,.int .u16 k4,.int .u16 k5,.int .u16 k6,.int .u16 k7,.int .u8 what,.int .u8 by_,.int .u16 arg,.int .u8 src,.int .u8 route,.slice ao n cap] 128:=⟨_,rfl⟩;have hbl:=h.blk.lt;have hlt:=h.lt;have HM:Hid (SB (w.alloc o2) base b pv sv dv M):=h.alloc o2;have HF:Hid (SFr base w (w.alloc o2)):=(SFr.refl base w).alloc hlt o2;have hb1:¬b=w.heap.size:=by omega
 have hb3:¬w.heap.size=b:=by omega
 subst ho2;clear h;go_enter Tryz.func71,Tryz.ntmps71;go_wp2_with fail;refine(take_few HM.out 1 (by omega) (by omega)).mono ?_;rintro e w1 ⟨rfl,ha⟩;have HA:Hid (SAft w base b _ w1):=⟨ha.1,HF.out.trans ha.2⟩;clear ha;go_wp2;go_end0;exact⟨rfl,HA.out⟩
theorem pass_one_17 {w:World} {base b:Nat} {pv sv dv:Value} {M:H.Mach} (h:SB w base b pv sv dv M) (v:InV) (a:Int) (hl:M.st.length≠0) (R:H.Mach)
 (C:∀w1 pv sv dv,SB w1 base b pv sv dv (H.popM M)→Calls Tryz.prog 79 #[.pointer (some ⟨b,0,none⟩),.int .i64 17,.int .i64 a,.int .i64 (H.popV M)] w1 fun e w'=>e= .returned (.tuple #[])∧SAft w1 base b R w'): Calls Tryz.prog 71 (passArgs b 17 a v) w fun e w'=>e= .returned (.tuple #[])∧SAft w base b R w':=by
 obtain⟨fuel,k0,k1,k2,k3,k4,k5,k6,k7,what,by_,arg,src,route,ao,n,cap⟩:=v;unfold passArgs InV.arr;simp only at*;obtain⟨o2,ho2⟩:∃o2,o2=Obj.cells #[.int .i64 fuel,.int .u16 k0,.int .u16 k1,.int .u16 k2,.int .u16 k3,.int .u16 k4,.int .u16 k5,.int .u16 k6,.int .u16 k7,.int .u8 what,.int .u8 by_,.int .u16 arg,.int .u8 src,.int .u8 route,.slice ao n cap] 128:=⟨_,rfl⟩;have hbl:=h.blk.lt;have hlt:=h.lt;have HM:Hid (SB (w.alloc o2) base b pv sv dv M):=h.alloc o2;have HF:Hid (SFr base w (w.alloc o2)):=(SFr.refl base w).alloc hlt o2;have hb1:¬b=w.heap.size:=by omega
 have hb3:¬w.heap.size=b:=by omega
 obtain⟨k,hk⟩:∃k,M.st.length=k+1:=⟨M.st.length-1,by omega⟩;have HK:Hid (M.st.length=k+1):=hk;have HC:Hid (∀w1 pv sv dv,SB w1 base b pv sv dv (H.popM M)→Calls Tryz.prog 79 #[.pointer (some ⟨b,0,none⟩),.int .i64 17,.int .i64 a,.int .i64 (H.popV M)] w1 fun e w'=>e= .returned (.tuple #[])∧SAft w1 base b R w'):=C;have hst:=h.hst;have hk8:k<8:=by omega
 clear C hk hl;subst ho2;clear h;go_enter Tryz.func71,Tryz.ntmps71;go_wp2_with fail;refine(take_some HM.out k 1 (by omega) HK.out).mono ?_;rintro e w1 ⟨g,c,rfl,hc,⟨pv1,sv1,dv1,hm1⟩,hf1⟩;have d0:=hc 0 (by omega);rw[Nat.add_zero,take_top HK.out] at d0;rw[take_pop HK.out] at hm1;have HM1:Hid (SB w1 base b pv1 sv1 dv1 (H.popM M)):=hm1;have HF1:Hid (SFr base w w1):=HF.out.trans hf1;have HC1:Hid (Calls Tryz.prog 79 #[.pointer (some ⟨b,0,none⟩),.int .i64 17,.int .i64 a,.int .i64 (H.popV M)] w1 fun e w'=>e= .returned (.tuple #[])∧SAft w1 base b R w'):=HC.out w1 pv1 sv1 dv1 hm1;clear hc hm1 hf1 HM HF HC;obtain⟨y,hy⟩:∃y,y=H.popV M:=⟨_,rfl⟩;rw[←hy] at d0 HC1;clear hy;go_wp2_with fail;refine HC1.out.mono ?_;rintro e w2 ⟨rfl,ha⟩;have HA:Hid (SAft w base b _ w2):=⟨ha.1,HF1.out.trans ha.2⟩;clear ha;go_wp2;go_end0;exact⟨rfl,HA.out⟩
theorem pass_few_23 {w:World} {base b:Nat} {pv sv dv:Value} {M:H.Mach} (h:SB w base b pv sv dv M) (v:InV) (a:Int) (hl:M.st.length=0): Calls Tryz.prog 71 (passArgs b 23 a v) w fun e w'=>e= .returned (.tuple #[])∧SAft w base b {M with fault:=2} w':=by
 obtain⟨fuel,k0,k1,k2,k3,k4,k5,k6,k7,what,by_,arg,src,route,ao,n,cap⟩:=v;unfold passArgs InV.arr;simp only at*;obtain⟨o2,ho2⟩:∃o2,o2=Obj.cells #[.int .i64 fuel,.int .u16 k0,.int .u16 k1,.int .u16 k2,.int .u16 k3,.int .u16 k4,.int .u16 k5,.int .u16 k6,.int .u16 k7,.int .u8 what,.int .u8 by_,.int .u16 arg,.int .u8 src,.int .u8 route,.slice ao n cap] 128:=⟨_,rfl⟩;have hbl:=h.blk.lt;have hlt:=h.lt;have HM:Hid (SB (w.alloc o2) base b pv sv dv M):=h.alloc o2;have HF:Hid (SFr base w (w.alloc o2)):=(SFr.refl base w).alloc hlt o2;have hb1:¬b=w.heap.size:=by omega
 have hb3:¬w.heap.size=b:=by omega
 subst ho2;clear h;go_enter Tryz.func71,Tryz.ntmps71;go_wp2_with fail;refine(take_few HM.out 1 (by omega) (by omega)).mono ?_;rintro e w1 ⟨rfl,ha⟩;have HA:Hid (SAft w base b _ w1):=⟨ha.1,HF.out.trans ha.2⟩;clear ha;go_wp2;go_end0;exact⟨rfl,HA.out⟩
theorem pass_one_23 {w:World} {base b:Nat} {pv sv dv:Value} {M:H.Mach} (h:SB w base b pv sv dv M) (v:InV) (a:Int) (hl:M.st.length≠0) (R:H.Mach)
 (C:∀w1 pv sv dv,SB w1 base b pv sv dv (H.popM M)→Calls Tryz.prog 79 #[.pointer (some ⟨b,0,none⟩),.int .i64 23,.int .i64 a,.int .i64 (H.popV M)] w1 fun e w'=>e= .returned (.tuple #[])∧SAft w1 base b R w'): Calls Tryz.prog 71 (passArgs b 23 a v) w fun e w'=>e= .returned (.tuple #[])∧SAft w base b R w':=by
 obtain⟨fuel,k0,k1,k2,k3,k4,k5,k6,k7,what,by_,arg,src,route,ao,n,cap⟩:=v;unfold passArgs InV.arr;simp only at*;obtain⟨o2,ho2⟩:∃o2,o2=Obj.cells #[.int .i64 fuel,.int .u16 k0,.int .u16 k1,.int .u16 k2,.int .u16 k3,.int .u16 k4,.int .u16 k5,.int .u16 k6,.int .u16 k7,.int .u8 what,.int .u8 by_,.int .u16 arg,.int .u8 src,.int .u8 route,.slice ao n cap] 128:=⟨_,rfl⟩;have hbl:=h.blk.lt;have hlt:=h.lt;have HM:Hid (SB (w.alloc o2) base b pv sv dv M):=h.alloc o2;have HF:Hid (SFr base w (w.alloc o2)):=(SFr.refl base w).alloc hlt o2;have hb1:¬b=w.heap.size:=by omega
 have hb3:¬w.heap.size=b:=by omega
 obtain⟨k,hk⟩:∃k,M.st.length=k+1:=⟨M.st.length-1,by omega⟩;have HK:Hid (M.st.length=k+1):=hk;have HC:Hid (∀w1 pv sv dv,SB w1 base b pv sv dv (H.popM M)→Calls Tryz.prog 79 #[.pointer (some ⟨b,0,none⟩),.int .i64 23,.int .i64 a,.int .i64 (H.popV M)] w1 fun e w'=>e= .returned (.tuple #[])∧SAft w1 base b R w'):=C;have hst:=h.hst;have hk8:k<8:=by omega
 clear C hk hl;subst ho2;clear h;go_enter Tryz.func71,Tryz.ntmps71;go_wp2_with fail;refine(take_some HM.out k 1 (by omega) HK.out).mono ?_;rintro e w1 ⟨g,c,rfl,hc,⟨pv1,sv1,dv1,hm1⟩,hf1⟩;have d0:=hc 0 (by omega);rw[Nat.add_zero,take_top HK.out] at d0;rw[take_pop HK.out] at hm1;have HM1:Hid (SB w1 base b pv1 sv1 dv1 (H.popM M)):=hm1;have HF1:Hid (SFr base w w1):=HF.out.trans hf1;have HC1:Hid (Calls Tryz.prog 79 #[.pointer (some ⟨b,0,none⟩),.int .i64 23,.int .i64 a,.int .i64 (H.popV M)] w1 fun e w'=>e= .returned (.tuple #[])∧SAft w1 base b R w'):=HC.out w1 pv1 sv1 dv1 hm1;clear hc hm1 hf1 HM HF HC;obtain⟨y,hy⟩:∃y,y=H.popV M:=⟨_,rfl⟩;rw[←hy] at d0 HC1;clear hy;go_wp2_with fail;refine HC1.out.mono ?_;rintro e w2 ⟨rfl,ha⟩;have HA:Hid (SAft w base b _ w2):=⟨ha.1,HF1.out.trans ha.2⟩;clear ha;go_wp2;go_end0;exact⟨rfl,HA.out⟩
theorem pass_few_24 {w:World} {base b:Nat} {pv sv dv:Value} {M:H.Mach} (h:SB w base b pv sv dv M) (v:InV) (a:Int) (hl:M.st.length=0): Calls Tryz.prog 71 (passArgs b 24 a v) w fun e w'=>e= .returned (.tuple #[])∧SAft w base b {M with fault:=2} w':=by
 obtain⟨fuel,k0,k1,k2,k3,k4,k5,k6,k7,what,by_,arg,src,route,ao,n,cap⟩:=v;unfold passArgs InV.arr;simp only at*;obtain⟨o2,ho2⟩:∃o2,o2=Obj.cells #[.int .i64 fuel,.int .u16 k0,.int .u16 k1,.int .u16 k2,.int .u16 k3,.int .u16 k4,.int .u16 k5,.int .u16 k6,.int .u16 k7,.int .u8 what,.int .u8 by_,.int .u16 arg,.int .u8 src,.int .u8 route,.slice ao n cap] 128:=⟨_,rfl⟩;have hbl:=h.blk.lt;have hlt:=h.lt;have HM:Hid (SB (w.alloc o2) base b pv sv dv M):=h.alloc o2;have HF:Hid (SFr base w (w.alloc o2)):=(SFr.refl base w).alloc hlt o2;have hb1:¬b=w.heap.size:=by omega
 have hb3:¬w.heap.size=b:=by omega
 subst ho2;clear h;go_enter Tryz.func71,Tryz.ntmps71;go_wp2_with fail;refine(take_few HM.out 1 (by omega) (by omega)).mono ?_;rintro e w1 ⟨rfl,ha⟩;have HA:Hid (SAft w base b _ w1):=⟨ha.1,HF.out.trans ha.2⟩;clear ha;go_wp2;go_end0;exact⟨rfl,HA.out⟩
theorem pass_one_24 {w:World} {base b:Nat} {pv sv dv:Value} {M:H.Mach} (h:SB w base b pv sv dv M) (v:InV) (a:Int) (hl:M.st.length≠0) (R:H.Mach)
 (C:∀w1 pv sv dv,SB w1 base b pv sv dv (H.popM M)→Calls Tryz.prog 79 #[.pointer (some ⟨b,0,none⟩),.int .i64 24,.int .i64 a,.int .i64 (H.popV M)] w1 fun e w'=>e= .returned (.tuple #[])∧SAft w1 base b R w'): Calls Tryz.prog 71 (passArgs b 24 a v) w fun e w'=>e= .returned (.tuple #[])∧SAft w base b R w':=by
 obtain⟨fuel,k0,k1,k2,k3,k4,k5,k6,k7,what,by_,arg,src,route,ao,n,cap⟩:=v;unfold passArgs InV.arr;simp only at*;obtain⟨o2,ho2⟩:∃o2,o2=Obj.cells #[.int .i64 fuel,.int .u16 k0,.int .u16 k1,.int .u16 k2,.int .u16 k3,.int .u16 k4,.int .u16 k5,.int .u16 k6,.int .u16 k7,.int .u8 what,.int .u8 by_,.int .u16 arg,.int .u8 src,.int .u8 route,.slice ao n cap] 128:=⟨_,rfl⟩;have hbl:=h.blk.lt;have hlt:=h.lt;have HM:Hid (SB (w.alloc o2) base b pv sv dv M):=h.alloc o2;have HF:Hid (SFr base w (w.alloc o2)):=(SFr.refl base w).alloc hlt o2;have hb1:¬b=w.heap.size:=by omega
 have hb3:¬w.heap.size=b:=by omega
 obtain⟨k,hk⟩:∃k,M.st.length=k+1:=⟨M.st.length-1,by omega⟩;have HK:Hid (M.st.length=k+1):=hk;have HC:Hid (∀w1 pv sv dv,SB w1 base b pv sv dv (H.popM M)→Calls Tryz.prog 79 #[.pointer (some ⟨b,0,none⟩),.int .i64 24,.int .i64 a,.int .i64 (H.popV M)] w1 fun e w'=>e= .returned (.tuple #[])∧SAft w1 base b R w'):=C;have hst:=h.hst;have hk8:k<8:=by omega
 clear C hk hl;subst ho2;clear h;go_enter Tryz.func71,Tryz.ntmps71;go_wp2_with fail;refine(take_some HM.out k 1 (by omega) HK.out).mono ?_;rintro e w1 ⟨g,c,rfl,hc,⟨pv1,sv1,dv1,hm1⟩,hf1⟩;have d0:=hc 0 (by omega);rw[Nat.add_zero,take_top HK.out] at d0;rw[take_pop HK.out] at hm1;have HM1:Hid (SB w1 base b pv1 sv1 dv1 (H.popM M)):=hm1;have HF1:Hid (SFr base w w1):=HF.out.trans hf1;have HC1:Hid (Calls Tryz.prog 79 #[.pointer (some ⟨b,0,none⟩),.int .i64 24,.int .i64 a,.int .i64 (H.popV M)] w1 fun e w'=>e= .returned (.tuple #[])∧SAft w1 base b R w'):=HC.out w1 pv1 sv1 dv1 hm1;clear hc hm1 hf1 HM HF HC;obtain⟨y,hy⟩:∃y,y=H.popV M:=⟨_,rfl⟩;rw[←hy] at d0 HC1;clear hy;go_wp2_with fail;refine HC1.out.mono ?_;rintro e w2 ⟨rfl,ha⟩;have HA:Hid (SAft w base b _ w2):=⟨ha.1,HF1.out.trans ha.2⟩;clear ha;go_wp2;go_end0;exact⟨rfl,HA.out⟩
theorem pass_few_25 {w:World} {base b:Nat} {pv sv dv:Value} {M:H.Mach} (h:SB w base b pv sv dv M) (v:InV) (a:Int) (hl:M.st.length=0): Calls Tryz.prog 71 (passArgs b 25 a v) w fun e w'=>e= .returned (.tuple #[])∧SAft w base b {M with fault:=2} w':=by
 obtain⟨fuel,k0,k1,k2,k3,k4,k5,k6,k7,what,by_,arg,src,route,ao,n,cap⟩:=v;unfold passArgs InV.arr;simp only at*;obtain⟨o2,ho2⟩:∃o2,o2=Obj.cells #[.int .i64 fuel,.int .u16 k0,.int .u16 k1,.int .u16 k2,.int .u16 k3,.int .u16 k4,.int .u16 k5,.int .u16 k6,.int .u16 k7,.int .u8 what,.int .u8 by_,.int .u16 arg,.int .u8 src,.int .u8 route,.slice ao n cap] 128:=⟨_,rfl⟩;have hbl:=h.blk.lt;have hlt:=h.lt;have HM:Hid (SB (w.alloc o2) base b pv sv dv M):=h.alloc o2;have HF:Hid (SFr base w (w.alloc o2)):=(SFr.refl base w).alloc hlt o2;have hb1:¬b=w.heap.size:=by omega
 have hb3:¬w.heap.size=b:=by omega
 subst ho2;clear h;go_enter Tryz.func71,Tryz.ntmps71;go_wp2_with fail;refine(take_few HM.out 1 (by omega) (by omega)).mono ?_;rintro e w1 ⟨rfl,ha⟩;have HA:Hid (SAft w base b _ w1):=⟨ha.1,HF.out.trans ha.2⟩;clear ha;go_wp2;go_end0;exact⟨rfl,HA.out⟩
theorem pass_one_25 {w:World} {base b:Nat} {pv sv dv:Value} {M:H.Mach} (h:SB w base b pv sv dv M) (v:InV) (a:Int) (hl:M.st.length≠0) (R:H.Mach)
 (C:∀w1 pv sv dv,SB w1 base b pv sv dv (H.popM M)→Calls Tryz.prog 79 #[.pointer (some ⟨b,0,none⟩),.int .i64 25,.int .i64 a,.int .i64 (H.popV M)] w1 fun e w'=>e= .returned (.tuple #[])∧SAft w1 base b R w'): Calls Tryz.prog 71 (passArgs b 25 a v) w fun e w'=>e= .returned (.tuple #[])∧SAft w base b R w':=by
 obtain⟨fuel,k0,k1,k2,k3,k4,k5,k6,k7,what,by_,arg,src,route,ao,n,cap⟩:=v;unfold passArgs InV.arr;simp only at*;obtain⟨o2,ho2⟩:∃o2,o2=Obj.cells #[.int .i64 fuel,.int .u16 k0,.int .u16 k1,.int .u16 k2,.int .u16 k3,.int .u16 k4,.int .u16 k5,.int .u16 k6,.int .u16 k7,.int .u8 what,.int .u8 by_,.int .u16 arg,.int .u8 src,.int .u8 route,.slice ao n cap] 128:=⟨_,rfl⟩;have hbl:=h.blk.lt;have hlt:=h.lt;have HM:Hid (SB (w.alloc o2) base b pv sv dv M):=h.alloc o2;have HF:Hid (SFr base w (w.alloc o2)):=(SFr.refl base w).alloc hlt o2;have hb1:¬b=w.heap.size:=by omega
 have hb3:¬w.heap.size=b:=by omega
 obtain⟨k,hk⟩:∃k,M.st.length=k+1:=⟨M.st.length-1,by omega⟩;have HK:Hid (M.st.length=k+1):=hk;have HC:Hid (∀w1 pv sv dv,SB w1 base b pv sv dv (H.popM M)→Calls Tryz.prog 79 #[.pointer (some ⟨b,0,none⟩),.int .i64 25,.int .i64 a,.int .i64 (H.popV M)] w1 fun e w'=>e= .returned (.tuple #[])∧SAft w1 base b R w'):=C;have hst:=h.hst;have hk8:k<8:=by omega
 clear C hk hl;subst ho2;clear h;go_enter Tryz.func71,Tryz.ntmps71;go_wp2_with fail;refine(take_some HM.out k 1 (by omega) HK.out).mono ?_;rintro e w1 ⟨g,c,rfl,hc,⟨pv1,sv1,dv1,hm1⟩,hf1⟩;have d0:=hc 0 (by omega);rw[Nat.add_zero,take_top HK.out] at d0;rw[take_pop HK.out] at hm1;have HM1:Hid (SB w1 base b pv1 sv1 dv1 (H.popM M)):=hm1;have HF1:Hid (SFr base w w1):=HF.out.trans hf1;have HC1:Hid (Calls Tryz.prog 79 #[.pointer (some ⟨b,0,none⟩),.int .i64 25,.int .i64 a,.int .i64 (H.popV M)] w1 fun e w'=>e= .returned (.tuple #[])∧SAft w1 base b R w'):=HC.out w1 pv1 sv1 dv1 hm1;clear hc hm1 hf1 HM HF HC;obtain⟨y,hy⟩:∃y,y=H.popV M:=⟨_,rfl⟩;rw[←hy] at d0 HC1;clear hy;go_wp2_with fail;refine HC1.out.mono ?_;rintro e w2 ⟨rfl,ha⟩;have HA:Hid (SAft w base b _ w2):=⟨ha.1,HF1.out.trans ha.2⟩;clear ha;go_wp2;go_end0;exact⟨rfl,HA.out⟩
theorem pass_few_26 {w:World} {base b:Nat} {pv sv dv:Value} {M:H.Mach} (h:SB w base b pv sv dv M) (v:InV) (a:Int) (hl:M.st.length=0): Calls Tryz.prog 71 (passArgs b 26 a v) w fun e w'=>e= .returned (.tuple #[])∧SAft w base b {M with fault:=2} w':=by
 obtain⟨fuel,k0,k1,k2,k3,k4,k5,k6,k7,what,by_,arg,src,route,ao,n,cap⟩:=v;unfold passArgs InV.arr;simp only at*;obtain⟨o2,ho2⟩:∃o2,o2=Obj.cells #[.int .i64 fuel,.int .u16 k0,.int .u16 k1,.int .u16 k2,.int .u16 k3,.int .u16 k4,.int .u16 k5,.int .u16 k6,.int .u16 k7,.int .u8 what,.int .u8 by_,.int .u16 arg,.int .u8 src,.int .u8 route,.slice ao n cap] 128:=⟨_,rfl⟩;have hbl:=h.blk.lt;have hlt:=h.lt;have HM:Hid (SB (w.alloc o2) base b pv sv dv M):=h.alloc o2;have HF:Hid (SFr base w (w.alloc o2)):=(SFr.refl base w).alloc hlt o2;have hb1:¬b=w.heap.size:=by omega
 have hb3:¬w.heap.size=b:=by omega
 subst ho2;clear h;go_enter Tryz.func71,Tryz.ntmps71;go_wp2_with fail;refine(take_few HM.out 1 (by omega) (by omega)).mono ?_;rintro e w1 ⟨rfl,ha⟩;have HA:Hid (SAft w base b _ w1):=⟨ha.1,HF.out.trans ha.2⟩;clear ha;go_wp2;go_end0;exact⟨rfl,HA.out⟩
theorem pass_one_26 {w:World} {base b:Nat} {pv sv dv:Value} {M:H.Mach} (h:SB w base b pv sv dv M) (v:InV) (a:Int) (hl:M.st.length≠0) (R:H.Mach)
 (C:∀w1 pv sv dv,SB w1 base b pv sv dv (H.popM M)→Calls Tryz.prog 79 #[.pointer (some ⟨b,0,none⟩),.int .i64 26,.int .i64 a,.int .i64 (H.popV M)] w1 fun e w'=>e= .returned (.tuple #[])∧SAft w1 base b R w'): Calls Tryz.prog 71 (passArgs b 26 a v) w fun e w'=>e= .returned (.tuple #[])∧SAft w base b R w':=by
 obtain⟨fuel,k0,k1,k2,k3,k4,k5,k6,k7,what,by_,arg,src,route,ao,n,cap⟩:=v;unfold passArgs InV.arr;simp only at*;obtain⟨o2,ho2⟩:∃o2,o2=Obj.cells #[.int .i64 fuel,.int .u16 k0,.int .u16 k1,.int .u16 k2,.int .u16 k3,.int .u16 k4,.int .u16 k5,.int .u16 k6,.int .u16 k7,.int .u8 what,.int .u8 by_,.int .u16 arg,.int .u8 src,.int .u8 route,.slice ao n cap] 128:=⟨_,rfl⟩;have hbl:=h.blk.lt;have hlt:=h.lt;have HM:Hid (SB (w.alloc o2) base b pv sv dv M):=h.alloc o2;have HF:Hid (SFr base w (w.alloc o2)):=(SFr.refl base w).alloc hlt o2;have hb1:¬b=w.heap.size:=by omega
 have hb3:¬w.heap.size=b:=by omega
 obtain⟨k,hk⟩:∃k,M.st.length=k+1:=⟨M.st.length-1,by omega⟩;have HK:Hid (M.st.length=k+1):=hk;have HC:Hid (∀w1 pv sv dv,SB w1 base b pv sv dv (H.popM M)→Calls Tryz.prog 79 #[.pointer (some ⟨b,0,none⟩),.int .i64 26,.int .i64 a,.int .i64 (H.popV M)] w1 fun e w'=>e= .returned (.tuple #[])∧SAft w1 base b R w'):=C;have hst:=h.hst;have hk8:k<8:=by omega
 clear C hk hl;subst ho2;clear h;go_enter Tryz.func71,Tryz.ntmps71;go_wp2_with fail;refine(take_some HM.out k 1 (by omega) HK.out).mono ?_;rintro e w1 ⟨g,c,rfl,hc,⟨pv1,sv1,dv1,hm1⟩,hf1⟩;have d0:=hc 0 (by omega);rw[Nat.add_zero,take_top HK.out] at d0;rw[take_pop HK.out] at hm1;have HM1:Hid (SB w1 base b pv1 sv1 dv1 (H.popM M)):=hm1;have HF1:Hid (SFr base w w1):=HF.out.trans hf1;have HC1:Hid (Calls Tryz.prog 79 #[.pointer (some ⟨b,0,none⟩),.int .i64 26,.int .i64 a,.int .i64 (H.popV M)] w1 fun e w'=>e= .returned (.tuple #[])∧SAft w1 base b R w'):=HC.out w1 pv1 sv1 dv1 hm1;clear hc hm1 hf1 HM HF HC;obtain⟨y,hy⟩:∃y,y=H.popV M:=⟨_,rfl⟩;rw[←hy] at d0 HC1;clear hy;go_wp2_with fail;refine HC1.out.mono ?_;rintro e w2 ⟨rfl,ha⟩;have HA:Hid (SAft w base b _ w2):=⟨ha.1,HF1.out.trans ha.2⟩;clear ha;go_wp2;go_end0;exact⟨rfl,HA.out⟩
theorem pass_few_27 {w:World} {base b:Nat} {pv sv dv:Value} {M:H.Mach} (h:SB w base b pv sv dv M) (v:InV) (a:Int) (hl:M.st.length=0): Calls Tryz.prog 71 (passArgs b 27 a v) w fun e w'=>e= .returned (.tuple #[])∧SAft w base b {M with fault:=2} w':=by
 obtain⟨fuel,k0,k1,k2,k3,k4,k5,k6,k7,what,by_,arg,src,route,ao,n,cap⟩:=v;unfold passArgs InV.arr;simp only at*;obtain⟨o2,ho2⟩:∃o2,o2=Obj.cells #[.int .i64 fuel,.int .u16 k0,.int .u16 k1,.int .u16 k2,.int .u16 k3,.int .u16 k4,.int .u16 k5,.int .u16 k6,.int .u16 k7,.int .u8 what,.int .u8 by_,.int .u16 arg,.int .u8 src,.int .u8 route,.slice ao n cap] 128:=⟨_,rfl⟩;have hbl:=h.blk.lt;have hlt:=h.lt;have HM:Hid (SB (w.alloc o2) base b pv sv dv M):=h.alloc o2;have HF:Hid (SFr base w (w.alloc o2)):=(SFr.refl base w).alloc hlt o2;have hb1:¬b=w.heap.size:=by omega
 have hb3:¬w.heap.size=b:=by omega
 subst ho2;clear h;go_enter Tryz.func71,Tryz.ntmps71;go_wp2_with fail;refine(take_few HM.out 1 (by omega) (by omega)).mono ?_;rintro e w1 ⟨rfl,ha⟩;have HA:Hid (SAft w base b _ w1):=⟨ha.1,HF.out.trans ha.2⟩;clear ha;go_wp2;go_end0;exact⟨rfl,HA.out⟩
theorem pass_one_27 {w:World} {base b:Nat} {pv sv dv:Value} {M:H.Mach} (h:SB w base b pv sv dv M) (v:InV) (a:Int) (hl:M.st.length≠0) (R:H.Mach)
 (C:∀w1 pv sv dv,SB w1 base b pv sv dv (H.popM M)→Calls Tryz.prog 79 #[.pointer (some ⟨b,0,none⟩),.int .i64 27,.int .i64 a,.int .i64 (H.popV M)] w1 fun e w'=>e= .returned (.tuple #[])∧SAft w1 base b R w'): Calls Tryz.prog 71 (passArgs b 27 a v) w fun e w'=>e= .returned (.tuple #[])∧SAft w base b R w':=by
 obtain⟨fuel,k0,k1,k2,k3,k4,k5,k6,k7,what,by_,arg,src,route,ao,n,cap⟩:=v;unfold passArgs InV.arr;simp only at*;obtain⟨o2,ho2⟩:∃o2,o2=Obj.cells #[.int .i64 fuel,.int .u16 k0,.int .u16 k1,.int .u16 k2,.int .u16 k3,.int .u16 k4,.int .u16 k5,.int .u16 k6,.int .u16 k7,.int .u8 what,.int .u8 by_,.int .u16 arg,.int .u8 src,.int .u8 route,.slice ao n cap] 128:=⟨_,rfl⟩;have hbl:=h.blk.lt;have hlt:=h.lt;have HM:Hid (SB (w.alloc o2) base b pv sv dv M):=h.alloc o2;have HF:Hid (SFr base w (w.alloc o2)):=(SFr.refl base w).alloc hlt o2;have hb1:¬b=w.heap.size:=by omega
 have hb3:¬w.heap.size=b:=by omega
 obtain⟨k,hk⟩:∃k,M.st.length=k+1:=⟨M.st.length-1,by omega⟩;have HK:Hid (M.st.length=k+1):=hk;have HC:Hid (∀w1 pv sv dv,SB w1 base b pv sv dv (H.popM M)→Calls Tryz.prog 79 #[.pointer (some ⟨b,0,none⟩),.int .i64 27,.int .i64 a,.int .i64 (H.popV M)] w1 fun e w'=>e= .returned (.tuple #[])∧SAft w1 base b R w'):=C;have hst:=h.hst;have hk8:k<8:=by omega
 clear C hk hl;subst ho2;clear h;go_enter Tryz.func71,Tryz.ntmps71;go_wp2_with fail;refine(take_some HM.out k 1 (by omega) HK.out).mono ?_;rintro e w1 ⟨g,c,rfl,hc,⟨pv1,sv1,dv1,hm1⟩,hf1⟩;have d0:=hc 0 (by omega);rw[Nat.add_zero,take_top HK.out] at d0;rw[take_pop HK.out] at hm1;have HM1:Hid (SB w1 base b pv1 sv1 dv1 (H.popM M)):=hm1;have HF1:Hid (SFr base w w1):=HF.out.trans hf1;have HC1:Hid (Calls Tryz.prog 79 #[.pointer (some ⟨b,0,none⟩),.int .i64 27,.int .i64 a,.int .i64 (H.popV M)] w1 fun e w'=>e= .returned (.tuple #[])∧SAft w1 base b R w'):=HC.out w1 pv1 sv1 dv1 hm1;clear hc hm1 hf1 HM HF HC;obtain⟨y,hy⟩:∃y,y=H.popV M:=⟨_,rfl⟩;rw[←hy] at d0 HC1;clear hy;go_wp2_with fail;refine HC1.out.mono ?_;rintro e w2 ⟨rfl,ha⟩;have HA:Hid (SAft w base b _ w2):=⟨ha.1,HF1.out.trans ha.2⟩;clear ha;go_wp2;go_end0;exact⟨rfl,HA.out⟩
theorem pass_draw_none {w:World} {base b:Nat} {pv sv dv:Value} {M:H.Mach} (h:SB w base b pv sv dv M) (v:InV) (a:Int) (ds:List Int) (hd:Drawn w v ds base) (hk:ds.length≤M.draws) (hk2:M.draws≤ds.length): Calls Tryz.prog 71 (passArgs b 22 a v) w fun e w'=>e= .returned (.tuple #[])∧SAft w base b (H.draw ds M) w':=by
 obtain⟨fuel,k0,k1,k2,k3,k4,k5,k6,k7,what,by_,arg,src,route,ao,n,cap⟩:=v;unfold passArgs InV.arr;simp only at*;obtain⟨o2,ho2⟩:∃o2,o2=Obj.cells #[.int .i64 fuel,.int .u16 k0,.int .u16 k1,.int .u16 k2,.int .u16 k3,.int .u16 k4,.int .u16 k5,.int .u16 k6,.int .u16 k7,.int .u8 what,.int .u8 by_,.int .u16 arg,.int .u8 src,.int .u8 route,.slice ao n cap] 128:=⟨_,rfl⟩;have hbl:=h.blk.lt;have hlt:=h.lt;have HM:Hid (SB (w.alloc o2) base b pv sv dv M):=h.alloc o2;have HF:Hid (SFr base w (w.alloc o2)):=(SFr.refl base w).alloc hlt o2;have hb1:¬b=w.heap.size:=by omega
 have hb3:¬w.heap.size=b:=by omega
 have hlen:=hd.len;have hmax:=hd.max;simp only at hlen hmax;unfold maxLen at hmax;have HE:Hid (H.draw ds M=H.push 0 M):=draw_eq0 hk;have c14:=h.c14;rw[show M.draws=n by omega] at c14;have hw:¬(n:Int)<(n:Int):=by omega
 clear hd hk hk2;subst ho2;clear h;go_enter Tryz.func71,Tryz.ntmps71;go_wp2_with fail;go_quiet (fail);go_wp2_with fail;refine(lay_any (by first|exact HM.out.drewN _|exact HM.out.drew|exact HM.out) 0).mono ?_;rintro e w1 ⟨rfl,ha⟩;have HA:Hid (SAft w base b _ w1):=⟨ha.1,by first|exact(HF.out.drewN _).trans ha.2|exact HF.out.drew.trans ha.2|exact HF.out.trans ha.2⟩;clear ha;go_wp2;go_end0;exact⟨rfl,by rw[HE.out];exact HA.out⟩
end Go.Proofs.YtidaflmmldefcaaGreat
namespace Go.Proofs.YtidaflmmldefcaaGreat
open Go.RowKit
set_option linter.unusedVariables false
set_option maxRecDepth 100000
theorem take_pop2 {M:H.Mach} {k:Nat} (h:M.st.length=k+2):({M with st:=M.st.take k}:H.Mach)=H.popM (H.popM M):=by
 have e1:H.popM M={M with st:=M.st.take (k+1)}:=(take_pop (k:=k+1) h).symm;have e2:(H.popM M).st.length=k+1:=by rw[e1];simp;omega
 rw[←take_pop e2,e1];simp[List.take_take]
theorem take_top2 {M:H.Mach} {k:Nat} (h:M.st.length=k+2):M.st.getD k 0=H.popV (H.popM M)∧M.st.getD (k+1) 0=H.popV M:=by
 refine⟨?_,take_top (k:=k+1) h⟩;have e1:H.popM M={M with st:=M.st.take (k+1)}:=(take_pop (k:=k+1) h).symm;have e2:(H.popM M).st.length=k+1:=by rw[e1];simp;omega
 rw[←take_top e2,e1];simp[List.getD]
theorem pass_draw_some {w:World} {base b:Nat} {pv sv dv:Value} {M:H.Mach} (h:SB w base b pv sv dv M) (v:InV) (a:Int) (ds:List Int) (hd:Drawn w v ds base) (hk:M.draws<ds.length): Calls Tryz.prog 71 (passArgs b 22 a v) w fun e w'=>e= .returned (.tuple #[])∧SAft w base b (H.draw ds M) w':=by
 obtain⟨fuel,k0,k1,k2,k3,k4,k5,k6,k7,what,by_,arg,src,route,ao,n,cap⟩:=v;unfold passArgs InV.arr;simp only at*;obtain⟨o2,ho2⟩:∃o2,o2=Obj.cells #[.int .i64 fuel,.int .u16 k0,.int .u16 k1,.int .u16 k2,.int .u16 k3,.int .u16 k4,.int .u16 k5,.int .u16 k6,.int .u16 k7,.int .u8 what,.int .u8 by_,.int .u16 arg,.int .u8 src,.int .u8 route,.slice ao n cap] 128:=⟨_,rfl⟩;have hbl:=h.blk.lt;have hlt:=h.lt;have HM:Hid (SB (w.alloc o2) base b pv sv dv M):=h.alloc o2;have HF:Hid (SFr base w (w.alloc o2)):=(SFr.refl base w).alloc hlt o2;have hb1:¬b=w.heap.size:=by omega
 have hb3:¬w.heap.size=b:=by omega
 obtain⟨hlen,hmax,⟨bd,off,hao,hrow⟩,hrng⟩:=hd;simp only at hlen hmax hao;unfold maxLen at hmax;obtain⟨hao1,hbd⟩:=hao (by omega);subst hao1;have hx:ds[M.draws]? =some (ds.getD M.draws 0):=by simp[List.getD,List.getElem?_eq_getElem hk]
 have cd:=hrow _ _ hx;have hxr:=hrng _ (List.mem_of_getElem? hx);have HE:Hid (H.draw ds M=H.push (ds.getD M.draws 0) {M with draws:=M.draws+1}):=draw_eq1 hk;have c14:=h.c14;have f14:=h.free 14;have HMd:Hid (SB ((w.setCell ⟨b,14,none⟩ (.int .i64 ((M.draws:Int)+1))).alloc o2) base b pv sv dv {M with draws:=M.draws+1}):=(h.set_draws (M.draws+1)).alloc o2;have HFd:Hid (SFr base w ((w.setCell ⟨b,14,none⟩ (.int .i64 ((M.draws:Int)+1))).alloc o2)):=(h.fr_set (SFr.refl base w) _ _).alloc (by simp[World.setCell];omega) o2;rw[hlen] at hk;obtain⟨x,hxe⟩:∃x,x=ds.getD M.draws 0:=⟨_,rfl⟩;rw[←hxe] at cd hxr HE;obtain⟨k,hke⟩:∃k,k=M.draws:=⟨_,rfl⟩;rw[←hke] at cd HE c14 HMd HFd hk;have hw1:IntKind.i64.wrap x=x:=by rw[IntKind.wrap_i64];omega
 have hw2:IntKind.i64.wrap ((k:Int)+1)=(k:Int)+1:=by rw[IntKind.wrap_i64];omega
 have hki:(k:Int)<(n:Int):=by omega
 have hk0:(0:Int)≤(k:Int):=by omega
 have hbd1:¬bd=w.heap.size:=by omega
 have hbd2:¬w.heap.size=bd:=by omega
 have cd2:(w.alloc o2).cell? ⟨bd,off+k,none⟩=some (.int .u16 x):=by rw[←cd];simp only[World.cell?];rw[Below.heap_alloc w o2 bd (by omega)]
 clear hao hrow hrng hx hlen hxe hke hxr;subst ho2;clear h;go_enter Tryz.func71,Tryz.ntmps71;go_wp2_with fail;go_quiet (fail);go_wp2_with fail;go_quiet (fail);go_wp2_with fail;refine(lay_any (M:={M with draws:=k+1}) (by exact(HM.out.drewN _).set_draws (k+1)) x).mono ?_;rintro e w1 ⟨rfl,ha⟩;have HA:Hid (SAft w base b _ w1):=⟨ha.1,((HM.out.drewN _).fr_set (HF.out.drewN _) 14 _).trans ha.2⟩;clear ha;go_wp2;go_end0;exact⟨rfl,by rw[HE.out];exact HA.out⟩
theorem pass_sum_few {w:World} {base b:Nat} {pv sv dv:Value} {M:H.Mach} (h:SB w base b pv sv dv M) (v:InV) (op a:Int) (h4:4≤op) (h15:op≤15) (hl:M.st.length<2): Calls Tryz.prog 71 (passArgs b op a v) w fun e w'=>e= .returned (.tuple #[])∧SAft w base b {M with fault:=2} w':=by
 obtain⟨fuel,k0,k1,k2,k3,k4,k5,k6,k7,what,by_,arg,src,route,ao,n,cap⟩:=v;unfold passArgs InV.arr;simp only at*;obtain⟨o2,ho2⟩:∃o2,o2=Obj.cells #[.int .i64 fuel,.int .u16 k0,.int .u16 k1,.int .u16 k2,.int .u16 k3,.int .u16 k4,.int .u16 k5,.int .u16 k6,.int .u16 k7,.int .u8 what,.int .u8 by_,.int .u16 arg,.int .u8 src,.int .u8 route,.slice ao n cap] 128:=⟨_,rfl⟩;have hbl:=h.blk.lt;have hlt:=h.lt;have HM:Hid (SB (w.alloc o2) base b pv sv dv M):=h.alloc o2;have HF:Hid (SFr base w (w.alloc o2)):=(SFr.refl base w).alloc hlt o2;have hb1:¬b=w.heap.size:=by omega
 have hb3:¬w.heap.size=b:=by omega
 have q0:(op==0)=false:=by rw[beq_eq_false_iff_ne];omega
 have q1:(op==1)=false:=by rw[beq_eq_false_iff_ne];omega
 have q2:(op==2)=false:=by rw[beq_eq_false_iff_ne];omega
 have q3:(op==3)=false:=by rw[beq_eq_false_iff_ne];omega
 have q16:(op==16)=false:=by rw[beq_eq_false_iff_ne];omega
 have q17:(op==17)=false:=by rw[beq_eq_false_iff_ne];omega
 have q18:(op==18)=false:=by rw[beq_eq_false_iff_ne];omega
 have q19:(op==19)=false:=by rw[beq_eq_false_iff_ne];omega
 have q20:(op==20)=false:=by rw[beq_eq_false_iff_ne];omega
 have q21:(op==21)=false:=by rw[beq_eq_false_iff_ne];omega
 have q22:(op==22)=false:=by rw[beq_eq_false_iff_ne];omega
 have q23:(op==23)=false:=by rw[beq_eq_false_iff_ne];omega
 have q24:(op==24)=false:=by rw[beq_eq_false_iff_ne];omega
 have q25:(op==25)=false:=by rw[beq_eq_false_iff_ne];omega
 have q26:(op==26)=false:=by rw[beq_eq_false_iff_ne];omega
 have q27:(op==27)=false:=by rw[beq_eq_false_iff_ne];omega
 subst ho2;clear h;go_enter Tryz.func71,Tryz.ntmps71;go_wp2_with fail;refine(take_few HM.out 2 (by omega) (by omega)).mono ?_;rintro e w1 ⟨rfl,ha⟩;have HA:Hid (SAft w base b _ w1):=⟨ha.1,HF.out.trans ha.2⟩;clear ha;go_wp2;exact bodyPost_ret (v:= .tuple #[]) (by simp[results,Tryz.results71]) rfl ⟨rfl,HA.out⟩
theorem pass_sum_zero {w:World} {base b:Nat} {pv sv dv:Value} {M:H.Mach} (h:SB w base b pv sv dv M) (v:InV) (op a z:Int) (h4:4≤op) (h15:op≤15) (hl:2≤M.st.length) (hr:InR M.st) (hz:z=H.madeV op (H.popV (H.popM M)) (H.popV M)) (hz0:z<0): Calls Tryz.prog 71 (passArgs b op a v) w fun e w'=>e= .returned (.tuple #[])∧SAft w base b {H.popM (H.popM M) with fault:=3} w':=by
 obtain⟨fuel,k0,k1,k2,k3,k4,k5,k6,k7,what,by_,arg,src,route,ao,n,cap⟩:=v;unfold passArgs InV.arr;simp only at*;obtain⟨o2,ho2⟩:∃o2,o2=Obj.cells #[.int .i64 fuel,.int .u16 k0,.int .u16 k1,.int .u16 k2,.int .u16 k3,.int .u16 k4,.int .u16 k5,.int .u16 k6,.int .u16 k7,.int .u8 what,.int .u8 by_,.int .u16 arg,.int .u8 src,.int .u8 route,.slice ao n cap] 128:=⟨_,rfl⟩;have hbl:=h.blk.lt;have hlt:=h.lt;have HM:Hid (SB (w.alloc o2) base b pv sv dv M):=h.alloc o2;have HF:Hid (SFr base w (w.alloc o2)):=(SFr.refl base w).alloc hlt o2;have hb1:¬b=w.heap.size:=by omega
 have hb3:¬w.heap.size=b:=by omega
 have q0:(op==0)=false:=by rw[beq_eq_false_iff_ne];omega
 have q1:(op==1)=false:=by rw[beq_eq_false_iff_ne];omega
 have q2:(op==2)=false:=by rw[beq_eq_false_iff_ne];omega
 have q3:(op==3)=false:=by rw[beq_eq_false_iff_ne];omega
 have q16:(op==16)=false:=by rw[beq_eq_false_iff_ne];omega
 have q17:(op==17)=false:=by rw[beq_eq_false_iff_ne];omega
 have q18:(op==18)=false:=by rw[beq_eq_false_iff_ne];omega
 have q19:(op==19)=false:=by rw[beq_eq_false_iff_ne];omega
 have q20:(op==20)=false:=by rw[beq_eq_false_iff_ne];omega
 have q21:(op==21)=false:=by rw[beq_eq_false_iff_ne];omega
 have q22:(op==22)=false:=by rw[beq_eq_false_iff_ne];omega
 have q23:(op==23)=false:=by rw[beq_eq_false_iff_ne];omega
 have q24:(op==24)=false:=by rw[beq_eq_false_iff_ne];omega
 have q25:(op==25)=false:=by rw[beq_eq_false_iff_ne];omega
 have q26:(op==26)=false:=by rw[beq_eq_false_iff_ne];omega
 have q27:(op==27)=false:=by rw[beq_eq_false_iff_ne];omega
 obtain⟨k,hk⟩:∃k,M.st.length=k+2:=⟨M.st.length-2,by omega⟩;have HK:Hid (M.st.length=k+2):=hk;have hst:=h.hst;have hk8:k<8:=by omega
 obtain⟨r1,r2⟩:=hr.popV;obtain⟨r3,r4⟩:=hr.pop.popV;obtain⟨y,hy⟩:∃y,y=H.popV M:=⟨_,rfl⟩;obtain⟨x,hx⟩:∃x,x=H.popV (H.popM M):=⟨_,rfl⟩;rw[←hx,←hy] at hz;rw[←hy] at r1 r2;rw[←hx] at r3 r4;clear hr hk hl hst;subst ho2;clear h;go_enter Tryz.func71,Tryz.ntmps71;go_wp2_with fail;refine(take_some HM.out k 2 (by omega) HK.out).mono ?_;rintro e w1 ⟨g,c,rfl,hc,⟨pv1,sv1,dv1,hm1⟩,hf1⟩;have d0:=hc 0 (by omega);have d1:=hc 1 (by omega);rw[Nat.add_zero,(take_top2 HK.out).1] at d0;rw[(take_top2 HK.out).2] at d1;rw[take_pop2 HK.out] at hm1;have HM1:Hid (SB w1 base b pv1 sv1 dv1 (H.popM (H.popM M))):=hm1;have HF1:Hid (SFr base w w1):=HF.out.trans hf1;have c13:=hm1.c13;have f13:=hm1.free 13;clear hc hm1 hf1 HM HF;rw[←hy] at d1;rw[←hx] at d0;have HCm:Hid (∀u,Calls Tryz.prog 80 #[.int .i64 op,.int .i64 x,.int .i64 y] u fun e w'=>e= .returned (.int .i64 z)∧u=w'):=by intro u;rw[hz];exact made_any op x y u h4 h15 r3 r4 r1 r2
 clear hx hy hz;go_wp2_with fail;go_quiet ((go_at_call 80;exact(HCm.out _).mono fun _ _ h=>⟨h.1,_,h.2.symm⟩));go_wp2;exact bodyPost_ret (v:= .tuple #[]) (by simp[results,Tryz.results71]) rfl ⟨rfl,⟨⟨_,_,_,by first|exact HM1.out.set_fault 3|exact(HM1.out.set_fault 3).drew|exact(HM1.out.set_fault 3).drewN _⟩,by first|exact HM1.out.fr_set HF1.out _ _|exact(HM1.out.fr_set HF1.out _ _).drew|exact(HM1.out.fr_set HF1.out _ _).drewN _⟩⟩
theorem pass_sum_some {w:World} {base b:Nat} {pv sv dv:Value} {M:H.Mach} (h:SB w base b pv sv dv M) (v:InV) (op a z:Int) (h4:4≤op) (h15:op≤15) (hl:2≤M.st.length) (hr:InR M.st) (hz:z=H.madeV op (H.popV (H.popM M)) (H.popV M)) (hz0:¬z<0): Calls Tryz.prog 71 (passArgs b op a v) w fun e w'=>e= .returned (.tuple #[])∧SAft w base b (H.push z (H.popM (H.popM M))) w':=by
 obtain⟨fuel,k0,k1,k2,k3,k4,k5,k6,k7,what,by_,arg,src,route,ao,n,cap⟩:=v;unfold passArgs InV.arr;simp only at*;obtain⟨o2,ho2⟩:∃o2,o2=Obj.cells #[.int .i64 fuel,.int .u16 k0,.int .u16 k1,.int .u16 k2,.int .u16 k3,.int .u16 k4,.int .u16 k5,.int .u16 k6,.int .u16 k7,.int .u8 what,.int .u8 by_,.int .u16 arg,.int .u8 src,.int .u8 route,.slice ao n cap] 128:=⟨_,rfl⟩;have hbl:=h.blk.lt;have hlt:=h.lt;have HM:Hid (SB (w.alloc o2) base b pv sv dv M):=h.alloc o2;have HF:Hid (SFr base w (w.alloc o2)):=(SFr.refl base w).alloc hlt o2;have hb1:¬b=w.heap.size:=by omega
 have hb3:¬w.heap.size=b:=by omega
 have q0:(op==0)=false:=by rw[beq_eq_false_iff_ne];omega
 have q1:(op==1)=false:=by rw[beq_eq_false_iff_ne];omega
 have q2:(op==2)=false:=by rw[beq_eq_false_iff_ne];omega
 have q3:(op==3)=false:=by rw[beq_eq_false_iff_ne];omega
 have q16:(op==16)=false:=by rw[beq_eq_false_iff_ne];omega
 have q17:(op==17)=false:=by rw[beq_eq_false_iff_ne];omega
 have q18:(op==18)=false:=by rw[beq_eq_false_iff_ne];omega
 have q19:(op==19)=false:=by rw[beq_eq_false_iff_ne];omega
 have q20:(op==20)=false:=by rw[beq_eq_false_iff_ne];omega
 have q21:(op==21)=false:=by rw[beq_eq_false_iff_ne];omega
 have q22:(op==22)=false:=by rw[beq_eq_false_iff_ne];omega
 have q23:(op==23)=false:=by rw[beq_eq_false_iff_ne];omega
 have q24:(op==24)=false:=by rw[beq_eq_false_iff_ne];omega
 have q25:(op==25)=false:=by rw[beq_eq_false_iff_ne];omega
 have q26:(op==26)=false:=by rw[beq_eq_false_iff_ne];omega
 have q27:(op==27)=false:=by rw[beq_eq_false_iff_ne];omega
 obtain⟨k,hk⟩:∃k,M.st.length=k+2:=⟨M.st.length-2,by omega⟩;have HK:Hid (M.st.length=k+2):=hk;have hst:=h.hst;have hk8:k<8:=by omega
 obtain⟨r1,r2⟩:=hr.popV;obtain⟨r3,r4⟩:=hr.pop.popV;obtain⟨y,hy⟩:∃y,y=H.popV M:=⟨_,rfl⟩;obtain⟨x,hx⟩:∃x,x=H.popV (H.popM M):=⟨_,rfl⟩;rw[←hx,←hy] at hz;rw[←hy] at r1 r2;rw[←hx] at r3 r4;clear hr hk hl hst;subst ho2;clear h;go_enter Tryz.func71,Tryz.ntmps71;go_wp2_with fail;refine(take_some HM.out k 2 (by omega) HK.out).mono ?_;rintro e w1 ⟨g,c,rfl,hc,⟨pv1,sv1,dv1,hm1⟩,hf1⟩;have d0:=hc 0 (by omega);have d1:=hc 1 (by omega);rw[Nat.add_zero,(take_top2 HK.out).1] at d0;rw[(take_top2 HK.out).2] at d1;rw[take_pop2 HK.out] at hm1;have HM1:Hid (SB w1 base b pv1 sv1 dv1 (H.popM (H.popM M))):=hm1;have HF1:Hid (SFr base w w1):=HF.out.trans hf1;have c13:=hm1.c13;have f13:=hm1.free 13;clear hc hm1 hf1 HM HF;rw[←hy] at d1;rw[←hx] at d0;have HCm:Hid (∀u,Calls Tryz.prog 80 #[.int .i64 op,.int .i64 x,.int .i64 y] u fun e w'=>e= .returned (.int .i64 z)∧u=w'):=by intro u;rw[hz];exact made_any op x y u h4 h15 r3 r4 r1 r2
 clear hx hy hz;go_wp2_with fail;go_quiet ((go_at_call 80;exact(HCm.out _).mono fun _ _ h=>⟨h.1,_,h.2.symm⟩));go_wp2_with fail;refine(lay_any (by first|exact HM1.out|exact HM1.out.drew|exact HM1.out.drewN _) z).mono ?_;rintro e w3 ⟨rfl,ha⟩;have HA:Hid (SAft w base b _ w3):=⟨ha.1,by first|exact HF1.out.trans ha.2|exact HF1.out.drew.trans ha.2|exact(HF1.out.drewN _).trans ha.2⟩;clear ha;go_wp2;go_end0;exact⟨rfl,HA.out⟩
end Go.Proofs.YtidaflmmldefcaaGreat
namespace Go.Proofs.YtidaflmmldefcaaGreat
open Go.RowKit
set_option linter.unusedVariables false
theorem pass_any {w:World} {base b:Nat} {pv sv dv:Value} {M:H.Mach} (h:SB w base b pv sv dv M) (v:InV) (hv:v.ok) (ds:List Int) (hd:Drawn w v ds base) (n:Nat) (hn:n≤64) (hM:MOk n M) (hL:H.LOk M) (hdr:M.draws≤ds.length) (o a:Int) (ho:0≤o) (ha:H.alone o a=true): Calls Tryz.prog 71 (passArgs b o a v) w fun e w'=>e= .returned (.tuple #[])∧SAft w base b (H.rpass o a (v.inp ds) M) w':=by
 have n0:=hM.next0;have n1:M.next≤900:=by have:=hM.next1;omega
 have h27:=H.alone_op o a ha;have hy:=hM.st.popV;have hp:=hM.pop;have hlp:=hL.pop;rcases(show o=0∨o=1∨o=2∨o=3∨(4≤o∧o≤15)∨o=16∨o=17∨o=18∨o=19∨o=20∨o=21∨o=22∨o=23∨o=24∨o=25∨o=26∨o=27 by omega) with rfl|rfl|rfl|rfl|⟨h4,h15⟩|rfl|rfl|rfl|rfl|rfl|rfl|rfl|rfl|rfl|rfl|rfl|rfl
 ·refine(pass_0 h v a).mono ?_;rintro e w' ⟨rfl,⟨pv1,sv1,dv1,hm⟩,hf⟩;exact⟨rfl,⟨pv1,sv1,dv1,hm.other M.steps true⟩,hf⟩
 ·exact pass_1 h v a
 ·simp[H.alone] at ha;obtain⟨k,rfl⟩:=Int.eq_ofNat_of_zero_le ha.1;exact pass_2 h v k (by omega)
 ·simp[H.alone] at ha;obtain⟨k,rfl⟩:=Int.eq_ofNat_of_zero_le ha.1;show Calls Tryz.prog 71 (passArgs b 3 k v) w fun e w'=>e= .returned (.tuple #[])∧SAft w base b (if M.st.length=0 then {M with fault:=2} else H.rone 3 k (H.popV M) (H.popM M)) w';by_cases hl:M.st.length=0
  ·rw[if_pos hl];exact pass_few_3 h v k hl
  ·rw[if_neg hl];exact pass_one_3 h v k hl _ fun w1 pv sv dv h1=>one_3 h1 k (by omega) _
 ·have e1:H.rpass o a (v.inp ds) M=H.rtwo o M:=by
   unfold H.rpass;rw[if_neg (by omega),if_neg (by omega),if_neg (by omega),if_neg (by omega),if_neg (by omega),if_neg (by omega),if_neg (by omega),if_neg (by omega),if_neg (by omega)];have:H.takesOne o=false:=by unfold H.takesOne;simp;omega
   rw[this];rfl
  rw[e1];unfold H.rtwo;by_cases hl:M.st.length<2
  ·rw[if_pos hl];exact pass_sum_few h v o a h4 h15 hl
  ·rw[if_neg hl];by_cases hz:H.madeV o (H.popV (H.popM M)) (H.popV M)<0
   ·rw[if_pos hz];exact pass_sum_zero h v o a _ h4 h15 (by omega) hM.st rfl hz
   ·rw[if_neg hz];exact pass_sum_some h v o a _ h4 h15 (by omega) hM.st rfl hz
 ·simp[H.alone] at ha;exact pass_16 h v a ha.1 ha.2 n0 n1
 ·simp[H.alone] at ha;show Calls Tryz.prog 71 (passArgs b 17 a v) w fun e w'=>e= .returned (.tuple #[])∧SAft w base b (if M.st.length=0 then {M with fault:=2} else H.rone 17 a (H.popV M) (H.popM M)) w';by_cases hl:M.st.length=0
  ·rw[if_pos hl];exact pass_few_17 h v a hl
  ·rw[if_neg hl];exact pass_one_17 h v a hl _ fun w1 pv sv dv h1=>one_17 h1 a _ ha.1 ha.2 hp.next0 (by have:=hp.next1;omega)
 ·exact pass_18 h v hv a
 ·exact pass_19 h v hv a
 ·exact pass_20 h v hv a
 ·exact pass_21 h v hv a
 ·show Calls Tryz.prog 71 (passArgs b 22 a v) w fun e w'=>e= .returned (.tuple #[])∧SAft w base b (H.draw ds M) w';by_cases hk:M.draws<ds.length
  ·exact pass_draw_some h v a ds hd hk
  ·exact pass_draw_none h v a ds hd (by omega) hdr
 ·show Calls Tryz.prog 71 (passArgs b 23 a v) w fun e w'=>e= .returned (.tuple #[])∧SAft w base b (if M.st.length=0 then {M with fault:=2} else H.rone 23 a (H.popV M) (H.popM M)) w';by_cases hl:M.st.length=0
  ·rw[if_pos hl];exact pass_few_23 h v a hl
  ·rw[if_neg hl];exact pass_one_23 h v a hl _ fun w1 pv sv dv h1=>one_23 h1 a _ hy.1 hy.2 hp.small hp.chars
 ·show Calls Tryz.prog 71 (passArgs b 24 a v) w fun e w'=>e= .returned (.tuple #[])∧SAft w base b (if M.st.length=0 then {M with fault:=2} else H.shown (H.popV M) (H.popM M)) w';by_cases hl:M.st.length=0
  ·rw[if_pos hl];exact pass_few_24 h v a hl
  ·rw[if_neg hl];exact pass_one_24 h v a hl _ fun w1 pv sv dv h1=>one_24 h1 a _ hy.1 hy.2 hlp.shows hlp.keys
 ·simp[H.alone] at ha;show Calls Tryz.prog 71 (passArgs b 25 a v) w fun e w'=>e= .returned (.tuple #[])∧SAft w base b (if M.st.length=0 then {M with fault:=2} else H.sent a (H.popV M) (H.popM M)) w';by_cases hl:M.st.length=0
  ·rw[if_pos hl];exact pass_few_25 h v a hl
  ·rw[if_neg hl];exact pass_one_25 h v a hl _ fun w1 pv sv dv h1=>one_25 h1 a _ ha.1 ha.2 hy.1 hy.2 hlp.sends
 ·show Calls Tryz.prog 71 (passArgs b 26 a v) w fun e w'=>e= .returned (.tuple #[])∧SAft w base b (if M.st.length=0 then {M with fault:=2} else H.push (H.popV M) (H.push (H.popV M) (H.popM M))) w';by_cases hl:M.st.length=0
  ·rw[if_pos hl];exact pass_few_26 h v a hl
  ·rw[if_neg hl];exact pass_one_26 h v a hl _ fun w1 pv sv dv h1=>one_26 h1 a _
 ·show Calls Tryz.prog 71 (passArgs b 27 a v) w fun e w'=>e= .returned (.tuple #[])∧SAft w base b (if M.st.length=0 then {M with fault:=2} else H.popM M) w';by_cases hl:M.st.length=0
  ·rw[if_pos hl];exact pass_few_27 h v a hl
  ·rw[if_neg hl];exact pass_one_27 h v a hl _ fun w1 pv sv dv h1=>one_27 h1 a _
end Go.Proofs.YtidaflmmldefcaaGreat
