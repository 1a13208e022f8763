/- Parts of the proof of Hosts: Step. -/
import Derived.Test.YtidaflmmldefcaaGreatQ06
set_option maxHeartbeats 1000000
namespace Go.Proofs.YtidaflmmldefcaaGreat
open Go.RowKit
set_option linter.unusedVariables false
structure InV where
 fuel:Int
 c0:Int
 c1:Int
 c2:Int
 c3:Int
 c4:Int
 c5:Int
 c6:Int
 c7:Int
 what:Int
 by_:Int
 arg:Int
 src:Int
 route:Int
 ao:Option Addr
 n:Nat
 cap:Nat
def InV.arr (v:InV):Array Value:=#[.int .i64 v.fuel,.int .u16 v.c0,.int .u16 v.c1,.int .u16 v.c2,.int .u16 v.c3,.int .u16 v.c4,.int .u16 v.c5,.int .u16 v.c6,.int .u16 v.c7,.int .u8 v.what,.int .u8 v.by_,.int .u16 v.arg,.int .u8 v.src,.int .u8 v.route,.slice v.ao v.n v.cap]
def InV.cells (v:InV):List Int:=[v.c0,v.c1,v.c2,v.c3,v.c4,v.c5,v.c6,v.c7]
def InV.inp (v:InV) (ds:List Int):H.Inp:={fuel:=v.fuel,what:=v.what,arg:=v.arg,src:=v.src,route:=v.route,draws:=ds}
structure InV.ok (v:InV):Prop where
 what:0≤v.what∧v.what≤255
 arg:0≤v.arg∧v.arg≤65535
 src:0≤v.src∧v.src≤255
 route:0≤v.route∧v.route≤255
 cells:InR v.cells
structure Drawn (w:World) (v:InV) (ds:List Int) (base:Nat):Prop where
 len:ds.length=v.n
 max:v.n≤maxLen
 row:∃bd off,(0<v.n→v.ao=some ⟨bd,off,none⟩∧bd<base)∧U16Row w bd off ds
 rng:InR ds
def stepArgs (b:Nat) (o a:Int) (v:InV):Array Value:=#[.pointer (some ⟨b,0,none⟩),.agg #[.int .u8 o,.int .i64 a],.agg v.arr]
set_option maxRecDepth 100000 in
theorem step_push {w:World} {base b:Nat} {pile:List Int} {sv dv:Value} {M:H.Mach} (h:MB w base b pile sv dv M) (v:InV) (hv:v.ok) (ds:List Int) (hn0:0≤M.next) (hn1:M.next≤900) (a:Int) (ha0:0≤a) (ha1:a≤65535): Calls Tryz.prog 82 (stepArgs b 1 a v) w fun e w'=>e= .returned (.tuple #[])∧Aft w base b (H.step 1 a (v.inp ds) M) w':=by
 obtain⟨fuel,k0,k1,k2,k3,k4,k5,k6,k7,what,by_,arg,src,route,ao,n,cap⟩:=v;unfold stepArgs InV.arr;obtain⟨⟨wh0,wh1⟩,⟨ar0,ar1⟩,⟨sr0,sr1⟩,⟨ro0,ro1⟩,hcs⟩:=hv;simp only at*;obtain⟨nx,hnx⟩:∃nx,nx=M.next:=⟨_,rfl⟩;obtain⟨o1,ho1⟩:∃o1,o1=Obj.cells #[.int .u8 1,.int .i64 a] 99:=⟨_,rfl⟩;obtain⟨o2,ho2⟩:∃o2,o2=Obj.cells #[.int .i64 fuel,.int .u16 k0,.int .u16 k1,.int .u16 k2,.int .u16 k3,.int .u16 k4,.int .u16 k5,.int .u16 k6,.int .u16 k7,.int .u8 what,.int .u8 by_,.int .u16 arg,.int .u8 src,.int .u8 route,.slice ao n cap] 128:=⟨_,rfl⟩;have r21:=h.c21;have g21:=h.free 21;rw[←hnx] at hn0 hn1 r21;have hbl:=h.blk.lt;have hlt:=h.lt;have HM:Hid (MB (((w.setCell ⟨b,21,none⟩ (.int .i64 (nx+1))).alloc o1).alloc o2) base b pile sv dv {M with next:=nx+1}):=((h.set_next _).alloc o1).alloc o2;have hsz:(w.setCell ⟨b,21,none⟩ (.int .i64 (nx+1))).heap.size=w.heap.size:=by simp[World.setCell]
 have HF:Hid (Fr base w (((w.setCell ⟨b,21,none⟩ (.int .i64 (nx+1))).alloc o1).alloc o2)):=((h.fr_set (Fr.refl base w) _ _).alloc (by omega) o1).alloc (by simp;omega) o2;have HE:Hid (H.step 1 a (InV.inp ⟨fuel,k0,k1,k2,k3,k4,k5,k6,k7,what,by_,arg,src,route,ao,n,cap⟩ ds) M=H.push a {M with next:=nx+1}):=by unfold Hid H.step;rw[hnx];rfl
 have hb1:¬b=w.heap.size:=by omega
 have hb2:¬b=w.heap.size+1:=by omega
 have hb3:¬w.heap.size=b:=by omega
 have hb4:¬w.heap.size+1=b:=by omega
 subst ho1 ho2;clear hcs hnx hsz;have hw:IntKind.u16.wrap a=a:=by rw[IntKind.wrap_u16];omega
 go_enter Tryz.func82,Tryz.ntmps82;go_wp2_with fail;refine(push_any (M:={M with next:=nx+1}) (by exact HM.out) a).mono ?_;rintro e w1 ⟨rfl,ha⟩;have HA:Hid (Aft w base b _ w1):=⟨(After.aft ha).1,HF.out.trans (After.aft ha).2⟩;clear ha;go_wp2;go_end0;exact⟨rfl,by rw[HE.out];exact HA.out⟩
set_option maxRecDepth 100000 in
theorem step_what {w:World} {base b:Nat} {pile:List Int} {sv dv:Value} {M:H.Mach} (h:MB w base b pile sv dv M) (v:InV) (hv:v.ok) (ds:List Int) (hn0:0≤M.next) (hn1:M.next≤900): Calls Tryz.prog 82 (stepArgs b 18 0 v) w fun e w'=>e= .returned (.tuple #[])∧Aft w base b (H.step 18 0 (v.inp ds) M) w':=by
 obtain⟨fuel,k0,k1,k2,k3,k4,k5,k6,k7,what,by_,arg,src,route,ao,n,cap⟩:=v;unfold stepArgs InV.arr;obtain⟨⟨wh0,wh1⟩,⟨ar0,ar1⟩,⟨sr0,sr1⟩,⟨ro0,ro1⟩,hcs⟩:=hv;simp only at*;obtain⟨nx,hnx⟩:∃nx,nx=M.next:=⟨_,rfl⟩;obtain⟨o1,ho1⟩:∃o1,o1=Obj.cells #[.int .u8 18,.int .i64 0] 99:=⟨_,rfl⟩;obtain⟨o2,ho2⟩:∃o2,o2=Obj.cells #[.int .i64 fuel,.int .u16 k0,.int .u16 k1,.int .u16 k2,.int .u16 k3,.int .u16 k4,.int .u16 k5,.int .u16 k6,.int .u16 k7,.int .u8 what,.int .u8 by_,.int .u16 arg,.int .u8 src,.int .u8 route,.slice ao n cap] 128:=⟨_,rfl⟩;have r21:=h.c21;have g21:=h.free 21;rw[←hnx] at hn0 hn1 r21;have hbl:=h.blk.lt;have hlt:=h.lt;have HM:Hid (MB (((w.setCell ⟨b,21,none⟩ (.int .i64 (nx+1))).alloc o1).alloc o2) base b pile sv dv {M with next:=nx+1}):=((h.set_next _).alloc o1).alloc o2;have hsz:(w.setCell ⟨b,21,none⟩ (.int .i64 (nx+1))).heap.size=w.heap.size:=by simp[World.setCell]
 have HF:Hid (Fr base w (((w.setCell ⟨b,21,none⟩ (.int .i64 (nx+1))).alloc o1).alloc o2)):=((h.fr_set (Fr.refl base w) _ _).alloc (by omega) o1).alloc (by simp;omega) o2;have HE:Hid (H.step 18 0 (InV.inp ⟨fuel,k0,k1,k2,k3,k4,k5,k6,k7,what,by_,arg,src,route,ao,n,cap⟩ ds) M=H.push what {M with next:=nx+1}):=by unfold Hid H.step;rw[hnx];rfl
 have hb1:¬b=w.heap.size:=by omega
 have hb2:¬b=w.heap.size+1:=by omega
 have hb3:¬w.heap.size=b:=by omega
 have hb4:¬w.heap.size+1=b:=by omega
 subst ho1 ho2;clear hcs hnx hsz;have hw:IntKind.u16.wrap what=what:=by rw[IntKind.wrap_u16];omega
 go_enter Tryz.func82,Tryz.ntmps82;go_wp2_with fail;refine(push_any (M:={M with next:=nx+1}) (by exact HM.out) what).mono ?_;rintro e w1 ⟨rfl,ha⟩;have HA:Hid (Aft w base b _ w1):=⟨(After.aft ha).1,HF.out.trans (After.aft ha).2⟩;clear ha;go_wp2;go_end0;exact⟨rfl,by rw[HE.out];exact HA.out⟩
set_option maxRecDepth 100000 in
theorem step_arg {w:World} {base b:Nat} {pile:List Int} {sv dv:Value} {M:H.Mach} (h:MB w base b pile sv dv M) (v:InV) (hv:v.ok) (ds:List Int) (hn0:0≤M.next) (hn1:M.next≤900): Calls Tryz.prog 82 (stepArgs b 19 0 v) w fun e w'=>e= .returned (.tuple #[])∧Aft w base b (H.step 19 0 (v.inp ds) M) w':=by
 obtain⟨fuel,k0,k1,k2,k3,k4,k5,k6,k7,what,by_,arg,src,route,ao,n,cap⟩:=v;unfold stepArgs InV.arr;obtain⟨⟨wh0,wh1⟩,⟨ar0,ar1⟩,⟨sr0,sr1⟩,⟨ro0,ro1⟩,hcs⟩:=hv;simp only at*;obtain⟨nx,hnx⟩:∃nx,nx=M.next:=⟨_,rfl⟩;obtain⟨o1,ho1⟩:∃o1,o1=Obj.cells #[.int .u8 19,.int .i64 0] 99:=⟨_,rfl⟩;obtain⟨o2,ho2⟩:∃o2,o2=Obj.cells #[.int .i64 fuel,.int .u16 k0,.int .u16 k1,.int .u16 k2,.int .u16 k3,.int .u16 k4,.int .u16 k5,.int .u16 k6,.int .u16 k7,.int .u8 what,.int .u8 by_,.int .u16 arg,.int .u8 src,.int .u8 route,.slice ao n cap] 128:=⟨_,rfl⟩;have r21:=h.c21;have g21:=h.free 21;rw[←hnx] at hn0 hn1 r21;have hbl:=h.blk.lt;have hlt:=h.lt;have HM:Hid (MB (((w.setCell ⟨b,21,none⟩ (.int .i64 (nx+1))).alloc o1).alloc o2) base b pile sv dv {M with next:=nx+1}):=((h.set_next _).alloc o1).alloc o2;have hsz:(w.setCell ⟨b,21,none⟩ (.int .i64 (nx+1))).heap.size=w.heap.size:=by simp[World.setCell]
 have HF:Hid (Fr base w (((w.setCell ⟨b,21,none⟩ (.int .i64 (nx+1))).alloc o1).alloc o2)):=((h.fr_set (Fr.refl base w) _ _).alloc (by omega) o1).alloc (by simp;omega) o2;have HE:Hid (H.step 19 0 (InV.inp ⟨fuel,k0,k1,k2,k3,k4,k5,k6,k7,what,by_,arg,src,route,ao,n,cap⟩ ds) M=H.push arg {M with next:=nx+1}):=by unfold Hid H.step;rw[hnx];rfl
 have hb1:¬b=w.heap.size:=by omega
 have hb2:¬b=w.heap.size+1:=by omega
 have hb3:¬w.heap.size=b:=by omega
 have hb4:¬w.heap.size+1=b:=by omega
 subst ho1 ho2;clear hcs hnx hsz;go_enter Tryz.func82,Tryz.ntmps82;go_wp2_with fail;refine(push_any (M:={M with next:=nx+1}) (by exact HM.out) arg).mono ?_;rintro e w1 ⟨rfl,ha⟩;have HA:Hid (Aft w base b _ w1):=⟨(After.aft ha).1,HF.out.trans (After.aft ha).2⟩;clear ha;go_wp2;go_end0;exact⟨rfl,by rw[HE.out];exact HA.out⟩
set_option maxRecDepth 100000 in
theorem step_src {w:World} {base b:Nat} {pile:List Int} {sv dv:Value} {M:H.Mach} (h:MB w base b pile sv dv M) (v:InV) (hv:v.ok) (ds:List Int) (hn0:0≤M.next) (hn1:M.next≤900): Calls Tryz.prog 82 (stepArgs b 20 0 v) w fun e w'=>e= .returned (.tuple #[])∧Aft w base b (H.step 20 0 (v.inp ds) M) w':=by
 obtain⟨fuel,k0,k1,k2,k3,k4,k5,k6,k7,what,by_,arg,src,route,ao,n,cap⟩:=v;unfold stepArgs InV.arr;obtain⟨⟨wh0,wh1⟩,⟨ar0,ar1⟩,⟨sr0,sr1⟩,⟨ro0,ro1⟩,hcs⟩:=hv;simp only at*;obtain⟨nx,hnx⟩:∃nx,nx=M.next:=⟨_,rfl⟩;obtain⟨o1,ho1⟩:∃o1,o1=Obj.cells #[.int .u8 20,.int .i64 0] 99:=⟨_,rfl⟩;obtain⟨o2,ho2⟩:∃o2,o2=Obj.cells #[.int .i64 fuel,.int .u16 k0,.int .u16 k1,.int .u16 k2,.int .u16 k3,.int .u16 k4,.int .u16 k5,.int .u16 k6,.int .u16 k7,.int .u8 what,.int .u8 by_,.int .u16 arg,.int .u8 src,.int .u8 route,.slice ao n cap] 128:=⟨_,rfl⟩;have r21:=h.c21;have g21:=h.free 21;rw[←hnx] at hn0 hn1 r21;have hbl:=h.blk.lt;have hlt:=h.lt;have HM:Hid (MB (((w.setCell ⟨b,21,none⟩ (.int .i64 (nx+1))).alloc o1).alloc o2) base b pile sv dv {M with next:=nx+1}):=((h.set_next _).alloc o1).alloc o2;have hsz:(w.setCell ⟨b,21,none⟩ (.int .i64 (nx+1))).heap.size=w.heap.size:=by simp[World.setCell]
 have HF:Hid (Fr base w (((w.setCell ⟨b,21,none⟩ (.int .i64 (nx+1))).alloc o1).alloc o2)):=((h.fr_set (Fr.refl base w) _ _).alloc (by omega) o1).alloc (by simp;omega) o2;have HE:Hid (H.step 20 0 (InV.inp ⟨fuel,k0,k1,k2,k3,k4,k5,k6,k7,what,by_,arg,src,route,ao,n,cap⟩ ds) M=H.push src {M with next:=nx+1}):=by unfold Hid H.step;rw[hnx];rfl
 have hb1:¬b=w.heap.size:=by omega
 have hb2:¬b=w.heap.size+1:=by omega
 have hb3:¬w.heap.size=b:=by omega
 have hb4:¬w.heap.size+1=b:=by omega
 subst ho1 ho2;clear hcs hnx hsz;have hw:IntKind.u16.wrap src=src:=by rw[IntKind.wrap_u16];omega
 go_enter Tryz.func82,Tryz.ntmps82;go_wp2_with fail;refine(push_any (M:={M with next:=nx+1}) (by exact HM.out) src).mono ?_;rintro e w1 ⟨rfl,ha⟩;have HA:Hid (Aft w base b _ w1):=⟨(After.aft ha).1,HF.out.trans (After.aft ha).2⟩;clear ha;go_wp2;go_end0;exact⟨rfl,by rw[HE.out];exact HA.out⟩
set_option maxRecDepth 100000 in
theorem step_route {w:World} {base b:Nat} {pile:List Int} {sv dv:Value} {M:H.Mach} (h:MB w base b pile sv dv M) (v:InV) (hv:v.ok) (ds:List Int) (hn0:0≤M.next) (hn1:M.next≤900): Calls Tryz.prog 82 (stepArgs b 21 0 v) w fun e w'=>e= .returned (.tuple #[])∧Aft w base b (H.step 21 0 (v.inp ds) M) w':=by
 obtain⟨fuel,k0,k1,k2,k3,k4,k5,k6,k7,what,by_,arg,src,route,ao,n,cap⟩:=v;unfold stepArgs InV.arr;obtain⟨⟨wh0,wh1⟩,⟨ar0,ar1⟩,⟨sr0,sr1⟩,⟨ro0,ro1⟩,hcs⟩:=hv;simp only at*;obtain⟨nx,hnx⟩:∃nx,nx=M.next:=⟨_,rfl⟩;obtain⟨o1,ho1⟩:∃o1,o1=Obj.cells #[.int .u8 21,.int .i64 0] 99:=⟨_,rfl⟩;obtain⟨o2,ho2⟩:∃o2,o2=Obj.cells #[.int .i64 fuel,.int .u16 k0,.int .u16 k1,.int .u16 k2,.int .u16 k3,.int .u16 k4,.int .u16 k5,.int .u16 k6,.int .u16 k7,.int .u8 what,.int .u8 by_,.int .u16 arg,.int .u8 src,.int .u8 route,.slice ao n cap] 128:=⟨_,rfl⟩;have r21:=h.c21;have g21:=h.free 21;rw[←hnx] at hn0 hn1 r21;have hbl:=h.blk.lt;have hlt:=h.lt;have HM:Hid (MB (((w.setCell ⟨b,21,none⟩ (.int .i64 (nx+1))).alloc o1).alloc o2) base b pile sv dv {M with next:=nx+1}):=((h.set_next _).alloc o1).alloc o2;have hsz:(w.setCell ⟨b,21,none⟩ (.int .i64 (nx+1))).heap.size=w.heap.size:=by simp[World.setCell]
 have HF:Hid (Fr base w (((w.setCell ⟨b,21,none⟩ (.int .i64 (nx+1))).alloc o1).alloc o2)):=((h.fr_set (Fr.refl base w) _ _).alloc (by omega) o1).alloc (by simp;omega) o2;have HE:Hid (H.step 21 0 (InV.inp ⟨fuel,k0,k1,k2,k3,k4,k5,k6,k7,what,by_,arg,src,route,ao,n,cap⟩ ds) M=H.push route {M with next:=nx+1}):=by unfold Hid H.step;rw[hnx];rfl
 have hb1:¬b=w.heap.size:=by omega
 have hb2:¬b=w.heap.size+1:=by omega
 have hb3:¬w.heap.size=b:=by omega
 have hb4:¬w.heap.size+1=b:=by omega
 subst ho1 ho2;clear hcs hnx hsz;have hw:IntKind.u16.wrap route=route:=by rw[IntKind.wrap_u16];omega
 go_enter Tryz.func82,Tryz.ntmps82;go_wp2_with fail;refine(push_any (M:={M with next:=nx+1}) (by exact HM.out) route).mono ?_;rintro e w1 ⟨rfl,ha⟩;have HA:Hid (Aft w base b _ w1):=⟨(After.aft ha).1,HF.out.trans (After.aft ha).2⟩;clear ha;go_wp2;go_end0;exact⟨rfl,by rw[HE.out];exact HA.out⟩
set_option maxRecDepth 100000 in
theorem step_if {w:World} {base b:Nat} {pile:List Int} {sv dv:Value} {M:H.Mach} (h:MB w base b pile sv dv M) (v:InV) (hv:v.ok) (ds:List Int) (hn0:0≤M.next) (hn1:M.next≤900) (a:Int) (ha0: -128≤a) (ha1:a≤127): Calls Tryz.prog 82 (stepArgs b 17 a v) w fun e w'=>e= .returned (.tuple #[])∧Aft w base b (H.step 17 a (v.inp ds) M) w':=by
 obtain⟨fuel,k0,k1,k2,k3,k4,k5,k6,k7,what,by_,arg,src,route,ao,n,cap⟩:=v;unfold stepArgs InV.arr;obtain⟨⟨wh0,wh1⟩,⟨ar0,ar1⟩,⟨sr0,sr1⟩,⟨ro0,ro1⟩,hcs⟩:=hv;simp only at*;obtain⟨nx,hnx⟩:∃nx,nx=M.next:=⟨_,rfl⟩;obtain⟨o1,ho1⟩:∃o1,o1=Obj.cells #[.int .u8 17,.int .i64 a] 99:=⟨_,rfl⟩;obtain⟨o2,ho2⟩:∃o2,o2=Obj.cells #[.int .i64 fuel,.int .u16 k0,.int .u16 k1,.int .u16 k2,.int .u16 k3,.int .u16 k4,.int .u16 k5,.int .u16 k6,.int .u16 k7,.int .u8 what,.int .u8 by_,.int .u16 arg,.int .u8 src,.int .u8 route,.slice ao n cap] 128:=⟨_,rfl⟩;have r21:=h.c21;have g21:=h.free 21;rw[←hnx] at hn0 hn1 r21;have hbl:=h.blk.lt;have hlt:=h.lt;have HM:Hid (MB (((w.setCell ⟨b,21,none⟩ (.int .i64 (nx+1))).alloc o1).alloc o2) base b pile sv dv {M with next:=nx+1}):=((h.set_next _).alloc o1).alloc o2;have hsz:(w.setCell ⟨b,21,none⟩ (.int .i64 (nx+1))).heap.size=w.heap.size:=by simp[World.setCell]
 have HF:Hid (Fr base w (((w.setCell ⟨b,21,none⟩ (.int .i64 (nx+1))).alloc o1).alloc o2)):=((h.fr_set (Fr.refl base w) _ _).alloc (by omega) o1).alloc (by simp;omega) o2;have HE:Hid (H.step 17 a (InV.inp ⟨fuel,k0,k1,k2,k3,k4,k5,k6,k7,what,by_,arg,src,route,ao,n,cap⟩ ds) M=H.jumpIf a {M with next:=nx+1}):=by unfold Hid H.step;rw[hnx];rfl
 have hb1:¬b=w.heap.size:=by omega
 have hb2:¬b=w.heap.size+1:=by omega
 have hb3:¬w.heap.size=b:=by omega
 have hb4:¬w.heap.size+1=b:=by omega
 subst ho1 ho2;clear hcs hnx hsz;go_enter Tryz.func82,Tryz.ntmps82;go_wp2_with fail;refine(jumpIf_any (M:={M with next:=nx+1}) (by exact HM.out) a (by omega) (by omega) (by show _≤nx+1;omega) (by show nx+1≤_;omega)).mono ?_;rintro e w1 ⟨rfl,ha⟩;have HA:Hid (Aft w base b _ w1):=⟨(After.aft ha).1,HF.out.trans (After.aft ha).2⟩;clear ha;go_wp2;go_end0;exact⟨rfl,by rw[HE.out];exact HA.out⟩
set_option maxRecDepth 100000 in
theorem step_char {w:World} {base b:Nat} {pile:List Int} {sv dv:Value} {M:H.Mach} (h:MB w base b pile sv dv M) (v:InV) (hv:v.ok) (ds:List Int) (hn0:0≤M.next) (hn1:M.next≤900) (hr:InR M.st) (ht:M.text.size≤1000): Calls Tryz.prog 82 (stepArgs b 23 0 v) w fun e w'=>e= .returned (.tuple #[])∧Aft w base b (H.step 23 0 (v.inp ds) M) w':=by
 obtain⟨fuel,k0,k1,k2,k3,k4,k5,k6,k7,what,by_,arg,src,route,ao,n,cap⟩:=v;unfold stepArgs InV.arr;obtain⟨⟨wh0,wh1⟩,⟨ar0,ar1⟩,⟨sr0,sr1⟩,⟨ro0,ro1⟩,hcs⟩:=hv;simp only at*;obtain⟨nx,hnx⟩:∃nx,nx=M.next:=⟨_,rfl⟩;obtain⟨o1,ho1⟩:∃o1,o1=Obj.cells #[.int .u8 23,.int .i64 0] 99:=⟨_,rfl⟩;obtain⟨o2,ho2⟩:∃o2,o2=Obj.cells #[.int .i64 fuel,.int .u16 k0,.int .u16 k1,.int .u16 k2,.int .u16 k3,.int .u16 k4,.int .u16 k5,.int .u16 k6,.int .u16 k7,.int .u8 what,.int .u8 by_,.int .u16 arg,.int .u8 src,.int .u8 route,.slice ao n cap] 128:=⟨_,rfl⟩;have r21:=h.c21;have g21:=h.free 21;rw[←hnx] at hn0 hn1 r21;have hbl:=h.blk.lt;have hlt:=h.lt;have HM:Hid (MB (((w.setCell ⟨b,21,none⟩ (.int .i64 (nx+1))).alloc o1).alloc o2) base b pile sv dv {M with next:=nx+1}):=((h.set_next _).alloc o1).alloc o2;have hsz:(w.setCell ⟨b,21,none⟩ (.int .i64 (nx+1))).heap.size=w.heap.size:=by simp[World.setCell]
 have HF:Hid (Fr base w (((w.setCell ⟨b,21,none⟩ (.int .i64 (nx+1))).alloc o1).alloc o2)):=((h.fr_set (Fr.refl base w) _ _).alloc (by omega) o1).alloc (by simp;omega) o2;have HE:Hid (H.step 23 0 (InV.inp ⟨fuel,k0,k1,k2,k3,k4,k5,k6,k7,what,by_,arg,src,route,ao,n,cap⟩ ds) M=H.char {M with next:=nx+1}):=by unfold Hid H.step;rw[hnx];rfl
 have hb1:¬b=w.heap.size:=by omega
 have hb2:¬b=w.heap.size+1:=by omega
 have hb3:¬w.heap.size=b:=by omega
 have hb4:¬w.heap.size+1=b:=by omega
 subst ho1 ho2;clear hcs hnx hsz;go_enter Tryz.func82,Tryz.ntmps82;go_wp2_with fail;refine(charM_any (M:={M with next:=nx+1}) (by exact HM.out) hr ht).mono ?_;rintro e w1 ⟨rfl,ha⟩;have HA:Hid (Aft w base b _ w1):=⟨(After.aft ha).1,HF.out.trans (After.aft ha).2⟩;clear ha;go_wp2;go_end0;exact⟨rfl,by rw[HE.out];exact HA.out⟩
set_option maxRecDepth 100000 in
theorem step_show {w:World} {base b:Nat} {pile:List Int} {sv dv:Value} {M:H.Mach} (h:MB w base b pile sv dv M) (v:InV) (hv:v.ok) (ds:List Int) (hn0:0≤M.next) (hn1:M.next≤900): Calls Tryz.prog 82 (stepArgs b 24 0 v) w fun e w'=>e= .returned (.tuple #[])∧Aft w base b (H.step 24 0 (v.inp ds) M) w':=by
 obtain⟨fuel,k0,k1,k2,k3,k4,k5,k6,k7,what,by_,arg,src,route,ao,n,cap⟩:=v;unfold stepArgs InV.arr;obtain⟨⟨wh0,wh1⟩,⟨ar0,ar1⟩,⟨sr0,sr1⟩,⟨ro0,ro1⟩,hcs⟩:=hv;simp only at*;obtain⟨nx,hnx⟩:∃nx,nx=M.next:=⟨_,rfl⟩;obtain⟨o1,ho1⟩:∃o1,o1=Obj.cells #[.int .u8 24,.int .i64 0] 99:=⟨_,rfl⟩;obtain⟨o2,ho2⟩:∃o2,o2=Obj.cells #[.int .i64 fuel,.int .u16 k0,.int .u16 k1,.int .u16 k2,.int .u16 k3,.int .u16 k4,.int .u16 k5,.int .u16 k6,.int .u16 k7,.int .u8 what,.int .u8 by_,.int .u16 arg,.int .u8 src,.int .u8 route,.slice ao n cap] 128:=⟨_,rfl⟩;have r21:=h.c21;have g21:=h.free 21;rw[←hnx] at hn0 hn1 r21;have hbl:=h.blk.lt;have hlt:=h.lt;have HM:Hid (MB (((w.setCell ⟨b,21,none⟩ (.int .i64 (nx+1))).alloc o1).alloc o2) base b pile sv dv {M with next:=nx+1}):=((h.set_next _).alloc o1).alloc o2;have hsz:(w.setCell ⟨b,21,none⟩ (.int .i64 (nx+1))).heap.size=w.heap.size:=by simp[World.setCell]
 have HF:Hid (Fr base w (((w.setCell ⟨b,21,none⟩ (.int .i64 (nx+1))).alloc o1).alloc o2)):=((h.fr_set (Fr.refl base w) _ _).alloc (by omega) o1).alloc (by simp;omega) o2;have HE:Hid (H.step 24 0 (InV.inp ⟨fuel,k0,k1,k2,k3,k4,k5,k6,k7,what,by_,arg,src,route,ao,n,cap⟩ ds) M=H.showM {M with next:=nx+1}):=by unfold Hid H.step;rw[hnx];rfl
 have hb1:¬b=w.heap.size:=by omega
 have hb2:¬b=w.heap.size+1:=by omega
 have hb3:¬w.heap.size=b:=by omega
 have hb4:¬w.heap.size+1=b:=by omega
 subst ho1 ho2;clear hcs hnx hsz;go_enter Tryz.func82,Tryz.ntmps82;go_wp2_with fail;refine(show_any (M:={M with next:=nx+1}) (by exact HM.out)).mono ?_;rintro e w1 ⟨rfl,ha⟩;have HA:Hid (Aft w base b _ w1):=⟨ha.1,HF.out.trans ha.2⟩;clear ha;go_wp2;go_end0;exact⟨rfl,by rw[HE.out];exact HA.out⟩
set_option maxRecDepth 100000 in
theorem step_send {w:World} {base b:Nat} {pile:List Int} {sv dv:Value} {M:H.Mach} (h:MB w base b pile sv dv M) (v:InV) (hv:v.ok) (ds:List Int) (hn0:0≤M.next) (hn1:M.next≤900) (a:Int) (ha0:0≤a) (ha1:a<4): Calls Tryz.prog 82 (stepArgs b 25 a v) w fun e w'=>e= .returned (.tuple #[])∧Aft w base b (H.step 25 a (v.inp ds) M) w':=by
 obtain⟨fuel,k0,k1,k2,k3,k4,k5,k6,k7,what,by_,arg,src,route,ao,n,cap⟩:=v;unfold stepArgs InV.arr;obtain⟨⟨wh0,wh1⟩,⟨ar0,ar1⟩,⟨sr0,sr1⟩,⟨ro0,ro1⟩,hcs⟩:=hv;simp only at*;obtain⟨nx,hnx⟩:∃nx,nx=M.next:=⟨_,rfl⟩;obtain⟨o1,ho1⟩:∃o1,o1=Obj.cells #[.int .u8 25,.int .i64 a] 99:=⟨_,rfl⟩;obtain⟨o2,ho2⟩:∃o2,o2=Obj.cells #[.int .i64 fuel,.int .u16 k0,.int .u16 k1,.int .u16 k2,.int .u16 k3,.int .u16 k4,.int .u16 k5,.int .u16 k6,.int .u16 k7,.int .u8 what,.int .u8 by_,.int .u16 arg,.int .u8 src,.int .u8 route,.slice ao n cap] 128:=⟨_,rfl⟩;have r21:=h.c21;have g21:=h.free 21;rw[←hnx] at hn0 hn1 r21;have hbl:=h.blk.lt;have hlt:=h.lt;have HM:Hid (MB (((w.setCell ⟨b,21,none⟩ (.int .i64 (nx+1))).alloc o1).alloc o2) base b pile sv dv {M with next:=nx+1}):=((h.set_next _).alloc o1).alloc o2;have hsz:(w.setCell ⟨b,21,none⟩ (.int .i64 (nx+1))).heap.size=w.heap.size:=by simp[World.setCell]
 have HF:Hid (Fr base w (((w.setCell ⟨b,21,none⟩ (.int .i64 (nx+1))).alloc o1).alloc o2)):=((h.fr_set (Fr.refl base w) _ _).alloc (by omega) o1).alloc (by simp;omega) o2;have HE:Hid (H.step 25 a (InV.inp ⟨fuel,k0,k1,k2,k3,k4,k5,k6,k7,what,by_,arg,src,route,ao,n,cap⟩ ds) M=H.send a {M with next:=nx+1}):=by unfold Hid H.step;rw[hnx];rfl
 have hb1:¬b=w.heap.size:=by omega
 have hb2:¬b=w.heap.size+1:=by omega
 have hb3:¬w.heap.size=b:=by omega
 have hb4:¬w.heap.size+1=b:=by omega
 subst ho1 ho2;clear hcs hnx hsz;have hw:IntKind.u8.wrap a=a:=by rw[IntKind.wrap_u8'];omega
 go_enter Tryz.func82,Tryz.ntmps82;go_wp2_with fail;refine(send_any (M:={M with next:=nx+1}) (by exact HM.out) a).mono ?_;rintro e w1 ⟨rfl,ha⟩;have HA:Hid (Aft w base b _ w1):=⟨ha.1,HF.out.trans ha.2⟩;clear ha;go_wp2;go_end0;exact⟨rfl,by rw[HE.out];exact HA.out⟩
set_option maxRecDepth 100000 in
theorem step_copy {w:World} {base b:Nat} {pile:List Int} {sv dv:Value} {M:H.Mach} (h:MB w base b pile sv dv M) (v:InV) (hv:v.ok) (ds:List Int) (hn0:0≤M.next) (hn1:M.next≤900): Calls Tryz.prog 82 (stepArgs b 26 0 v) w fun e w'=>e= .returned (.tuple #[])∧Aft w base b (H.step 26 0 (v.inp ds) M) w':=by
 obtain⟨fuel,k0,k1,k2,k3,k4,k5,k6,k7,what,by_,arg,src,route,ao,n,cap⟩:=v;unfold stepArgs InV.arr;obtain⟨⟨wh0,wh1⟩,⟨ar0,ar1⟩,⟨sr0,sr1⟩,⟨ro0,ro1⟩,hcs⟩:=hv;simp only at*;obtain⟨nx,hnx⟩:∃nx,nx=M.next:=⟨_,rfl⟩;obtain⟨o1,ho1⟩:∃o1,o1=Obj.cells #[.int .u8 26,.int .i64 0] 99:=⟨_,rfl⟩;obtain⟨o2,ho2⟩:∃o2,o2=Obj.cells #[.int .i64 fuel,.int .u16 k0,.int .u16 k1,.int .u16 k2,.int .u16 k3,.int .u16 k4,.int .u16 k5,.int .u16 k6,.int .u16 k7,.int .u8 what,.int .u8 by_,.int .u16 arg,.int .u8 src,.int .u8 route,.slice ao n cap] 128:=⟨_,rfl⟩;have r21:=h.c21;have g21:=h.free 21;rw[←hnx] at hn0 hn1 r21;have hbl:=h.blk.lt;have hlt:=h.lt;have HM:Hid (MB (((w.setCell ⟨b,21,none⟩ (.int .i64 (nx+1))).alloc o1).alloc o2) base b pile sv dv {M with next:=nx+1}):=((h.set_next _).alloc o1).alloc o2;have hsz:(w.setCell ⟨b,21,none⟩ (.int .i64 (nx+1))).heap.size=w.heap.size:=by simp[World.setCell]
 have HF:Hid (Fr base w (((w.setCell ⟨b,21,none⟩ (.int .i64 (nx+1))).alloc o1).alloc o2)):=((h.fr_set (Fr.refl base w) _ _).alloc (by omega) o1).alloc (by simp;omega) o2;have HE:Hid (H.step 26 0 (InV.inp ⟨fuel,k0,k1,k2,k3,k4,k5,k6,k7,what,by_,arg,src,route,ao,n,cap⟩ ds) M=H.double {M with next:=nx+1}):=by unfold Hid H.step;rw[hnx];rfl
 have hb1:¬b=w.heap.size:=by omega
 have hb2:¬b=w.heap.size+1:=by omega
 have hb3:¬w.heap.size=b:=by omega
 have hb4:¬w.heap.size+1=b:=by omega
 subst ho1 ho2;clear hcs hnx hsz;go_enter Tryz.func82,Tryz.ntmps82;go_wp2_with fail;refine(double_any (M:={M with next:=nx+1}) (by exact HM.out)).mono ?_;rintro e w1 ⟨rfl,ha⟩;have HA:Hid (Aft w base b _ w1):=⟨(After.aft ha).1,HF.out.trans (After.aft ha).2⟩;clear ha;go_wp2;go_end0;exact⟨rfl,by rw[HE.out];exact HA.out⟩
set_option maxRecDepth 100000 in
theorem step_drop {w:World} {base b:Nat} {pile:List Int} {sv dv:Value} {M:H.Mach} (h:MB w base b pile sv dv M) (v:InV) (hv:v.ok) (ds:List Int) (hn0:0≤M.next) (hn1:M.next≤900): Calls Tryz.prog 82 (stepArgs b 27 0 v) w fun e w'=>e= .returned (.tuple #[])∧Aft w base b (H.step 27 0 (v.inp ds) M) w':=by
 obtain⟨fuel,k0,k1,k2,k3,k4,k5,k6,k7,what,by_,arg,src,route,ao,n,cap⟩:=v;unfold stepArgs InV.arr;obtain⟨⟨wh0,wh1⟩,⟨ar0,ar1⟩,⟨sr0,sr1⟩,⟨ro0,ro1⟩,hcs⟩:=hv;simp only at*;obtain⟨nx,hnx⟩:∃nx,nx=M.next:=⟨_,rfl⟩;obtain⟨o1,ho1⟩:∃o1,o1=Obj.cells #[.int .u8 27,.int .i64 0] 99:=⟨_,rfl⟩;obtain⟨o2,ho2⟩:∃o2,o2=Obj.cells #[.int .i64 fuel,.int .u16 k0,.int .u16 k1,.int .u16 k2,.int .u16 k3,.int .u16 k4,.int .u16 k5,.int .u16 k6,.int .u16 k7,.int .u8 what,.int .u8 by_,.int .u16 arg,.int .u8 src,.int .u8 route,.slice ao n cap] 128:=⟨_,rfl⟩;have r21:=h.c21;have g21:=h.free 21;rw[←hnx] at hn0 hn1 r21;have hbl:=h.blk.lt;have hlt:=h.lt;have HM:Hid (MB (((w.setCell ⟨b,21,none⟩ (.int .i64 (nx+1))).alloc o1).alloc o2) base b pile sv dv {M with next:=nx+1}):=((h.set_next _).alloc o1).alloc o2;have hsz:(w.setCell ⟨b,21,none⟩ (.int .i64 (nx+1))).heap.size=w.heap.size:=by simp[World.setCell]
 have HF:Hid (Fr base w (((w.setCell ⟨b,21,none⟩ (.int .i64 (nx+1))).alloc o1).alloc o2)):=((h.fr_set (Fr.refl base w) _ _).alloc (by omega) o1).alloc (by simp;omega) o2;have HE:Hid (H.step 27 0 (InV.inp ⟨fuel,k0,k1,k2,k3,k4,k5,k6,k7,what,by_,arg,src,route,ao,n,cap⟩ ds) M=H.popM {M with next:=nx+1}):=by unfold Hid H.step;rw[hnx];rfl
 have hb1:¬b=w.heap.size:=by omega
 have hb2:¬b=w.heap.size+1:=by omega
 have hb3:¬w.heap.size=b:=by omega
 have hb4:¬w.heap.size+1=b:=by omega
 subst ho1 ho2;clear hcs hnx hsz;go_enter Tryz.func82,Tryz.ntmps82;go_wp2_with fail;refine(pop_any (M:={M with next:=nx+1}) (by exact HM.out)).mono ?_;rintro e w1 ⟨rfl,ha⟩;have HA:Hid (Aft w base b _ w1):=⟨(After.aft ha).1,HF.out.trans (After.aft ha).2⟩;clear ha;go_wp2;go_end0;exact⟨rfl,by rw[HE.out];exact HA.out⟩
set_option maxRecDepth 100000 in
theorem step_sum {w:World} {base b:Nat} {pile:List Int} {sv dv:Value} {M:H.Mach} (h:MB w base b pile sv dv M) (v:InV) (hv:v.ok) (ds:List Int) (hn0:0≤M.next) (hn1:M.next≤900) (o:Int) (h4:4≤o) (h15:o≤15) (hr:InR M.st): Calls Tryz.prog 82 (stepArgs b o 0 v) w fun e w'=>e= .returned (.tuple #[])∧Aft w base b (H.step o 0 (v.inp ds) M) w':=by
 obtain⟨fuel,k0,k1,k2,k3,k4,k5,k6,k7,what,by_,arg,src,route,ao,n,cap⟩:=v;unfold stepArgs InV.arr;obtain⟨⟨wh0,wh1⟩,⟨ar0,ar1⟩,⟨sr0,sr1⟩,⟨ro0,ro1⟩,hcs⟩:=hv;simp only at*;obtain⟨nx,hnx⟩:∃nx,nx=M.next:=⟨_,rfl⟩;obtain⟨o1,ho1⟩:∃o1,o1=Obj.cells #[.int .u8 o,.int .i64 0] 99:=⟨_,rfl⟩;obtain⟨o2,ho2⟩:∃o2,o2=Obj.cells #[.int .i64 fuel,.int .u16 k0,.int .u16 k1,.int .u16 k2,.int .u16 k3,.int .u16 k4,.int .u16 k5,.int .u16 k6,.int .u16 k7,.int .u8 what,.int .u8 by_,.int .u16 arg,.int .u8 src,.int .u8 route,.slice ao n cap] 128:=⟨_,rfl⟩;have r21:=h.c21;have g21:=h.free 21;rw[←hnx] at hn0 hn1 r21;have hbl:=h.blk.lt;have hlt:=h.lt;have HM:Hid (MB (((w.setCell ⟨b,21,none⟩ (.int .i64 (nx+1))).alloc o1).alloc o2) base b pile sv dv {M with next:=nx+1}):=((h.set_next _).alloc o1).alloc o2;have hsz:(w.setCell ⟨b,21,none⟩ (.int .i64 (nx+1))).heap.size=w.heap.size:=by simp[World.setCell]
 have HF:Hid (Fr base w (((w.setCell ⟨b,21,none⟩ (.int .i64 (nx+1))).alloc o1).alloc o2)):=((h.fr_set (Fr.refl base w) _ _).alloc (by omega) o1).alloc (by simp;omega) o2;have HE:Hid (H.step o 0 (InV.inp ⟨fuel,k0,k1,k2,k3,k4,k5,k6,k7,what,by_,arg,src,route,ao,n,cap⟩ ds) M=H.reckon o {M with next:=nx+1}):=by unfold Hid H.step;rw[hnx];unfold H.doOp;rw[if_neg (by omega),if_neg (by omega),if_neg (by omega),if_neg (by omega),if_neg (by omega),if_neg (by omega),if_neg (by omega),if_neg (by omega),if_neg (by omega),if_neg (by omega),if_neg (by omega),if_neg (by omega),if_neg (by omega),if_neg (by omega),if_neg (by omega),if_neg (by omega)]
 have hb1:¬b=w.heap.size:=by omega
 have hb2:¬b=w.heap.size+1:=by omega
 have hb3:¬w.heap.size=b:=by omega
 have hb4:¬w.heap.size+1=b:=by omega
 subst ho1 ho2;clear hcs hnx hsz;have q0:(o==0)=false:=by rw[beq_eq_false_iff_ne];omega
 have q1:(o==1)=false:=by rw[beq_eq_false_iff_ne];omega
 have q2:(o==2)=false:=by rw[beq_eq_false_iff_ne];omega
 have q3:(o==3)=false:=by rw[beq_eq_false_iff_ne];omega
 have q16:(o==16)=false:=by rw[beq_eq_false_iff_ne];omega
 have q17:(o==17)=false:=by rw[beq_eq_false_iff_ne];omega
 have q18:(o==18)=false:=by rw[beq_eq_false_iff_ne];omega
 have q19:(o==19)=false:=by rw[beq_eq_false_iff_ne];omega
 have q20:(o==20)=false:=by rw[beq_eq_false_iff_ne];omega
 have q21:(o==21)=false:=by rw[beq_eq_false_iff_ne];omega
 have q22:(o==22)=false:=by rw[beq_eq_false_iff_ne];omega
 have q23:(o==23)=false:=by rw[beq_eq_false_iff_ne];omega
 have q24:(o==24)=false:=by rw[beq_eq_false_iff_ne];omega
 have q25:(o==25)=false:=by rw[beq_eq_false_iff_ne];omega
 have q26:(o==26)=false:=by rw[beq_eq_false_iff_ne];omega
 have q27:(o==27)=false:=by rw[beq_eq_false_iff_ne];omega
 go_enter Tryz.func82,Tryz.ntmps82;go_wp2_with fail;refine(reckon_any (M:={M with next:=nx+1}) (by exact HM.out) hr o h4 h15).mono ?_;rintro e w1 ⟨rfl,ha⟩;have HA:Hid (Aft w base b _ w1):=⟨(After.aft ha).1,HF.out.trans (After.aft ha).2⟩;clear ha;go_wp2;go_end0;exact⟨rfl,by rw[HE.out];exact HA.out⟩
set_option maxRecDepth 100000 in
theorem step_draw {w:World} {base b:Nat} {pile:List Int} {sv dv:Value} {M:H.Mach} (h:MB w base b pile sv dv M) (v:InV) (hv:v.ok) (ds:List Int) (hn0:0≤M.next) (hn1:M.next≤900) (hd:Drawn w v ds base): Calls Tryz.prog 82 (stepArgs b 22 0 v) w fun e w'=>e= .returned (.tuple #[])∧Aft w base b (H.step 22 0 (v.inp ds) M) w':=by
 obtain⟨fuel,k0,k1,k2,k3,k4,k5,k6,k7,what,by_,arg,src,route,ao,n,cap⟩:=v;unfold stepArgs InV.arr;obtain⟨⟨wh0,wh1⟩,⟨ar0,ar1⟩,⟨sr0,sr1⟩,⟨ro0,ro1⟩,hcs⟩:=hv;simp only at*;obtain⟨nx,hnx⟩:∃nx,nx=M.next:=⟨_,rfl⟩;obtain⟨o1,ho1⟩:∃o1,o1=Obj.cells #[.int .u8 22,.int .i64 0] 99:=⟨_,rfl⟩;obtain⟨o2,ho2⟩:∃o2,o2=Obj.cells #[.int .i64 fuel,.int .u16 k0,.int .u16 k1,.int .u16 k2,.int .u16 k3,.int .u16 k4,.int .u16 k5,.int .u16 k6,.int .u16 k7,.int .u8 what,.int .u8 by_,.int .u16 arg,.int .u8 src,.int .u8 route,.slice ao n cap] 128:=⟨_,rfl⟩;have r21:=h.c21;have g21:=h.free 21;rw[←hnx] at hn0 hn1 r21;have hbl:=h.blk.lt;have hlt:=h.lt;have HM:Hid (MB (((w.setCell ⟨b,21,none⟩ (.int .i64 (nx+1))).alloc o1).alloc o2) base b pile sv dv {M with next:=nx+1}):=((h.set_next _).alloc o1).alloc o2;have hsz:(w.setCell ⟨b,21,none⟩ (.int .i64 (nx+1))).heap.size=w.heap.size:=by simp[World.setCell]
 have HF:Hid (Fr base w (((w.setCell ⟨b,21,none⟩ (.int .i64 (nx+1))).alloc o1).alloc o2)):=((h.fr_set (Fr.refl base w) _ _).alloc (by omega) o1).alloc (by simp;omega) o2;have HE:Hid (H.step 22 0 (InV.inp ⟨fuel,k0,k1,k2,k3,k4,k5,k6,k7,what,by_,arg,src,route,ao,n,cap⟩ ds) M=H.draw ds {M with next:=nx+1}):=by unfold Hid H.step;rw[hnx];rfl
 have hb1:¬b=w.heap.size:=by omega
 have hb2:¬b=w.heap.size+1:=by omega
 have hb3:¬w.heap.size=b:=by omega
 have hb4:¬w.heap.size+1=b:=by omega
 subst ho1 ho2;clear hcs hnx hsz;obtain⟨hlen,hmax,⟨bd,off,hao,hrow⟩,_⟩:=hd;simp only at hlen hmax hao;have Hlen:Hid (ds.length=n):=hlen;have Hmax:Hid (n≤maxLen):=hmax;have HAo:Hid (0<n→ao=some ⟨bd,off,none⟩):=fun h=>(hao h).1;have HR:=show Hid (U16Row _ bd off ds) from fun i x hx=>by have hi:=(List.getElem?_eq_some_iff.1 hx).1;have hbd:=(hao (by omega)).2;exact(HF.out.below.cell (p:=⟨bd,off+i,none⟩) hbd).trans (hrow i x hx)
 clear hlen hmax hao hrow;go_enter Tryz.func82,Tryz.ntmps82;go_wp2_with fail;refine(draw_any (M:={M with next:=nx+1}) (by exact HM.out) ao bd off n cap ds Hlen.out Hmax.out HAo.out (by exact HR.out)).mono ?_;rintro e w1 ⟨rfl,ha⟩;have HA:Hid (Aft w base b _ w1):=⟨(After.aft ha).1,HF.out.trans (After.aft ha).2⟩;clear ha;go_wp2;go_end0;exact⟨rfl,by rw[HE.out];exact HA.out⟩
set_option maxRecDepth 100000 in
theorem step_end {w:World} {base b:Nat} {pile:List Int} {sv dv:Value} {M:H.Mach} (h:MB w base b pile sv dv M) (v:InV) (hv:v.ok) (ds:List Int) (hn0:0≤M.next) (hn1:M.next≤900): Calls Tryz.prog 82 (stepArgs b 0 0 v) w fun e w'=>e= .returned (.tuple #[])∧Aft w base b (H.step 0 0 (v.inp ds) M) w':=by
 obtain⟨fuel,k0,k1,k2,k3,k4,k5,k6,k7,what,by_,arg,src,route,ao,n,cap⟩:=v;unfold stepArgs InV.arr;obtain⟨⟨wh0,wh1⟩,⟨ar0,ar1⟩,⟨sr0,sr1⟩,⟨ro0,ro1⟩,hcs⟩:=hv;simp only at*;obtain⟨nx,hnx⟩:∃nx,nx=M.next:=⟨_,rfl⟩;obtain⟨o1,ho1⟩:∃o1,o1=Obj.cells #[.int .u8 0,.int .i64 0] 99:=⟨_,rfl⟩;obtain⟨o2,ho2⟩:∃o2,o2=Obj.cells #[.int .i64 fuel,.int .u16 k0,.int .u16 k1,.int .u16 k2,.int .u16 k3,.int .u16 k4,.int .u16 k5,.int .u16 k6,.int .u16 k7,.int .u8 what,.int .u8 by_,.int .u16 arg,.int .u8 src,.int .u8 route,.slice ao n cap] 128:=⟨_,rfl⟩;have r21:=h.c21;have g21:=h.free 21;rw[←hnx] at hn0 hn1 r21;have hbl:=h.blk.lt;have hlt:=h.lt;have HM:Hid (MB (((w.setCell ⟨b,21,none⟩ (.int .i64 (nx+1))).alloc o1).alloc o2) base b pile sv dv {M with next:=nx+1}):=((h.set_next _).alloc o1).alloc o2;have hsz:(w.setCell ⟨b,21,none⟩ (.int .i64 (nx+1))).heap.size=w.heap.size:=by simp[World.setCell]
 have HF:Hid (Fr base w (((w.setCell ⟨b,21,none⟩ (.int .i64 (nx+1))).alloc o1).alloc o2)):=((h.fr_set (Fr.refl base w) _ _).alloc (by omega) o1).alloc (by simp;omega) o2;have HE:Hid (H.step 0 0 (InV.inp ⟨fuel,k0,k1,k2,k3,k4,k5,k6,k7,what,by_,arg,src,route,ao,n,cap⟩ ds) M={M with next:=nx+1,ended:=true}):=by unfold Hid H.step;rw[hnx];rfl
 have hb1:¬b=w.heap.size:=by omega
 have hb2:¬b=w.heap.size+1:=by omega
 have hb3:¬w.heap.size=b:=by omega
 have hb4:¬w.heap.size+1=b:=by omega
 subst ho1 ho2;clear hcs hnx hsz;have r24:=h.c24;have g24:=h.free 24;have HM2:Hid (∀o1 o2,MB ((((w.setCell ⟨b,21,none⟩ (.int .i64 (nx+1))).setCell ⟨b,24,none⟩ (.bool true)).alloc o1).alloc o2) base b pile sv dv {M with next:=nx+1,ended:=true}):=fun o1 o2=>(((h.set_next _).set_ended true).alloc o1).alloc o2;have HF2:Hid (∀o1 o2,Fr base w ((((w.setCell ⟨b,21,none⟩ (.int .i64 (nx+1))).setCell ⟨b,24,none⟩ (.bool true)).alloc o1).alloc o2)):=fun o1 o2=>(((h.set_next _).fr_set (h.fr_set (Fr.refl base w) _ _) _ _).alloc (by simp[World.setCell];omega) o1).alloc (by simp[World.setCell];omega) o2;go_enter Tryz.func82,Tryz.ntmps82;go_wp2;go_end0;exact⟨rfl,by rw[HE.out];exact⟨⟨_,_,_,HM2.out _ _⟩,HF2.out _ _⟩⟩
end Go.Proofs.YtidaflmmldefcaaGreat
