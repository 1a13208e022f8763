/- Parts of the proof of Hosts: Step2, StepA, Keep, Small, Alone, Read, AppIns, Lands, Enc. -/
import Derived.Test.YtidaflmmldefcaaGreatQ07
import Derived.Test.YtidaflmmldefcaaGreatProg
import Derived.Test.YtidaflmmldefcaaGreatQ04
import Derived.WalkKit
import Derived.WalkSpells
import Derived.WalkLawsBesides
import Derived.Deep.QuietTactic
import Derived.BigQuiet
import Derived.Test.YtidaflmmldefcaaGreatQ01
import Derived.Laws.BytesArg
set_option maxHeartbeats 1000000
namespace Go.Proofs.YtidaflmmldefcaaGreat
open Go.RowKit
set_option linter.unusedVariables false
set_option maxRecDepth 100000 in
theorem step_load {w:World} {base b:Nat} {pile:List Int} {sv dv:Value} {M:H.Mach} (h:MB w base b pile sv dv M) (v:InV) (hv:v.ok) (ds:List Int) (hn0:0≤M.next) (hn1:M.next≤900) (k:Nat) (hk:k<8): Calls Tryz.prog 82 (stepArgs b 2 (k:Int) v) w fun e w'=>e= .returned (.tuple #[])∧Aft w base b (H.step 2 (k:Int) (v.inp ds) M) w':=by
 obtain⟨fuel,k0,k1,k2,k3,k4,k5,k6,k7,what,by_,arg,src,route,ao,n,cap⟩:=v;unfold stepArgs InV.arr;obtain⟨⟨wh0,wh1⟩,⟨ar0,ar1⟩,⟨sr0,sr1⟩,⟨ro0,ro1⟩,hcs⟩:=hv;simp only at*;obtain⟨nx,hnx⟩:∃nx,nx=M.next:=⟨_,rfl⟩;obtain⟨o1,ho1⟩:∃o1,o1=Obj.cells #[.int .u8 2,.int .i64 (k:Int)] 99:=⟨_,rfl⟩;obtain⟨o2,ho2⟩:∃o2,o2=Obj.cells #[.int .i64 fuel,.int .u16 k0,.int .u16 k1,.int .u16 k2,.int .u16 k3,.int .u16 k4,.int .u16 k5,.int .u16 k6,.int .u16 k7,.int .u8 what,.int .u8 by_,.int .u16 arg,.int .u8 src,.int .u8 route,.slice ao n cap] 128:=⟨_,rfl⟩;have r21:=h.c21;have g21:=h.free 21;rw[←hnx] at hn0 hn1 r21;have hbl:=h.blk.lt;have hlt:=h.lt;have HM:Hid (MB (((w.setCell ⟨b,21,none⟩ (.int .i64 (nx+1))).alloc o1).alloc o2) base b pile sv dv {M with next:=nx+1}):=((h.set_next _).alloc o1).alloc o2;have hsz:(w.setCell ⟨b,21,none⟩ (.int .i64 (nx+1))).heap.size=w.heap.size:=by simp[World.setCell]
 have HF:Hid (Fr base w (((w.setCell ⟨b,21,none⟩ (.int .i64 (nx+1))).alloc o1).alloc o2)):=((h.fr_set (Fr.refl base w) _ _).alloc (by omega) o1).alloc (by simp;omega) o2;have HE:Hid (H.step 2 (k:Int) (InV.inp ⟨fuel,k0,k1,k2,k3,k4,k5,k6,k7,what,by_,arg,src,route,ao,n,cap⟩ ds) M=H.push (M.cells.getD k 0) {M with next:=nx+1}):=by unfold Hid H.step;rw[hnx];rfl
 have hb1:¬b=w.heap.size:=by omega
 have hb2:¬b=w.heap.size+1:=by omega
 have hb3:¬w.heap.size=b:=by omega
 have hb4:¬w.heap.size+1=b:=by omega
 subst ho1 ho2;clear hcs hnx hsz;have rc:=h.ccell k hk;obtain⟨ck,hck⟩:∃ck,ck=M.cells.getD k 0:=⟨_,rfl⟩;rw[←hck] at rc HE;have hk0:(0:Int)≤(k:Int):=by omega
 have hk1:(k:Int)<8:=by omega
 have hk2:¬9+k=21:=by omega
 have hk3:¬21=9+k:=by omega
 clear hck;go_enter Tryz.func82,Tryz.ntmps82;go_wp2_with fail;go_region_with (go_at_call 90;refine(push_any (M:={M with next:=nx+1}) (by exact HM.out.drew) ck).mono ?_;rintro e w1 ⟨rfl,ha⟩)
 have HA:Hid (Aft w base b _ w1):=⟨(After.aft ha).1,HF.out.drew.trans (After.aft ha).2⟩;clear ha;go_wp2;go_end0;exact⟨rfl,by rw[HE.out];exact HA.out⟩
set_option maxRecDepth 100000 in
theorem step_jump {w:World} {base b:Nat} {pile:List Int} {sv dv:Value} {M:H.Mach} (h:MB w base b pile sv dv M) (v:InV) (hv:v.ok) (ds:List Int) (hn0:0≤M.next) (hn1:M.next≤900) (a:Int) (ha0: -128≤a) (ha1:a≤127): Calls Tryz.prog 82 (stepArgs b 16 a v) w fun e w'=>e= .returned (.tuple #[])∧Aft w base b (H.step 16 a (v.inp ds) M) w':=by
 obtain⟨fuel,k0,k1,k2,k3,k4,k5,k6,k7,what,by_,arg,src,route,ao,n,cap⟩:=v;unfold stepArgs InV.arr;obtain⟨⟨wh0,wh1⟩,⟨ar0,ar1⟩,⟨sr0,sr1⟩,⟨ro0,ro1⟩,hcs⟩:=hv;simp only at*;obtain⟨nx,hnx⟩:∃nx,nx=M.next:=⟨_,rfl⟩;obtain⟨o1,ho1⟩:∃o1,o1=Obj.cells #[.int .u8 16,.int .i64 a] 99:=⟨_,rfl⟩;obtain⟨o2,ho2⟩:∃o2,o2=Obj.cells #[.int .i64 fuel,.int .u16 k0,.int .u16 k1,.int .u16 k2,.int .u16 k3,.int .u16 k4,.int .u16 k5,.int .u16 k6,.int .u16 k7,.int .u8 what,.int .u8 by_,.int .u16 arg,.int .u8 src,.int .u8 route,.slice ao n cap] 128:=⟨_,rfl⟩;have r21:=h.c21;have g21:=h.free 21;rw[←hnx] at hn0 hn1 r21;have hbl:=h.blk.lt;have hlt:=h.lt;have HM:Hid (MB (((w.setCell ⟨b,21,none⟩ (.int .i64 (nx+1))).alloc o1).alloc o2) base b pile sv dv {M with next:=nx+1}):=((h.set_next _).alloc o1).alloc o2;have hsz:(w.setCell ⟨b,21,none⟩ (.int .i64 (nx+1))).heap.size=w.heap.size:=by simp[World.setCell]
 have HF:Hid (Fr base w (((w.setCell ⟨b,21,none⟩ (.int .i64 (nx+1))).alloc o1).alloc o2)):=((h.fr_set (Fr.refl base w) _ _).alloc (by omega) o1).alloc (by simp;omega) o2;have HE:Hid (H.step 16 a (InV.inp ⟨fuel,k0,k1,k2,k3,k4,k5,k6,k7,what,by_,arg,src,route,ao,n,cap⟩ ds) M={M with next:=nx+1+a}):=by unfold Hid H.step;rw[hnx];rfl
 have hb1:¬b=w.heap.size:=by omega
 have hb2:¬b=w.heap.size+1:=by omega
 have hb3:¬w.heap.size=b:=by omega
 have hb4:¬w.heap.size+1=b:=by omega
 subst ho1 ho2;clear hcs hnx hsz;have HM2:Hid (∀o1 o2,MB ((((w.setCell ⟨b,21,none⟩ (.int .i64 (nx+1))).setCell ⟨b,21,none⟩ (.int .i64 (nx+1+a))).alloc o1).alloc o2) base b pile sv dv {M with next:=nx+1+a}):=fun o1 o2=>(((h.set_next (nx+1)).set_next (nx+1+a)).alloc o1).alloc o2;have HF2:Hid (∀o1 o2,Fr base w ((((w.setCell ⟨b,21,none⟩ (.int .i64 (nx+1))).setCell ⟨b,21,none⟩ (.int .i64 (nx+1+a))).alloc o1).alloc o2)):=fun o1 o2=>(((h.set_next _).fr_set (h.fr_set (Fr.refl base w) _ _) _ _).alloc (by simp[World.setCell];omega) o1).alloc (by simp[World.setCell];omega) o2;have hw:IntKind.i64.wrap (nx+1+a)=nx+1+a:=by rw[IntKind.wrap_i64];omega
 go_enter Tryz.func82,Tryz.ntmps82;go_wp2_with fail;go_region
 all_goals go_wp2
 all_goals go_end0
 all_goals exact⟨rfl,by rw[HE.out];exact⟨⟨_,_,_,(HM2.out _ _).drew⟩,(HF2.out _ _).drew⟩⟩
set_option maxRecDepth 100000 in
theorem step_store {w:World} {base b:Nat} {pile:List Int} {sv dv:Value} {M:H.Mach} (h:MB w base b pile sv dv M) (v:InV) (hv:v.ok) (ds:List Int) (hn0:0≤M.next) (hn1:M.next≤900) (k:Nat) (hk:k<8): Calls Tryz.prog 82 (stepArgs b 3 (k:Int) v) w fun e w'=>e= .returned (.tuple #[])∧Aft w base b (H.step 3 (k:Int) (v.inp ds) M) w':=by
 obtain⟨fuel,k0,k1,k2,k3,k4,k5,k6,k7,what,by_,arg,src,route,ao,n,cap⟩:=v;unfold stepArgs InV.arr;obtain⟨⟨wh0,wh1⟩,⟨ar0,ar1⟩,⟨sr0,sr1⟩,⟨ro0,ro1⟩,hcs⟩:=hv;simp only at*;obtain⟨nx,hnx⟩:∃nx,nx=M.next:=⟨_,rfl⟩;obtain⟨o1,ho1⟩:∃o1,o1=Obj.cells #[.int .u8 3,.int .i64 (k:Int)] 99:=⟨_,rfl⟩;obtain⟨o2,ho2⟩:∃o2,o2=Obj.cells #[.int .i64 fuel,.int .u16 k0,.int .u16 k1,.int .u16 k2,.int .u16 k3,.int .u16 k4,.int .u16 k5,.int .u16 k6,.int .u16 k7,.int .u8 what,.int .u8 by_,.int .u16 arg,.int .u8 src,.int .u8 route,.slice ao n cap] 128:=⟨_,rfl⟩;have r21:=h.c21;have g21:=h.free 21;rw[←hnx] at hn0 hn1 r21;have hbl:=h.blk.lt;have hlt:=h.lt;have HM:Hid (MB (((w.setCell ⟨b,21,none⟩ (.int .i64 (nx+1))).alloc o1).alloc o2) base b pile sv dv {M with next:=nx+1}):=((h.set_next _).alloc o1).alloc o2;have hsz:(w.setCell ⟨b,21,none⟩ (.int .i64 (nx+1))).heap.size=w.heap.size:=by simp[World.setCell]
 have HF:Hid (Fr base w (((w.setCell ⟨b,21,none⟩ (.int .i64 (nx+1))).alloc o1).alloc o2)):=((h.fr_set (Fr.refl base w) _ _).alloc (by omega) o1).alloc (by simp;omega) o2;have HE:Hid (H.step 3 (k:Int) (InV.inp ⟨fuel,k0,k1,k2,k3,k4,k5,k6,k7,what,by_,arg,src,route,ao,n,cap⟩ ds) M={H.popM {M with next:=nx+1} with cells:=M.cells.set k (H.popV {M with next:=nx+1})}):=by unfold Hid H.step;rw[hnx];rfl
 have hb1:¬b=w.heap.size:=by omega
 have hb2:¬b=w.heap.size+1:=by omega
 have hb3:¬w.heap.size=b:=by omega
 have hb4:¬w.heap.size+1=b:=by omega
 subst ho1 ho2;clear hcs hnx hsz;have hk0:(0:Int)≤(k:Int):=by omega
 have hk1:(k:Int)<8:=by omega
 have HX:Hid (∀o2,Blk (((w.setCell ⟨b,21,none⟩ (.int .i64 (nx+1))).alloc (.cells #[.int .u8 3,.int .i64 (k:Int)] 99)).alloc o2) w.heap.size #[.int .u8 3,.int .i64 (k:Int)] 99):=fun o2=>by have h1:=Blk.new (w.setCell ⟨b,21,none⟩ (.int .i64 (nx+1))) #[.int .u8 3,.int .i64 (k:Int)] 99;rw[show(w.setCell ⟨b,21,none⟩ (.int .i64 (nx+1))).heap.size=w.heap.size by simp[World.setCell]] at h1;exact h1.alloc o2
 go_enter Tryz.func82,Tryz.ntmps82;go_wp2_with fail;refine(pop_any (M:={M with next:=nx+1}) (by exact HM.out)).mono ?_;rintro e w1 ⟨rfl,⟨pile1,hm1⟩,hf1⟩;have hx1:=hf1.row _ _ _ (HX.out _) (by decide) (by decide) (by decide);have d0:=hx1.cell 0;have d1:=hx1.cell 1;simp at d0 d1;have rc:=hm1.ccell k hk;have fc:=hm1.free (9+k);obtain⟨y,hy⟩:∃y,y=H.popV {M with next:=nx+1}:=⟨_,rfl⟩;rw[←hy] at HE ⊢;obtain⟨M1,hM1⟩:∃M1,M1=H.popM {M with next:=nx+1}:=⟨_,rfl⟩;have hcl:M1.cells=M.cells:=by rw[hM1];unfold H.popM;split<;>rfl
 rw[←hM1] at HE hm1 rc;have HM2:Hid (MB (w1.setCell ⟨b,9+k,none⟩ (.int .u16 y)) base b pile1 sv dv {M1 with cells:=M1.cells.set k y}):=hm1.set_cell k hk y;have HF2:Hid (Fr base w (w1.setCell ⟨b,9+k,none⟩ (.int .u16 y))):=hm1.fr_set (HF.out.trans hf1) _ _;have HCl:Hid (M1.cells=M.cells):=hcl;clear hm1 hf1 hx1 HX hy hM1 hcl HM HF;go_wp2_with fail;go_region
 all_goals go_wp2
 all_goals go_end0
 all_goals exact⟨rfl,by rw[HE.out];exact⟨⟨_,_,_,by have h:=HM2.out.drew;rw[HCl.out] at h;exact h⟩,HF2.out.drew⟩⟩
structure MOk (n:Nat) (M:H.Mach):Prop where
 st:InR M.st
 cells:InR M.cells
 text:M.text.size≤4*M.chars
 chars:M.chars≤6
 next0:0≤M.next
 next1:M.next≤n
theorem MOk.small {n:Nat} {M:H.Mach} (h:MOk n M):M.text.size≤1000:=by
 have:=h.text;have:=h.chars;omega
theorem step_any {w:World} {base b:Nat} {pile:List Int} {sv dv:Value} {M:H.Mach} (h:MB w base b pile sv dv M) (v:InV) (hv:v.ok) (ds:List Int) (hd:Drawn w v ds base) (n:Nat) (hn:n≤64) (hM:MOk n M) (o a:Int) (ho:0≤o) (ha:H.alone o a=true): Calls Tryz.prog 82 (stepArgs b o a v) w fun e w'=>e= .returned (.tuple #[])∧Aft w base b (H.step o a (v.inp ds) M) w':=by
 have n0:=hM.next0;have n1:M.next≤900:=by have:=hM.next1;omega
 have h27:=H.alone_op o a ha;have hz:∀x:Int,o=x→x≠1→x≠2→x≠3→x≠16→x≠17→x≠25→a=0:=by intro x hx h1 h2 h3 h16 h17 h25;subst hx;simp[H.alone,h1,h2,h3,h16,h17,h25] at ha;exact ha.2
 rcases(show o=0∨o=1∨o=2∨o=3∨(4≤o∧o≤15)∨o=16∨o=17∨o=18∨o=19∨o=20∨o=21∨o=22∨o=23∨o=24∨o=25∨o=26∨o=27 by omega) with rfl|rfl|rfl|rfl|⟨h4,h15⟩|rfl|rfl|rfl|rfl|rfl|rfl|rfl|rfl|rfl|rfl|rfl|rfl
 ·obtain rfl:=hz 0 rfl (by decide) (by decide) (by decide) (by decide) (by decide) (by decide);exact step_end h v hv ds n0 n1
 ·simp[H.alone] at ha;exact step_push h v hv ds n0 n1 a ha.1 ha.2
 ·simp[H.alone] at ha;obtain⟨k,rfl⟩:=Int.eq_ofNat_of_zero_le ha.1;exact step_load h v hv ds n0 n1 k (by omega)
 ·simp[H.alone] at ha;obtain⟨k,rfl⟩:=Int.eq_ofNat_of_zero_le ha.1;exact step_store h v hv ds n0 n1 k (by omega)
 ·obtain rfl:=hz o rfl (by omega) (by omega) (by omega) (by omega) (by omega) (by omega);exact step_sum h v hv ds n0 n1 o h4 h15 hM.st
 ·simp[H.alone] at ha;exact step_jump h v hv ds n0 n1 a ha.1 ha.2
 ·simp[H.alone] at ha;exact step_if h v hv ds n0 n1 a ha.1 ha.2
 ·obtain rfl:=hz 18 rfl (by decide) (by decide) (by decide) (by decide) (by decide) (by decide);exact step_what h v hv ds n0 n1
 ·obtain rfl:=hz 19 rfl (by decide) (by decide) (by decide) (by decide) (by decide) (by decide);exact step_arg h v hv ds n0 n1
 ·obtain rfl:=hz 20 rfl (by decide) (by decide) (by decide) (by decide) (by decide) (by decide);exact step_src h v hv ds n0 n1
 ·obtain rfl:=hz 21 rfl (by decide) (by decide) (by decide) (by decide) (by decide) (by decide);exact step_route h v hv ds n0 n1
 ·obtain rfl:=hz 22 rfl (by decide) (by decide) (by decide) (by decide) (by decide) (by decide);exact step_draw h v hv ds n0 n1 hd
 ·obtain rfl:=hz 23 rfl (by decide) (by decide) (by decide) (by decide) (by decide) (by decide);exact step_char h v hv ds n0 n1 hM.st hM.small
 ·obtain rfl:=hz 24 rfl (by decide) (by decide) (by decide) (by decide) (by decide) (by decide);exact step_show h v hv ds n0 n1
 ·simp[H.alone] at ha;exact step_send h v hv ds n0 n1 a ha.1 ha.2
 ·obtain rfl:=hz 26 rfl (by decide) (by decide) (by decide) (by decide) (by decide) (by decide);exact step_copy h v hv ds n0 n1
 ·obtain rfl:=hz 27 rfl (by decide) (by decide) (by decide) (by decide) (by decide) (by decide);exact step_drop h v hv ds n0 n1
end Go.Proofs.YtidaflmmldefcaaGreat
namespace Go.Proofs.YtidaflmmldefcaaGreat
set_option linter.unusedVariables false
structure Kp (dl:Nat) (M M':H.Mach):Prop where
 steps:M'.steps=M.steps
 draws:M.draws≤dl→M'.draws≤dl
 fault:M.fault≠1→M'.fault≠1
section
variable {n dl : Nat} {M : H.Mach}
theorem Kp.refl:Kp dl M M:=⟨rfl,id,id⟩
theorem Kp.trans {M1 M2:H.Mach} (h:Kp dl M M1) (k:Kp dl M1 M2):Kp dl M M2:=⟨k.steps.trans h.steps,fun x=>k.draws (h.draws x),fun x=>k.fault (h.fault x)⟩
theorem Kp.push (v:Int):Kp dl M (H.push v M):=by
 unfold H.push;split
 ·exact⟨rfl,id,fun _=>by simp⟩
 ·exact⟨rfl,id,id⟩
theorem Kp.pop:Kp dl M (H.popM M):=by
 unfold H.popM;split
 ·exact⟨rfl,id,fun _=>by simp⟩
 ·exact⟨rfl,id,id⟩
theorem MOk.fault (h:MOk n M) (x:Int):MOk n {M with fault:=x}:=⟨h.st,h.cells,h.text,h.chars,h.next0,h.next1⟩
theorem InR.snoc {l:List Int} {v:Int} (h:InR l) (h0:0≤v) (h1:v≤65535):InR (l++[v]):=by
 intro x hx;rcases List.mem_append.1 hx with h'|h'
 ·exact h x h'
 ·simp at h';subst h';exact⟨h0,h1⟩
theorem MOk.push (h:MOk n M) {v:Int} (h0:0≤v) (h1:v≤65535):MOk n (H.push v M):=by
 unfold H.push;split
 ·exact h.fault 2
 ·exact⟨h.st.snoc h0 h1,h.cells,h.text,h.chars,h.next0,h.next1⟩
theorem MOk.pop (h:MOk n M):MOk n (H.popM M):=by
 have hp:=h.st.pop;unfold H.popM at*;split
 ·exact h.fault 2
 ·rename_i hl;rw[if_neg hl] at hp;exact⟨hp,h.cells,h.text,h.chars,h.next0,h.next1⟩
theorem popM_cells (M:H.Mach):(H.popM M).cells=M.cells:=by unfold H.popM;split<;>rfl
theorem MOk.jumpIf (h:MOk n M) {a:Int} (h0:0≤M.next+a) (h1:M.next+a≤n):MOk n (H.jumpIf a M):=by
 unfold H.jumpIf;split
 ·exact h.pop
 ·have hp:=h.pop;exact⟨hp.st,hp.cells,hp.text,hp.chars,by rw[popM_next];exact h0,by rw[popM_next];exact h1⟩
theorem Kp.jumpIf (a:Int):Kp dl M (H.jumpIf a M):=by
 unfold H.jumpIf;split
 ·exact Kp.pop
 ·have hp:Kp dl M (H.popM M):=Kp.pop;exact⟨hp.steps,hp.draws,hp.fault⟩
theorem MOk.draw (h:MOk n M) {ds:List Int} (hd:InR ds):MOk n (H.draw ds M):=by
 unfold H.draw;split
 ·rename_i hl;have hx:ds.getD M.draws 0=ds[M.draws]:=by simp[List.getD,List.getElem?_eq_getElem hl]
  have hr:=hd _ (List.getElem_mem hl);have h':MOk n {M with draws:=M.draws+1}:=⟨h.st,h.cells,h.text,h.chars,h.next0,h.next1⟩;exact h'.push (by rw[hx];exact hr.1) (by rw[hx];exact hr.2)
 ·exact h.push (by decide) (by decide)
theorem Kp.draw (ds:List Int):Kp ds.length M (H.draw ds M):=by
 unfold H.draw;split
 ·rename_i hl;have h1:Kp ds.length M {M with draws:=M.draws+1}:=⟨rfl,fun _=>hl,id⟩;exact h1.trans (Kp.push _)
 ·exact Kp.push _
theorem MOk.double (h:MOk n M):MOk n (H.double M):=by
 have hv:=h.st.popV;unfold H.double;split
 ·exact(h.pop.push hv.1 hv.2).push hv.1 hv.2
 ·exact h.pop
theorem Kp.double:Kp dl M (H.double M):=by
 unfold H.double;split
 ·exact(Kp.pop.trans (Kp.push _)).trans (Kp.push _)
 ·exact Kp.pop
theorem encode_size (y:Int):(Utf8.encode y).size≤4:=by
 unfold Utf8.encode
 simp only
 repeat' split
 all_goals simp[ByteArray.size]
theorem MOk.char (h:MOk n M):MOk n (H.char M):=by
 have hp:=h.pop;unfold H.char;split
 ·split
  ·exact hp.fault 4
  ·rename_i h6;refine⟨hp.st,hp.cells,?_,by show M.chars+1≤6;omega,hp.next0,hp.next1⟩;show(M.text++Utf8.encode (H.popV M)).size≤4*(M.chars+1);rw[ByteArray.size_append];have:=encode_size (H.popV M);have:=h.text;omega
 ·exact hp
theorem Kp.char:Kp dl M (H.char M):=by
 have hp:Kp dl M (H.popM M):=Kp.pop;unfold H.char;split
 ·split
  ·exact⟨hp.steps,hp.draws,fun _=>by simp⟩
  ·exact⟨hp.steps,hp.draws,hp.fault⟩
 ·exact hp
theorem MOk.showM (h:MOk n M):MOk n (H.showM M):=by
 have hp:=h.pop;unfold H.showM;split
 ·split
  ·exact hp.fault 5
  ·split
   ·exact hp.fault 6
   ·exact⟨hp.st,hp.cells,by show(0:Nat)≤_;omega,by show(0:Nat)≤6;omega,hp.next0,hp.next1⟩
 ·exact hp
theorem Kp.showM:Kp dl M (H.showM M):=by
 have hp:Kp dl M (H.popM M):=Kp.pop;unfold H.showM;split
 ·split
  ·exact⟨hp.steps,hp.draws,fun _=>by simp⟩
  ·split
   ·exact⟨hp.steps,hp.draws,fun _=>by simp⟩
   ·exact⟨hp.steps,hp.draws,hp.fault⟩
 ·exact hp
theorem MOk.send (h:MOk n M) (t:Int):MOk n (H.send t M):=by
 have hp:=h.pop;unfold H.send;split
 ·split
  ·exact hp.fault 5
  ·exact⟨hp.st,hp.cells,hp.text,hp.chars,hp.next0,hp.next1⟩
 ·exact hp
theorem Kp.send (t:Int):Kp dl M (H.send t M):=by
 have hp:Kp dl M (H.popM M):=Kp.pop;unfold H.send;split
 ·split
  ·exact⟨hp.steps,hp.draws,fun _=>by simp⟩
  ·exact⟨hp.steps,hp.draws,hp.fault⟩
 ·exact hp
theorem MOk.reckon (h:MOk n M) (op:Int):MOk n (H.reckon op M):=by
 have hp:=h.pop.pop;have hb:=h.st.popV;have ha:=h.st.pop.popV;unfold H.reckon;split
 ·split
  ·split
   ·exact hp.fault 3
   ·have h1:=Int.ediv_nonneg ha.1 hb.1;have h2:=Int.ediv_le_self (H.popV M) ha.1;exact hp.push h1 (by omega)
  ·have hc:=comb_range op _ _ ha.1 ha.2 hb.1 hb.2;exact hp.push hc.1 hc.2
 ·exact hp
theorem Kp.reckon (op:Int):Kp dl M (H.reckon op M):=by
 have hp:Kp dl M (H.popM (H.popM M)):=Kp.pop.trans Kp.pop;unfold H.reckon;split
 ·split
  ·split
   ·exact⟨hp.steps,hp.draws,fun _=>by simp⟩
   ·exact hp.trans (Kp.push _)
  ·exact hp.trans (Kp.push _)
 ·exact hp
theorem getD_range {l:List Int} (h:InR l) (i:Nat):0≤l.getD i 0∧l.getD i 0≤65535:=by
 by_cases hi:i<l.length
 ·have:l.getD i 0=l[i]:=by simp[List.getD,List.getElem?_eq_getElem hi]
  rw[this];exact h _ (List.getElem_mem hi)
 ·have:l.getD i 0=0:=by simp[List.getD,List.getElem?_eq_none (Nat.le_of_not_lt hi)]
  rw[this];omega
theorem MOk.doOp (h:MOk n M) (v:InV) (hv:v.ok) {ds:List Int} (hd:InR ds) {o a:Int} (ha:H.alone o a=true) (hj:o=16∨o=17→0≤M.next+a∧M.next+a≤n):MOk n (H.doOp o a (v.inp ds) M):=by
 unfold H.doOp;by_cases e0:o=0
 ·rw[if_pos e0];exact⟨h.st,h.cells,h.text,h.chars,h.next0,h.next1⟩
 rw[if_neg e0];by_cases e1:o=1
 ·rw[if_pos e1];subst e1;simp[H.alone] at ha;exact h.push ha.1 ha.2
 rw[if_neg e1];by_cases e2:o=2
 ·rw[if_pos e2];have:=getD_range h.cells a.toNat;exact h.push this.1 this.2
 rw[if_neg e2];by_cases e3:o=3
 ·rw[if_pos e3];have hp:=h.pop;refine⟨hp.st,?_,hp.text,hp.chars,hp.next0,hp.next1⟩;intro x hx;have hv:=h.st.popV;rcases List.mem_or_eq_of_mem_set hx with h'|h'
  ·exact h.cells x h'
  ·subst h';exact hv
 rw[if_neg e3];by_cases e16:o=16
 ·rw[if_pos e16];have:=hj (.inl e16);exact⟨h.st,h.cells,h.text,h.chars,this.1,this.2⟩
 rw[if_neg e16];by_cases e17:o=17
 ·rw[if_pos e17];have:=hj (.inr e17);exact h.jumpIf this.1 this.2
 rw[if_neg e17];by_cases e18:o=18
 ·rw[if_pos e18];exact h.push hv.what.1 (by have:=hv.what.2;show v.what≤65535;omega)
 rw[if_neg e18];by_cases e19:o=19
 ·rw[if_pos e19];exact h.push hv.arg.1 hv.arg.2
 rw[if_neg e19];by_cases e20:o=20
 ·rw[if_pos e20];exact h.push hv.src.1 (by have:=hv.src.2;show v.src≤65535;omega)
 rw[if_neg e20];by_cases e21:o=21
 ·rw[if_pos e21];exact h.push hv.route.1 (by have:=hv.route.2;show v.route≤65535;omega)
 rw[if_neg e21];by_cases e22:o=22
 ·rw[if_pos e22];exact h.draw hd
 rw[if_neg e22];by_cases e23:o=23
 ·rw[if_pos e23];exact h.char
 rw[if_neg e23];by_cases e24:o=24
 ·rw[if_pos e24];exact h.showM
 rw[if_neg e24];by_cases e25:o=25
 ·rw[if_pos e25];exact h.send a
 rw[if_neg e25];by_cases e26:o=26
 ·rw[if_pos e26];exact h.double
 rw[if_neg e26];by_cases e27:o=27
 ·rw[if_pos e27];exact h.pop
 rw[if_neg e27];exact h.reckon o
theorem Kp.doOp (o a:Int) (I:H.Inp):Kp I.draws.length M (H.doOp o a I M):=by
 unfold H.doOp;by_cases e0:o=0
 ·rw[if_pos e0];exact⟨rfl,id,id⟩
 rw[if_neg e0];by_cases e1:o=1
 ·rw[if_pos e1];exact Kp.push _
 rw[if_neg e1];by_cases e2:o=2
 ·rw[if_pos e2];exact Kp.push _
 rw[if_neg e2];by_cases e3:o=3
 ·rw[if_pos e3];have hp:Kp I.draws.length M (H.popM M):=Kp.pop;exact⟨hp.steps,hp.draws,hp.fault⟩
 rw[if_neg e3];by_cases e16:o=16
 ·rw[if_pos e16];exact⟨rfl,id,id⟩
 rw[if_neg e16];by_cases e17:o=17
 ·rw[if_pos e17];exact Kp.jumpIf _
 rw[if_neg e17];by_cases e18:o=18
 ·rw[if_pos e18];exact Kp.push _
 rw[if_neg e18];by_cases e19:o=19
 ·rw[if_pos e19];exact Kp.push _
 rw[if_neg e19];by_cases e20:o=20
 ·rw[if_pos e20];exact Kp.push _
 rw[if_neg e20];by_cases e21:o=21
 ·rw[if_pos e21];exact Kp.push _
 rw[if_neg e21];by_cases e22:o=22
 ·rw[if_pos e22];exact Kp.draw _
 rw[if_neg e22];by_cases e23:o=23
 ·rw[if_pos e23];exact Kp.char
 rw[if_neg e23];by_cases e24:o=24
 ·rw[if_pos e24];exact Kp.showM
 rw[if_neg e24];by_cases e25:o=25
 ·rw[if_pos e25];exact Kp.send _
 rw[if_neg e25];by_cases e26:o=26
 ·rw[if_pos e26];exact Kp.double
 rw[if_neg e26];by_cases e27:o=27
 ·rw[if_pos e27];exact Kp.pop
 rw[if_neg e27];exact Kp.reckon _
end
namespace H
def halt (n:Nat) (M:Mach):Bool:=M.ended||!(M.fault==0)||decide ((n:Int)≤M.next)
def adv (prog:List (Int×Int)) (I:Inp) (M:Mach):Mach:=step (prog.getD M.next.toNat (0,0)).1 (prog.getD M.next.toNat (0,0)).2 I {M with steps:=M.steps+1}
def runM (prog:List (Int×Int)) (I:Inp) (F:Nat):Nat→Mach→Mach
 |0,M=>M
 |r+1,M=>if halt prog.length M then M else if M.steps=F then {M with fault:=1} else runM prog I F r (adv prog I M)
def mach0 (cells:List Int):Mach:={st:=[],cells:=cells,text:=⟨#[]⟩,chars:=0,shows:=[],sends:=[],next:=0,steps:=0,draws:=0,ended:=false,fault:=0}
end H
theorem adv_kp (prog:List (Int×Int)) (I:H.Inp) (M:H.Mach):(H.adv prog I M).steps=M.steps+1∧(M.draws≤I.draws.length→(H.adv prog I M).draws≤I.draws.length)∧(M.fault≠1→(H.adv prog I M).fault≠1):=by
 have h:=Kp.doOp (M:={M with steps:=M.steps+1,next:=M.next+1}) (prog.getD M.next.toNat (0,0)).1 (prog.getD M.next.toNat (0,0)).2 I;exact⟨h.steps,h.draws,h.fault⟩
theorem okFrom_at (m:Nat):∀(l:List (Int×Int)) (k i:Nat) (x:Int×Int),H.okFrom m k l=true→l[i]? =some x→H.alone x.1 x.2=true∧H.lands m (k+i) x.1 x.2=true
 |[],k,i,x,h,hx=>by simp at hx
 |y::r,k,0,x,h,hx=>by
  simp only[H.okFrom,Bool.and_eq_true] at h;simp at hx;subst hx;exact⟨h.1.1,h.1.2⟩
 |y::r,k,i+1,x,h,hx=>by simp only[H.okFrom,Bool.and_eq_true] at h;have:=okFrom_at m r (k+1) i x h.2 (by simpa using hx);rwa [show k+1+i=k+(i+1) by omega] at this
theorem adv_ok {prog:List (Int×Int)} {M:H.Mach} (hp:H.okFrom prog.length 0 prog=true) (h:MOk prog.length M) (hlt:M.next<prog.length) (v:InV) (hv:v.ok) {ds:List Int} (hd:InR ds):MOk prog.length (H.adv prog (v.inp ds) M):=by
 have n0:=h.next0;have hx:prog[M.next.toNat]? =some (prog.getD M.next.toNat (0,0)):=by simp[List.getD,List.getElem?_eq_getElem (show M.next.toNat<prog.length by omega)]
 obtain⟨h1,h2⟩:=okFrom_at _ _ _ _ _ hp hx;rw[Nat.zero_add] at h2;unfold H.adv H.step;generalize prog.getD M.next.toNat (0,0)=x at*;have h':MOk prog.length {M with steps:=M.steps+1,next:=M.next+1}:=⟨h.st,h.cells,h.text,h.chars,by show 0≤M.next+1;omega,by show M.next+1≤_;omega⟩;refine h'.doOp v hv hd h1 (fun hj=>?_);unfold H.lands at h2;rw[if_pos hj] at h2;simp at h2;show 0≤M.next+1+x.2∧M.next+1+x.2≤_;omega
end Go.Proofs.YtidaflmmldefcaaGreat
namespace Go.Proofs.YtidaflmmldefcaaGreat
open Go.RowKit
theorem width_any (op:Int) (w:World): Calls Tryz.prog 63 #[.int .u8 op] w fun e w'=>e= .returned (.int .i64 (H.wid op))∧w=w':=by
 by_cases h1:op=1
 ·subst h1;go_enter Tryz.func63,Tryz.ntmps63;go_wp2;go_ret;exact⟨rfl,rfl⟩
 by_cases h2:op=2
 ·subst h2;go_enter Tryz.func63,Tryz.ntmps63;go_wp2;go_ret;exact⟨rfl,rfl⟩
 by_cases h3:op=3
 ·subst h3;go_enter Tryz.func63,Tryz.ntmps63;go_wp2;go_ret;exact⟨rfl,rfl⟩
 by_cases h16:op=16
 ·subst h16;go_enter Tryz.func63,Tryz.ntmps63;go_wp2;go_ret;exact⟨rfl,rfl⟩
 by_cases h17:op=17
 ·subst h17;go_enter Tryz.func63,Tryz.ntmps63;go_wp2;go_ret;exact⟨rfl,rfl⟩
 by_cases h25:op=25
 ·subst h25;go_enter Tryz.func63,Tryz.ntmps63;go_wp2;go_ret;exact⟨rfl,rfl⟩
 have e:H.wid op=0:=by simp[H.wid,h1,h2,h3,h16,h17,h25]
 rw[e];have b1:(op==1)=false:=by simpa using h1
 have b2:(op==2)=false:=by simpa using h2
 have b3:(op==3)=false:=by simpa using h3
 have b16:(op==16)=false:=by simpa using h16
 have b17:(op==17)=false:=by simpa using h17
 have b25:(op==25)=false:=by simpa using h25
 clear e h1 h2 h3 h16 h17 h25;go_enter Tryz.func63,Tryz.ntmps63;go_wp2;go_ret;exact⟨rfl,rfl⟩
theorem alone_1 (a:Int) (w:World): Calls Tryz.prog 62 #[.agg #[.int .u8 1,.int .i64 a]] w fun e w'=>e= .returned (.bool (H.alone 1 a))∧Below w.heap.size w w':=by
 have e:H.alone 1 a=decide (0≤a∧a≤65535):=by simp[H.alone]
 rw[e];clear e;by_cases h0:0≤a
 ·by_cases h2:a≤65535
  ·rw[show decide (0≤a∧a≤65535)=true by simp[h0,h2]];go_enter Tryz.func62,Tryz.ntmps62;go_wp2;go_ret;exact⟨rfl,(Below.refl _ _).alloc (Nat.le_refl _) _⟩
  ·rw[show decide (0≤a∧a≤65535)=false by simp;omega];go_enter Tryz.func62,Tryz.ntmps62;go_wp2;go_ret;exact⟨rfl,(Below.refl _ _).alloc (Nat.le_refl _) _⟩
 ·rw[show decide (0≤a∧a≤65535)=false by simp;omega];go_enter Tryz.func62,Tryz.ntmps62;go_wp2;go_ret;exact⟨rfl,(Below.refl _ _).alloc (Nat.le_refl _) _⟩
theorem alone_2 (a:Int) (w:World): Calls Tryz.prog 62 #[.agg #[.int .u8 2,.int .i64 a]] w fun e w'=>e= .returned (.bool (H.alone 2 a))∧Below w.heap.size w w':=by
 have e:H.alone 2 a=decide (0≤a∧a<8):=by simp[H.alone]
 rw[e];clear e;by_cases h0:0≤a
 ·by_cases h2:a<8
  ·rw[show decide (0≤a∧a<8)=true by simp[h0,h2]];go_enter Tryz.func62,Tryz.ntmps62;go_wp2;go_ret;exact⟨rfl,(Below.refl _ _).alloc (Nat.le_refl _) _⟩
  ·rw[show decide (0≤a∧a<8)=false by simp;omega];go_enter Tryz.func62,Tryz.ntmps62;go_wp2;go_ret;exact⟨rfl,(Below.refl _ _).alloc (Nat.le_refl _) _⟩
 ·rw[show decide (0≤a∧a<8)=false by simp;omega];go_enter Tryz.func62,Tryz.ntmps62;go_wp2;go_ret;exact⟨rfl,(Below.refl _ _).alloc (Nat.le_refl _) _⟩
theorem alone_3 (a:Int) (w:World): Calls Tryz.prog 62 #[.agg #[.int .u8 3,.int .i64 a]] w fun e w'=>e= .returned (.bool (H.alone 3 a))∧Below w.heap.size w w':=by
 have e:H.alone 3 a=decide (0≤a∧a<8):=by simp[H.alone]
 rw[e];clear e;by_cases h0:0≤a
 ·by_cases h2:a<8
  ·rw[show decide (0≤a∧a<8)=true by simp[h0,h2]];go_enter Tryz.func62,Tryz.ntmps62;go_wp2;go_ret;exact⟨rfl,(Below.refl _ _).alloc (Nat.le_refl _) _⟩
  ·rw[show decide (0≤a∧a<8)=false by simp;omega];go_enter Tryz.func62,Tryz.ntmps62;go_wp2;go_ret;exact⟨rfl,(Below.refl _ _).alloc (Nat.le_refl _) _⟩
 ·rw[show decide (0≤a∧a<8)=false by simp;omega];go_enter Tryz.func62,Tryz.ntmps62;go_wp2;go_ret;exact⟨rfl,(Below.refl _ _).alloc (Nat.le_refl _) _⟩
theorem alone_16 (a:Int) (w:World): Calls Tryz.prog 62 #[.agg #[.int .u8 16,.int .i64 a]] w fun e w'=>e= .returned (.bool (H.alone 16 a))∧Below w.heap.size w w':=by
 have e:H.alone 16 a=decide (-128≤a∧a≤127):=by simp[H.alone]
 rw[e];clear e;by_cases h0: -128≤a
 ·by_cases h2:a≤127
  ·rw[show decide (-128≤a∧a≤127)=true by simp[h0,h2]];go_enter Tryz.func62,Tryz.ntmps62;go_wp2;go_ret;exact⟨rfl,(Below.refl _ _).alloc (Nat.le_refl _) _⟩
  ·rw[show decide (-128≤a∧a≤127)=false by simp;omega];go_enter Tryz.func62,Tryz.ntmps62;go_wp2;go_ret;exact⟨rfl,(Below.refl _ _).alloc (Nat.le_refl _) _⟩
 ·rw[show decide (-128≤a∧a≤127)=false by simp;omega];go_enter Tryz.func62,Tryz.ntmps62;go_wp2;go_ret;exact⟨rfl,(Below.refl _ _).alloc (Nat.le_refl _) _⟩
theorem alone_17 (a:Int) (w:World): Calls Tryz.prog 62 #[.agg #[.int .u8 17,.int .i64 a]] w fun e w'=>e= .returned (.bool (H.alone 17 a))∧Below w.heap.size w w':=by
 have e:H.alone 17 a=decide (-128≤a∧a≤127):=by simp[H.alone]
 rw[e];clear e;by_cases h0: -128≤a
 ·by_cases h2:a≤127
  ·rw[show decide (-128≤a∧a≤127)=true by simp[h0,h2]];go_enter Tryz.func62,Tryz.ntmps62;go_wp2;go_ret;exact⟨rfl,(Below.refl _ _).alloc (Nat.le_refl _) _⟩
  ·rw[show decide (-128≤a∧a≤127)=false by simp;omega];go_enter Tryz.func62,Tryz.ntmps62;go_wp2;go_ret;exact⟨rfl,(Below.refl _ _).alloc (Nat.le_refl _) _⟩
 ·rw[show decide (-128≤a∧a≤127)=false by simp;omega];go_enter Tryz.func62,Tryz.ntmps62;go_wp2;go_ret;exact⟨rfl,(Below.refl _ _).alloc (Nat.le_refl _) _⟩
theorem alone_25 (a:Int) (w:World): Calls Tryz.prog 62 #[.agg #[.int .u8 25,.int .i64 a]] w fun e w'=>e= .returned (.bool (H.alone 25 a))∧Below w.heap.size w w':=by
 have e:H.alone 25 a=decide (0≤a∧a<4):=by simp[H.alone]
 rw[e];clear e;by_cases h0:0≤a
 ·by_cases h2:a<4
  ·rw[show decide (0≤a∧a<4)=true by simp[h0,h2]];go_enter Tryz.func62,Tryz.ntmps62;go_wp2;go_ret;exact⟨rfl,(Below.refl _ _).alloc (Nat.le_refl _) _⟩
  ·rw[show decide (0≤a∧a<4)=false by simp;omega];go_enter Tryz.func62,Tryz.ntmps62;go_wp2;go_ret;exact⟨rfl,(Below.refl _ _).alloc (Nat.le_refl _) _⟩
 ·rw[show decide (0≤a∧a<4)=false by simp;omega];go_enter Tryz.func62,Tryz.ntmps62;go_wp2;go_ret;exact⟨rfl,(Below.refl _ _).alloc (Nat.le_refl _) _⟩
theorem alone_any (op a:Int) (w:World): Calls Tryz.prog 62 #[.agg #[.int .u8 op,.int .i64 a]] w fun e w'=>e= .returned (.bool (H.alone op a))∧Below w.heap.size w w':=by
 by_cases h1:op=1
 ·subst h1;exact alone_1 a w
 by_cases h2:op=2
 ·subst h2;exact alone_2 a w
 by_cases h3:op=3
 ·subst h3;exact alone_3 a w
 by_cases h16:op=16
 ·subst h16;exact alone_16 a w
 by_cases h17:op=17
 ·subst h17;exact alone_17 a w
 by_cases h25:op=25
 ·subst h25;exact alone_25 a w
 have e:H.alone op a=decide (op≤27∧a=0):=by simp[H.alone,h1,h2,h3,h16,h17,h25]
 rw[e];clear e;have b1:(op==1)=false:=by simpa using h1
 have b2:(op==2)=false:=by simpa using h2
 have b3:(op==3)=false:=by simpa using h3
 have b16:(op==16)=false:=by simpa using h16
 have b17:(op==17)=false:=by simpa using h17
 have b25:(op==25)=false:=by simpa using h25
 clear h1 h2 h3 h16 h17 h25;by_cases h27:op≤27
 ·by_cases h0:a=0
  ·subst h0;rw[show decide (op≤27∧(0:Int)=0)=true by simp[h27]];go_enter Tryz.func62,Tryz.ntmps62;go_wp2;go_ret;exact⟨rfl,(Below.refl _ _).alloc (Nat.le_refl _) _⟩
  ·rw[show decide (op≤27∧a=0)=false by simp[h0]];have b0:(a==0)=false:=by simpa using h0
   clear h0;go_enter Tryz.func62,Tryz.ntmps62;go_wp2;go_ret;exact⟨rfl,(Below.refl _ _).alloc (Nat.le_refl _) _⟩
 ·rw[show decide (op≤27∧a=0)=false by simp[h27]];go_enter Tryz.func62,Tryz.ntmps62;go_wp2;go_ret;exact⟨rfl,(Below.refl _ _).alloc (Nat.le_refl _) _⟩
set_option linter.unusedVariables false
theorem or256 (x y:Nat) (hx:x<256) (hy:y<256):bits .or .i64 (wrap64 (wrap64 (x:Int)*256)) (wrap64 (y:Int))=256*x+y:=by
 have e1:wrap64 (wrap64 (x:Int)*256)=((x*256:Nat):Int):=by unfold wrap64;omega
 have e2:wrap64 (y:Int)=(y:Int):=by unfold wrap64;omega
 rw[e1,e2];have h1:(BitVec.ofInt 64 ((x*256:Nat):Int)).toNat=x*256:=ofInt_u64 _ (by omega);have h2:(BitVec.ofInt 64 (y:Int)).toNat=y:=ofInt_u64 _ (by omega);have h3:(BitVec.ofInt 64 ((x*256:Nat):Int)|||BitVec.ofInt 64 (y:Int)).toNat=x*256+y:=by rw[BitVec.toNat_or,h1,h2,nat_join 8 (x*256) y (by omega) (by omega)]
 show IntKind.i64.wrap ((BitVec.ofInt 64 ((x*256:Nat):Int)|||BitVec.ofInt 64 (y:Int)).toNat:Int)=_;rw[h3,IntKind.wrap_i64];omega
theorem wrap_i8 (x:Int):IntKind.i8.wrap x=if 128≤x%256 then x%256-256 else x%256:=by
 simp[IntKind.wrap,IntKind.bits,IntKind.signed]
theorem sg_conv (x:Nat) (hx:x<256):wrap64 (IntKind.i8.wrap (x:Int))=H.sg x:=by
 rw[wrap_i8];unfold H.sg wrap64;split<;>split<;>omega
theorem read_cut (s:ByteArray) (p:Nat) (w:World) (hs:s.size≤maxLen) (hp:p<s.size) (hw:s.size≤p+H.wid (H.at0 (H.bts s) p)): Calls Tryz.prog 61 #[.string s,.int .i64 p] w fun e w'=>e= .returned (.tuple #[.agg #[.int .u8 0,.int .i64 0],.bool false])∧Below w.heap.size w w':=by
 unfold maxLen at hs;rw[H.at0_bts s p hp] at hw;have hle:=H.wid_le (((s[p]).toNat:Nat):Int);have hw2:(s.size:Int)-p≤(H.wid (((s[p]).toNat:Nat):Int):Int):=by omega
 clear hw;go_enter Tryz.func61,Tryz.ntmps61;go_wp2_with (go_at_call 63;refine(width_any _ _).mono ?_;rintro e w' ⟨rfl,rfl⟩);exact bodyPost_ret (v:= .tuple #[.agg #[.int .u8 0,.int .i64 0],.bool false]) (by simp[results,Tryz.results61,go_sem]) rfl ⟨rfl,by (repeat (first|exact Below.refl _ _|assumption|refine Below.setCell ?_ (by first|exact Nat.le_refl _|(simp;done)|(simp;omega)) _|refine below_drewN ?_ _|refine Below.drew ?_|refine Below.alloc ?_ (by first|exact Nat.le_refl _|(simp;done)|(simp;omega)) _))⟩
theorem read_push (s:ByteArray) (p:Nat) (w:World) (hs:s.size≤maxLen) (hp:p+2<s.size) (hop:(s[p]'(by omega)).toNat=1): Calls Tryz.prog 61 #[.string s,.int .i64 p] w fun e w'=>e= .returned (.tuple #[.agg #[.int .u8 1,.int .i64 (256*(s[p+1]'(by omega)).toNat+(s[p+2]'(by omega)).toNat)],.bool true])∧Below w.heap.size w w':=by
 unfold maxLen at hs;have hp0:p<s.size:=by omega
 have hop2:(((s[p]'(by omega)).toNat:Nat):Int)=1:=by omega
 have hw:H.wid 1=2:=rfl;have hi1:(p:Int)+1<(s.size:Int):=by omega
 have hi2:(p:Int)+2<(s.size:Int):=by omega
 have hw1:IntKind.i64.wrap ((p:Int)+1)=(p:Int)+1:=by rw[IntKind.wrap_i64];omega
 have hw2:IntKind.i64.wrap ((p:Int)+2)=(p:Int)+2:=by rw[IntKind.wrap_i64];omega
 have h01:(0:Int)≤(p:Int)+1:=by omega
 have h02:(0:Int)≤(p:Int)+2:=by omega
 have hor:=or256 (s[p+1]'(by omega)).toNat (s[p+2]'(by omega)).toNat (s[p+1]'(by omega)).toNat_lt (s[p+2]'(by omega)).toNat_lt;go_enter Tryz.func61,Tryz.ntmps61;go_wp2_with (go_at_call 63;refine(width_any _ _).mono ?_;rintro e w' ⟨rfl,rfl⟩);go_quiet (fail);go_wp2;exact bodyPost_ret (v:= .tuple #[.agg #[.int .u8 1,.int .i64 (256*(s[p+1]'(by omega)).toNat+(s[p+2]'(by omega)).toNat)],.bool true]) (by simp[results,Tryz.results61,go_sem]) rfl ⟨rfl,by (repeat (first|exact Below.refl _ _|assumption|refine Below.setCell ?_ (by first|exact Nat.le_refl _|(simp;done)|(simp;omega)) _|refine below_drewN ?_ _|refine Below.drew ?_|refine Below.alloc ?_ (by first|exact Nat.le_refl _|(simp;done)|(simp;omega)) _))⟩
theorem read_jump (s:ByteArray) (p:Nat) (w:World) (o:Int) (ho:o=16∨o=17) (hs:s.size≤maxLen) (hp:p+1<s.size) (hop:((s[p]'(by omega)).toNat:Int)=o): Calls Tryz.prog 61 #[.string s,.int .i64 p] w fun e w'=>e= .returned (.tuple #[.agg #[.int .u8 o,.int .i64 (H.sg (s[p+1]'(by omega)).toNat)],.bool true])∧Below w.heap.size w w':=by
 unfold maxLen at hs;have hp0:p<s.size:=by omega
 have hi1:(p:Int)+1<(s.size:Int):=by omega
 have hsg:=sg_conv (s[p+1]'(by omega)).toNat (s[p+1]'(by omega)).toNat_lt;have hw:H.wid 16=1:=rfl;have hw17:H.wid 17=1:=rfl;rcases ho with rfl|rfl
 ·go_enter Tryz.func61,Tryz.ntmps61;go_wp2_with (go_at_call 63;refine(width_any _ _).mono ?_;rintro e w' ⟨rfl,rfl⟩);exact bodyPost_ret (v:= .tuple #[.agg #[.int .u8 16,.int .i64 (H.sg (s[p+1]'(by omega)).toNat)],.bool true]) (by simp[results,Tryz.results61,go_sem]) rfl ⟨rfl,by (repeat (first|exact Below.refl _ _|assumption|refine Below.setCell ?_ (by first|exact Nat.le_refl _|(simp;done)|(simp;omega)) _|refine below_drewN ?_ _|refine Below.drew ?_|refine Below.alloc ?_ (by first|exact Nat.le_refl _|(simp;done)|(simp;omega)) _))⟩
 ·go_enter Tryz.func61,Tryz.ntmps61;go_wp2_with (go_at_call 63;refine(width_any _ _).mono ?_;rintro e w' ⟨rfl,rfl⟩);exact bodyPost_ret (v:= .tuple #[.agg #[.int .u8 17,.int .i64 (H.sg (s[p+1]'(by omega)).toNat)],.bool true]) (by simp[results,Tryz.results61,go_sem]) rfl ⟨rfl,by (repeat (first|exact Below.refl _ _|assumption|refine Below.setCell ?_ (by first|exact Nat.le_refl _|(simp;done)|(simp;omega)) _|refine below_drewN ?_ _|refine Below.drew ?_|refine Below.alloc ?_ (by first|exact Nat.le_refl _|(simp;done)|(simp;omega)) _))⟩
theorem read_one (s:ByteArray) (p:Nat) (w:World) (o:Int) (ho:o=2∨o=3∨o=25) (hs:s.size≤maxLen) (hp:p+1<s.size) (hop:((s[p]'(by omega)).toNat:Int)=o): Calls Tryz.prog 61 #[.string s,.int .i64 p] w fun e w'=>e= .returned (.tuple #[.agg #[.int .u8 o,.int .i64 ((s[p+1]'(by omega)).toNat)],.bool true])∧Below w.heap.size w w':=by
 unfold maxLen at hs;have hp0:p<s.size:=by omega
 have hi1:(p:Int)+1<(s.size:Int):=by omega
 have hsg:wrap64 ((s[p+1]'(by omega)).toNat:Int)=((s[p+1]'(by omega)).toNat:Int):=by have:=(s[p+1]'(by omega)).toNat_lt;unfold wrap64;omega
 have hw2:H.wid 2=1:=rfl;have hw3:H.wid 3=1:=rfl;have hw25:H.wid 25=1:=rfl;rcases ho with rfl|rfl|rfl
 ·go_enter Tryz.func61,Tryz.ntmps61;go_wp2_with (go_at_call 63;refine(width_any _ _).mono ?_;rintro e w' ⟨rfl,rfl⟩);exact bodyPost_ret (v:= .tuple #[.agg #[.int .u8 2,.int .i64 ((s[p+1]'(by omega)).toNat)],.bool true]) (by simp[results,Tryz.results61,go_sem]) rfl ⟨rfl,by (repeat (first|exact Below.refl _ _|assumption|refine Below.setCell ?_ (by first|exact Nat.le_refl _|(simp;done)|(simp;omega)) _|refine below_drewN ?_ _|refine Below.drew ?_|refine Below.alloc ?_ (by first|exact Nat.le_refl _|(simp;done)|(simp;omega)) _))⟩
 ·go_enter Tryz.func61,Tryz.ntmps61;go_wp2_with (go_at_call 63;refine(width_any _ _).mono ?_;rintro e w' ⟨rfl,rfl⟩);exact bodyPost_ret (v:= .tuple #[.agg #[.int .u8 3,.int .i64 ((s[p+1]'(by omega)).toNat)],.bool true]) (by simp[results,Tryz.results61,go_sem]) rfl ⟨rfl,by (repeat (first|exact Below.refl _ _|assumption|refine Below.setCell ?_ (by first|exact Nat.le_refl _|(simp;done)|(simp;omega)) _|refine below_drewN ?_ _|refine Below.drew ?_|refine Below.alloc ?_ (by first|exact Nat.le_refl _|(simp;done)|(simp;omega)) _))⟩
 ·go_enter Tryz.func61,Tryz.ntmps61;go_wp2_with (go_at_call 63;refine(width_any _ _).mono ?_;rintro e w' ⟨rfl,rfl⟩);exact bodyPost_ret (v:= .tuple #[.agg #[.int .u8 25,.int .i64 ((s[p+1]'(by omega)).toNat)],.bool true]) (by simp[results,Tryz.results61,go_sem]) rfl ⟨rfl,by (repeat (first|exact Below.refl _ _|assumption|refine Below.setCell ?_ (by first|exact Nat.le_refl _|(simp;done)|(simp;omega)) _|refine below_drewN ?_ _|refine Below.drew ?_|refine Below.alloc ?_ (by first|exact Nat.le_refl _|(simp;done)|(simp;omega)) _))⟩
theorem read_none (s:ByteArray) (p:Nat) (w:World) (o:Int) (h1:o≠1) (h16:o≠16) (h17:o≠17) (h2:o≠2) (h3:o≠3) (h25:o≠25) (hs:s.size≤maxLen) (hp:p<s.size) (hop:((s[p]'(by omega)).toNat:Int)=o): Calls Tryz.prog 61 #[.string s,.int .i64 p] w fun e w'=>e= .returned (.tuple #[.agg #[.int .u8 o,.int .i64 0],.bool true])∧Below w.heap.size w w':=by
 unfold maxLen at hs;have hw:H.wid o=0:=by simp[H.wid,h1,h2,h3,h16,h17,h25]
 have b1:(o==1)=false:=by simpa using h1
 have b2:(o==2)=false:=by simpa using h2
 have b3:(o==3)=false:=by simpa using h3
 have b16:(o==16)=false:=by simpa using h16
 have b17:(o==17)=false:=by simpa using h17
 have b25:(o==25)=false:=by simpa using h25
 clear h1 h2 h3 h16 h17 h25;go_enter Tryz.func61,Tryz.ntmps61;go_wp2_with (go_at_call 63;refine(width_any _ _).mono ?_;rintro e w' ⟨rfl,rfl⟩);exact bodyPost_ret (v:= .tuple #[.agg #[.int .u8 o,.int .i64 0],.bool true]) (by simp[results,Tryz.results61,go_sem]) rfl ⟨rfl,by (repeat (first|exact Below.refl _ _|assumption|refine Below.setCell ?_ (by first|exact Nat.le_refl _|(simp;done)|(simp;omega)) _|refine below_drewN ?_ _|refine Below.drew ?_|refine Below.alloc ?_ (by first|exact Nat.le_refl _|(simp;done)|(simp;omega)) _))⟩
theorem read_any (s:ByteArray) (p:Nat) (w:World) (hs:s.size≤maxLen) (hp:p<s.size) (hw:p+H.wid (H.at0 (H.bts s) p)<s.size): Calls Tryz.prog 61 #[.string s,.int .i64 p] w fun e w'=>e= .returned (.tuple #[.agg #[.int .u8 (H.at0 (H.bts s) p),.int .i64 (H.opnd (H.bts s) p)],.bool true])∧Below w.heap.size w w':=by
 have e0:=H.at0_bts s p hp;by_cases h1:H.at0 (H.bts s) p=1
 ·rw[h1] at hw;have hw2:H.wid 1=2:=rfl;have e:H.opnd (H.bts s) p=256*((s[p+1]'(by omega)).toNat:Int)+(s[p+2]'(by omega)).toNat:=by unfold H.opnd;rw[if_pos h1,H.at0_bts s (p+1) (by omega),H.at0_bts s (p+2) (by omega)]
  rw[e,h1];exact read_push s p w hs (by omega) (by omega)
 by_cases hj:H.at0 (H.bts s) p=16∨H.at0 (H.bts s) p=17
 ·have hw2:H.wid (H.at0 (H.bts s) p)=1:=by rcases hj with h|h<;>rw[h]<;>rfl
  have e:H.opnd (H.bts s) p=H.sg ((s[p+1]'(by omega)).toNat:Int):=by unfold H.opnd;rw[if_neg h1,if_pos hj,H.at0_bts s (p+1) (by omega)]
  rw[e];exact read_jump s p w _ hj hs (by omega) e0.symm
 by_cases ho:H.at0 (H.bts s) p=2∨H.at0 (H.bts s) p=3∨H.at0 (H.bts s) p=25
 ·have hw2:H.wid (H.at0 (H.bts s) p)=1:=by rcases ho with h|h|h<;>rw[h]<;>rfl
  have e:H.opnd (H.bts s) p=((s[p+1]'(by omega)).toNat:Int):=by unfold H.opnd;rw[if_neg h1,if_neg hj,if_pos ho,H.at0_bts s (p+1) (by omega)]
  rw[e];exact read_one s p w _ ho hs (by omega) e0.symm
 have e:H.opnd (H.bts s) p=0:=by unfold H.opnd;rw[if_neg h1,if_neg hj,if_neg ho]
 rw[e];exact read_none s p w _ h1 (fun h=>hj (.inl h)) (fun h=>hj (.inr h)) (fun h=>ho (.inl h)) (fun h=>ho (.inr (.inl h))) (fun h=>ho (.inr (.inr h))) hs hp e0.symm
theorem lands_no (b off n cap i:Nat) (o a:Int) (w:World) (hi:i<n) (h16:o≠16) (h17:o≠17)
 (c0:w.cell? ⟨b,off+i*2,none⟩=some (.int .u8 o)) (c1:w.cell? ⟨b,off+i*2+1,none⟩=some (.int .i64 a)): Calls Tryz.prog 64 #[.slice (some ⟨b,off,none⟩) n cap,.int .i64 i] w fun e w'=>e= .returned (.bool true)∧Below w.heap.size w w':=by
 have b16:(o !=16)=true:=by simpa using h16
 have b17:(o !=17)=true:=by simpa using h17
 clear h16 h17;go_enter Tryz.func64,Tryz.ntmps64;go_wp2;go_ret;exact⟨rfl,by (repeat (first|exact Below.refl _ _|assumption|refine Below.setCell ?_ (by first|exact Nat.le_refl _|(simp;done)|(simp;omega)) _|refine below_drewN ?_ _|refine Below.drew ?_|refine Below.alloc ?_ (by first|exact Nat.le_refl _|(simp;done)|(simp;omega)) _))⟩
theorem lands_yes (b off n cap i:Nat) (o a:Int) (w:World) (hi:i<n) (hn:n≤64) (ho:o=16∨o=17) (ha: -128≤a) (hb:a≤127)
 (c0:w.cell? ⟨b,off+i*2,none⟩=some (.int .u8 o)) (c1:w.cell? ⟨b,off+i*2+1,none⟩=some (.int .i64 a)): Calls Tryz.prog 64 #[.slice (some ⟨b,off,none⟩) n cap,.int .i64 i] w fun e w'=>e= .returned (.bool (decide (0≤(i:Int)+1+a∧(i:Int)+1+a≤n)))∧Below w.heap.size w w':=by
 by_cases h0:0≤(i:Int)+1+a
 ·by_cases h2:(i:Int)+1+a≤n
  ·rw[show decide (0≤(i:Int)+1+a∧(i:Int)+1+a≤n)=true by simp[h0,h2]];rcases ho with rfl|rfl;all_goals
    go_enter Tryz.func64,Tryz.ntmps64;go_wp2;go_ret;exact⟨rfl,by (repeat (first|exact Below.refl _ _|assumption|refine Below.setCell ?_ (by first|exact Nat.le_refl _|(simp;done)|(simp;omega)) _|refine below_drewN ?_ _|refine Below.drew ?_|refine Below.alloc ?_ (by first|exact Nat.le_refl _|(simp;done)|(simp;omega)) _))⟩
  ·rw[show decide (0≤(i:Int)+1+a∧(i:Int)+1+a≤n)=false by simp;omega];rcases ho with rfl|rfl;all_goals
    go_enter Tryz.func64,Tryz.ntmps64;go_wp2;go_ret;exact⟨rfl,by (repeat (first|exact Below.refl _ _|assumption|refine Below.setCell ?_ (by first|exact Nat.le_refl _|(simp;done)|(simp;omega)) _|refine below_drewN ?_ _|refine Below.drew ?_|refine Below.alloc ?_ (by first|exact Nat.le_refl _|(simp;done)|(simp;omega)) _))⟩
 ·rw[show decide (0≤(i:Int)+1+a∧(i:Int)+1+a≤n)=false by simp;omega];rcases ho with rfl|rfl;all_goals
   go_enter Tryz.func64,Tryz.ntmps64;go_wp2;go_ret;exact⟨rfl,by (repeat (first|exact Below.refl _ _|assumption|refine Below.setCell ?_ (by first|exact Nat.le_refl _|(simp;done)|(simp;omega)) _|refine below_drewN ?_ _|refine Below.drew ?_|refine Below.alloc ?_ (by first|exact Nat.le_refl _|(simp;done)|(simp;omega)) _))⟩
theorem lands_any (b off n cap i:Nat) (o a:Int) (w:World) (hi:i<n) (hn:n≤64) (ha:H.alone o a=true)
 (c0:w.cell? ⟨b,off+i*2,none⟩=some (.int .u8 o)) (c1:w.cell? ⟨b,off+i*2+1,none⟩=some (.int .i64 a)): Calls Tryz.prog 64 #[.slice (some ⟨b,off,none⟩) n cap,.int .i64 i] w fun e w'=>e= .returned (.bool (H.lands n i o a))∧Below w.heap.size w w':=by
 by_cases ho:o=16∨o=17
 ·have hb: -128≤a∧a≤127:=by rcases ho with rfl|rfl<;>simpa[H.alone] using ha
  have e:H.lands n i o a=decide (0≤(i:Int)+1+a∧(i:Int)+1+a≤n):=by unfold H.lands;rw[if_pos ho]
  rw[e];exact lands_yes b off n cap i o a w hi hn ho hb.1 hb.2 c0 c1
 ·have e:H.lands n i o a=true:=by unfold H.lands;rw[if_neg ho]
  rw[e];exact lands_no b off n cap i o a w hi (fun h=>ho (.inl h)) (fun h=>ho (.inr h)) c0 c1
def InsRow (w:World) (b off:Nat) (l:List (Int×Int)):Prop:=∀i x,l[i]? =some x→w.cell? ⟨b,off+i*2,none⟩=some (.int .u8 x.1)∧w.cell? ⟨b,off+i*2+1,none⟩=some (.int .i64 x.2)
theorem InsRow.below {B:Nat} {w w':World} {b off:Nat} {l:List (Int×Int)} (h:InsRow w b off l) (hb:Below B w w') (hl:b<B):InsRow w' b off l:=by
 intro i x hx;obtain⟨h0,h1⟩:=h i x hx;exact⟨(hb.cell hl).trans h0,(hb.cell hl).trans h1⟩
end Go.Proofs.YtidaflmmldefcaaGreat
