/- Parts of the proof of Hosts: TenF, TenG, TenH, Code, CodeB, CodeC, CodeD, CodeE, Mach. -/
import Derived.Test.YtidaflmmldefcaaGreatQ03
import Derived.Deep.RegionWith
import Derived.Deep.Cut
import Derived.Deep.CutRange
import GoSem.Core.Utf8
set_option maxHeartbeats 8000000
namespace Go.Proofs.YtidaflmmldefcaaGreat
open Go.RowKit
set_option linter.unusedVariables false
def Tn.start (x:Tn) (route:Int):Tn:={x with phase:=1,box:=x.box++[⟨0,0,route,0⟩]}
def Tn.comeOn (x:Tn) (n route:Int) (on:Bool):Tn:=if x.phase=2∧x.until_≤n then (if on=true then x.goOut.start route else x.goOut)
 else if x.phase=1∧on=false then x.goOut
 else if x.phase=0∧on=true then x.start route else x
def Tn.come (x:Tn) (n route:Int):Tn:=x.comeOn n route (bitOf x.routes route)
theorem come_a0 {x:Tn} {n route:Int} (h:x.phase=2∧x.until_≤n):x.comeOn n route false=x.goOut:=by unfold Tn.comeOn;rw[if_pos h,if_neg (by simp)]
theorem come_a1 {x:Tn} {n route:Int} (h:x.phase=2∧x.until_≤n):x.comeOn n route true=x.goOut.start route:=by unfold Tn.comeOn;rw[if_pos h,if_pos rfl]
theorem come_b0 {x:Tn} {n route:Int} (h:x.phase=1):x.comeOn n route false=x.goOut:=by unfold Tn.comeOn;rw[if_neg (by rw[h];omega),if_pos ⟨h,rfl⟩]
theorem come_b1 {x:Tn} {n route:Int} (h:x.phase=1):x.comeOn n route true=x:=by unfold Tn.comeOn;rw[if_neg (by rw[h];omega),if_neg (by simp),if_neg (by rw[h];omega)]
theorem come_c0 {x:Tn} {n route:Int} (h:x.phase=0):x.comeOn n route false=x:=by unfold Tn.comeOn;rw[if_neg (by rw[h];omega),if_neg (by rw[h];omega),if_neg (by simp)]
theorem come_c1 {x:Tn} {n route:Int} (h:x.phase=0):x.comeOn n route true=x.start route:=by unfold Tn.comeOn;rw[if_neg (by rw[h];omega),if_neg (by simp),if_pos ⟨h,rfl⟩]
theorem come_d {x:Tn} {n route:Int} {on:Bool} (h:¬(x.phase=2∧x.until_≤n)) (h1:x.phase≠1) (h0:x.phase≠0):x.comeOn n route on=x:=by unfold Tn.comeOn;rw[if_neg h,if_neg (fun q=>h1 q.1),if_neg (fun q=>h0 q.1)]
theorem come_any {w:World} {tb o:Nat} {x:Tn} {nv bv lv:Value} (h:TenAt w tb o x nv bv lv) (n route:Int) (hl:x.box.length≤100000) (hr0:0≤x.routes) (hr1:x.routes≤255) (ht0:0≤route) (ht1:route≤255): Calls Tryz.prog 45 #[.pointer (some ⟨tb,o,none⟩),.int .i64 n,.int .u8 route] w fun e w'=>e= .returned (.tuple #[])∧TAft w tb o bv lv (x.come n route) w':=by
 have HT:Hid (TenAt w tb o x nv bv lv):=h;have c2:=h.slot.cell 2 rfl;have c7:=h.slot.cell 7 rfl;have c17:=h.slot.cell 17 rfl;have c19:=h.slot.cell 19 rfl;have fz:∀i,w.frozen? ⟨tb,i,none⟩=false:=fun i=>h.slot.free i;have HBit:Hid (Calls Tryz.prog 53 #[.int .u8 x.routes,.int .u8 route] w fun e w'=>e= .returned (.bool (bitOf x.routes route))∧w=w'):=hasBit_any x.routes route w hr0 hr1 ht0 ht1;have hwr:IntKind.u16.wrap route=route:=by rw[IntKind.wrap_u16];omega
 obtain⟨on,hon⟩:∃on,on=bitOf x.routes route:=⟨_,rfl⟩;have HCome:Hid (x.come n route=x.comeOn n route on):=by unfold Hid Tn.come;rw[←hon]
 rw[←hon] at HBit;obtain⟨p,hp⟩:∃p,p=x.phase:=⟨_,rfl⟩;obtain⟨un,hun⟩:∃un,un=x.until_:=⟨_,rfl⟩;rw[←hp] at c7;rw[←hun] at c19;have Hp:Hid (x.phase=p):=hp.symm;have Hun:Hid (x.until_=un):=hun.symm;have HL:Hid (x.box.length≤100000):=hl;have HGo:Hid (∀u,TenAt u tb o x nv bv lv→Calls Tryz.prog 54 #[.pointer (some ⟨tb,o,none⟩)] u fun e w'=>e= .returned (.tuple #[])∧TAft u tb o bv lv x.goOut w'):=fun u hu=>goOut_any hu;clear h hr0 hr1 hl hon hp hun;by_cases hA:p=2∧un≤n
 ·obtain⟨rfl,hun⟩:=hA;go_enter Tryz.func45,Tryz.ntmps45;go_wp2_with fail;refine HBit.out.mono ?_;rintro e w' ⟨rfl,rfl⟩;go_wp2_with fail;refine(HGo.out _ HT.out).mono ?_;rintro e w1 ⟨rfl,nv1,bv1,lv1,ht1',hf1,hm1,hm2⟩;have HT1:Hid (TenAt w1 tb o x.goOut nv1 bv1 lv1):=ht1';have HF1:Hid (TFr w w1 tb o bv lv):=hf1;have HMb:Hid (Moved w bv bv1):=hm1;have HMl:Hid (Moved w lv lv1):=hm2;have d7:w1.cell? ⟨tb,o+7,none⟩=some (.int .u8 0):=ht1'.slot.cell 7 rfl;have d17:=ht1'.slot.cell 17 rfl;have gz:∀i,w1.frozen? ⟨tb,i,none⟩=false:=fun i=>ht1'.slot.free i;obtain⟨ao,cap,hv,_⟩:=ht1'.box.shape;subst hv;have hb0:x.goOut.box.length=0:=rfl;rw[hb0] at d17;clear ht1' hf1 hm1 hm2 c2 c7 c17 c19 fz;cases on with
  |false=>
   have HE:Hid (x.come n route=x.goOut):=by unfold Hid;rw[HCome.out];exact come_a0 ⟨Hp.out,by rw[Hun.out];exact hun⟩
   go_wp2;go_end0;rw[HE.out];exact⟨rfl,_,_,_,HT1.out,HF1.out,HMb.out,HMl.out⟩
  |true=>
   have HE:Hid (x.come n route=x.goOut.start route):=by unfold Hid;rw[HCome.out];exact come_a1 ⟨Hp.out,by rw[Hun.out];exact hun⟩
   have HTs:Hid (TenAt (w1.setCell ⟨tb,o+7,none⟩ (.int .u8 1)) tb o {x.goOut with phase:=1} nv1 (.slice ao x.goOut.box.length cap) lv1):=HT1.out.set_phase 1;have HTa:Hid (TenAt ((w1.setCell ⟨tb,o+7,none⟩ (.int .u8 1)).alloc (.cells #[.int .u8 0,.int .u8 0,.int .u16 route,.int .u8 0] 78)) tb o {x.goOut with phase:=1} nv1 (.slice ao x.goOut.box.length cap) lv1):=HTs.out.alloc _;have hnw:=new_four (w1.setCell ⟨tb,o+7,none⟩ (.int .u8 1)) (.int .u8 0) (.int .u8 0) (.int .u16 route) (.int .u8 0) 78;rw[show(w1.setCell ⟨tb,o+7,none⟩ (.int .u8 1)).heap.size=w1.heap.size by simp[World.setCell]] at hnw;have HNw:Hid (∀j q,(Ev.mk 0 0 route 0).cells[j]? =some q→((w1.setCell ⟨tb,o+7,none⟩ (.int .u8 1)).alloc (.cells #[.int .u8 0,.int .u8 0,.int .u16 route,.int .u8 0] 78)).cell? ((⟨w1.heap.size,0,none⟩:Addr).add j)=some q):=hnw;clear hnw;go_wp2_with (at_builtin;refine wpList_append_box _ rfl (.tmp 55) (.tmp 59) rfl (.slice ao 0 cap) x.goOut.box ⟨0,0,route,0⟩ rfl HTa.out.box (by first|omega|(have:=HL.out;omega)|decide) ⟨w1.heap.size,0,none⟩ 1 rfl HNw.out ?_);intro a1 c1 w9 hb9 hg9 hm9;have HJ:Hid (TenAt (w9.setCell ⟨tb,o+17,none⟩ (.slice a1 (x.goOut.box.length+1) c1)) tb o (x.goOut.start route) nv1 (.slice a1 (x.goOut.box.length+1) c1) lv1):=HTa.out.joined hb9 hg9;have hs9:=(HTa.out.grow_box hg9).1;have k17:=hs9.cell 17 rfl;have kz:=hs9.free (o+17);have HF2:Hid (TFr w (w9.setCell ⟨tb,o+17,none⟩ (.slice a1 (x.goOut.box.length+1) c1)) tb o bv lv):=by
    refine TFr.set ?_ 17 (by decide) _;refine((HF1.out.set 7 (by decide) _).alloc (by simpa using HT1.out.slot.lt) _).grow hg9 (fun z hz=>?_) HTa.out.box_tb (by simp;have:=HT1.out.slot.lt;omega);rcases HMb.out z hz with e|e
    ·exact Or.inl (Or.inl e)
    ·exact Or.inr e
   have HMo:Hid (Moved w bv (.slice a1 (x.goOut.box.length+1) c1)):=by
    intro z hz;rcases hm9 z hz with e|e
    ·exact HMb.out z e.symm
    ·refine Or.inr ?_;have h1:=HF1.out.kept.size;try simp[World.setCell] at e
     omega
   clear hb9 hg9 hm9 hs9;go_wp2;go_end0;rw[HE.out];exact⟨rfl,nv1,_,lv1,HJ.out,HF2.out,HMo.out,HMl.out⟩
 ·have HA:Hid (¬(p=2∧un≤n)):=hA;have hsame:∀w',w'=w→TAft w tb o bv lv x w':=by intro w' e;subst e;exact⟨nv,bv,lv,HT.out,TFr.refl _ _ _ _ _,Moved.refl _ _,Moved.refl _ _⟩
  have HSame:Hid (∀w',w'=w→TAft w tb o bv lv x w'):=hsame;clear hsame;by_cases h1:p=1
  ·subst h1;clear hA;cases on with
   |false=>
    have HE:Hid (x.come n route=x.goOut):=by unfold Hid;rw[HCome.out];exact come_b0 Hp.out
    go_enter Tryz.func45,Tryz.ntmps45;go_wp2_with fail;refine HBit.out.mono ?_;rintro e w' ⟨rfl,rfl⟩;go_wp2_with fail;refine(HGo.out _ HT.out).mono ?_;rintro e w1 ⟨rfl,nv1,bv1,lv1,ht1',hf1,hm1,hm2⟩;have d7:w1.cell? ⟨tb,o+7,none⟩=some (.int .u8 0):=ht1'.slot.cell 7 rfl;have HZ:Hid (TAft w tb o bv lv x.goOut w1):=⟨nv1,bv1,lv1,ht1',hf1,hm1,hm2⟩;clear ht1' hf1 hm1 hm2 c2 c7 c17 c19 fz;go_wp2;go_end0;rw[HE.out];exact⟨rfl,HZ.out⟩
   |true=>
    have HE:Hid (x.come n route=x):=by unfold Hid;rw[HCome.out];exact come_b1 Hp.out
    go_enter Tryz.func45,Tryz.ntmps45;go_wp2_with fail;refine HBit.out.mono ?_;rintro e w' ⟨rfl,rfl⟩;go_wp2;go_end0;rw[HE.out];exact⟨rfl,HSame.out _ rfl⟩
  ·by_cases h0:p=0
   ·subst h0;clear hA h1;cases on with
    |false=>
     have HE:Hid (x.come n route=x):=by unfold Hid;rw[HCome.out];exact come_c0 Hp.out
     go_enter Tryz.func45,Tryz.ntmps45;go_wp2_with fail;refine HBit.out.mono ?_;rintro e w' ⟨rfl,rfl⟩;go_wp2;go_end0;rw[HE.out];exact⟨rfl,HSame.out _ rfl⟩
    |true=>
     have HE:Hid (x.come n route=x.start route):=by unfold Hid;rw[HCome.out];exact come_c1 Hp.out
     obtain⟨ao,cap,hv,_⟩:=HT.out.box.shape;subst hv;have HF1:Hid (TFr w w tb o (.slice ao x.box.length cap) lv):=TFr.refl _ _ _ _ _;have HMb:Hid (Moved w (.slice ao x.box.length cap) (.slice ao x.box.length cap)):=Moved.refl _ _;go_enter Tryz.func45,Tryz.ntmps45;go_wp2_with fail;refine HBit.out.mono ?_;rintro e w' ⟨rfl,rfl⟩;have HTs:Hid (TenAt (w.setCell ⟨tb,o+7,none⟩ (.int .u8 1)) tb o {x with phase:=1} nv (.slice ao x.box.length cap) lv):=HT.out.set_phase 1;have HTa:Hid (TenAt ((w.setCell ⟨tb,o+7,none⟩ (.int .u8 1)).alloc (.cells #[.int .u8 0,.int .u8 0,.int .u16 route,.int .u8 0] 78)) tb o {x with phase:=1} nv (.slice ao x.box.length cap) lv):=HTs.out.alloc _;have hnw:=new_four (w.setCell ⟨tb,o+7,none⟩ (.int .u8 1)) (.int .u8 0) (.int .u8 0) (.int .u16 route) (.int .u8 0) 78;rw[show(w.setCell ⟨tb,o+7,none⟩ (.int .u8 1)).heap.size=w.heap.size by simp[World.setCell]] at hnw;have HNw:Hid (∀j q,(Ev.mk 0 0 route 0).cells[j]? =some q→((w.setCell ⟨tb,o+7,none⟩ (.int .u8 1)).alloc (.cells #[.int .u8 0,.int .u8 0,.int .u16 route,.int .u8 0] 78)).cell? ((⟨w.heap.size,0,none⟩:Addr).add j)=some q):=hnw;clear hnw;go_wp2_with (at_builtin;refine wpList_append_box _ rfl (.tmp 55) (.tmp 59) rfl (.slice ao x.box.length cap) x.box ⟨0,0,route,0⟩ rfl HTa.out.box (by first|omega|(have:=HL.out;omega)|decide) ⟨w.heap.size,0,none⟩ 1 rfl HNw.out ?_);intro a1 c1 w9 hb9 hg9 hm9;have HJ:Hid (TenAt (w9.setCell ⟨tb,o+17,none⟩ (.slice a1 (x.box.length+1) c1)) tb o (x.start route) nv (.slice a1 (x.box.length+1) c1) lv):=HTa.out.joined hb9 hg9;have hs9:=(HTa.out.grow_box hg9).1;have k17:=hs9.cell 17 rfl;have kz:=hs9.free (o+17);have HF2:Hid (TFr w (w9.setCell ⟨tb,o+17,none⟩ (.slice a1 (x.box.length+1) c1)) tb o (.slice ao x.box.length cap) lv):=by
      refine TFr.set ?_ 17 (by decide) _;refine((HF1.out.set 7 (by decide) _).alloc (by simpa using HT.out.slot.lt) _).grow hg9 (fun z hz=>?_) HTa.out.box_tb (by simp;have:=HT.out.slot.lt;omega);rcases HMb.out z hz with e|e
      ·exact Or.inl (Or.inl e)
      ·exact Or.inr e
     have HMo:Hid (Moved w (.slice ao x.box.length cap) (.slice a1 (x.box.length+1) c1)):=by
      intro z hz;rcases hm9 z hz with e|e
      ·exact HMb.out z e.symm
      ·refine Or.inr ?_;have h1:=HF1.out.kept.size;try simp[World.setCell] at e
       omega
     clear hb9 hg9 hm9 hs9;go_wp2;go_end0;rw[HE.out];exact⟨rfl,nv,_,lv,HJ.out,HF2.out,HMo.out,Moved.refl _ _⟩
   ·have HE:Hid (x.come n route=x):=by unfold Hid;rw[HCome.out];exact come_d (by rw[Hp.out,Hun.out];exact HA.out) (by rw[Hp.out];exact h1) (by rw[Hp.out];exact h0)
    have b1:(p==1)=false:=by rw[beq_eq_false_iff_ne];exact h1
    have b0:(p==0)=false:=by rw[beq_eq_false_iff_ne];exact h0
    by_cases h2:p=2
    ·subst h2;have hun:¬un≤n:=fun h=>HA.out ⟨rfl,h⟩;clear hA h1 h0;go_enter Tryz.func45,Tryz.ntmps45;go_wp2_with fail;refine HBit.out.mono ?_;rintro e w' ⟨rfl,rfl⟩;go_wp2;go_end0;rw[HE.out];exact⟨rfl,HSame.out _ rfl⟩
    ·have b2:(p==2)=false:=by rw[beq_eq_false_iff_ne];exact h2
     clear hA h1 h0 h2;go_enter Tryz.func45,Tryz.ntmps45;go_wp2_with fail;refine HBit.out.mono ?_;rintro e w' ⟨rfl,rfl⟩;go_wp2;go_end0;rw[HE.out];exact⟨rfl,HSame.out _ rfl⟩
def Tn.receive (x:Tn) (n snd topic value:Int):Tn:=if x.phase=1∧bitOf x.sub topic=true then
  (if x.share≤(x.waiting (snd+1):Int) then x.note n 3 topic value else {x with box:=x.box++[⟨2,snd+1,value,topic⟩]})
 else x
theorem receive_any {w:World} {tb o:Nat} {x:Tn} {nv bv lv:Value} (h:TenAt w tb o x nv bv lv) (n snd topic value:Int) (hl:x.box.length≤100000) (hll:x.log.length≤100000) (hs0:0≤snd) (hs1:snd≤200) (ht0:0≤topic) (ht1:topic≤255) (hb0:0≤x.sub) (hb1:x.sub≤255): Calls Tryz.prog 56 #[.pointer (some ⟨tb,o,none⟩),.int .i64 n,.agg #[.int .i64 snd,.int .u8 topic,.int .u16 value]] w fun e w'=>e= .returned (.tuple #[])∧TAft w tb o bv lv (x.receive n snd topic value) w':=by
 have HT:Hid (TenAt w tb o x nv bv lv):=h;have htb:=h.slot.lt;have hne:¬tb=w.heap.size:=by omega
 have c4:=h.slot.cell 4 rfl;have c5:=h.slot.cell 5 rfl;have c7:=h.slot.cell 7 rfl;have fz:∀i,w.frozen? ⟨tb,i,none⟩=false:=fun i=>h.slot.free i;have HSame:Hid (∀q,TAft w tb o bv lv x ((w.alloc (.cells #[.int .i64 snd,.int .u8 topic,.int .u16 value] 110)).drewN q)):=fun q=>⟨nv,bv,lv,(h.alloc _).drewN q,((TFr.refl _ _ _ _ _).alloc htb _).drewN q,Moved.refl _ _,Moved.refl _ _⟩;have HBit:Hid (∀u,Calls Tryz.prog 53 #[.int .u8 x.sub,.int .u8 topic] u fun e w'=>e= .returned (.bool (bitOf x.sub topic))∧u=w'):=fun u=>hasBit_any x.sub topic u hb0 hb1 ht0 ht1;by_cases hp:x.phase=1
 ·obtain⟨on,hon⟩:∃on,on=bitOf x.sub topic:=⟨_,rfl⟩;rw[←hon] at HBit;rw[hp] at c7;cases on with
  |false=>
   have HE:Hid (x.receive n snd topic value=x):=by unfold Hid Tn.receive;rw[if_neg (by rw[←hon];simp)]
   clear h hon hp;go_enter Tryz.func56,Tryz.ntmps56;go_wp2_with fail;go_quiet ((go_at_call 53;exact(HBit.out _).mono fun _ _ h=>⟨h.1,_,h.2.symm⟩));go_wp2;refine bodyPost_ret (v:= .tuple #[]) (by simp[results,Tryz.results56]) rfl ⟨rfl,?_⟩;rw[HE.out];exact HSame.out _
  |true=>
   have HE:Hid (x.receive n snd topic value=if x.share≤(x.waiting (snd+1):Int) then x.note n 3 topic value else {x with box:=x.box++[⟨2,snd+1,value,topic⟩]}):=by unfold Hid Tn.receive;rw[if_pos ⟨hp,hon.symm⟩]
   have hw1:IntKind.i64.wrap (snd+1)=snd+1:=by rw[IntKind.wrap_i64];omega
   have hw2:IntKind.u8.wrap (snd+1)=snd+1:=by rw[IntKind.wrap_u8];omega
   have hw3:IntKind.u16.wrap topic=topic:=by rw[IntKind.wrap_u16];omega
   clear h hon hp;go_enter Tryz.func56,Tryz.ntmps56;go_wp2_with fail;go_quiet ((go_at_call 53;exact(HBit.out _).mono fun _ _ h=>⟨h.1,_,h.2.symm⟩));go_upto_region 3 with fail
   obtain⟨W,hW⟩:∃W,W=(w.alloc (.cells #[.int .i64 snd,.int .u8 topic,.int .u16 value] 110)).drewN nq:=⟨_,rfl⟩;have HTW:Hid (TenAt W tb o x nv bv lv):=by unfold Hid;rw[hW];exact(HT.out.alloc _).drewN nq
   have HFW:Hid (TFr w W tb o bv lv):=by unfold Hid;rw[hW];exact((TFr.refl _ _ _ _ _).alloc htb _).drewN nq
   have HLW:Hid (Blk W w.heap.size #[.int .i64 snd,.int .u8 topic,.int .u16 value] 110):=by unfold Hid;rw[hW];exact Blk.new w _ 110
   have hsW:w.heap.size≤W.heap.size:=HFW.out.kept.size;rw[←hW];clear hW c4 c5 c7 fz HSame;have HWt:Hid (∀u,Below W.heap.size W u→Calls Tryz.prog 69 #[.pointer (some ⟨tb,o,none⟩),.int .u8 (snd+1)] u fun e w'=>e= .returned (.int .i64 (x.waiting (snd+1):Int))∧Below u.heap.size u w'):=fun u hu=>waiting_any (HTW.out.below hu) (snd+1) hl;have HC5:Hid (∀u,Below W.heap.size W u→u.cell? ⟨tb,o+5,none⟩=some (.int .i64 x.share)):=fun u hu=>(HTW.out.below hu).slot.cell 5 rfl;have c5:=HC5.out W (Below.refl _ _);go_cut [36] from 28 to 36 (fun c wx=>c= .bool (decide (x.share≤(x.waiting (snd+1):Int)))∧Hid (Below W.heap.size W wx))
   case first=>
    go_region_with (go_at_call 69;refine(HWt.out _ (by first|exact Below.refl _ _|exact(Below.refl _ _).drew)).mono ?_;rintro e w1 ⟨rfl,hb1⟩;have hb2:Hid (Below W.heap.size W w1):=⟨hb1.os,hb1.tape,hb1.output,hb1.size,hb1.block⟩;have q5:=HC5.out w1 hb2.out;clear hb1)
    all_goals (try go_wp2_with fail)
    all_goals go_meet
    all_goals exact⟨rfl,hb2.out⟩
   case rest=>
    obtain⟨rfl,HBc⟩:=hcut;have HTc:Hid (TenAt wc tb o x nv bv lv):=HTW.out.below HBc.out;have HFc:Hid (TFr w wc tb o bv lv):=HFW.out.trans (TFr.of_below HBc.out HTW.out.slot.lt) (Moved.refl _ _) (Moved.refl _ _);have hL:=HLW.out.below HBc.out HLW.out.lt;have l0:wc.cell? ⟨w.heap.size,0,none⟩=some (.int .i64 snd):=by rw[hL.cell 0];rfl
    have l1:wc.cell? ⟨w.heap.size,1,none⟩=some (.int .u8 topic):=by rw[hL.cell 1];rfl
    have l2:wc.cell? ⟨w.heap.size,2,none⟩=some (.int .u16 value):=by rw[hL.cell 2];rfl
    have hsc:w.heap.size≤wc.heap.size:=HFc.out.kept.size;have hLc:¬w.heap.size=wc.heap.size:=by have:=hL.lt;omega
    clear hL c5;by_cases hq:x.share≤(x.waiting (snd+1):Int)
    ·have hd:decide (x.share≤(x.waiting (snd+1):Int))=true:=by simpa using hq
     rw[hd];have HE2:Hid (x.receive n snd topic value=x.note n 3 topic value):=by unfold Hid;rw[HE.out,if_pos hq]
     clear hq hd;go_wp2_with fail;refine(note_any HTc.out n 3 topic value hll).mono ?_;rintro e w2 ⟨rfl,ha⟩;have HA:Hid (TAft w tb o bv lv (x.note n 3 topic value) w2):=TAft.trans HFc.out (Moved.refl _ _) (Moved.refl _ _) ha;clear ha;go_wp2;refine bodyPost_ret (v:= .tuple #[]) (by simp[results,Tryz.results56]) rfl ⟨rfl,?_⟩;rw[HE2.out];exact HA.out
    ·have hd:decide (x.share≤(x.waiting (snd+1):Int))=false:=by simpa using hq
     rw[hd];have HE2:Hid (x.receive n snd topic value={x with box:=x.box++[⟨2,snd+1,value,topic⟩]}):=by unfold Hid;rw[HE.out,if_neg hq]
     clear hq hd;obtain⟨ao,cap,hv,_⟩:=HTc.out.box.shape;subst hv;have c17:=HTc.out.slot.cell 17 rfl;have htc:¬tb=wc.heap.size:=by have:=HTc.out.slot.lt;omega
     have r17:∀ob,(wc.alloc ob).cell? ⟨tb,o+17,none⟩=some (.slice ao x.box.length cap):=fun ob=>(HTc.out.alloc ob).slot.cell 17 rfl;have g17:∀ob,(wc.alloc ob).frozen? ⟨tb,o+17,none⟩=false:=fun ob=>(HTc.out.alloc ob).slot.free _;have fz:∀i,wc.frozen? ⟨tb,i,none⟩=false:=fun i=>HTc.out.slot.free i;have HTd:Hid (TenAt ((wc.alloc (.cells #[.int .u8 2,.int .u8 (snd+1),.int .u16 value,.int .u8 topic] 78)).drew) tb o x nv (.slice ao x.box.length cap) lv):=(HTc.out.alloc _).drew;have hnw:Hid (∀j q,(Ev.mk 2 (snd+1) value topic).cells[j]? =some q→((wc.alloc (.cells #[.int .u8 2,.int .u8 (snd+1),.int .u16 value,.int .u8 topic] 78)).drew).cell? ((⟨wc.heap.size,0,none⟩:Addr).add j)=some q):=new_four wc _ _ _ _ _;have HKEY:Hid (∀a1 c1 w3,BoxAt w3 (.slice a1 (x.box.length+1) c1) (x.box++[⟨2,snd+1,value,topic⟩])→((wc.alloc (.cells #[.int .u8 2,.int .u8 (snd+1),.int .u16 value,.int .u8 topic] 78)).drew).grownBy w3 (Value.ownBlock (.slice ao x.box.length cap))→Moved ((wc.alloc (.cells #[.int .u8 2,.int .u8 (snd+1),.int .u16 value,.int .u8 topic] 78)).drew) (.slice ao x.box.length cap) (.slice a1 (x.box.length+1) c1)→w3.cell? ⟨tb,o+17,none⟩=some (.slice ao x.box.length cap)∧w3.frozen? ⟨tb,o+17,none⟩=false∧Hid (TAft w tb o (.slice ao x.box.length cap) lv {x with box:=x.box++[⟨2,snd+1,value,topic⟩]} (w3.setCell ⟨tb,o+17,none⟩ (.slice a1 (x.box.length+1) c1)))):=by
      intro a1 c1 w3 hb3 hg3 hm3;have hs3:=(HTd.out.grow_box hg3).1;refine⟨hs3.cell 17 rfl,hs3.free _,nv,_,lv,HTd.out.joined hb3 hg3,?_,?_,Moved.refl _ _⟩
      ·refine TFr.set ?_ 17 (by decide) _;exact((HFc.out.alloc HTc.out.slot.lt _).drew).grow hg3 (fun z hz=>Or.inl (Or.inl hz.symm)) HTd.out.box_tb HTd.out.slot.lt
      ·intro z hz;rcases hm3 z hz with e|e
       ·exact Or.inl e
       ·refine Or.inr ?_;have e2:wc.heap.size+1≤z:=by simpa using e
        omega
     clear HBit HE HWt HC5;go_wp2_with fail;go_region_law (refine step_append_box rfl (.tmp 51) (.tmp 60) rfl (.slice ao x.box.length cap) x.box ⟨2,snd+1,value,topic⟩ (by simp[Act.eval]) HTd.out.box hl ⟨wc.heap.size,0,none⟩ 1 (by simp[Act.eval]) hnw.out ?_;intro a1 c1 w3 hb3 hg3 hm3;obtain⟨q17,p17,HZ⟩:=HKEY.out a1 c1 w3 hb3 hg3 hm3;clear hb3 hg3 hm3)
     all_goals go_wp2
     all_goals go_end0
     all_goals exact⟨rfl,by rw[HE2.out];exact HZ.out⟩
 ·have hpb:(x.phase !=1)=true:=by simpa using hp
  have HE:Hid (x.receive n snd topic value=x):=by unfold Hid Tn.receive;rw[if_neg (fun q=>hp q.1)]
  clear h hp;go_enter Tryz.func56,Tryz.ntmps56;go_wp2_with fail;go_quiet (fail);go_wp2;refine bodyPost_ret (v:= .tuple #[]) (by simp[results,Tryz.results56]) rfl ⟨rfl,?_⟩;rw[HE.out];exact HSame.out _
def heldShow:List Tr.T.Sh:=[(65535,⟨#[33]⟩)]
def Tn.hold (x:Tn) (n fault steps:Int):Tn:=({({x with phase:=2,until_:=n+x.back*2^x.dbl.toNat,dbl:=if x.dbl<4 then x.dbl+1 else x.dbl}:Tn).show heldShow with box:=[]}:Tn).note n 2 fault (steps%65536)
theorem hold_any {w:World} {tb o:Nat} {x:Tn} {nv bv lv:Value} (h:TenAt w tb o x nv bv lv) (n f s d k0 k1 k2 k3 k4 k5 k6 k7:Int) (sv dv:Value) (hll:x.log.length≤100000) (hb0:0≤x.back) (hb1:x.back≤100000) (hd0:0≤x.dbl) (hd1:x.dbl≤4) (hn0:0≤n) (hn1:n≤1000000) (hf0:0≤f) (hf1:f≤255) (hko:Tr.ndOk x.nodes): Calls Tryz.prog 67 #[.pointer (some ⟨tb,o,none⟩),.int .i64 n,.agg #[.int .u8 f,.int .i64 s,.int .i64 d,.int .u16 k0,.int .u16 k1,.int .u16 k2,.int .u16 k3,.int .u16 k4,.int .u16 k5,.int .u16 k6,.int .u16 k7,sv,dv]] w fun e w'=>e= .returned (.tuple #[])∧TAft w tb o bv lv (x.hold n f s) w':=by
 have HT:Hid (TenAt w tb o x nv bv lv):=h;have htb:=h.slot.lt;obtain⟨OB,hOB⟩:∃OB,OB=Obj.cells #[.int .u8 f,.int .i64 s,.int .i64 d,.int .u16 k0,.int .u16 k1,.int .u16 k2,.int .u16 k3,.int .u16 k4,.int .u16 k5,.int .u16 k6,.int .u16 k7,sv,dv] 124:=⟨_,rfl⟩;have hne:¬tb=w.heap.size:=by omega
 have hne':¬w.heap.size=tb:=by omega
 have c6:=h.slot.cell 6 rfl;have c7:=h.slot.cell 7 rfl;have c19:=h.slot.cell 19 rfl;have c20:=h.slot.cell 20 rfl;have fz:∀i,w.frozen? ⟨tb,i,none⟩=false:=fun i=>h.slot.free i;have hpw:x.back*2^x.dbl.toNat≤100000*16:=by
  have h1:(2:Int)^x.dbl.toNat≤16:=by rcases(show x.dbl.toNat=0∨x.dbl.toNat=1∨x.dbl.toNat=2∨x.dbl.toNat=3∨x.dbl.toNat=4 by omega) with e|e|e|e|e<;>rw[e]<;>decide
  have h2:(0:Int)≤2^x.dbl.toNat:=Int.pow_nonneg (by decide);exact Int.mul_le_mul hb1 h1 h2 (by decide)
 have hpw0:0≤x.back*2^x.dbl.toNat:=Int.mul_nonneg hb0 (Int.pow_nonneg (by decide));have HKo:Hid (Tr.ndOk x.nodes):=hko;obtain⟨un,hun⟩:∃un,un=n+x.back*2^x.dbl.toNat:=⟨_,rfl⟩;obtain⟨D,hD⟩:∃D,D=(if x.dbl<4 then x.dbl+1 else x.dbl):=⟨_,rfl⟩;have HE:Hid (x.hold n f s=({({x with phase:=2,until_:=un,dbl:=D}:Tn).show heldShow with box:=[]}:Tn).note n 2 f (s%65536)):=by unfold Hid Tn.hold;rw[hun,hD]
 have HUn:Hid (un=n+x.back*2^x.dbl.toNat):=hun;have hf:IntKind.u16.wrap f=f:=by rw[IntKind.wrap_u16];omega
 have hsw:IntKind.u16.wrap s=s%65536:=by simp[IntKind.wrap,IntKind.signed,IntKind.bits]
 clear h hko hun;go_enter Tryz.func67,Tryz.ntmps67;go_upto_region 2 with fail
 go_region
 obtain⟨W3,hW3⟩:∃W3,W3=(((w.setCell ⟨tb,o+7,none⟩ (.int .u8 2)).setCell ⟨tb,o+19,none⟩ (.int .i64 (n+x.back*2^x.dbl.toNat))).alloc (.cells #[.int .u8 f,.int .i64 s,.int .i64 d,.int .u16 k0,.int .u16 k1,.int .u16 k2,.int .u16 k3,.int .u16 k4,.int .u16 k5,.int .u16 k6,.int .u16 k7,sv,dv] 124)).drew:=⟨_,rfl⟩;have HT3:Hid (TenAt W3 tb o {x with phase:=2,until_:=un} nv bv lv):=by unfold Hid;rw[hW3,HUn.out];exact(((HT.out.set_phase 2).set_until (n+x.back*2^x.dbl.toNat)).alloc _).drew
 have HF3:Hid (TFr w W3 tb o bv lv):=by unfold Hid;rw[hW3];exact((((TFr.refl _ _ _ _ _).set 7 (by decide) _).set 19 (by decide) _).alloc (by simpa using htb) _).drew
 have HO3:Hid (Blk W3 w.heap.size #[.int .u8 f,.int .i64 s,.int .i64 d,.int .u16 k0,.int .u16 k1,.int .u16 k2,.int .u16 k3,.int .u16 k4,.int .u16 k5,.int .u16 k6,.int .u16 k7,sv,dv] 124):=by unfold Hid;rw[hW3];have h:=Blk.new ((w.setCell ⟨tb,o+7,none⟩ (.int .u8 2)).setCell ⟨tb,o+19,none⟩ (.int .i64 (n+x.back*2^x.dbl.toNat))) #[.int .u8 f,.int .i64 s,.int .i64 d,.int .u16 k0,.int .u16 k1,.int .u16 k2,.int .u16 k3,.int .u16 k4,.int .u16 k5,.int .u16 k6,.int .u16 k7,sv,dv] 124;rw[show((w.setCell ⟨tb,o+7,none⟩ (.int .u8 2)).setCell ⟨tb,o+19,none⟩ (.int .i64 (n+x.back*2^x.dbl.toNat))).heap.size=w.heap.size by simp[World.setCell]] at h;exact h
 rw[←hW3];clear hW3 c6 c7 c19 c20 fz hpw hpw0;have c20:W3.cell? ⟨tb,o+20,none⟩=some (.int .u8 x.dbl):=HT3.out.slot.cell 20 rfl;have fz:∀i,W3.frozen? ⟨tb,i,none⟩=false:=fun i=>HT3.out.slot.free i;by_cases hd4:x.dbl<4
 ·have hw:IntKind.u8.wrap (x.dbl+1)=x.dbl+1:=by rw[IntKind.wrap_u8];omega
  have HDe:Hid (D=x.dbl+1):=by unfold Hid;rw[hD,if_pos hd4]
  go_upto_region 5 with fail
  obtain⟨W4,hW4⟩:∃W4,W4=W3.setCell ⟨tb,o+20,none⟩ (.int .u8 (x.dbl+1)):=⟨_,rfl⟩;have HT4:Hid (TenAt W4 tb o {x with phase:=2,until_:=un,dbl:=D} nv bv lv):=by unfold Hid;rw[hW4,HDe.out];exact HT3.out.set_dbl (x.dbl+1)
  have HF4:Hid (TFr w W4 tb o bv lv):=by unfold Hid;rw[hW4];exact HF3.out.set 20 (by decide) _
  have HO4:Hid (Blk W4 w.heap.size #[.int .u8 f,.int .i64 s,.int .i64 d,.int .u16 k0,.int .u16 k1,.int .u16 k2,.int .u16 k3,.int .u16 k4,.int .u16 k5,.int .u16 k6,.int .u16 k7,sv,dv] 124):=by unfold Hid;rw[hW4];exact HO3.out.other ⟨tb,o+20,none⟩ _ (by simpa using hne')
  rw[←hW4];clear hW4 c20 fz HT3 HF3 HO3 HDe hw;have HSh:Hid (Tr.ShAt (W4.alloc (.cells #[.int .u16 65535,.string ⟨#[33]⟩] 132)) (some ⟨W4.heap.size,0,none⟩) heldShow):=by
   refine Or.inr ⟨W4.heap.size,0,rfl,by simp,?_⟩;intro i y hy;have hb:=Blk.new W4 #[.int .u16 65535,.string ⟨#[33]⟩] 132;match i,hy with
   |0,hy=>simp[heldShow] at hy;subst hy;exact⟨by rw[hb.cell];rfl,by rw[hb.cell];rfl⟩
   |(i+1),hy=>simp[heldShow] at hy
  have HT5:Hid (TenAt (W4.alloc (.cells #[.int .u16 65535,.string ⟨#[33]⟩] 132)) tb o {x with phase:=2,until_:=un,dbl:=D} nv bv lv):=HT4.out.alloc _;have HF5:Hid (TFr w (W4.alloc (.cells #[.int .u16 65535,.string ⟨#[33]⟩] 132)) tb o bv lv):=HF4.out.alloc HT4.out.slot.lt _;have HO5:Hid (Blk (W4.alloc (.cells #[.int .u16 65535,.string ⟨#[33]⟩] 132)) w.heap.size #[.int .u8 f,.int .i64 s,.int .i64 d,.int .u16 k0,.int .u16 k1,.int .u16 k2,.int .u16 k3,.int .u16 k4,.int .u16 k5,.int .u16 k6,.int .u16 k7,sv,dv] 124):=HO4.out.alloc _;clear HT4 HF4 HO4;go_wp2_with fail;refine(tshow_any HT5.out (some ⟨W4.heap.size,0,none⟩) 1 heldShow (by decide) HSh.out (by intro y hy;simp[heldShow] at hy;subst hy;exact⟨by decide,by unfold maxLen;decide⟩) HKo.out).mono ?_;rintro e w6 ⟨rfl,nv6,bv6,lv6,ht6,hf6,hm6,hm7⟩;have HT6:Hid (TenAt w6 tb o (({x with phase:=2,until_:=un,dbl:=D}:Tn).show heldShow) nv6 bv6 lv6):=ht6;have HF6:Hid (TFr w w6 tb o bv lv):=HF5.out.trans hf6 (Moved.refl _ _) (Moved.refl _ _);have HM6:Hid (Moved w bv bv6∧Moved w lv lv6):=⟨(Moved.refl w bv).trans hm6 HF5.out.kept.size,(Moved.refl w lv).trans hm7 HF5.out.kept.size⟩;have HO6:Hid (Blk w6 w.heap.size #[.int .u8 f,.int .i64 s,.int .i64 d,.int .u16 k0,.int .u16 k1,.int .u16 k2,.int .u16 k3,.int .u16 k4,.int .u16 k5,.int .u16 k6,.int .u16 k7,sv,dv] 124):=by
   refine HO5.out.of_block (hf6.kept.block _ HO5.out.lt ?_);obtain⟨c1,q1,_⟩:=HT5.out.slot;intro q;rcases q with q|q|q
   ·exact HO5.out.ne q1 (by decide) q
   ·obtain⟨c2,q2⟩:=HT5.out.box.blk q.symm;exact HO5.out.ne q2 (by decide) rfl
   ·exact HO5.out.ne_own HT5.out.log (by decide) q
  have c17:=ht6.slot.cell 17 rfl;have fz6:∀i,w6.frozen? ⟨tb,i,none⟩=false:=fun i=>ht6.slot.free i;have o0:w6.cell? ⟨w.heap.size,0,none⟩=some (.int .u8 f):=by rw[HO6.out.cell 0];rfl
  have o1:w6.cell? ⟨w.heap.size,1,none⟩=some (.int .i64 s):=by rw[HO6.out.cell 1];rfl
  obtain⟨ao,cap,hv,_⟩:=ht6.box.shape;subst hv;clear ht6 hf6 hm6 hm7 HT5 HF5 HO5 HSh;obtain⟨W7,hW7⟩:∃W7,W7=w6.setCell ⟨tb,o+17,none⟩ (.slice none 0 0):=⟨_,rfl⟩;go_upto_region 7 with fail
  rw[←hW7];have HT7:Hid (TenAt W7 tb o {({x with phase:=2,until_:=un,dbl:=D}:Tn).show heldShow with box:=[]} nv6 (.slice none 0 0) lv6):=by unfold Hid;rw[hW7];exact HT6.out.set_box (BoxAt.nil _)
  have HF7:Hid (TFr w W7 tb o bv lv):=by unfold Hid;rw[hW7];exact HF6.out.set 17 (by decide) _
  have p0:W7.cell? ⟨w.heap.size,0,none⟩=some (.int .u8 f):=by rw[hW7];rw[(HO6.out.other ⟨tb,o+17,none⟩ (.slice none 0 0) (by simpa using hne')).cell 0];rfl
  have p1:W7.cell? ⟨w.heap.size,1,none⟩=some (.int .i64 s):=by rw[hW7];rw[(HO6.out.other ⟨tb,o+17,none⟩ (.slice none 0 0) (by simpa using hne')).cell 1];rfl
  clear hW7 c17 fz6 o0 o1 HT6 HF6 HO6;go_wp2_with fail;refine(note_any HT7.out n 2 f (s%65536) hll).mono ?_;rintro e w8 ⟨rfl,ha⟩;have HA:Hid (TAft w tb o bv lv (x.hold n f s) w8):=by unfold Hid;rw[HE.out];exact TAft.trans HF7.out (Moved.nil _ _) HM6.out.2 ha
  clear ha;go_wp2;go_end0;exact⟨rfl,HA.out⟩
 ·have HDe:Hid (D=x.dbl):=by unfold Hid;rw[hD,if_neg hd4]
  go_upto_region 5 with fail
  obtain⟨W4,hW4⟩:∃W4,W4=W3:=⟨_,rfl⟩;have HT4:Hid (TenAt W4 tb o {x with phase:=2,until_:=un,dbl:=D} nv bv lv):=by unfold Hid;rw[hW4,HDe.out];exact HT3.out
  have HF4:Hid (TFr w W4 tb o bv lv):=by unfold Hid;rw[hW4];exact HF3.out
  have HO4:Hid (Blk W4 w.heap.size #[.int .u8 f,.int .i64 s,.int .i64 d,.int .u16 k0,.int .u16 k1,.int .u16 k2,.int .u16 k3,.int .u16 k4,.int .u16 k5,.int .u16 k6,.int .u16 k7,sv,dv] 124):=by unfold Hid;rw[hW4];exact HO3.out
  rw[←hW4];clear hW4 c20 fz HT3 HF3 HO3 HDe;have HSh:Hid (Tr.ShAt (W4.alloc (.cells #[.int .u16 65535,.string ⟨#[33]⟩] 132)) (some ⟨W4.heap.size,0,none⟩) heldShow):=by
   refine Or.inr ⟨W4.heap.size,0,rfl,by simp,?_⟩;intro i y hy;have hb:=Blk.new W4 #[.int .u16 65535,.string ⟨#[33]⟩] 132;match i,hy with
   |0,hy=>simp[heldShow] at hy;subst hy;exact⟨by rw[hb.cell];rfl,by rw[hb.cell];rfl⟩
   |(i+1),hy=>simp[heldShow] at hy
  have HT5:Hid (TenAt (W4.alloc (.cells #[.int .u16 65535,.string ⟨#[33]⟩] 132)) tb o {x with phase:=2,until_:=un,dbl:=D} nv bv lv):=HT4.out.alloc _;have HF5:Hid (TFr w (W4.alloc (.cells #[.int .u16 65535,.string ⟨#[33]⟩] 132)) tb o bv lv):=HF4.out.alloc HT4.out.slot.lt _;have HO5:Hid (Blk (W4.alloc (.cells #[.int .u16 65535,.string ⟨#[33]⟩] 132)) w.heap.size #[.int .u8 f,.int .i64 s,.int .i64 d,.int .u16 k0,.int .u16 k1,.int .u16 k2,.int .u16 k3,.int .u16 k4,.int .u16 k5,.int .u16 k6,.int .u16 k7,sv,dv] 124):=HO4.out.alloc _;clear HT4 HF4 HO4;go_wp2_with fail;refine(tshow_any HT5.out (some ⟨W4.heap.size,0,none⟩) 1 heldShow (by decide) HSh.out (by intro y hy;simp[heldShow] at hy;subst hy;exact⟨by decide,by unfold maxLen;decide⟩) HKo.out).mono ?_;rintro e w6 ⟨rfl,nv6,bv6,lv6,ht6,hf6,hm6,hm7⟩;have HT6:Hid (TenAt w6 tb o (({x with phase:=2,until_:=un,dbl:=D}:Tn).show heldShow) nv6 bv6 lv6):=ht6;have HF6:Hid (TFr w w6 tb o bv lv):=HF5.out.trans hf6 (Moved.refl _ _) (Moved.refl _ _);have HM6:Hid (Moved w bv bv6∧Moved w lv lv6):=⟨(Moved.refl w bv).trans hm6 HF5.out.kept.size,(Moved.refl w lv).trans hm7 HF5.out.kept.size⟩;have HO6:Hid (Blk w6 w.heap.size #[.int .u8 f,.int .i64 s,.int .i64 d,.int .u16 k0,.int .u16 k1,.int .u16 k2,.int .u16 k3,.int .u16 k4,.int .u16 k5,.int .u16 k6,.int .u16 k7,sv,dv] 124):=by
   refine HO5.out.of_block (hf6.kept.block _ HO5.out.lt ?_);obtain⟨c1,q1,_⟩:=HT5.out.slot;intro q;rcases q with q|q|q
   ·exact HO5.out.ne q1 (by decide) q
   ·obtain⟨c2,q2⟩:=HT5.out.box.blk q.symm;exact HO5.out.ne q2 (by decide) rfl
   ·exact HO5.out.ne_own HT5.out.log (by decide) q
  have c17:=ht6.slot.cell 17 rfl;have fz6:∀i,w6.frozen? ⟨tb,i,none⟩=false:=fun i=>ht6.slot.free i;have o0:w6.cell? ⟨w.heap.size,0,none⟩=some (.int .u8 f):=by rw[HO6.out.cell 0];rfl
  have o1:w6.cell? ⟨w.heap.size,1,none⟩=some (.int .i64 s):=by rw[HO6.out.cell 1];rfl
  obtain⟨ao,cap,hv,_⟩:=ht6.box.shape;subst hv;clear ht6 hf6 hm6 hm7 HT5 HF5 HO5 HSh;obtain⟨W7,hW7⟩:∃W7,W7=w6.setCell ⟨tb,o+17,none⟩ (.slice none 0 0):=⟨_,rfl⟩;go_upto_region 7 with fail
  rw[←hW7];have HT7:Hid (TenAt W7 tb o {({x with phase:=2,until_:=un,dbl:=D}:Tn).show heldShow with box:=[]} nv6 (.slice none 0 0) lv6):=by unfold Hid;rw[hW7];exact HT6.out.set_box (BoxAt.nil _)
  have HF7:Hid (TFr w W7 tb o bv lv):=by unfold Hid;rw[hW7];exact HF6.out.set 17 (by decide) _
  have p0:W7.cell? ⟨w.heap.size,0,none⟩=some (.int .u8 f):=by rw[hW7];rw[(HO6.out.other ⟨tb,o+17,none⟩ (.slice none 0 0) (by simpa using hne')).cell 0];rfl
  have p1:W7.cell? ⟨w.heap.size,1,none⟩=some (.int .i64 s):=by rw[hW7];rw[(HO6.out.other ⟨tb,o+17,none⟩ (.slice none 0 0) (by simpa using hne')).cell 1];rfl
  clear hW7 c17 fz6 o0 o1 HT6 HF6 HO6;go_wp2_with fail;refine(note_any HT7.out n 2 f (s%65536) hll).mono ?_;rintro e w8 ⟨rfl,ha⟩;have HA:Hid (TAft w tb o bv lv (x.hold n f s) w8):=by unfold Hid;rw[HE.out];exact TAft.trans HF7.out (Moved.nil _ _) HM6.out.2 ha
  clear ha;go_wp2;go_end0;exact⟨rfl,HA.out⟩
end Go.Proofs.YtidaflmmldefcaaGreat
namespace Go.Proofs.YtidaflmmldefcaaGreat
namespace H
def wid (op:Int):Nat:=if op=1 then 2 else if op=2∨op=3∨op=16∨op=17∨op=25 then 1 else 0
def alone (op a:Int):Bool:=if op=1 then decide (0≤a∧a≤65535)
 else if op=2∨op=3 then decide (0≤a∧a<8)
 else if op=16∨op=17 then decide (-128≤a∧a≤127)
 else if op=25 then decide (0≤a∧a<4)
 else decide (op≤27∧a=0)
theorem wid_le (op:Int):wid op≤2:=by
 unfold wid;split
 ·omega
 ·split<;>omega
def bts (s:ByteArray):List Int:=s.data.toList.map fun b=>(b.toNat:Int)
theorem bts_length (s:ByteArray):(bts s).length=s.size:=by simp[bts]
def at0 (L:List Int) (i:Nat):Int:=L.getD i 0
theorem at0_bts (s:ByteArray) (i:Nat) (h:i<s.size):at0 (bts s) i=((s[i]).toNat:Int):=by
 have h2:i<s.data.toList.length:=by simpa using h
 simp only[at0,bts,List.getD,List.getElem?_map,List.getElem?_eq_getElem h2,Option.map_some,Option.getD_some];rfl
theorem at0_bts_range (s:ByteArray) (i:Nat):0≤at0 (bts s) i∧at0 (bts s) i≤255:=by
 by_cases h:i<s.size
 ·rw[at0_bts s i h];have:=(s[i]).toNat_lt;omega
 ·have:(bts s).length≤i:=by rw[bts_length];omega
  simp[at0,List.getD,List.getElem?_eq_none this]
def sg (b:Int):Int:=if b<128 then b else b-256
def opnd (L:List Int) (p:Nat):Int:=if at0 L p=1 then 256*at0 L (p+1)+at0 L (p+2)
 else if at0 L p=16∨at0 L p=17 then sg (at0 L (p+1))
 else if at0 L p=2∨at0 L p=3∨at0 L p=25 then at0 L (p+1)
 else 0
def lands (n i:Nat) (o a:Int):Bool:=if o=16∨o=17 then decide (0≤(i:Int)+1+a∧(i:Int)+1+a≤n) else true
def enc (o a:Int):List Int:=if wid o=2 then [o,a/256%256,a%256] else if wid o=1 then [o,a%256] else [o]
theorem enc_length (o a:Int):(enc o a).length=1+wid o:=by
 have h:=wid_le o;unfold enc;by_cases h2:wid o=2
 ·simp[h2]
 ·by_cases h1:wid o=1
  ·simp[h1]
  ·have h0:wid o=0:=by omega
   simp[h0]
end H
end Go.Proofs.YtidaflmmldefcaaGreat
namespace Go.Proofs.YtidaflmmldefcaaGreat
namespace H
def encAll (l:List (Int×Int)):List Int:=l.flatMap fun x=>enc x.1 x.2
def okFrom (n:Nat):Nat→List (Int×Int)→Bool
 |_,[]=>true
 |i,x::r=>alone x.1 x.2&&lands n i x.1 x.2&&okFrom n (i+1) r
theorem encAll_length (l:List (Int×Int)):l.length≤(encAll l).length∧(encAll l).length≤3*l.length:=by
 unfold encAll;induction l with
 |nil=>simp
 |cons x r ih=>have h1:=enc_length x.1 x.2;have h2:=wid_le x.1;simp only[List.flatMap_cons,List.length_append,List.length_cons];omega
theorem encAll_snoc (l:List (Int×Int)) (x:Int×Int):encAll (l++[x])=encAll l++enc x.1 x.2:=by
 simp[encAll]
theorem drop_cons (l:List (Int×Int)) (k:Nat) (x:Int×Int) (h:l[k]? =some x):l.drop k=x::l.drop (k+1):=by
 obtain⟨hk,hx⟩:=List.getElem?_eq_some_iff.1 h;rw[List.drop_eq_getElem_cons hk,hx]
end H
end Go.Proofs.YtidaflmmldefcaaGreat
namespace Go.Proofs.YtidaflmmldefcaaGreat
namespace H
def scan:Nat→List Int→Nat→List (Int×Int)→List (Int×Int)×Option Nat
 |0,_,_,acc=>(acc,none)
 |f+1,L,p,acc=>
  if p<L.length then
   if p+wid (at0 L p)<L.length∧acc.length≠64∧alone (at0 L p) (opnd L p)=true then
    scan f L (p+1+wid (at0 L p)) (acc++[(at0 L p,opnd L p)])
   else ([],some p)
  else (acc,none)
theorem scan_fuel (L:List Int):∀(f g p:Nat) (acc:List (Int×Int)),L.length<p+f→L.length<p+g→scan f L p acc=scan g L p acc:=by
 intro f;induction f with
 |zero=>
  intro g p acc hf hg;cases g with
  |zero=>rfl
  |succ g=>simp only[scan];rw[if_neg (by omega)]
 |succ f ih=>
  intro g p acc hf hg;cases g with
  |zero=>simp only[scan];rw[if_neg (by omega)]
  |succ g=>
   simp only[scan];by_cases h:p<L.length
   ·rw[if_pos h,if_pos h];by_cases h2:p+wid (at0 L p)<L.length∧acc.length≠64∧alone (at0 L p) (opnd L p)=true
    ·rw[if_pos h2,if_pos h2];exact ih g _ _ (by omega) (by omega)
    ·rw[if_neg h2,if_neg h2]
   ·rw[if_neg h,if_neg h]
def scanAt (L:List Int) (p:Nat) (acc:List (Int×Int)):List (Int×Int)×Option Nat:=scan (L.length+1) L p acc
theorem scanAt_end (L:List Int) (p:Nat) (acc:List (Int×Int)) (h:L.length≤p):scanAt L p acc=(acc,none):=by
 unfold scanAt scan;rw[if_neg (by omega)]
theorem scanAt_bad (L:List Int) (p:Nat) (acc:List (Int×Int)) (h:p<L.length) (h2:¬(p+wid (at0 L p)<L.length∧acc.length≠64∧alone (at0 L p) (opnd L p)=true)): scanAt L p acc=([],some p):=by
 unfold scanAt scan;rw[if_pos h,if_neg h2]
theorem scanAt_ok (L:List Int) (p:Nat) (acc:List (Int×Int)) (h:p<L.length) (h1:p+wid (at0 L p)<L.length) (h2:acc.length≠64) (h3:alone (at0 L p) (opnd L p)=true): scanAt L p acc=scanAt L (p+1+wid (at0 L p)) (acc++[(at0 L p,opnd L p)]):=by
 unfold scanAt;rw[scan,if_pos h,if_pos ⟨h1,h2,h3⟩];exact scan_fuel L _ _ _ _ (by omega) (by omega)
def stray (n:Nat):Nat→Nat→List (Int×Int)→Option Nat
 |_,_,[]=>none
 |i,p,x::r=>if lands n i x.1 x.2=true then stray n (i+1) (p+1+wid x.1) r else some p
def decode (L:List Int):List (Int×Int)×Int×Int:=match scanAt L 0 [] with
 |(_,some p)=>([],1,p)
 |(l,none)=>
  if l.length=0 then ([],1,0) else
  match stray l.length 0 0 l with
  |some p=>([],1,p)
  |none=>(l,0,0)
theorem decode_bad (L:List Int) (l:List (Int×Int)) (p:Nat) (h:scanAt L 0 []=(l,some p)):decode L=([],1,(p:Int)):=by
 unfold decode;rw[h]
theorem decode_none (L:List Int) (h:scanAt L 0 []=([],none)):decode L=([],1,0):=by
 unfold decode;rw[h];simp
theorem decode_stray (L:List Int) (l:List (Int×Int)) (p:Nat) (h:scanAt L 0 []=(l,none)) (hl:l.length≠0) (hs:stray l.length 0 0 l=some p):decode L=([],1,(p:Int)):=by
 unfold decode;rw[h];simp only[if_neg hl,hs]
theorem decode_ok (L:List Int) (l:List (Int×Int)) (h:scanAt L 0 []=(l,none)) (hl:l.length≠0) (hs:stray l.length 0 0 l=none):decode L=(l,0,0):=by
 unfold decode;rw[h];simp only[if_neg hl,hs]
theorem stray_step (n:Nat) (l:List (Int×Int)) (k p:Nat) (x:Int×Int) (h:l[k]? =some x): stray n k p (l.drop k)=if lands n k x.1 x.2=true then stray n (k+1) (p+1+wid x.1) (l.drop (k+1)) else some p:=by
 rw[drop_cons l k x h];rfl
end H
end Go.Proofs.YtidaflmmldefcaaGreat
namespace Go.Proofs.YtidaflmmldefcaaGreat
namespace H
def pk (c n:Int):Int:=(if c<0 then-(c+1) else c)%n
def good (n:Nat) (l:List (Int×Int)):Prop:=∀i x,l[i]? =some x→alone x.1 x.2=true∧lands n i x.1 x.2=true∧0≤x.1
end H
end Go.Proofs.YtidaflmmldefcaaGreat
namespace Go.Proofs.YtidaflmmldefcaaGreat
namespace H
theorem alone_op (o a:Int) (h:alone o a=true):o≤27:=by
 unfold alone at h;by_cases h1:o=1
 ·omega
 by_cases h2:o=2∨o=3
 ·omega
 by_cases h3:o=16∨o=17
 ·omega
 by_cases h4:o=25
 ·omega
 rw[if_neg h1,if_neg h2,if_neg h3,if_neg h4] at h;simp at h;omega
theorem ok_of_stray (n:Nat):∀(l:List (Int×Int)) (i p:Nat),(∀x∈l,alone x.1 x.2=true)→stray n i p l=none→okFrom n i l=true
 |[],_,_,_,_=>rfl
 |x::r,i,p,ha,h=>by
  simp only[stray] at h;by_cases hl:lands n i x.1 x.2=true
  ·rw[if_pos hl] at h;simp only[okFrom,Bool.and_eq_true];exact⟨⟨ha x (by simp),hl⟩,ok_of_stray n r _ _ (fun y hy=>ha y (by simp[hy])) h⟩
  ·rw[if_neg hl] at h;cases h
theorem stray_le (n:Nat):∀(l:List (Int×Int)) (i p q:Nat),stray n i p l=some q→q≤p+(encAll l).length
 |[],_,_,_,h=>by simp[stray] at h
 |x::r,i,p,q,h=>by
  simp only[stray] at h;have e:(encAll (x::r)).length=(1+wid x.1)+(encAll r).length:=by simp[encAll,enc_length]
  by_cases hl:lands n i x.1 x.2=true
  ·rw[if_pos hl] at h;have:=stray_le n r _ _ _ h;omega
  ·rw[if_neg hl] at h;simp at h;omega
theorem scan_place:∀(f:Nat) (L:List Int) (p:Nat) (acc l:List (Int×Int)) (q:Nat),scan f L p acc=(l,some q)→q<L.length
 |0,L,p,acc,l,q,h=>by simp[scan] at h
 |f+1,L,p,acc,l,q,h=>by
  simp only[scan] at h;by_cases h1:p<L.length
  ·rw[if_pos h1] at h;by_cases h2:p+wid (at0 L p)<L.length∧acc.length≠64∧alone (at0 L p) (opnd L p)=true
   ·rw[if_pos h2] at h;exact scan_place f L _ _ _ _ h
   ·rw[if_neg h2] at h;simp at h;omega
  ·rw[if_neg h1] at h;simp at h
theorem drop_at0 (L:List Int) (p:Nat) (h:p<L.length):L.drop p=at0 L p::L.drop (p+1):=by
 rw[List.drop_eq_getElem_cons h];simp[at0,List.getD,List.getElem?_eq_getElem h]
theorem enc_read (L:List Int) (p:Nat) (hb:∀i,0≤at0 L i∧at0 L i≤255) (h:p+wid (at0 L p)<L.length):L.drop p=enc (at0 L p) (opnd L p)++L.drop (p+1+wid (at0 L p)):=by
 have b1:=hb (p+1);have b2:=hb (p+2);by_cases h2:at0 L p=1
 ·have hw:wid (at0 L p)=2:=by rw[h2];rfl
  rw[hw] at h ⊢;unfold enc opnd;rw[if_pos hw,if_pos h2];rw[drop_at0 L p (by omega),drop_at0 L (p+1) (by omega),drop_at0 L (p+1+1) (by omega)];simp only[List.cons_append,List.nil_append,List.cons.injEq,true_and];refine⟨by omega,?_,by simp⟩;rw[show p+1+1=p+2 by omega];omega
 ·have hle:=wid_le (at0 L p);by_cases h3:wid (at0 L p)=1
  ·unfold enc;rw[if_neg (by omega),if_pos h3,h3];rw[h3] at h;rw[drop_at0 L p (by omega),drop_at0 L (p+1) (by omega)];simp only[List.cons_append,List.nil_append,List.cons.injEq,true_and];refine⟨?_,by simp⟩;unfold opnd;rw[if_neg h2];by_cases h4:at0 L p=16∨at0 L p=17
   ·rw[if_pos h4];unfold sg;split<;>omega
   ·rw[if_neg h4];have h5:at0 L p=2∨at0 L p=3∨at0 L p=25:=by
     unfold wid at h3;rw[if_neg h2] at h3;by_cases h6:at0 L p=2∨at0 L p=3∨at0 L p=16∨at0 L p=17∨at0 L p=25
     ·omega
     ·rw[if_neg h6] at h3;omega
    rw[if_pos h5];omega
  ·have hw:wid (at0 L p)=0:=by
    unfold wid at h3 ⊢;rw[if_neg h2] at h3 ⊢;split at h3
    ·omega
    ·rename_i h6;rw[if_neg h6]
   rw[hw] at h ⊢;unfold enc;rw[if_neg (by omega),if_neg h3];rw[drop_at0 L p (by omega)];simp
theorem scan_back:∀(f:Nat) (L:List Int) (p:Nat) (acc l:List (Int×Int)),(∀i,0≤at0 L i∧at0 L i≤255)→L.length<p+f→acc.length≤64→scan f L p acc=(l,none)→∃r,l=acc++r∧L.drop p=encAll r∧l.length≤64∧(∀x∈r,alone x.1 x.2=true)
 |0,L,p,acc,l,hb,hf,h64,h=>by
  simp[scan] at h;subst h;exact⟨[],by simp,by rw[List.drop_of_length_le (by omega)];rfl,h64,by simp⟩
 |f+1,L,p,acc,l,hb,hf,h64,h=>by
  simp only[scan] at h;by_cases h1:p<L.length
  ·rw[if_pos h1] at h;by_cases h2:p+wid (at0 L p)<L.length∧acc.length≠64∧alone (at0 L p) (opnd L p)=true
   ·rw[if_pos h2] at h;obtain⟨r,e1,e2,e3,e4⟩:=scan_back f L _ _ _ hb (by omega) (by have:=h2.2.1;simp;omega) h;refine⟨(at0 L p,opnd L p)::r,by rw[e1];simp,?_,e3,?_⟩
    ·rw[enc_read L p hb h2.1,e2];simp[encAll]
    ·intro x hx;rcases List.mem_cons.1 hx with rfl|hx
     ·exact h2.2.2
     ·exact e4 x hx
   ·rw[if_neg h2] at h;simp at h
  ·rw[if_neg h1] at h;simp at h;subst h;exact⟨[],by simp,by rw[List.drop_of_length_le (by omega)];rfl,h64,by simp⟩
theorem decode_cases (L:List Int) (hb:∀i,0≤at0 L i∧at0 L i≤255): (∃p:Nat,p≤L.length∧decode L=([],1,(p:Int)))∨(∃l,decode L=(l,0,0)∧1≤l.length∧l.length≤64∧okFrom l.length 0 l=true∧encAll l=L):=by
 rcases hs:scanAt L 0 [] with ⟨l,q⟩;cases q with
 |some q=>exact .inl ⟨q,Nat.le_of_lt (scan_place _ _ _ _ _ _ hs),decode_bad L l q hs⟩
 |none=>
  obtain⟨r,e1,e2,e3,e4⟩:=scan_back _ L 0 [] l hb (by omega) (by simp) hs;simp at e1 e2;subst e1;by_cases h0:l.length=0
  ·have:l=[]:=List.eq_nil_of_length_eq_zero h0;subst this;exact .inl ⟨0,Nat.zero_le _,decode_none L hs⟩
  ·cases ht:stray l.length 0 0 l with
   |some q=>refine .inl ⟨q,?_,decode_stray L l q hs h0 ht⟩;have:=stray_le _ _ _ _ _ ht;rw[e2];omega
   |none=>exact .inr ⟨l,decode_ok L l hs h0 ht,by omega,e3,ok_of_stray _ _ _ _ e4 ht,e2.symm⟩
end H
end Go.Proofs.YtidaflmmldefcaaGreat
namespace Go.Proofs.YtidaflmmldefcaaGreat
namespace H
structure Mach where
 st:List Int
 cells:List Int
 text:ByteArray
 chars:Nat
 shows:List (Int×ByteArray)
 sends:List (Int×Int)
 next:Int
 steps:Nat
 draws:Nat
 ended:Bool
 fault:Int
structure Inp where
 fuel:Int
 what:Int
 arg:Int
 src:Int
 route:Int
 draws:List Int
def push (v:Int) (M:Mach):Mach:=if 8≤M.st.length then {M with fault:=2} else {M with st:=M.st++[v]}
def popM (M:Mach):Mach:=if M.st.length=0 then {M with fault:=2} else {M with st:=M.st.dropLast}
def popV (M:Mach):Int:=M.st.getD (M.st.length-1) 0
def jumpIf (a:Int) (M:Mach):Mach:=if popV M=0 then popM M else {popM M with next:=(popM M).next+a}
def draw (ds:List Int) (M:Mach):Mach:=if M.draws<ds.length then push (ds.getD M.draws 0) {M with draws:=M.draws+1} else push 0 M
def double (M:Mach):Mach:=if (popM M).fault=0 then push (popV M) (push (popV M) (popM M)) else popM M
def char (M:Mach):Mach:=if (popM M).fault=0 then
  if 6≤M.chars then {popM M with fault:=4} else {popM M with text:=M.text++Utf8.encode (popV M),chars:=M.chars+1}
 else popM M
def hasKey (k:Int) (l:List (Int×ByteArray)):Bool:=l.any fun x=>x.1==k
def showM (M:Mach):Mach:=if (popM M).fault=0 then
  if 8≤M.shows.length then {popM M with fault:=5}
  else if hasKey (popV M) M.shows then {popM M with fault:=6}
  else {popM M with shows:=M.shows++[(popV M,M.text)],text:=⟨#[]⟩,chars:=0}
 else popM M
def send (t:Int) (M:Mach):Mach:=if (popM M).fault=0 then
  if 4≤M.sends.length then {popM M with fault:=5} else {popM M with sends:=M.sends++[(t,popV M)]}
 else popM M
def s16 (v:Int):Int:=if v<32768 then v else v-65536
def yes (b:Bool):Int:=if b then 1 else 0
def combine (op a b:Int):Int:=if op=4 then (a+b)%65536
 else if op=5 then (a-b)%65536
 else if op=6 then (a*b)%65536
 else if op=8 then ((a.toNat&&&b.toNat:Nat):Int)
 else if op=9 then ((a.toNat^^^b.toNat:Nat):Int)
 else if op=10 then (a*2^(b%16).toNat)%65536
 else if op=11 then a/2^(b%16).toNat
 else if op=12 then (s16 a/2^(b%16).toNat)%65536
 else if op=13 then yes (decide (a<b))
 else if op=14 then yes (decide (s16 a<s16 b))
 else if op=15 then yes (decide (a=b))
 else 0
def reckon (op:Int) (M:Mach):Mach:=if (popM (popM M)).fault=0 then
  if op=7 then
   if popV M=0 then {popM (popM M) with fault:=3} else push (popV (popM M)/popV M) (popM (popM M))
  else push (combine op (popV (popM M)) (popV M)) (popM (popM M))
 else popM (popM M)
def doOp (o a:Int) (I:Inp) (M:Mach):Mach:=if o=0 then {M with ended:=true}
 else if o=1 then push a M
 else if o=2 then push (M.cells.getD a.toNat 0) M
 else if o=3 then {popM M with cells:=M.cells.set a.toNat (popV M)}
 else if o=16 then {M with next:=M.next+a}
 else if o=17 then jumpIf a M
 else if o=18 then push I.what M
 else if o=19 then push I.arg M
 else if o=20 then push I.src M
 else if o=21 then push I.route M
 else if o=22 then draw I.draws M
 else if o=23 then char M
 else if o=24 then showM M
 else if o=25 then send a M
 else if o=26 then double M
 else if o=27 then popM M
 else reckon o M
def step (o a:Int) (I:Inp) (M:Mach):Mach:=doOp o a I {M with next:=M.next+1}
end H
end Go.Proofs.YtidaflmmldefcaaGreat
