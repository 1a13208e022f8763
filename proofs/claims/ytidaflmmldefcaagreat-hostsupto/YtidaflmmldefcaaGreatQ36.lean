/- Parts of the proof of Hosts: RMain. -/
import Derived.Test.YtidaflmmldefcaaGreatQ30
import Derived.Test.YtidaflmmldefcaaGreatQ35
import Derived.Deep.LoopGhost
set_option maxHeartbeats 8000000
namespace Go.Proofs.YtidaflmmldefcaaGreat
open Go.RowKit
set_option linter.unusedVariables false
theorem InV.cell_at (v:InV) (k:Nat) (hk:k<8):v.arr[1+k]? =some (.int .u16 (v.cells.getD k 0)):=by
 rcases(show k=0∨k=1∨k=2∨k=3∨k=4∨k=5∨k=6∨k=7 by omega) with rfl|rfl|rfl|rfl|rfl|rfl|rfl|rfl<;>rfl
set_option maxRecDepth 100000 in
theorem refR_main (code:ByteArray) (v:InV) (ds:List Int) (w:World) (hc:code.size≤maxLen) (hv:v.ok) (hd:Drawn w v ds w.heap.size) (l:List (Int×Int)) (hd1:H.decode (H.bts code)=(l,0,0)) (hl1:1≤l.length) (hl64:l.length≤64) (hlok:H.okFrom l.length 0 l=true) (hf0:0≤v.fuel) (hf1:v.fuel≤1000): Calls Tryz.prog 58 #[.string code,.agg v.arr] w fun e w'=>runEnd (H.run (H.bts code) v.cells (v.inp ds)) w.heap.size w e w':=by
 have Hc:Hid (code.size≤maxLen):=hc;have Hv:Hid v.ok:=hv;have HD:Hid (Drawn w v ds w.heap.size):=hd;obtain⟨F,hF⟩:∃F,F=v.fuel:=⟨_,rfl⟩;have HF:Hid (F=v.fuel):=hF;have harr:v.arr=#[.int .i64 F,.int .u16 v.c0,.int .u16 v.c1,.int .u16 v.c2,.int .u16 v.c3,.int .u16 v.c4,.int .u16 v.c5,.int .u16 v.c6,.int .u16 v.c7,.int .u8 v.what,.int .u8 v.by_,.int .u16 v.arg,.int .u8 v.src,.int .u8 v.route,.slice v.ao v.n v.cap]:=by unfold InV.arr;rw[hF]
 have HArr:Hid (v.arr=#[.int .i64 F,.int .u16 v.c0,.int .u16 v.c1,.int .u16 v.c2,.int .u16 v.c3,.int .u16 v.c4,.int .u16 v.c5,.int .u16 v.c6,.int .u16 v.c7,.int .u8 v.what,.int .u8 v.by_,.int .u16 v.arg,.int .u8 v.src,.int .u8 v.route,.slice v.ao v.n v.cap]):=harr;rw[harr];have HDE:Hid (H.decode (H.bts code)=(l,0,0)):=hd1;clear hc hv hd hF harr hd1;go_enter Tryz.func58,Tryz.ntmps58;go_wp2_with fail;refine(refDec_any code _ Hc.out).mono ?_;rintro e w1 ⟨v1,rfl,hown1,hb1⟩;have hbw:Below w.heap.size w w1:=(((Below.refl _ _).alloc (Nat.le_refl _) _).alloc (by simp) _).trans (hb1.mono (by simp;omega));have HB1:Hid (Below w.heap.size w w1):=hbw;have hs1:=hbw.size;have hs1b:w.heap.size+2≤w1.heap.size:=by have:=hb1.size;simp at this;omega
 have HX1:Hid (Blk w1 w.heap.size v.arr 128):=by unfold Hid;rw[HArr.out];exact((Blk.new w _ 128).alloc _).below hb1 (by simp;omega)
 have HZ1:Hid (Blk w1 (w.heap.size+1) #[.int .u8 0,.int .i64 0,.int .i64 0,.int .u16 0,.int .u16 0,.int .u16 0,.int .u16 0,.int .u16 0,.int .u16 0,.int .u16 0,.int .u16 0,.slice none 0 0,.slice none 0 0] 124):=by have h:=Blk.new (w.alloc (.cells #[.int .i64 F,.int .u16 v.c0,.int .u16 v.c1,.int .u16 v.c2,.int .u16 v.c3,.int .u16 v.c4,.int .u16 v.c5,.int .u16 v.c6,.int .u16 v.c7,.int .u8 v.what,.int .u8 v.by_,.int .u16 v.arg,.int .u8 v.src,.int .u8 v.route,.slice v.ao v.n v.cap] 128)) #[.int .u8 0,.int .i64 0,.int .i64 0,.int .u16 0,.int .u16 0,.int .u16 0,.int .u16 0,.int .u16 0,.int .u16 0,.int .u16 0,.int .u16 0,.slice none 0 0,.slice none 0 0] 124;rw[show(w.alloc (.cells #[.int .i64 F,.int .u16 v.c0,.int .u16 v.c1,.int .u16 v.c2,.int .u16 v.c3,.int .u16 v.c4,.int .u16 v.c5,.int .u16 v.c6,.int .u16 v.c7,.int .u8 v.what,.int .u8 v.by_,.int .u16 v.arg,.int .u8 v.src,.int .u8 v.route,.slice v.ao v.n v.cap] 128)).heap.size=w.heap.size+1 by simp] at h;exact h.below hb1 (by simp)
 have z0:=HZ1.out.cell 0;have z1:=HZ1.out.cell 1;have z2:=HZ1.out.cell 2;have z3:=HZ1.out.cell 3;have z4:=HZ1.out.cell 4;have z5:=HZ1.out.cell 5;have z6:=HZ1.out.cell 6;have z7:=HZ1.out.cell 7;have z8:=HZ1.out.cell 8;have z9:=HZ1.out.cell 9;have z10:=HZ1.out.cell 10;have z11:=HZ1.out.cell 11;have z12:=HZ1.out.cell 12;simp at z0 z1 z2 z3 z4 z5 z6 z7 z8 z9 z10 z11 z12;have zf:∀i,w1.frozen? ⟨w.heap.size+1,i,none⟩=false:=fun i=>HZ1.out.free i;have hd:=HDE.out;rw[←HF.out] at hf0 hf1;have hf2:¬F<0:=by omega
 have hf3:¬1000<F:=by omega
 rw[hd] at hown1 ⊢;simp only at hown1 ⊢;obtain⟨g,cv,rfl,hgl⟩:=own_slice hown1 (by omega);obtain⟨n,hn⟩:∃n,n=l.length:=⟨_,rfl⟩;have Hn:Hid (l.length=n):=hn.symm;rw[←hn] at hl1 hl64 hlok hown1 ⊢;have HPA:Hid (ProgAt w1 g l):=own_progAt hown1 hn.symm;have HLo:Hid (H.okFrom n 0 l=true):=hlok;have Hd:Hid (H.decode (H.bts code)=(l,0,0)):=hd;have Hop:Hid (∀x∈l,0≤x.1):=by intro x hx;have h:=dec_ops (H.bts code) l (H.at0_bts_range code) hd x hx;exact h
 have e0:=HX1.out.cell 0;have e1:=HX1.out.cell 1;have e2:=HX1.out.cell 2;have e3:=HX1.out.cell 3;have e4:=HX1.out.cell 4;have e5:=HX1.out.cell 5;have e6:=HX1.out.cell 6;have e7:=HX1.out.cell 7;have e8:=HX1.out.cell 8;have e9:=HX1.out.cell 9;have e10:=HX1.out.cell 10;have e11:=HX1.out.cell 11;have e12:=HX1.out.cell 12;have e13:=HX1.out.cell 13;have e14:=HX1.out.cell 14;rw[HArr.out] at e0 e1 e2 e3 e4 e5 e6 e7 e8 e9 e10 e11 e12 e13 e14;simp at e0 e1 e2 e3 e4 e5 e6 e7 e8 e9 e10 e11 e12 e13 e14;clear hd hown1 hb1 hbw hn hlok;clear z0 z1 z2 z3 z4 z5 z6 z7 z8 z9 z10 z11 z12 zf e1 e2 e3 e4 e5 e6 e7 e8 e9 e10 e11 e12 e13 e14;have hx1:¬w.heap.size=w1.heap.size:=by omega
 have hx2:¬w.heap.size+1=w1.heap.size:=by omega
 have hx3:w.heap.size<w1.heap.size:=by omega
 have hx4:w.heap.size+1<w1.heap.size:=by omega
 go_wp2_with fail;go_loopw [10] (fun i wr=>∃k:Nat,k≤8∧i= .int .i64 k∧SB wr w.heap.size w1.heap.size (.slice none 0 0) (.slice none 0 0) (.slice none 0 0) (H.mach0 (H.cellsIn v.cells k))∧SFr w.heap.size w1 wr)
  (fun i _=>8-(intOf i).toNat)
 case atStart=>exact⟨0,by omega,rfl,⟨hs1,rfl,by show 0≤8;omega,Blk.new w1 _ 145,.inl (World.ownsRow_nil _ _ _ _),World.ownsRow_nil _ _ _ _,World.ownsRow_nil _ _ _ _⟩,(SFr.refl _ _).alloc hs1 _⟩
 case round=>
  obtain⟨k,hk,rfl,hm,hf⟩:=hrel;have HX2:Hid (Blk wr w.heap.size v.arr 128):=hf.row _ _ _ HX1.out (by decide) (by decide) (by decide) (by decide);by_cases hk8:k<8
  ·have cc:=hm.ccell k hk8;have fc:=hm.free (1+k);have ci:=HX2.out.cell (1+k);rw[v.cell_at k hk8] at ci;have hr:=getD_range Hv.out.cells k;have HM:Hid (SB (wr.setCell ⟨w1.heap.size,1+k,none⟩ (.int .i64 (v.cells.getD k 0))) w.heap.size w1.heap.size (.slice none 0 0) (.slice none 0 0) (.slice none 0 0) (H.mach0 (H.cellsIn v.cells (k+1)))):=by have h:=hm.set_cell k hk8 (v.cells.getD k 0);have e:=H.cellsIn_set (first:=v.cells) rfl hk8;rw[←e];exact h
   have HF2:Hid (SFr w.heap.size w1 (wr.setCell ⟨w1.heap.size,1+k,none⟩ (.int .i64 (v.cells.getD k 0)))):=hm.fr_set hf _ _;obtain⟨x,hx⟩:∃x,x=v.cells.getD k 0:=⟨_,rfl⟩;rw[←hx] at ci HM HF2 hr;have hw:IntKind.i64.wrap x=x:=by rw[IntKind.wrap_i64];omega
   have hk0:(0:Int)≤(k:Int):=by omega
   have hk1:(k:Int)<8:=by omega
   have hw2:IntKind.i64.wrap ((k:Int)+1)=(k:Int)+1:=by rw[IntKind.wrap_i64];omega
   clear hm hf hx hr;go_wp2;go_region
   all_goals go_wp2
   all_goals go_roundw
   all_goals first
    |(case rel=>exact⟨k+1,by omega,by go_num,HM.out.drew,HF2.out.drew⟩)
    |skip
   all_goals first
    |(case measure=>simp[intOf];omega)
    |skip
  ·obtain rfl:k=8:=by omega
   have hkk:¬(8:Int)<8:=by omega
   rw[H.cellsIn_all rfl] at hm;have HM2:Hid (SB wr w.heap.size w1.heap.size (.slice none 0 0) (.slice none 0 0) (.slice none 0 0) (H.mach0 v.cells)):=hm;have HF2:Hid (SFr w.heap.size w1 wr):=hf;have HP2:Hid (ProgAt wr g l):=by obtain⟨cur,hcb,hct⟩:=HPA.out;exact⟨cur,hf.row _ _ _ hcb (by decide) (by decide) (by decide) (by decide),hct⟩
   have HZ2:=show Hid (Blk wr (w.heap.size+1) _ 124) from hf.row _ _ _ HZ1.out (by decide) (by decide) (by decide) (by decide);clear hm hf HP2 HZ2;obtain⟨Fn,hFn⟩:=Int.eq_ofNat_of_zero_le hf0;subst hFn;have HR0:Hid (H.Rok n Fn ds.length (H.mach0 v.cells)):=⟨⟨by intro x hx;simp[H.mach0] at hx,Hv.out.cells,by show 0≤_;omega,by show 0≤6;omega,by show(0:Int)≤0;omega,by show(0:Int)≤n;omega⟩,⟨by show 0≤8;omega,by show 0≤4;omega,by intro x hx;simp[H.mach0] at hx⟩,Nat.zero_le _,Nat.zero_le _,by show(0:Int)≤0∧(0:Int)≤6;omega⟩;have HRunE:Hid (H.run (H.bts code) v.cells (v.inp ds)=H.outOf v.cells (H.runM l (v.inp ds) Fn (Fn+1) (H.mach0 v.cells))):=by unfold Hid H.run;rw[HDE.out,if_pos rfl,if_neg (by show¬(v.fuel<0∨1000<v.fuel);rw[←HF.out];omega)];show H.outOf v.cells (H.runM l (v.inp ds) v.fuel.toNat (v.fuel.toNat+1) (H.mach0 v.cells))=_;rw[←HF.out,Int.toNat_natCast]
   have HXr:Hid (∀u,SFr w.heap.size w1 u→Blk u w.heap.size v.arr 128):=fun u hu=>hu.row _ _ _ HX1.out (by decide) (by decide) (by decide) (by decide);have HZr:=show Hid (∀u,SFr w.heap.size w1 u→Blk u (w.heap.size+1) _ 124) from fun u hu=>hu.row _ _ _ HZ1.out (by decide) (by decide) (by decide) (by decide);have HPr:Hid (∀u,SFr w.heap.size w1 u→ProgAt u g l):=by intro u hu;obtain⟨cur,hcb,hct⟩:=HPA.out;exact⟨cur,hu.row _ _ _ hcb (by decide) (by decide) (by decide) (by decide),hct⟩
   clear HX2 hk hkk;go_wp2_with fail;go_loopg [11,12,13] (Fn+1) (fun q vs ve vx wr=>∃M' N pv sv dv,SB wr w.heap.size w1.heap.size pv sv dv M'∧SFr w.heap.size w1 wr∧H.Rok n Fn ds.length N∧H.Like M' N∧vs= .int .i64 (N.steps:Int)∧ve= .bool N.ended∧(q=Fn+1-N.steps∨(q=0∧N.fault≠0))∧H.runM l (v.inp ds) Fn (Fn+1) (H.mach0 v.cells)=H.runM l (v.inp ds) Fn q N);case atStart=>exact⟨H.mach0 v.cells,H.mach0 v.cells,_,_,_,HM2.out,HF2.out,HR0.out,H.Like.refl _,rfl,rfl,.inl rfl,rfl⟩
   case round=>
    clear HM2 HF2;obtain⟨M',N,pv,sv,dv,hm,hf,hrok,hlike,rfl,rfl,hq,hrun⟩:=hrel;have HM:Hid (SB wr w.heap.size w1.heap.size pv sv dv M'):=hm;have HFr:Hid (SFr w.heap.size w1 wr):=hf;have HRk:Hid (H.Rok n Fn ds.length N):=hrok;have HLk:Hid (H.Like M' N):=hlike;have HQ:Hid (gk=Fn+1-N.steps∨(gk=0∧N.fault≠0)):=hq;have HRn:Hid (H.runM l (v.inp ds) Fn (Fn+1) (H.mach0 v.cells)=H.runM l (v.inp ds) Fn gk N):=hrun;have c13:=hm.c13;have f13:=hm.free 13;have c15:=hm.c15;have f15:=hm.free 15;rw[hlike.fault] at c13;have n0:=hrok.ok.next0;have n1:=hrok.ok.next1;have hst:=hrok.steps;obtain⟨en,hen⟩:∃en,en=N.ended:=⟨_,rfl⟩;obtain⟨ft,hft⟩:∃ft,ft=N.fault:=⟨_,rfl⟩;obtain⟨sp,hsp⟩:∃sp,sp=N.steps:=⟨_,rfl⟩;rw[←hft] at c13;rw[←hsp] at hst;have Hen:Hid (en=N.ended):=hen;have Hft:Hid (ft=N.fault):=hft;have Hsp:Hid (sp=N.steps):=hsp;rw[←hen,←hsp];clear hm hf hrok hlike hq hrun hen hft hsp;by_cases hz:ft=0
    ·subst hz;obtain rfl:M'=N:=HLk.out.all Hft.out.symm;obtain⟨nx,hnx⟩:∃nx,nx=M'.next:=⟨_,rfl⟩;have Hnx:Hid (nx=M'.next):=hnx;rw[←hnx] at c15 n0 n1;clear hnx;by_cases hgo:en=false∧nx<(n:Int)
     ·obtain⟨rfl,hlt2⟩:=hgo;focus
       have HH:Hid (H.halt l.length M'=false):=by unfold Hid H.halt;rw[←Hen.out,←Hft.out,←Hnx.out,Hn.out];simp;omega
       have hgk:gk=Fn+1-sp:=by
        rcases HQ.out with hq|⟨_,hq⟩
        ·rw[Hsp.out];exact hq
        ·exact absurd Hft.out.symm hq
       by_cases hsf:sp=Fn
       ·subst hsf;have er:=(HXr.out wr HFr.out).cell 0;rw[HArr.out] at er;simp at er;have HM1:Hid (SB (wr.setCell ⟨w1.heap.size,13,none⟩ (.int .i64 1)) w.heap.size w1.heap.size pv sv dv {M' with fault:=1}):=HM.out.set_fault 1;have HF1:Hid (SFr w.heap.size w1 (wr.setCell ⟨w1.heap.size,13,none⟩ (.int .i64 1))):=HM.out.fr_set HFr.out _ _;have HR1:Hid (H.Rok n sp ds.length {M' with fault:=1}):=by have hr:=HRk.out;exact⟨hr.ok.fault 1,hr.lists.of_eq rfl rfl,hr.draws,hr.steps,by show(0:Int)≤1∧(1:Int)≤6;omega⟩
        have HE1:Hid (H.runM l (v.inp ds) sp (sp+1) (H.mach0 v.cells)={M' with fault:=1}):=by unfold Hid;rw[HRn.out,hgk,show sp+1-sp=0+1 by omega];exact runM_spent HH.out Hsp.out.symm
        go_wp2;go_roundg 0;case measure=>omega
        case rel=>exact⟨{M' with fault:=1},{M' with fault:=1},pv,sv,dv,HM1.out,HF1.out,HR1.out,H.Like.refl _,by rw[Hsp.out],by rw[Hen.out],.inr ⟨rfl,by show(1:Int)≠0;decide⟩,HE1.out⟩
       ·have hsf2:((sp:Int)==(Fn:Int))=false:=by rw[beq_eq_false_iff_ne];omega
        obtain⟨k,hk⟩:=Int.eq_ofNat_of_zero_le n0;subst hk;have hkn:k<n:=by omega
        obtain⟨x,hx⟩:∃x,l[k]? =some x:=⟨l[k]'(by have:=Hn.out;omega),List.getElem?_eq_getElem (by have:=Hn.out;omega)⟩;obtain⟨o,a⟩:=x;have hal:=(okFrom_at _ _ _ _ _ HLo.out hx).1;have hop:=Hop.out _ (List.mem_of_getElem? hx);simp only at hal hop;have h27:=H.alone_op o a hal;have hpr:=HPr.out wr HFr.out;obtain⟨pc0,pc1⟩:=hpr.row k _ hx;rw[Nat.zero_add] at pc0 pc1;have hgl2:g<wr.heap.size:=World.block_lt_of_cell? _ _ pc0;have hbl:=HM.out.blk.lt;have hgb:¬g=w1.heap.size:=by intro e;obtain⟨cur,hcb,_⟩:=hpr;have hmb:=HM.out.blk;rw[e] at hcb;unfold Blk at hcb hmb;rw[hcb] at hmb;simp at hmb
        have hgb2:¬w1.heap.size=g:=fun e=>hgb e.symm;have hb1:¬w1.heap.size=wr.heap.size:=by omega
        have hb2:¬wr.heap.size=w1.heap.size:=by omega
        have hb3:¬w.heap.size=wr.heap.size:=by omega
        have hb4:¬wr.heap.size=w.heap.size:=by omega
        have hb5:¬w1.heap.size=w.heap.size:=by omega
        have HAd:Hid (H.adv l (v.inp ds) M'=H.doOp o a (v.inp ds) {M' with steps:=M'.steps+1,next:=M'.next+1}):=H.adv_eq (Hnx.out.symm) hx;have HRk2:Hid (H.Rok n Fn ds.length (H.adv l (v.inp ds) M')):=by have h:=H.Rok.adv (prog:=l) v Hv.out HD.out.rng (by rw[Hn.out];exact HLo.out) (by rw[Hn.out];exact HRk.out) (by rw[Hn.out,←Hnx.out];exact hlt2) (by rw[←Hsp.out];omega);rw[Hn.out] at h;exact h
        have HAs:Hid ((H.adv l (v.inp ds) M').steps=sp+1):=by unfold Hid;rw[(adv_kp l (v.inp ds) M').1,Hsp.out]
        have HAe:Hid ((H.adv l (v.inp ds) M').ended=(o==0)):=by
         unfold Hid;rw[HAd.out];by_cases h0:o=0
         ·subst h0;rfl
         ·rw[(H.Fk.doOp _ o a (v.inp ds) h0).ended];show M'.ended=_;rw[←Hen.out];symm;rw[beq_eq_false_iff_ne];exact h0
        have HMo1:Hid (MOk n {M' with steps:=sp+1,next:=(k:Int)+1}):=by have h:=HRk.out.ok;exact⟨h.st,h.cells,h.text,h.chars,by show(0:Int)≤(k:Int)+1;omega,by show(k:Int)+1≤n;omega⟩
        have HLo1:Hid (H.LOk {M' with steps:=sp+1,next:=(k:Int)+1}):=HRk.out.lists.of_eq rfl rfl;have HLp:Hid (H.Like (H.rpass o a (v.inp ds) {M' with steps:=sp+1,next:=(k:Int)+1}) (H.adv l (v.inp ds) M')):=by unfold Hid;rw[HAd.out,←Hsp.out,←Hnx.out];exact H.like_pass HMo1.out HLo1.out Hft.out.symm o a hop hal _
        have HRs:Hid (H.runM l (v.inp ds) Fn (Fn+1) (H.mach0 v.cells)=H.runM l (v.inp ds) Fn (gk-1) (H.adv l (v.inp ds) M')):=by
         unfold Hid;rw[HRn.out];conv=>lhs;rw[show gk=(gk-1)+1 by omega]
         exact runM_step HH.out (by rw[←Hsp.out];exact hsf)
        have HSTEP:Hid (∀W,SB W w.heap.size w1.heap.size pv sv dv {M' with steps:=sp+1,next:=(k:Int)+1}→Below w.heap.size w W→Calls Tryz.prog 71 #[.pointer (some ⟨w1.heap.size,0,none⟩),.int .i64 o,.int .i64 a,.agg #[.int .i64 Fn,.int .u16 v.c0,.int .u16 v.c1,.int .u16 v.c2,.int .u16 v.c3,.int .u16 v.c4,.int .u16 v.c5,.int .u16 v.c6,.int .u16 v.c7,.int .u8 v.what,.int .u8 v.by_,.int .u16 v.arg,.int .u8 v.src,.int .u8 v.route,.slice v.ao v.n v.cap]] W fun e w'=>e= .returned (.tuple #[])∧SAft W w.heap.size w1.heap.size (H.rpass o a (v.inp ds) {M' with steps:=sp+1,next:=(k:Int)+1}) w'):=by intro W hm hb;have:=pass_any hm v Hv.out ds (HD.out.fr hb) n hl64 HMo1.out HLo1.out HRk.out.draws o a hop hal;unfold passArgs at this;rw[HArr.out] at this;exact this
        have HM1:Hid (SB (wr.setCell ⟨w1.heap.size,15,none⟩ (.int .i64 ((k:Int)+1))) w.heap.size w1.heap.size pv sv dv {M' with steps:=sp+1,next:=(k:Int)+1}):=(HM.out.set_next ((k:Int)+1)).other (sp+1) M'.ended;have HF1:Hid (SFr w.heap.size w1 (wr.setCell ⟨w1.heap.size,15,none⟩ (.int .i64 ((k:Int)+1)))):=HM.out.fr_set HFr.out _ _;have hsz1:(wr.setCell ⟨w1.heap.size,15,none⟩ (.int .i64 ((k:Int)+1))).heap.size=wr.heap.size:=by simp[World.setCell]
        have HXi:Hid (Blk wr w.heap.size v.arr 128):=HXr.out wr HFr.out;have er:=HXi.out.cell 0;rw[HArr.out] at er;simp at er;have HX4:Hid (Blk (wr.setCell ⟨w1.heap.size,15,none⟩ (.int .i64 ((k:Int)+1))) w.heap.size v.arr 128):=HXi.out.other ⟨w1.heap.size,15,none⟩ _ hx1;have HX5:Hid (Blk ((wr.setCell ⟨w1.heap.size,15,none⟩ (.int .i64 ((k:Int)+1))).alloc (.cells #[.int .u8 o,.int .i64 a] 99)) w.heap.size v.arr 128):=HX4.out.alloc _;have e0:((wr.setCell ⟨w1.heap.size,15,none⟩ (.int .i64 ((k:Int)+1))).alloc (.cells #[.int .u8 o,.int .i64 a] 99)).cell? ⟨w.heap.size,0,none⟩=some (.int .i64 Fn):=by rw[HX5.out.cell 0,HArr.out];rfl
        have e1:((wr.setCell ⟨w1.heap.size,15,none⟩ (.int .i64 ((k:Int)+1))).alloc (.cells #[.int .u8 o,.int .i64 a] 99)).cell? ⟨w.heap.size,1,none⟩=some (.int .u16 v.c0):=by rw[HX5.out.cell 1,HArr.out];rfl
        have e2:((wr.setCell ⟨w1.heap.size,15,none⟩ (.int .i64 ((k:Int)+1))).alloc (.cells #[.int .u8 o,.int .i64 a] 99)).cell? ⟨w.heap.size,2,none⟩=some (.int .u16 v.c1):=by rw[HX5.out.cell 2,HArr.out];rfl
        have e3:((wr.setCell ⟨w1.heap.size,15,none⟩ (.int .i64 ((k:Int)+1))).alloc (.cells #[.int .u8 o,.int .i64 a] 99)).cell? ⟨w.heap.size,3,none⟩=some (.int .u16 v.c2):=by rw[HX5.out.cell 3,HArr.out];rfl
        have e4:((wr.setCell ⟨w1.heap.size,15,none⟩ (.int .i64 ((k:Int)+1))).alloc (.cells #[.int .u8 o,.int .i64 a] 99)).cell? ⟨w.heap.size,4,none⟩=some (.int .u16 v.c3):=by rw[HX5.out.cell 4,HArr.out];rfl
        have e5:((wr.setCell ⟨w1.heap.size,15,none⟩ (.int .i64 ((k:Int)+1))).alloc (.cells #[.int .u8 o,.int .i64 a] 99)).cell? ⟨w.heap.size,5,none⟩=some (.int .u16 v.c4):=by rw[HX5.out.cell 5,HArr.out];rfl
        have e6:((wr.setCell ⟨w1.heap.size,15,none⟩ (.int .i64 ((k:Int)+1))).alloc (.cells #[.int .u8 o,.int .i64 a] 99)).cell? ⟨w.heap.size,6,none⟩=some (.int .u16 v.c5):=by rw[HX5.out.cell 6,HArr.out];rfl
        have e7:((wr.setCell ⟨w1.heap.size,15,none⟩ (.int .i64 ((k:Int)+1))).alloc (.cells #[.int .u8 o,.int .i64 a] 99)).cell? ⟨w.heap.size,7,none⟩=some (.int .u16 v.c6):=by rw[HX5.out.cell 7,HArr.out];rfl
        have e8:((wr.setCell ⟨w1.heap.size,15,none⟩ (.int .i64 ((k:Int)+1))).alloc (.cells #[.int .u8 o,.int .i64 a] 99)).cell? ⟨w.heap.size,8,none⟩=some (.int .u16 v.c7):=by rw[HX5.out.cell 8,HArr.out];rfl
        have e9:((wr.setCell ⟨w1.heap.size,15,none⟩ (.int .i64 ((k:Int)+1))).alloc (.cells #[.int .u8 o,.int .i64 a] 99)).cell? ⟨w.heap.size,9,none⟩=some (.int .u8 v.what):=by rw[HX5.out.cell 9,HArr.out];rfl
        have e10:((wr.setCell ⟨w1.heap.size,15,none⟩ (.int .i64 ((k:Int)+1))).alloc (.cells #[.int .u8 o,.int .i64 a] 99)).cell? ⟨w.heap.size,10,none⟩=some (.int .u8 v.by_):=by rw[HX5.out.cell 10,HArr.out];rfl
        have e11:((wr.setCell ⟨w1.heap.size,15,none⟩ (.int .i64 ((k:Int)+1))).alloc (.cells #[.int .u8 o,.int .i64 a] 99)).cell? ⟨w.heap.size,11,none⟩=some (.int .u16 v.arg):=by rw[HX5.out.cell 11,HArr.out];rfl
        have e12:((wr.setCell ⟨w1.heap.size,15,none⟩ (.int .i64 ((k:Int)+1))).alloc (.cells #[.int .u8 o,.int .i64 a] 99)).cell? ⟨w.heap.size,12,none⟩=some (.int .u8 v.src):=by rw[HX5.out.cell 12,HArr.out];rfl
        have e13:((wr.setCell ⟨w1.heap.size,15,none⟩ (.int .i64 ((k:Int)+1))).alloc (.cells #[.int .u8 o,.int .i64 a] 99)).cell? ⟨w.heap.size,13,none⟩=some (.int .u8 v.route):=by rw[HX5.out.cell 13,HArr.out];rfl
        have e14:((wr.setCell ⟨w1.heap.size,15,none⟩ (.int .i64 ((k:Int)+1))).alloc (.cells #[.int .u8 o,.int .i64 a] 99)).cell? ⟨w.heap.size,14,none⟩=some (.slice v.ao v.n v.cap):=by rw[HX5.out.cell 14,HArr.out];rfl
        have hk0:(0:Int)≤(k:Int):=by omega
        have hw1:IntKind.i64.wrap o=o:=by rw[IntKind.wrap_i64];omega
        have hw2:IntKind.i64.wrap ((k:Int)+1)=(k:Int)+1:=by rw[IntKind.wrap_i64];omega
        have hw3:IntKind.i64.wrap ((sp:Int)+1)=(sp:Int)+1:=by rw[IntKind.wrap_i64];omega
        clear hx hal hop hpr h27;go_wp2_with fail;first
         |refine(HSTEP.out _ (by exact HM1.out.alloc _) (by exact(HB1.out.trans (HF1.out.alloc (by omega) _).below))).mono ?_
         |trace_state
        rintro e w2 ⟨rfl,⟨pv2,sv2,dv2,hm2⟩,hf2⟩;have HM2:Hid (SB w2 w.heap.size w1.heap.size pv2 sv2 dv2 (H.rpass o a (v.inp ds) {M' with steps:=sp+1,next:=(k:Int)+1})):=hm2;have HF2:Hid (SFr w.heap.size w1 w2):=(HF1.out.alloc (by omega) _).trans hf2;clear hm2 hf2;go_wp2;go_roundg (gk-1);case measure=>omega
        case rel=>exact⟨_,H.adv l (v.inp ds) M',pv2,sv2,dv2,HM2.out,HF2.out,HRk2.out,HLp.out,by rw[HAs.out];first|rfl|go_num,by rw[HAe.out],.inl (by rw[HAs.out];omega),HRs.out⟩
     ·have HEq:Hid (H.runM l (v.inp ds) Fn (Fn+1) (H.mach0 v.cells)=M'):=by
       unfold Hid;rw[HRn.out];rcases HQ.out with hq|⟨hq,_⟩
       ·have:=HRk.out.steps;rw[hq,show Fn+1-M'.steps=(Fn-M'.steps)+1 by omega];refine runM_halt ?_;unfold H.halt;rw[←Hen.out,←Hft.out,←Hnx.out,Hn.out];by_cases he:en=true
        ·rw[he];simp
        ·have he2:en=false:=by simpa using he
         have hlt2:¬nx<(n:Int):=fun h=>hgo ⟨he2,h⟩;simp;omega
       ·rw[hq];rfl
      have c14:=HM.out.c14;obtain⟨dr,hdr⟩:∃dr,dr=M'.draws:=⟨_,rfl⟩;rw[←hdr] at c14;have Hdr:Hid (dr=M'.draws):=hdr;have e1:wr.cell? ⟨w.heap.size,1,none⟩=some (.int .u16 v.c0):=by rw[(HXr.out wr HFr.out).cell 1,HArr.out];rfl
      have e2:wr.cell? ⟨w.heap.size,2,none⟩=some (.int .u16 v.c1):=by rw[(HXr.out wr HFr.out).cell 2,HArr.out];rfl
      have e3:wr.cell? ⟨w.heap.size,3,none⟩=some (.int .u16 v.c2):=by rw[(HXr.out wr HFr.out).cell 3,HArr.out];rfl
      have e4:wr.cell? ⟨w.heap.size,4,none⟩=some (.int .u16 v.c3):=by rw[(HXr.out wr HFr.out).cell 4,HArr.out];rfl
      have e5:wr.cell? ⟨w.heap.size,5,none⟩=some (.int .u16 v.c4):=by rw[(HXr.out wr HFr.out).cell 5,HArr.out];rfl
      have e6:wr.cell? ⟨w.heap.size,6,none⟩=some (.int .u16 v.c5):=by rw[(HXr.out wr HFr.out).cell 6,HArr.out];rfl
      have e7:wr.cell? ⟨w.heap.size,7,none⟩=some (.int .u16 v.c6):=by rw[(HXr.out wr HFr.out).cell 7,HArr.out];rfl
      have e8:wr.cell? ⟨w.heap.size,8,none⟩=some (.int .u16 v.c7):=by rw[(HXr.out wr HFr.out).cell 8,HArr.out];rfl
      have x1:∀o,(wr.alloc o).cell? ⟨w.heap.size,1,none⟩=some (.int .u16 v.c0):=fun o=>by rw[((HXr.out wr HFr.out).alloc o).cell 1,HArr.out];rfl
      have x2:∀o,(wr.alloc o).cell? ⟨w.heap.size,2,none⟩=some (.int .u16 v.c1):=fun o=>by rw[((HXr.out wr HFr.out).alloc o).cell 2,HArr.out];rfl
      have x3:∀o,(wr.alloc o).cell? ⟨w.heap.size,3,none⟩=some (.int .u16 v.c2):=fun o=>by rw[((HXr.out wr HFr.out).alloc o).cell 3,HArr.out];rfl
      have x4:∀o,(wr.alloc o).cell? ⟨w.heap.size,4,none⟩=some (.int .u16 v.c3):=fun o=>by rw[((HXr.out wr HFr.out).alloc o).cell 4,HArr.out];rfl
      have x5:∀o,(wr.alloc o).cell? ⟨w.heap.size,5,none⟩=some (.int .u16 v.c4):=fun o=>by rw[((HXr.out wr HFr.out).alloc o).cell 5,HArr.out];rfl
      have x6:∀o,(wr.alloc o).cell? ⟨w.heap.size,6,none⟩=some (.int .u16 v.c5):=fun o=>by rw[((HXr.out wr HFr.out).alloc o).cell 6,HArr.out];rfl
      have x7:∀o,(wr.alloc o).cell? ⟨w.heap.size,7,none⟩=some (.int .u16 v.c6):=fun o=>by rw[((HXr.out wr HFr.out).alloc o).cell 7,HArr.out];rfl
      have x8:∀o,(wr.alloc o).cell? ⟨w.heap.size,8,none⟩=some (.int .u16 v.c7):=fun o=>by rw[((HXr.out wr HFr.out).alloc o).cell 8,HArr.out];rfl
      have HZ3':=show Hid (Blk wr (w.heap.size+1) _ 124) from HZr.out wr HFr.out;have hbl:=HM.out.blk.lt;have hb1:¬w1.heap.size=wr.heap.size:=by omega
      have hb1':¬wr.heap.size=w1.heap.size:=by omega
      have hb2:¬w.heap.size=wr.heap.size:=by omega
      have hb3:¬w.heap.size+1=wr.heap.size:=by omega
      have hb3':¬wr.heap.size=w.heap.size+1:=by omega
      have hbw2:Below w.heap.size w wr:=HB1.out.trans HFr.out.below;have hsw:=hbw2.size;have HU:Hid (Blk ((wr.alloc (.cells #[.int .u8 0,.int .i64 (sp:Int),.int .i64 (dr:Int),.int .u16 v.c0,.int .u16 v.c1,.int .u16 v.c2,.int .u16 v.c3,.int .u16 v.c4,.int .u16 v.c5,.int .u16 v.c6,.int .u16 v.c7,.slice none 0 0,.slice none 0 0] 124)).drew) (w.heap.size+1) #[.int .u8 0,.int .i64 0,.int .i64 0,.int .u16 0,.int .u16 0,.int .u16 0,.int .u16 0,.int .u16 0,.int .u16 0,.int .u16 0,.int .u16 0,.slice none 0 0,.slice none 0 0] 124):=HZ3'.out.alloc _;have HV:Hid (Blk ((wr.alloc (.cells #[.int .u8 0,.int .i64 (sp:Int),.int .i64 (dr:Int),.int .u16 v.c0,.int .u16 v.c1,.int .u16 v.c2,.int .u16 v.c3,.int .u16 v.c4,.int .u16 v.c5,.int .u16 v.c6,.int .u16 v.c7,.slice none 0 0,.slice none 0 0] 124)).drew) wr.heap.size #[.int .u8 0,.int .i64 (sp:Int),.int .i64 (dr:Int),.int .u16 v.c0,.int .u16 v.c1,.int .u16 v.c2,.int .u16 v.c3,.int .u16 v.c4,.int .u16 v.c5,.int .u16 v.c6,.int .u16 v.c7,.slice none 0 0,.slice none 0 0] 124):=Blk.new wr _ 124;have HS:Hid (SB ((wr.alloc (.cells #[.int .u8 0,.int .i64 (sp:Int),.int .i64 (dr:Int),.int .u16 v.c0,.int .u16 v.c1,.int .u16 v.c2,.int .u16 v.c3,.int .u16 v.c4,.int .u16 v.c5,.int .u16 v.c6,.int .u16 v.c7,.slice none 0 0,.slice none 0 0] 124)).drew) w.heap.size w1.heap.size pv sv dv M'):=(HM.out.alloc _).drew;have HBu:Hid (Below w.heap.size w ((wr.alloc (.cells #[.int .u8 0,.int .i64 (sp:Int),.int .i64 (dr:Int),.int .u16 v.c0,.int .u16 v.c1,.int .u16 v.c2,.int .u16 v.c3,.int .u16 v.c4,.int .u16 v.c5,.int .u16 v.c6,.int .u16 v.c7,.slice none 0 0,.slice none 0 0] 124)).drew)):=(hbw2.alloc hsw _).drew;have HMF:Hid (M'.fault=0):=Hft.out.symm;obtain⟨shv,hshv⟩:∃ao nn cap,sv= .slice ao nn cap:=by
       rcases HM.out.shows.2 with ⟨h,_⟩|⟨g,cap,cur,h,_⟩
       ·exact⟨_,_,_,h⟩
       ·exact⟨_,_,_,h⟩
      obtain⟨shn,shc,rfl⟩:=hshv;obtain⟨sdv,hsdv⟩:∃ao nn cap,dv= .slice ao nn cap:=by
       rcases HM.out.sends.2 with ⟨h,_⟩|⟨g,cap,cur,h,_⟩
       ·exact⟨_,_,_,h⟩
       ·exact⟨_,_,_,h⟩
      obtain⟨sdn,sdc,rfl⟩:=hsdv;have hends:en=true∨(en=false∧¬nx<(n:Int)):=by
       by_cases he:en=true
       ·exact .inl he
       ·have he2:en=false:=by simpa using he
        exact .inr ⟨he2,fun h=>hgo ⟨he2,h⟩⟩
      clear hdr hbw2 hgo;rcases hends with rfl|⟨rfl,hlt2⟩;all_goals
       go_wp2_with fail;go_region
       all_goals
        generalize (wr.alloc (.cells #[.int .u8 0,.int .i64 (sp:Int),.int .i64 (dr:Int),.int .u16 v.c0,.int .u16 v.c1,.int .u16 v.c2,.int .u16 v.c3,.int .u16 v.c4,.int .u16 v.c5,.int .u16 v.c6,.int .u16 v.c7,.slice none 0 0,.slice none 0 0] 124)).drew=u at*;generalize wr.heap.size=q at*;clear HM HFr c13 f13 c15 f15 c14 e1 e2 e3 e4 e5 e6 e7 e8 x1 x2 x3 x4 x5 x6 x7 x8 HZ3';have hs13:=HS.out.c13;have hs11:=HS.out.c11;have hs12:=HS.out.c12;rw[HMF.out] at hs13;have of:∀i,u.frozen? ⟨q,i,none⟩=false:=fun i=>HV.out.free i;have o11:u.cell? ⟨q,11,none⟩=some (.slice none 0 0):=by rw[HV.out.cell 11];rfl
        have o12:u.cell? ⟨q,12,none⟩=some (.slice none 0 0):=by rw[HV.out.cell 12];rfl
        have HS1:Hid (SB (u.setCell ⟨q,11,none⟩ (.slice shv shn shc)) w.heap.size w1.heap.size pv (.slice shv shn shc) (.slice sdv sdn sdc) M'):=HS.out.side HV.out 11 _;have HV1:=show Hid (Blk (u.setCell ⟨q,11,none⟩ (.slice shv shn shc)) q _ 124) from HV.out.set 11 (.slice shv shn shc);have HS2:Hid (SB ((u.setCell ⟨q,11,none⟩ (.slice shv shn shc)).setCell ⟨q,12,none⟩ (.slice sdv sdn sdc)) w.heap.size w1.heap.size pv (.slice shv shn shc) (.slice sdv sdn sdc) M'):=HS1.out.side HV1.out 12 _;have HV2:Hid (Blk ((u.setCell ⟨q,11,none⟩ (.slice shv shn shc)).setCell ⟨q,12,none⟩ (.slice sdv sdn sdc)) q (outRow sp dr (H.cellsOut M'.cells v.cells 0) (.slice shv shn shc) (.slice sdv sdn sdc)) 124):=HV1.out.set 12 (.slice sdv sdn sdc);have HU2:=show Hid (Blk ((u.setCell ⟨q,11,none⟩ (.slice shv shn shc)).setCell ⟨q,12,none⟩ (.slice sdv sdn sdc)) (w.heap.size+1) _ 124) from(HU.out.other ⟨q,11,none⟩ (.slice shv shn shc) hb3).other ⟨q,12,none⟩ (.slice sdv sdn sdc) hb3;have HB2:Hid (Below w.heap.size w ((u.setCell ⟨q,11,none⟩ (.slice shv shn shc)).setCell ⟨q,12,none⟩ (.slice sdv sdn sdc))):=(HBu.out.setCell (p:=⟨q,11,none⟩) hsw _).setCell (p:=⟨q,12,none⟩) hsw _;clear HS1 HV1;go_wp2_with fail;go_loopw [15] (fun i wz=>∃k:Nat,k≤8∧i= .int .i64 k∧SB wz w.heap.size w1.heap.size pv (.slice shv shn shc) (.slice sdv sdn sdc) M'∧Blk wz q (outRow sp dr (H.cellsOut M'.cells v.cells k) (.slice shv shn shc) (.slice sdv sdn sdc)) 124∧Blk wz (w.heap.size+1) #[.int .u8 0,.int .i64 0,.int .i64 0,.int .u16 0,.int .u16 0,.int .u16 0,.int .u16 0,.int .u16 0,.int .u16 0,.int .u16 0,.int .u16 0,.slice none 0 0,.slice none 0 0] 124∧Below w.heap.size w wz)
         (fun i _=>8-(intOf i).toNat)
        case atStart=>exact⟨0,by omega,rfl,HS2.out,HV2.out,HU2.out,HB2.out⟩
        case round=>
         clear HS HV HU HBu HS2 HV2 HU2 HB2 hs13 hs11 hs12 of o11 o12;obtain⟨k,hk,rfl,hm,hv,hu,hbz⟩:=hrel;by_cases hk8:k<8
         ·have cc:=hm.ccell k hk8;have fc:=hv.free (3+k);have hr:=getD_range HRk.out.ok.cells k;have oc:=hv.cell (3+k);rw[outRow_at _ _ _ _ _ hk8] at oc;have HM2:Hid (SB (wr.setCell ⟨q,3+k,none⟩ (.int .u16 (M'.cells.getD k 0))) w.heap.size w1.heap.size pv (.slice shv shn shc) (.slice sdv sdn sdc) M'):=hm.side hv _ _;have HV3:Hid (Blk (wr.setCell ⟨q,3+k,none⟩ (.int .u16 (M'.cells.getD k 0))) q (outRow sp dr (H.cellsOut M'.cells v.cells (k+1)) (.slice shv shn shc) (.slice sdv sdn sdc)) 124):=by have h:=hv.set (3+k) (.int .u16 (M'.cells.getD k 0));rw[outRow_copy sp dr hm.hc rfl _ _ hk8] at h;exact h
          have HU3:=show Hid (Blk (wr.setCell ⟨q,3+k,none⟩ (.int .u16 (M'.cells.getD k 0))) (w.heap.size+1) _ 124) from hu.other ⟨q,3+k,none⟩ _ hb3;have HB3:Hid (Below w.heap.size w (wr.setCell ⟨q,3+k,none⟩ (.int .u16 (M'.cells.getD k 0)))):=hbz.setCell (p:=⟨q,3+k,none⟩) hsw _;generalize (H.cellsOut M'.cells v.cells k).getD k 0=y at oc;clear hm hv hu hbz;obtain⟨x,hx⟩:∃x,x=M'.cells.getD k 0:=⟨_,rfl⟩;rw[←hx] at cc HM2 HV3 HU3 HB3 hr;have hw:IntKind.u16.wrap x=x:=by rw[IntKind.wrap_u16];omega
          have hk0:(0:Int)≤(k:Int):=by omega
          have hk1:(k:Int)<8:=by omega
          have hw2:IntKind.i64.wrap ((k:Int)+1)=(k:Int)+1:=by rw[IntKind.wrap_i64];omega
          clear hx hr;go_wp2;go_roundw
          all_goals first
           |(case rel=>exact⟨k+1,by omega,by go_num,HM2.out,HV3.out,HU3.out,HB3.out⟩)
           |skip
          all_goals first
           |(case measure=>simp[intOf];omega)
           |skip
         ·obtain rfl:k=8:=by omega
          have hkk:¬(8:Int)<8:=by omega
          rw[H.cellsOut_all hm.hc rfl] at hv;have HMz:Hid (SB wr w.heap.size w1.heap.size pv (.slice shv shn shc) (.slice sdv sdn sdc) M'):=hm;have HUz:=show Hid (Blk wr (w.heap.size+1) _ 124) from hu;have HBz:Hid (Below w.heap.size w wr):=hbz;obtain⟨y0,hy0⟩:∃y,y=M'.cells.getD 0 0:=⟨_,rfl⟩;obtain⟨y1,hy1⟩:∃y,y=M'.cells.getD 1 0:=⟨_,rfl⟩;obtain⟨y2,hy2⟩:∃y,y=M'.cells.getD 2 0:=⟨_,rfl⟩;obtain⟨y3,hy3⟩:∃y,y=M'.cells.getD 3 0:=⟨_,rfl⟩;obtain⟨y4,hy4⟩:∃y,y=M'.cells.getD 4 0:=⟨_,rfl⟩;obtain⟨y5,hy5⟩:∃y,y=M'.cells.getD 5 0:=⟨_,rfl⟩;obtain⟨y6,hy6⟩:∃y,y=M'.cells.getD 6 0:=⟨_,rfl⟩;obtain⟨y7,hy7⟩:∃y,y=M'.cells.getD 7 0:=⟨_,rfl⟩;unfold outRow at hv;rw[←hy0,←hy1,←hy2,←hy3,←hy4,←hy5,←hy6,←hy7] at hv;have Hy0:Hid (y0=M'.cells.getD 0 0):=hy0;have Hy1:Hid (y1=M'.cells.getD 1 0):=hy1;have Hy2:Hid (y2=M'.cells.getD 2 0):=hy2;have Hy3:Hid (y3=M'.cells.getD 3 0):=hy3;have Hy4:Hid (y4=M'.cells.getD 4 0):=hy4;have Hy5:Hid (y5=M'.cells.getD 5 0):=hy5;have Hy6:Hid (y6=M'.cells.getD 6 0):=hy6;have Hy7:Hid (y7=M'.cells.getD 7 0):=hy7;have o0:wr.cell? ⟨q,0,none⟩=some (.int .u8 0):=by rw[hv.cell 0];rfl
          have o1:wr.cell? ⟨q,1,none⟩=some (.int .i64 (sp:Int)):=by rw[hv.cell 1];rfl
          have o2:wr.cell? ⟨q,2,none⟩=some (.int .i64 (dr:Int)):=by rw[hv.cell 2];rfl
          have o3:wr.cell? ⟨q,3,none⟩=some (.int .u16 y0):=by rw[hv.cell 3];rfl
          have o4:wr.cell? ⟨q,4,none⟩=some (.int .u16 y1):=by rw[hv.cell 4];rfl
          have o5:wr.cell? ⟨q,5,none⟩=some (.int .u16 y2):=by rw[hv.cell 5];rfl
          have o6:wr.cell? ⟨q,6,none⟩=some (.int .u16 y3):=by rw[hv.cell 6];rfl
          have o7:wr.cell? ⟨q,7,none⟩=some (.int .u16 y4):=by rw[hv.cell 7];rfl
          have o8:wr.cell? ⟨q,8,none⟩=some (.int .u16 y5):=by rw[hv.cell 8];rfl
          have o9:wr.cell? ⟨q,9,none⟩=some (.int .u16 y6):=by rw[hv.cell 9];rfl
          have o10:wr.cell? ⟨q,10,none⟩=some (.int .u16 y7):=by rw[hv.cell 10];rfl
          have o11:wr.cell? ⟨q,11,none⟩=some (.slice shv shn shc):=by rw[hv.cell 11];rfl
          have o12:wr.cell? ⟨q,12,none⟩=some (.slice sdv sdn sdc):=by rw[hv.cell 12];rfl
          have z0:wr.cell? ⟨w.heap.size+1,0,none⟩=some (.int .u8 0):=by rw[hu.cell 0];rfl
          have z1:wr.cell? ⟨w.heap.size+1,1,none⟩=some (.int .i64 0):=by rw[hu.cell 1];rfl
          have z2:wr.cell? ⟨w.heap.size+1,2,none⟩=some (.int .i64 0):=by rw[hu.cell 2];rfl
          have z3:wr.cell? ⟨w.heap.size+1,3,none⟩=some (.int .u16 0):=by rw[hu.cell 3];rfl
          have z4:wr.cell? ⟨w.heap.size+1,4,none⟩=some (.int .u16 0):=by rw[hu.cell 4];rfl
          have z5:wr.cell? ⟨w.heap.size+1,5,none⟩=some (.int .u16 0):=by rw[hu.cell 5];rfl
          have z6:wr.cell? ⟨w.heap.size+1,6,none⟩=some (.int .u16 0):=by rw[hu.cell 6];rfl
          have z7:wr.cell? ⟨w.heap.size+1,7,none⟩=some (.int .u16 0):=by rw[hu.cell 7];rfl
          have z8:wr.cell? ⟨w.heap.size+1,8,none⟩=some (.int .u16 0):=by rw[hu.cell 8];rfl
          have z9:wr.cell? ⟨w.heap.size+1,9,none⟩=some (.int .u16 0):=by rw[hu.cell 9];rfl
          have z10:wr.cell? ⟨w.heap.size+1,10,none⟩=some (.int .u16 0):=by rw[hu.cell 10];rfl
          have z11:wr.cell? ⟨w.heap.size+1,11,none⟩=some (.slice none 0 0):=by rw[hu.cell 11];rfl
          have z12:wr.cell? ⟨w.heap.size+1,12,none⟩=some (.slice none 0 0):=by rw[hu.cell 12];rfl
          have zf:∀i,wr.frozen? ⟨w.heap.size+1,i,none⟩=false:=fun i=>hu.free i;clear hm hv hu hbz hy0 hy1 hy2 hy3 hy4 hy5 hy6 hy7;go_wp2;refine bodyPost_ret (v:= .tuple #[(.agg #[.int .u8 0,.int .i64 (sp:Int),.int .i64 (dr:Int),.int .u16 y0,.int .u16 y1,.int .u16 y2,.int .u16 y3,.int .u16 y4,.int .u16 y5,.int .u16 y6,.int .u16 y7,.slice shv shn shc,.slice sdv sdn sdc]),.int .i64 0]) ?_ rfl ?_
          ·simp[results,Tryz.results58,go_sem,z0,z1,z2,z3,z4,z5,z6,z7,z8,z9,z10,z11,z12]
          ·rw[HRunE.out,HEq.out];unfold H.outOf;rw[if_pos HMF.out];exact⟨.slice shv shn shc,.slice sdv sdn sdc,by rw[Hy0.out,Hy1.out,Hy2.out,Hy3.out,Hy4.out,Hy5.out,Hy6.out,Hy7.out,Hsp.out,Hdr.out];rfl,own_13 HMz.out.shows (fun e'=>HUz.out.ne_own HMz.out.shows (by decide) e'.symm) _ _ _ _ _ _ _ _ _ _ _ _ _,own_13 HMz.out.sends (fun e'=>HUz.out.ne_own HMz.out.sends (by decide) e'.symm) _ _ _ _ _ _ _ _ _ _ _ _ _,below_13 HBz.out (by omega) _ _ _ _ _ _ _ _ _ _ _ _ _⟩
    ·have HEq:Hid (H.runM l (v.inp ds) Fn (Fn+1) (H.mach0 v.cells)=N):=by
      unfold Hid;rw[HRn.out];rcases HQ.out with hq|⟨hq,_⟩
      ·have:=HRk.out.steps;rw[hq,show Fn+1-N.steps=(Fn-N.steps)+1 by omega];refine runM_halt ?_;unfold H.halt;rw[←Hft.out];simp[hz]
      ·rw[hq];rfl
     have hb:(ft==0)=false:=by rw[beq_eq_false_iff_ne];exact hz
     have hfr:=HRk.out.fault;rw[←Hft.out] at hfr;have hw:IntKind.u8.wrap ft=ft:=by rw[IntKind.wrap_u8];omega
     have c14:=HM.out.c14;rw[HLk.out.draws] at c14;obtain⟨dr,hdr⟩:∃dr,dr=N.draws:=⟨_,rfl⟩;rw[←hdr] at c14;have Hz:Hid (ft≠0):=hz;have Hdr:Hid (dr=N.draws):=hdr;have e1:wr.cell? ⟨w.heap.size,1,none⟩=some (.int .u16 v.c0):=by rw[(HXr.out wr HFr.out).cell 1,HArr.out];rfl
     have e2:wr.cell? ⟨w.heap.size,2,none⟩=some (.int .u16 v.c1):=by rw[(HXr.out wr HFr.out).cell 2,HArr.out];rfl
     have e3:wr.cell? ⟨w.heap.size,3,none⟩=some (.int .u16 v.c2):=by rw[(HXr.out wr HFr.out).cell 3,HArr.out];rfl
     have e4:wr.cell? ⟨w.heap.size,4,none⟩=some (.int .u16 v.c3):=by rw[(HXr.out wr HFr.out).cell 4,HArr.out];rfl
     have e5:wr.cell? ⟨w.heap.size,5,none⟩=some (.int .u16 v.c4):=by rw[(HXr.out wr HFr.out).cell 5,HArr.out];rfl
     have e6:wr.cell? ⟨w.heap.size,6,none⟩=some (.int .u16 v.c5):=by rw[(HXr.out wr HFr.out).cell 6,HArr.out];rfl
     have e7:wr.cell? ⟨w.heap.size,7,none⟩=some (.int .u16 v.c6):=by rw[(HXr.out wr HFr.out).cell 7,HArr.out];rfl
     have e8:wr.cell? ⟨w.heap.size,8,none⟩=some (.int .u16 v.c7):=by rw[(HXr.out wr HFr.out).cell 8,HArr.out];rfl
     have HZ3:=HZr.out wr HFr.out;have HZ3':=show Hid (Blk wr (w.heap.size+1) _ 124) from HZr.out wr HFr.out;have z0:=(HZr.out wr HFr.out).cell 0;have z1:=(HZr.out wr HFr.out).cell 1;have z2:=(HZr.out wr HFr.out).cell 2;have z3:=(HZr.out wr HFr.out).cell 3;have z4:=(HZr.out wr HFr.out).cell 4;have z5:=(HZr.out wr HFr.out).cell 5;have z6:=(HZr.out wr HFr.out).cell 6;have z7:=(HZr.out wr HFr.out).cell 7;have z8:=(HZr.out wr HFr.out).cell 8;have z9:=(HZr.out wr HFr.out).cell 9;have z10:=(HZr.out wr HFr.out).cell 10;have z11:=(HZr.out wr HFr.out).cell 11;have z12:=(HZr.out wr HFr.out).cell 12;simp at z0 z1 z2 z3 z4 z5 z6 z7 z8 z9 z10 z11 z12;have x1:∀o,(wr.alloc o).cell? ⟨w.heap.size,1,none⟩=some (.int .u16 v.c0):=fun o=>by rw[((HXr.out wr HFr.out).alloc o).cell 1,HArr.out];rfl
     have x2:∀o,(wr.alloc o).cell? ⟨w.heap.size,2,none⟩=some (.int .u16 v.c1):=fun o=>by rw[((HXr.out wr HFr.out).alloc o).cell 2,HArr.out];rfl
     have x3:∀o,(wr.alloc o).cell? ⟨w.heap.size,3,none⟩=some (.int .u16 v.c2):=fun o=>by rw[((HXr.out wr HFr.out).alloc o).cell 3,HArr.out];rfl
     have x4:∀o,(wr.alloc o).cell? ⟨w.heap.size,4,none⟩=some (.int .u16 v.c3):=fun o=>by rw[((HXr.out wr HFr.out).alloc o).cell 4,HArr.out];rfl
     have x5:∀o,(wr.alloc o).cell? ⟨w.heap.size,5,none⟩=some (.int .u16 v.c4):=fun o=>by rw[((HXr.out wr HFr.out).alloc o).cell 5,HArr.out];rfl
     have x6:∀o,(wr.alloc o).cell? ⟨w.heap.size,6,none⟩=some (.int .u16 v.c5):=fun o=>by rw[((HXr.out wr HFr.out).alloc o).cell 6,HArr.out];rfl
     have x7:∀o,(wr.alloc o).cell? ⟨w.heap.size,7,none⟩=some (.int .u16 v.c6):=fun o=>by rw[((HXr.out wr HFr.out).alloc o).cell 7,HArr.out];rfl
     have x8:∀o,(wr.alloc o).cell? ⟨w.heap.size,8,none⟩=some (.int .u16 v.c7):=fun o=>by rw[((HXr.out wr HFr.out).alloc o).cell 8,HArr.out];rfl
     have zf:∀i,wr.frozen? ⟨w.heap.size+1,i,none⟩=false:=fun i=>HZ3.free i;have hbl:=HM.out.blk.lt;have hb1:¬w1.heap.size=wr.heap.size:=by omega
     have hb2:¬w.heap.size=wr.heap.size:=by omega
     have hb3:¬w.heap.size+1=wr.heap.size:=by omega
     have hbw2:Below w.heap.size w wr:=HB1.out.trans HFr.out.below;have hsw:=hbw2.size;clear hz hdr HZ3 hfr;go_wp2_with fail;have HU:Hid (Blk ((wr.alloc (.cells #[.int .u8 ft,.int .i64 (sp:Int),.int .i64 (dr:Int),.int .u16 v.c0,.int .u16 v.c1,.int .u16 v.c2,.int .u16 v.c3,.int .u16 v.c4,.int .u16 v.c5,.int .u16 v.c6,.int .u16 v.c7,.slice none 0 0,.slice none 0 0] 124)).drew) (w.heap.size+1) #[.int .u8 0,.int .i64 0,.int .i64 0,.int .u16 0,.int .u16 0,.int .u16 0,.int .u16 0,.int .u16 0,.int .u16 0,.int .u16 0,.int .u16 0,.slice none 0 0,.slice none 0 0] 124):=HZ3'.out.alloc _;have HV:Hid (Blk ((wr.alloc (.cells #[.int .u8 ft,.int .i64 (sp:Int),.int .i64 (dr:Int),.int .u16 v.c0,.int .u16 v.c1,.int .u16 v.c2,.int .u16 v.c3,.int .u16 v.c4,.int .u16 v.c5,.int .u16 v.c6,.int .u16 v.c7,.slice none 0 0,.slice none 0 0] 124)).drew) wr.heap.size #[.int .u8 ft,.int .i64 (sp:Int),.int .i64 (dr:Int),.int .u16 v.c0,.int .u16 v.c1,.int .u16 v.c2,.int .u16 v.c3,.int .u16 v.c4,.int .u16 v.c5,.int .u16 v.c6,.int .u16 v.c7,.slice none 0 0,.slice none 0 0] 124):=Blk.new wr _ 124;have HS:Hid (((wr.alloc (.cells #[.int .u8 ft,.int .i64 (sp:Int),.int .i64 (dr:Int),.int .u16 v.c0,.int .u16 v.c1,.int .u16 v.c2,.int .u16 v.c3,.int .u16 v.c4,.int .u16 v.c5,.int .u16 v.c6,.int .u16 v.c7,.slice none 0 0,.slice none 0 0] 124)).drew).cell? ⟨w1.heap.size,13,none⟩=some (.int .i64 ft)):=by have h:=(HM.out.alloc (.cells #[.int .u8 ft,.int .i64 (sp:Int),.int .i64 (dr:Int),.int .u16 v.c0,.int .u16 v.c1,.int .u16 v.c2,.int .u16 v.c3,.int .u16 v.c4,.int .u16 v.c5,.int .u16 v.c6,.int .u16 v.c7,.slice none 0 0,.slice none 0 0] 124)).drew.c13;rw[HLk.out.fault,←Hft.out] at h;exact h
     have HBu:Hid (Below w.heap.size w ((wr.alloc (.cells #[.int .u8 ft,.int .i64 (sp:Int),.int .i64 (dr:Int),.int .u16 v.c0,.int .u16 v.c1,.int .u16 v.c2,.int .u16 v.c3,.int .u16 v.c4,.int .u16 v.c5,.int .u16 v.c6,.int .u16 v.c7,.slice none 0 0,.slice none 0 0] 124)).drew)):=(hbw2.alloc hsw _).drew;clear z0 z1 z2 z3 z4 z5 z6 z7 z8 z9 z10 z11 z12 zf hbw2;go_region
     all_goals
      generalize (wr.alloc (.cells #[.int .u8 ft,.int .i64 (sp:Int),.int .i64 (dr:Int),.int .u16 v.c0,.int .u16 v.c1,.int .u16 v.c2,.int .u16 v.c3,.int .u16 v.c4,.int .u16 v.c5,.int .u16 v.c6,.int .u16 v.c7,.slice none 0 0,.slice none 0 0] 124)).drew=u at*;have HZu:=HU.out;have HOu:=HV.out;have hs13:=HS.out;have z0:u.cell? ⟨w.heap.size+1,0,none⟩=some (.int .u8 0):=by rw[HZu.cell 0];rfl
      have z1:u.cell? ⟨w.heap.size+1,1,none⟩=some (.int .i64 0):=by rw[HZu.cell 1];rfl
      have z2:u.cell? ⟨w.heap.size+1,2,none⟩=some (.int .i64 0):=by rw[HZu.cell 2];rfl
      have z3:u.cell? ⟨w.heap.size+1,3,none⟩=some (.int .u16 0):=by rw[HZu.cell 3];rfl
      have z4:u.cell? ⟨w.heap.size+1,4,none⟩=some (.int .u16 0):=by rw[HZu.cell 4];rfl
      have z5:u.cell? ⟨w.heap.size+1,5,none⟩=some (.int .u16 0):=by rw[HZu.cell 5];rfl
      have z6:u.cell? ⟨w.heap.size+1,6,none⟩=some (.int .u16 0):=by rw[HZu.cell 6];rfl
      have z7:u.cell? ⟨w.heap.size+1,7,none⟩=some (.int .u16 0):=by rw[HZu.cell 7];rfl
      have z8:u.cell? ⟨w.heap.size+1,8,none⟩=some (.int .u16 0):=by rw[HZu.cell 8];rfl
      have z9:u.cell? ⟨w.heap.size+1,9,none⟩=some (.int .u16 0):=by rw[HZu.cell 9];rfl
      have z10:u.cell? ⟨w.heap.size+1,10,none⟩=some (.int .u16 0):=by rw[HZu.cell 10];rfl
      have z11:u.cell? ⟨w.heap.size+1,11,none⟩=some (.slice none 0 0):=by rw[HZu.cell 11];rfl
      have z12:u.cell? ⟨w.heap.size+1,12,none⟩=some (.slice none 0 0):=by rw[HZu.cell 12];rfl
      have o0:u.cell? ⟨wr.heap.size,0,none⟩=some (.int .u8 ft):=by rw[HOu.cell 0];rfl
      have o1:u.cell? ⟨wr.heap.size,1,none⟩=some (.int .i64 (sp:Int)):=by rw[HOu.cell 1];rfl
      have o2:u.cell? ⟨wr.heap.size,2,none⟩=some (.int .i64 (dr:Int)):=by rw[HOu.cell 2];rfl
      have o3:u.cell? ⟨wr.heap.size,3,none⟩=some (.int .u16 v.c0):=by rw[HOu.cell 3];rfl
      have o4:u.cell? ⟨wr.heap.size,4,none⟩=some (.int .u16 v.c1):=by rw[HOu.cell 4];rfl
      have o5:u.cell? ⟨wr.heap.size,5,none⟩=some (.int .u16 v.c2):=by rw[HOu.cell 5];rfl
      have o6:u.cell? ⟨wr.heap.size,6,none⟩=some (.int .u16 v.c3):=by rw[HOu.cell 6];rfl
      have o7:u.cell? ⟨wr.heap.size,7,none⟩=some (.int .u16 v.c4):=by rw[HOu.cell 7];rfl
      have o8:u.cell? ⟨wr.heap.size,8,none⟩=some (.int .u16 v.c5):=by rw[HOu.cell 8];rfl
      have o9:u.cell? ⟨wr.heap.size,9,none⟩=some (.int .u16 v.c6):=by rw[HOu.cell 9];rfl
      have o10:u.cell? ⟨wr.heap.size,10,none⟩=some (.int .u16 v.c7):=by rw[HOu.cell 10];rfl
      have o11:u.cell? ⟨wr.heap.size,11,none⟩=some (.slice none 0 0):=by rw[HOu.cell 11];rfl
      have o12:u.cell? ⟨wr.heap.size,12,none⟩=some (.slice none 0 0):=by rw[HOu.cell 12];rfl
      have zf:∀i,u.frozen? ⟨w.heap.size+1,i,none⟩=false:=fun i=>HZu.free i;clear HZu HOu;go_wp2;refine bodyPost_ret (v:= .tuple #[(.agg #[.int .u8 ft,.int .i64 (sp:Int),.int .i64 (dr:Int),.int .u16 v.c0,.int .u16 v.c1,.int .u16 v.c2,.int .u16 v.c3,.int .u16 v.c4,.int .u16 v.c5,.int .u16 v.c6,.int .u16 v.c7,.slice none 0 0,.slice none 0 0]),.int .i64 0]) ?_ rfl ?_
      ·simp[results,Tryz.results58,go_sem,z0,z1,z2,z3,z4,z5,z6,z7,z8,z9,z10,z11,z12]
      ·rw[HRunE.out,HEq.out];unfold H.outOf;rw[if_neg (by rw[←Hft.out];exact Hz.out)];exact⟨.slice none 0 0,.slice none 0 0,by rw[←Hft.out,←Hsp.out,←Hdr.out];rfl,World.ownsRow_nil _ _ _ _,World.ownsRow_nil _ _ _ _,below_13 HBu.out (by omega) _ _ _ _ _ _ _ _ _ _ _ _ _⟩
end Go.Proofs.YtidaflmmldefcaaGreat
