/- Parts of the proof of Hosts: RunZ, RunA, RunK. -/
import Derived.Test.YtidaflmmldefcaaGreatQ09
import Derived.Deep.Cut
import Derived.Deep.WholeRow
import Derived.Test.YtidaflmmldefcaaGreatQ12
set_option maxHeartbeats 4000000
namespace Go.Proofs.YtidaflmmldefcaaGreat
open Go.RowKit
set_option linter.unusedVariables false
theorem wpList_store_last {P:Program} {ops:Array Oper} {rest:List Oper} {op:Oper} {a:Act} {w:World} {Q:Exit→Act→World→Prop} (hgd:op.guard=none) (ty:TypeId) (x y:Operand) (ho:op.op= .store ty x y)
 (c c':Array Value) (hx:a.eval x= .pointer (some ⟨w.heap.size,0,none⟩)) (hy:a.eval y= .agg c') (hi:(P.info? ty).map (·.size)=some c'.size) (hs:c.size=c'.size) (h1:c'.all (·.oneCell')=true)
 (h:wpList P ops Q rest (a.put op.dst undef) (w.alloc (.cells c' ty))):wpList P ops Q (op::rest) a (w.alloc (.cells c ty)):=by
 refine wpList_plain hgd fun K hK=>?_;unfold Oper.wp execOp;simp only[ho,hx,hy,Sem.run_bind,Result.andThen_ok,run_storeAt_new w ty c c' hi hs h1];exact hK _ _ h
theorem wpList_build_told {P:Program} {ops:Array Oper} {rest:List Oper} {op:Oper} {a:Act} {w:World} {Q:Exit→Act→World→Prop} (hgd:op.guard=none) (ty:TypeId) (parts:Array (Nat×Operand)) (ho:op.op= .build ty parts)
 (vals:Array (Nat×Value)) (hv:parts.map (fun(i,x)=>(i,a.eval x))=vals) (r:Value) (hrun:(Instr.build ty vals).run P w= .ok r w)
 (h:wpList P ops Q rest (a.put op.dst r) w):wpList P ops Q (op::rest) a w:=by
 refine wpList_plain hgd fun K hK=>?_;unfold Oper.wp execOp;simp only[ho,hv,Sem.run_bind,hrun];exact hK _ _ h
theorem build75 (k0 k1 k2 k3 k4 k5 k6 k7:Int) (w:World):(Instr.build 152 #[(2,.agg #[.int .u16 k0,.int .u16 k1,.int .u16 k2,.int .u16 k3,.int .u16 k4,.int .u16 k5,.int .u16 k6,.int .u16 k7])]).run Tryz.prog w= .ok (.agg #[.int .u16 0,.int .u16 0,.int .u16 0,.int .u16 0,.int .u16 0,.int .u16 0,.int .u16 0,.int .u16 0,.int .i64 0,.int .u16 k0,.int .u16 k1,.int .u16 k2,.int .u16 k3,.int .u16 k4,.int .u16 k5,.int .u16 k6,.int .u16 k7,.string ⟨#[]⟩,.int .i64 0,.slice none 0 0,.slice none 0 0,.int .i64 0,.int .i64 0,.int .i64 0,.bool false,.int .u8 0]) w:=by kernel_rfl
set_option maxRecDepth 100000 in
theorem runW_main (code:ByteArray) (v:InV) (ds:List Int) (w:World) (hc:code.size≤maxLen) (hv:v.ok) (hd:Drawn w v ds w.heap.size) (l:List (Int×Int)) (hd1:H.decode (H.bts code)=(l,0,0)) (hl1:1≤l.length) (hl64:l.length≤64) (hlok:H.okFrom l.length 0 l=true) (hf0:0≤v.fuel) (hf1:v.fuel≤1000): Calls Tryz.prog 66 #[.string code,.agg v.arr] w fun e w'=>runEnd (H.run (H.bts code) v.cells (v.inp ds)) w.heap.size w e w':=by
 have Hc:Hid (code.size≤maxLen):=hc;have Hv:Hid v.ok:=hv;have HD:Hid (Drawn w v ds w.heap.size):=hd;obtain⟨F,hF⟩:∃F,F=v.fuel:=⟨_,rfl⟩;have HF:Hid (F=v.fuel):=hF;have harr:v.arr=#[.int .i64 F,.int .u16 v.c0,.int .u16 v.c1,.int .u16 v.c2,.int .u16 v.c3,.int .u16 v.c4,.int .u16 v.c5,.int .u16 v.c6,.int .u16 v.c7,.int .u8 v.what,.int .u8 v.by_,.int .u16 v.arg,.int .u8 v.src,.int .u8 v.route,.slice v.ao v.n v.cap]:=by unfold InV.arr;rw[hF]
 have HArr:Hid (v.arr=#[.int .i64 F,.int .u16 v.c0,.int .u16 v.c1,.int .u16 v.c2,.int .u16 v.c3,.int .u16 v.c4,.int .u16 v.c5,.int .u16 v.c6,.int .u16 v.c7,.int .u8 v.what,.int .u8 v.by_,.int .u16 v.arg,.int .u8 v.src,.int .u8 v.route,.slice v.ao v.n v.cap]):=harr;rw[harr];have HDE:Hid (H.decode (H.bts code)=(l,0,0)):=hd1;clear hc hv hd hF harr hd1;go_enter Tryz.func66,Tryz.ntmps66;go_wp2_with fail;refine(dec_any code _ Hc.out).mono ?_;rintro e w1 ⟨v1,rfl,hown1,hb1⟩;have hbw:Below w.heap.size w w1:=(((Below.refl _ _).alloc (Nat.le_refl _) _).alloc (by simp) _).trans (hb1.mono (by simp;omega));have HB1:Hid (Below w.heap.size w w1):=hbw;have hs1:=hbw.size;have hs1b:w.heap.size+2≤w1.heap.size:=by have:=hb1.size;simp at this;omega
 have HX1:Hid (Blk w1 w.heap.size v.arr 128):=by unfold Hid;rw[HArr.out];exact((Blk.new w _ 128).alloc _).below hb1 (by simp;omega)
 have HZ1:Hid (Blk w1 (w.heap.size+1) #[.int .u8 0,.int .i64 0,.int .i64 0,.int .u16 0,.int .u16 0,.int .u16 0,.int .u16 0,.int .u16 0,.int .u16 0,.int .u16 0,.int .u16 0,.slice none 0 0,.slice none 0 0] 124):=by have h:=Blk.new (w.alloc (.cells #[.int .i64 F,.int .u16 v.c0,.int .u16 v.c1,.int .u16 v.c2,.int .u16 v.c3,.int .u16 v.c4,.int .u16 v.c5,.int .u16 v.c6,.int .u16 v.c7,.int .u8 v.what,.int .u8 v.by_,.int .u16 v.arg,.int .u8 v.src,.int .u8 v.route,.slice v.ao v.n v.cap] 128)) #[.int .u8 0,.int .i64 0,.int .i64 0,.int .u16 0,.int .u16 0,.int .u16 0,.int .u16 0,.int .u16 0,.int .u16 0,.int .u16 0,.int .u16 0,.slice none 0 0,.slice none 0 0] 124;rw[show(w.alloc (.cells #[.int .i64 F,.int .u16 v.c0,.int .u16 v.c1,.int .u16 v.c2,.int .u16 v.c3,.int .u16 v.c4,.int .u16 v.c5,.int .u16 v.c6,.int .u16 v.c7,.int .u8 v.what,.int .u8 v.by_,.int .u16 v.arg,.int .u8 v.src,.int .u8 v.route,.slice v.ao v.n v.cap] 128)).heap.size=w.heap.size+1 by simp] at h;exact h.below hb1 (by simp)
 have z0:=HZ1.out.cell 0;have z1:=HZ1.out.cell 1;have z2:=HZ1.out.cell 2;have z3:=HZ1.out.cell 3;have z4:=HZ1.out.cell 4;have z5:=HZ1.out.cell 5;have z6:=HZ1.out.cell 6;have z7:=HZ1.out.cell 7;have z8:=HZ1.out.cell 8;have z9:=HZ1.out.cell 9;have z10:=HZ1.out.cell 10;have z11:=HZ1.out.cell 11;have z12:=HZ1.out.cell 12;simp at z0 z1 z2 z3 z4 z5 z6 z7 z8 z9 z10 z11 z12;have zf:∀i,w1.frozen? ⟨w.heap.size+1,i,none⟩=false:=fun i=>HZ1.out.free i;have hd:=HDE.out;rw[←HF.out] at hf0 hf1;have hf2:¬F<0:=by omega
 have hf3:¬1000<F:=by omega
 rw[hd] at hown1 ⊢;simp only at hown1 ⊢;obtain⟨g,cv,rfl,hgl⟩:=own_slice hown1 (by omega);obtain⟨n,hn⟩:∃n,n=l.length:=⟨_,rfl⟩;have Hn:Hid (l.length=n):=hn.symm;rw[←hn] at hl1 hl64 hlok hown1 ⊢;have HPA:Hid (ProgAt w1 g l):=own_progAt hown1 hn.symm;have HLo:Hid (H.okFrom n 0 l=true):=hlok;have Hd:Hid (H.decode (H.bts code)=(l,0,0)):=hd;have Hop:Hid (∀x∈l,0≤x.1):=by intro x hx;have h:=dec_ops (H.bts code) l (H.at0_bts_range code) hd x hx;exact h
 have e0:=HX1.out.cell 0;have e1:=HX1.out.cell 1;have e2:=HX1.out.cell 2;have e3:=HX1.out.cell 3;have e4:=HX1.out.cell 4;have e5:=HX1.out.cell 5;have e6:=HX1.out.cell 6;have e7:=HX1.out.cell 7;have e8:=HX1.out.cell 8;have e9:=HX1.out.cell 9;have e10:=HX1.out.cell 10;have e11:=HX1.out.cell 11;have e12:=HX1.out.cell 12;have e13:=HX1.out.cell 13;have e14:=HX1.out.cell 14;rw[HArr.out] at e0 e1 e2 e3 e4 e5 e6 e7 e8 e9 e10 e11 e12 e13 e14;simp at e0 e1 e2 e3 e4 e5 e6 e7 e8 e9 e10 e11 e12 e13 e14;clear hd hown1 hb1 hbw hn hlok;have hx1:¬w.heap.size=w1.heap.size:=by omega
 have hx2:¬w.heap.size+1=w1.heap.size:=by omega
 have hx3:w.heap.size<w1.heap.size:=by omega
 have hx4:w.heap.size+1<w1.heap.size:=by omega
 go_upto_region 6 with fail
 apply wp_region_lit;go_step;go_step;go_step;go_step;go_step;go_step;refine wpList_build_told rfl 152 #[(2,.tmp 30)] rfl #[(2,.agg #[.int .u16 v.c0,.int .u16 v.c1,.int .u16 v.c2,.int .u16 v.c3,.int .u16 v.c4,.int .u16 v.c5,.int .u16 v.c6,.int .u16 v.c7])] ?_ _ (build75 v.c0 v.c1 v.c2 v.c3 v.c4 v.c5 v.c6 v.c7 _) ?_
 ·simp[Act.eval]
 go_step;go_step;go_step;refine wpList_store_last rfl 152 (.tmp 9) (.tmp 31) rfl _ #[.int .u16 0,.int .u16 0,.int .u16 0,.int .u16 0,.int .u16 0,.int .u16 0,.int .u16 0,.int .u16 0,.int .i64 0,.int .u16 v.c0,.int .u16 v.c1,.int .u16 v.c2,.int .u16 v.c3,.int .u16 v.c4,.int .u16 v.c5,.int .u16 v.c6,.int .u16 v.c7,.string ⟨#[]⟩,.int .i64 0,.slice none 0 0,.slice none 0 0,.int .i64 0,.int .i64 0,.int .i64 0,.bool false,.int .u8 0] rfl rfl (by kernel_rfl) rfl (by kernel_rfl) ?_;obtain⟨w2,hw2⟩:∃w2,w2=w1.alloc (.cells #[.int .u16 0,.int .u16 0,.int .u16 0,.int .u16 0,.int .u16 0,.int .u16 0,.int .u16 0,.int .u16 0,.int .i64 0,.int .u16 v.c0,.int .u16 v.c1,.int .u16 v.c2,.int .u16 v.c3,.int .u16 v.c4,.int .u16 v.c5,.int .u16 v.c6,.int .u16 v.c7,.string ⟨#[]⟩,.int .i64 0,.slice none 0 0,.slice none 0 0,.int .i64 0,.int .i64 0,.int .i64 0,.bool false,.int .u8 0] 152):=⟨_,rfl⟩;rw[←hw2];have hb2:Below w1.heap.size w1 w2:=by rw[hw2];exact(Below.refl _ _).alloc (Nat.le_refl _) _
 have HB2:Hid (Below w.heap.size w w2):=HB1.out.trans (hb2.mono hs1);have HM2:Hid (MB w2 w.heap.size w1.heap.size [0,0,0,0,0,0,0,0] (.slice none 0 0) (.slice none 0 0) (H.mach0 v.cells)):=by unfold Hid;rw[hw2];exact⟨hs1,rfl,by show 0≤8;omega,rfl,rfl,Blk.new w1 _ 152,World.ownsRow_nil _ _ _ _,World.ownsRow_nil _ _ _ _⟩
 have HX2:Hid (Blk w2 w.heap.size v.arr 128):=HX1.out.below hb2 hx3;have HZ2:=show Hid (Blk w2 (w.heap.size+1) _ 124) from HZ1.out.below hb2 hx4;have HP2:Hid (ProgAt w2 g l):=by unfold Hid;rw[hw2];exact HPA.out.alloc _
 have hs2:w1.heap.size<w2.heap.size:=HM2.out.blk.lt;clear hb2 hw2 HX1 HZ1 HPA z0 z1 z2 z3 z4 z5 z6 z7 z8 z9 z10 z11 z12 zf e0 e1 e2 e3 e4 e5 e6 e7 e8 e9 e10 e11 e12 e13 e14;have e0:=HX2.out.cell 0;have e1:=HX2.out.cell 1;have e2:=HX2.out.cell 2;have e3:=HX2.out.cell 3;have e4:=HX2.out.cell 4;have e5:=HX2.out.cell 5;have e6:=HX2.out.cell 6;have e7:=HX2.out.cell 7;have e8:=HX2.out.cell 8;have e9:=HX2.out.cell 9;have e10:=HX2.out.cell 10;have e11:=HX2.out.cell 11;have e12:=HX2.out.cell 12;have e13:=HX2.out.cell 13;have e14:=HX2.out.cell 14;rw[HArr.out] at e0 e1 e2 e3 e4 e5 e6 e7 e8 e9 e10 e11 e12 e13 e14;simp at e0 e1 e2 e3 e4 e5 e6 e7 e8 e9 e10 e11 e12 e13 e14;obtain⟨Fn,hFn⟩:=Int.eq_ofNat_of_zero_le hf0;subst hFn;have HDr:Hid (Drawn w2 v ds w.heap.size):=HD.out.fr HB2.out;have HMo:Hid (MOk n (H.mach0 v.cells)):=⟨by intro x hx;simp[H.mach0] at hx,Hv.out.cells,by show 0≤_;omega,by show 0≤6;omega,by show(0:Int)≤0;omega,by show(0:Int)≤n;omega⟩;have HRUN:=run_any HM2.out v Hv.out ds HDr.out g n cv l Hn.out hl64 HLo.out Hop.out HP2.out HMo.out Fn HF.out.symm (by omega) (by show 0≤Fn;omega);rw[HArr.out] at HRUN;have HRU:Hid (Calls Tryz.prog 74 #[.pointer (some ⟨w1.heap.size,0,none⟩),.slice (some ⟨g,0,none⟩) n cv,.agg #[.int .i64 Fn,.int .u16 v.c0,.int .u16 v.c1,.int .u16 v.c2,.int .u16 v.c3,.int .u16 v.c4,.int .u16 v.c5,.int .u16 v.c6,.int .u16 v.c7,.int .u8 v.what,.int .u8 v.by_,.int .u16 v.arg,.int .u8 v.src,.int .u8 v.route,.slice v.ao v.n v.cap]] w2 fun e w'=>e= .returned (.tuple #[])∧Aft w2 w.heap.size w1.heap.size (H.runM l (v.inp ds) Fn (Fn+1) (H.mach0 v.cells)) w'):=HRUN;clear HRUN;go_wp2_with fail;refine HRU.out.mono ?_;rintro e w3 ⟨rfl,⟨pile3,sv3,dv3,hm3⟩,hf3'⟩;obtain⟨M',hM'⟩:∃M',M'=H.runM l (v.inp ds) Fn (Fn+1) (H.mach0 v.cells):=⟨_,rfl⟩;rw[←hM'] at hm3;have HRunE:Hid (H.run (H.bts code) v.cells (v.inp ds)=H.outOf v.cells M'):=by unfold Hid H.run;rw[HDE.out,if_pos rfl,if_neg (by show¬(v.fuel<0∨1000<v.fuel);rw[←HF.out];omega),hM'];show H.outOf v.cells (H.runM l (v.inp ds) v.fuel.toNat (v.fuel.toNat+1) (H.mach0 v.cells))=_;rw[←HF.out,Int.toNat_natCast]
 have HX3:Hid (Blk w3 w.heap.size v.arr 128):=hf3'.row _ _ _ HX2.out (by decide) (by decide) (by decide);have HZ3:=show Hid (Blk w3 (w.heap.size+1) _ 124) from hf3'.row _ _ _ HZ2.out (by decide) (by decide) (by decide);have HB3:Hid (Below w.heap.size w w3):=HB2.out.trans hf3'.below;have HM3:Hid (MB w3 w.heap.size w1.heap.size pile3 sv3 dv3 M'):=hm3;have hs3:=hm3.blk.lt;obtain⟨asx,cs,hsv⟩:=own_shape hm3.shows;obtain⟨ad,cd,hdv⟩:=own_shape hm3.sends;obtain⟨m0,m1,m2,m3,m4,m5,m6,m7,hmc⟩:=eight hm3.hc;have Hsv:Hid (sv3= .slice asx M'.shows.length cs):=hsv;have Hdv:Hid (dv3= .slice ad M'.sends.length cd):=hdv;have Hmc:Hid (M'.cells=[m0,m1,m2,m3,m4,m5,m6,m7]):=hmc;clear hm3 hf3' hM' hsv hdv hmc HX2 HZ2 HB2 HM2 HP2 HDr HMo HRU e0 e1 e2 e3 e4 e5 e6 e7 e8 e9 e10 e11 e12 e13 e14;have e1:=HX3.out.cell 1;have e2:=HX3.out.cell 2;have e3:=HX3.out.cell 3;have e4:=HX3.out.cell 4;have e5:=HX3.out.cell 5;have e6:=HX3.out.cell 6;have e7:=HX3.out.cell 7;have e8:=HX3.out.cell 8;rw[HArr.out] at e1 e2 e3 e4 e5 e6 e7 e8;simp at e1 e2 e3 e4 e5 e6 e7 e8;go_wp2_with fail;by_cases hft:M'.fault=0
 ·refine(outc_fine (by have h:=HM3.out;rw[Hsv.out,Hdv.out] at h;exact h) hft v.c0 v.c1 v.c2 v.c3 v.c4 v.c5 v.c6 v.c7 m0 m1 m2 m3 m4 m5 m6 m7 Hmc.out).mono ?_;have Hft:Hid (M'.fault=0):=hft;clear hft;rintro e w4 ⟨rfl,hb4⟩;unfold outAgg;have HZ4:=show Hid (Blk w4 (w.heap.size+1) _ 124) from HZ3.out.below hb4 HZ3.out.lt;have HB4:Hid (Below w.heap.size w w4):=HB3.out.trans (hb4.mono (by have:=HB3.out.size;omega));have HOs:Hid (w4.ownsRow w.heap.size 132 2 sv3 M'.shows.length (showCells M'.shows)):=own_below' HM3.out.shows hb4 (Nat.le_refl _);have HOd:Hid (w4.ownsRow w.heap.size 108 2 dv3 M'.sends.length (sendCells M'.sends)):=own_below' HM3.out.sends hb4 (Nat.le_refl _);have HNs:Hid (sv3.ownBlock≠some (w.heap.size+1)):=fun h=>HZ4.out.ne_own HOs.out (by decide) h.symm;have HNd:Hid (dv3.ownBlock≠some (w.heap.size+1)):=fun h=>HZ4.out.ne_own HOd.out (by decide) h.symm;have z0:=HZ4.out.cell 0;have z1:=HZ4.out.cell 1;have z2:=HZ4.out.cell 2;have z3:=HZ4.out.cell 3;have z4:=HZ4.out.cell 4;have z5:=HZ4.out.cell 5;have z6:=HZ4.out.cell 6;have z7:=HZ4.out.cell 7;have z8:=HZ4.out.cell 8;have z9:=HZ4.out.cell 9;have z10:=HZ4.out.cell 10;have z11:=HZ4.out.cell 11;have z12:=HZ4.out.cell 12;simp at z0 z1 z2 z3 z4 z5 z6 z7 z8 z9 z10 z11 z12;have zf:∀i,w4.frozen? ⟨w.heap.size+1,i,none⟩=false:=fun i=>HZ4.out.free i;clear hb4 HX3 HZ3 HB3 HM3 e1 e2 e3 e4 e5 e6 e7 e8;go_wp2;refine bodyPost_ret (v:= .tuple #[(.agg #[.int .u8 0,.int .i64 (M'.steps:Int),.int .i64 (M'.draws:Int),.int .u16 m0,.int .u16 m1,.int .u16 m2,.int .u16 m3,.int .u16 m4,.int .u16 m5,.int .u16 m6,.int .u16 m7,.slice asx M'.shows.length cs,.slice ad M'.sends.length cd]),.int .i64 0]) ?_ rfl ?_
  ·simp[results,Tryz.results66,go_sem,z0,z1,z2,z3,z4,z5,z6,z7,z8,z9,z10,z11,z12]
  ·rw[HRunE.out];unfold H.outOf;rw[if_pos Hft.out];refine⟨sv3,dv3,?_,own_13 HOs.out HNs.out _ _ _ _ _ _ _ _ _ _ _ _ _,own_13 HOd.out HNd.out _ _ _ _ _ _ _ _ _ _ _ _ _,below_13 HB4.out (by omega) _ _ _ _ _ _ _ _ _ _ _ _ _⟩;unfold outVal outAgg;rw[Hmc.out,Hsv.out,Hdv.out];rfl
 ·refine(outc_bad HM3.out hft v.c0 v.c1 v.c2 v.c3 v.c4 v.c5 v.c6 v.c7).mono ?_;have Hft:Hid (¬M'.fault=0):=hft;clear hft;rintro e w4 ⟨rfl,hb4⟩;unfold outAgg;have HZ4:=show Hid (Blk w4 (w.heap.size+1) _ 124) from HZ3.out.below hb4 HZ3.out.lt;have HB4:Hid (Below w.heap.size w w4):=HB3.out.trans (hb4.mono (by have:=HB3.out.size;omega));have HOs:Hid (w4.ownsRow w.heap.size 132 2 sv3 M'.shows.length (showCells M'.shows)):=own_below' HM3.out.shows hb4 (Nat.le_refl _);have HOd:Hid (w4.ownsRow w.heap.size 108 2 dv3 M'.sends.length (sendCells M'.sends)):=own_below' HM3.out.sends hb4 (Nat.le_refl _);have HNs:Hid (sv3.ownBlock≠some (w.heap.size+1)):=fun h=>HZ4.out.ne_own HOs.out (by decide) h.symm;have HNd:Hid (dv3.ownBlock≠some (w.heap.size+1)):=fun h=>HZ4.out.ne_own HOd.out (by decide) h.symm;have z0:=HZ4.out.cell 0;have z1:=HZ4.out.cell 1;have z2:=HZ4.out.cell 2;have z3:=HZ4.out.cell 3;have z4:=HZ4.out.cell 4;have z5:=HZ4.out.cell 5;have z6:=HZ4.out.cell 6;have z7:=HZ4.out.cell 7;have z8:=HZ4.out.cell 8;have z9:=HZ4.out.cell 9;have z10:=HZ4.out.cell 10;have z11:=HZ4.out.cell 11;have z12:=HZ4.out.cell 12;simp at z0 z1 z2 z3 z4 z5 z6 z7 z8 z9 z10 z11 z12;have zf:∀i,w4.frozen? ⟨w.heap.size+1,i,none⟩=false:=fun i=>HZ4.out.free i;clear hb4 HX3 HZ3 HB3 HM3 e1 e2 e3 e4 e5 e6 e7 e8;go_wp2;refine bodyPost_ret (v:= .tuple #[(.agg #[.int .u8 M'.fault,.int .i64 (M'.steps:Int),.int .i64 (M'.draws:Int),.int .u16 v.c0,.int .u16 v.c1,.int .u16 v.c2,.int .u16 v.c3,.int .u16 v.c4,.int .u16 v.c5,.int .u16 v.c6,.int .u16 v.c7,.slice none 0 0,.slice none 0 0]),.int .i64 0]) ?_ rfl ?_
  ·simp[results,Tryz.results66,go_sem,z0,z1,z2,z3,z4,z5,z6,z7,z8,z9,z10,z11,z12]
  ·rw[HRunE.out];unfold H.outOf;rw[if_neg Hft.out];exact⟨.slice none 0 0,.slice none 0 0,rfl,World.ownsRow_nil _ _ _ _,World.ownsRow_nil _ _ _ _,below_13 HB4.out (by omega) _ _ _ _ _ _ _ _ _ _ _ _ _⟩
theorem runW_any (code:ByteArray) (v:InV) (ds:List Int) (w:World) (hc:code.size≤maxLen) (hv:v.ok) (hd:Drawn w v ds w.heap.size): Calls Tryz.prog 66 #[.string code,.agg v.arr] w fun e w'=>runEnd (H.run (H.bts code) v.cells (v.inp ds)) w.heap.size w e w':=by
 rcases H.decode_cases (H.bts code) (H.at0_bts_range code) with ⟨p,hp,h⟩|⟨l,h,hl1,hl64,hlok,hle⟩
 ·exact runW_bad code v ds w hc hv hd p h
 ·by_cases hf:v.fuel<0∨1000<v.fuel
  ·exact runW_fuel code v ds w hc hv hd l h hl1 hl64 hlok hf
  ·exact runW_main code v ds w hc hv hd l h hl1 hl64 hlok (by omega) (by omega)
end Go.Proofs.YtidaflmmldefcaaGreat
namespace Go.Proofs.YtidaflmmldefcaaGreat
set_option linter.unusedVariables false
namespace H
structure Lk (M:Mach):Prop where
 shows:M.shows.length≤8
 sends:M.sends.length≤4
 keys:∀x∈M.shows,(0≤x.1∧x.1≤65535)∧x.2.size≤1000
 topics:∀y∈M.sends,(0≤y.1∧y.1≤3)∧0≤y.2∧y.2≤65535
 fault:0≤M.fault∧M.fault≤6
theorem Lk.of_eq {M N:Mach} (h:Lk M) (e1:N.shows=M.shows) (e2:N.sends=M.sends) (e3:0≤N.fault∧N.fault≤6):Lk N:=⟨by rw[e1];exact h.shows,by rw[e2];exact h.sends,by rw[e1];exact h.keys,by rw[e2];exact h.topics,e3⟩
theorem Lk.push {M:Mach} (h:Lk M) (v:Int):Lk (push v M):=by
 unfold H.push;split
 ·exact h.of_eq rfl rfl (by simp)
 ·exact h.of_eq rfl rfl h.fault
theorem Lk.pop {M:Mach} (h:Lk M):Lk (popM M):=by
 unfold popM;split
 ·exact h.of_eq rfl rfl (by simp)
 ·exact h.of_eq rfl rfl h.fault
theorem Lk.doOp {n:Nat} {M:Mach} (h:Lk M) (hm:MOk n M) (o a:Int) (I:Inp) (ha:alone o a=true):Lk (doOp o a I M):=by
 have hp:=h.pop;have hv:=hm.st.popV;have ht:=hm.small;have fl:∀k:Int,0≤k→k≤6→∀N:Mach,N.shows=M.shows→N.sends=M.sends→Lk {N with fault:=k}:=fun k h0 h1 N e1 e2=>h.of_eq e1 e2 ⟨h0,h1⟩;have pe1:=popM_shows M;have pe2:=popM_sends M;unfold H.doOp;by_cases e0:o=0
 ·rw[if_pos e0];exact h.of_eq rfl rfl h.fault
 rw[if_neg e0];by_cases e1:o=1
 ·rw[if_pos e1];exact h.push _
 rw[if_neg e1];by_cases e2:o=2
 ·rw[if_pos e2];exact h.push _
 rw[if_neg e2];by_cases e3:o=3
 ·rw[if_pos e3];exact hp.of_eq rfl rfl hp.fault
 rw[if_neg e3];by_cases e16:o=16
 ·rw[if_pos e16];exact h.of_eq rfl rfl h.fault
 rw[if_neg e16];by_cases e17:o=17
 ·rw[if_pos e17];unfold jumpIf;split
  ·exact hp
  ·exact hp.of_eq rfl rfl hp.fault
 rw[if_neg e17];by_cases e18:o=18
 ·rw[if_pos e18];exact h.push _
 rw[if_neg e18];by_cases e19:o=19
 ·rw[if_pos e19];exact h.push _
 rw[if_neg e19];by_cases e20:o=20
 ·rw[if_pos e20];exact h.push _
 rw[if_neg e20];by_cases e21:o=21
 ·rw[if_pos e21];exact h.push _
 rw[if_neg e21];by_cases e22:o=22
 ·rw[if_pos e22];unfold draw;split
  ·have h':Lk {M with draws:=M.draws+1}:=h.of_eq rfl rfl h.fault;exact h'.push _
  ·exact h.push _
 rw[if_neg e22];by_cases e23:o=23
 ·rw[if_pos e23];unfold H.char;split
  ·split
   ·exact hp.of_eq rfl rfl (by simp)
   ·exact hp.of_eq rfl rfl hp.fault
  ·exact hp
 rw[if_neg e23];by_cases e24:o=24
 ·rw[if_pos e24];unfold showM;split
  ·split
   ·exact hp.of_eq rfl rfl (by simp)
   ·rename_i h8;split
    ·exact hp.of_eq rfl rfl (by simp)
    ·refine⟨by simp;omega,hp.sends,?_,hp.topics,hp.fault⟩;intro x hx;simp at hx;rcases hx with hx|rfl
     ·exact h.keys x hx
     ·exact⟨hv,ht⟩
  ·exact hp
 rw[if_neg e24];by_cases e25:o=25
 ·rw[if_pos e25];unfold send;split
  ·split
   ·exact hp.of_eq rfl rfl (by simp)
   ·rename_i h4;refine⟨hp.shows,by simp;omega,hp.keys,?_,hp.fault⟩;intro y hy;simp at hy;rcases hy with hy|rfl
    ·exact h.topics y hy
    ·subst e25;simp[alone] at ha;exact⟨by show 0≤a∧a≤3;omega,hv⟩
  ·exact hp
 rw[if_neg e25];by_cases e26:o=26
 ·rw[if_pos e26];unfold double;split
  ·exact(hp.push _).push _
  ·exact hp
 rw[if_neg e26];by_cases e27:o=27
 ·rw[if_pos e27];exact hp
 rw[if_neg e27];unfold reckon;split
 ·split
  ·split
   ·exact hp.pop.of_eq rfl rfl (by simp)
   ·exact hp.pop.push _
  ·exact hp.pop.push _
 ·exact hp.pop
theorem Lk.adv {prog:List (Int×Int)} {N:Mach} (I:Inp) (hp:okFrom prog.length 0 prog=true) (h:Lk N) (hm:MOk prog.length N) (hlt:N.next<prog.length):Lk (H.adv prog I N):=by
 have n0:=hm.next0;obtain⟨k,hk⟩:=Int.eq_ofNat_of_zero_le n0;obtain⟨x,hx⟩:∃x,prog[k]? =some x:=⟨prog[k]'(by omega),List.getElem?_eq_getElem (by omega)⟩;obtain⟨o,a⟩:=x;have hal:=(okFrom_at _ _ _ _ _ hp hx).1;have e:H.adv prog I N=H.doOp o a I {N with steps:=N.steps+1,next:=N.next+1}:=by
  unfold H.adv step;have:prog.getD N.next.toNat (0,0)=(o,a):=by rw[hk,Int.toNat_natCast];simp[List.getD,hx]
  rw[this]
 rw[e];have h1:Lk {N with steps:=N.steps+1,next:=N.next+1}:=h.of_eq rfl rfl h.fault;have h2:MOk prog.length {N with steps:=N.steps+1,next:=N.next+1}:=⟨hm.st,hm.cells,hm.text,hm.chars,by show 0≤N.next+1;omega,by show N.next+1≤prog.length;omega⟩;exact h1.doOp h2 o a I hal
theorem Lk.run {prog:List (Int×Int)} {F:Nat} (v:InV) (hv:v.ok) {ds:List Int} (hd:InR ds) (hp:okFrom prog.length 0 prog=true): ∀(k:Nat) (N:Mach),Lk N→MOk prog.length N→N.steps≤F→Lk (runM prog (v.inp ds) F k N)∧MOk prog.length (runM prog (v.inp ds) F k N)∧(runM prog (v.inp ds) F k N).steps≤F
 |0,N,h,hm,hs=>⟨h,hm,hs⟩
 |k+1,N,h,hm,hs=>by
  by_cases hh:halt prog.length N=true
  ·rw[runM_halt hh];exact⟨h,hm,hs⟩
  ·have hh':halt prog.length N=false:=by simpa using hh
   by_cases hq:N.steps=F
   ·rw[runM_spent hh' hq];exact⟨h.of_eq rfl rfl (by simp),hm.fault 1,hs⟩
   ·rw[runM_step hh' hq];have hlt:N.next<prog.length:=by unfold halt at hh';simp at hh';omega
    have hkp:=adv_kp prog (v.inp ds) N;exact Lk.run v hv hd hp k _ (h.adv (v.inp ds) hp hm hlt) (adv_ok hp hm hlt v hv hd) (by rw[hkp.1];omega)
theorem push_cl (v:Int) (M:Mach):(push v M).cells=M.cells:=by unfold push;split<;>rfl
theorem popM_cl (M:Mach):(popM M).cells=M.cells:=by unfold popM;split<;>rfl
theorem jumpIf_cl (a:Int) (M:Mach):(jumpIf a M).cells=M.cells:=by
 unfold jumpIf;split
 ·exact popM_cl M
 ·exact popM_cl M
theorem draw_cl (ds:List Int) (M:Mach):(draw ds M).cells=M.cells:=by
 unfold draw;split
 ·exact push_cl _ _
 ·exact push_cl _ _
theorem char_cl (M:Mach):(H.char M).cells=M.cells:=by
 unfold H.char;split
 ·split
  ·exact popM_cl M
  ·exact popM_cl M
 ·exact popM_cl M
theorem showM_cl (M:Mach):(showM M).cells=M.cells:=by
 unfold showM;split
 ·split
  ·exact popM_cl M
  ·split
   ·exact popM_cl M
   ·exact popM_cl M
 ·exact popM_cl M
theorem send_cl (t:Int) (M:Mach):(send t M).cells=M.cells:=by
 unfold send;split
 ·split
  ·exact popM_cl M
  ·exact popM_cl M
 ·exact popM_cl M
theorem double_cl (M:Mach):(double M).cells=M.cells:=by
 unfold double;split
 ·rw[push_cl,push_cl,popM_cl]
 ·exact popM_cl M
theorem reckon_cl (op:Int) (M:Mach):(reckon op M).cells=M.cells:=by
 have h:(popM (popM M)).cells=M.cells:=by rw[popM_cl,popM_cl]
 unfold reckon;split
 ·split
  ·split
   ·exact h
   ·rw[push_cl,h]
  ·rw[push_cl,h]
 ·exact h
theorem doOp_cl (o a:Int) (I:Inp) (M:Mach):(doOp o a I M).cells.length=M.cells.length:=by
 unfold doOp;by_cases e0:o=0
 ·rw[if_pos e0]
 rw[if_neg e0];by_cases e1:o=1
 ·rw[if_pos e1];rw[push_cl]
 rw[if_neg e1];by_cases e2:o=2
 ·rw[if_pos e2];rw[push_cl]
 rw[if_neg e2];by_cases e3:o=3
 ·rw[if_pos e3];exact List.length_set
 rw[if_neg e3];by_cases e16:o=16
 ·rw[if_pos e16]
 rw[if_neg e16];by_cases e17:o=17
 ·rw[if_pos e17];rw[jumpIf_cl]
 rw[if_neg e17];by_cases e18:o=18
 ·rw[if_pos e18];rw[push_cl]
 rw[if_neg e18];by_cases e19:o=19
 ·rw[if_pos e19];rw[push_cl]
 rw[if_neg e19];by_cases e20:o=20
 ·rw[if_pos e20];rw[push_cl]
 rw[if_neg e20];by_cases e21:o=21
 ·rw[if_pos e21];rw[push_cl]
 rw[if_neg e21];by_cases e22:o=22
 ·rw[if_pos e22];rw[draw_cl]
 rw[if_neg e22];by_cases e23:o=23
 ·rw[if_pos e23];rw[char_cl]
 rw[if_neg e23];by_cases e24:o=24
 ·rw[if_pos e24];rw[showM_cl]
 rw[if_neg e24];by_cases e25:o=25
 ·rw[if_pos e25];rw[send_cl]
 rw[if_neg e25];by_cases e26:o=26
 ·rw[if_pos e26];rw[double_cl]
 rw[if_neg e26];by_cases e27:o=27
 ·rw[if_pos e27];rw[popM_cl]
 rw[if_neg e27];rw[reckon_cl]
theorem run_cl (prog:List (Int×Int)) (I:Inp) (F:Nat):∀(k:Nat) (N:Mach),(runM prog I F k N).cells.length=N.cells.length
 |0,N=>rfl
 |k+1,N=>by
  by_cases hh:halt prog.length N=true
  ·rw[runM_halt hh]
  ·have hh':halt prog.length N=false:=by simpa using hh
   by_cases hq:N.steps=F
   ·rw[runM_spent hh' hq]
   ·rw[runM_step hh' hq,run_cl prog I F k];unfold adv step;rw[doOp_cl]
structure OutOk (O:Out):Prop where
 shows:O.shows.length≤8
 sends:O.sends.length≤4
 keys:∀x∈O.shows,(0≤x.1∧x.1≤65535)∧x.2.size≤1000
 topics:∀y∈O.sends,(0≤y.1∧y.1≤3)∧0≤y.2∧y.2≤65535
 fault:0≤O.fault∧O.fault≤6
 steps:O.steps≤1000
 cells:InR O.cells
 clen:O.cells.length=8
theorem run_ok (code:ByteArray) (v:InV) (hv:v.ok) (ds:List Int) (hd:InR ds):OutOk (run (bts code) v.cells (v.inp ds)):=by
 have none_:∀e,OutOk (outNone e):=fun e=>⟨Nat.zero_le _,Nat.zero_le _,by intro x hx;simp[outNone] at hx,by intro x hx;simp[outNone] at hx,by simp[outNone],Nat.zero_le _,by intro x hx;simp[outNone] at hx;omega,rfl⟩;unfold run;rcases decode_cases (bts code) (at0_bts_range code) with ⟨p,hp,h⟩|⟨l,h,hl1,hl64,hlok,hle⟩
 ·rw[h,if_neg (by simp)];exact none_ _
 ·rw[h,if_pos rfl];by_cases hf:(v.inp ds).fuel<0∨1000<(v.inp ds).fuel
  ·rw[if_pos hf];exact none_ _
  ·rw[if_neg hf];have h0:Lk (mach0 v.cells):=⟨by show 0≤8;omega,by show 0≤4;omega,by intro x hx;simp[mach0] at hx,by intro x hx;simp[mach0] at hx,by show(0:Int)≤0∧(0:Int)≤6;omega⟩;have m0:MOk l.length (mach0 v.cells):=⟨by intro x hx;simp[mach0] at hx,hv.cells,by show 0≤_;omega,by show 0≤6;omega,by show(0:Int)≤0;omega,by show(0:Int)≤l.length;omega⟩;obtain⟨hl,hm,hs⟩:=Lk.run (F:=(v.inp ds).fuel.toNat) v hv hd hlok ((v.inp ds).fuel.toNat+1) _ h0 m0 (Nat.zero_le _);unfold outOf;split
   ·exact⟨hl.shows,hl.sends,hl.keys,hl.topics,by show(0:Int)≤0∧(0:Int)≤6;omega,by refine Nat.le_trans hs ?_;omega,hm.cells,by rw[run_cl];rfl⟩
   ·exact⟨Nat.zero_le _,Nat.zero_le _,by intro x hx;simp at hx,by intro x hx;simp at hx,hl.fault,by refine Nat.le_trans hs ?_;omega,hv.cells,rfl⟩
end H
end Go.Proofs.YtidaflmmldefcaaGreat
