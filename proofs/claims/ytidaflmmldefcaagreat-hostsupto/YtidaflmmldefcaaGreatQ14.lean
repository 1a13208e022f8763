/- Parts of the proof of Hosts: TenK. -/
import Derived.Test.YtidaflmmldefcaaGreatQ12
import Derived.Test.YtidaflmmldefcaaGreatQ13
set_option maxHeartbeats 8000000
namespace Go.Proofs.YtidaflmmldefcaaGreat
open Go.RowKit
set_option linter.unusedVariables false
structure Ev.ok (e:Ev):Prop where
 what:0≤e.what∧e.what≤255
 by_:0≤e.by_∧e.by_≤255
 arg:0≤e.arg∧e.arg≤65535
 src:0≤e.src∧e.src≤255
structure Tn.ok (x:Tn):Prop where
 prog:x.prog.size≤maxLen
 routes:0≤x.routes∧x.routes≤255
 pub:0≤x.pub∧x.pub≤255
 sub:0≤x.sub∧x.sub≤255
 back:0≤x.back∧x.back≤100000
 cells:x.cells.length=8
 rng:InR x.cells
 nodes:Tr.ndOk x.nodes
 nlen:x.nodes.length≤100000
 box:∀e∈x.box,e.ok
 blen:x.box.length≤100000
 llen:x.log.length≤90000
 dbl:0≤x.dbl∧x.dbl≤4
def Tn.inp (x:Tn) (ev:Ev) (route:Int) (ds:List Int):H.Inp:={fuel:=x.fuel,what:=ev.what,arg:=ev.arg,src:=ev.src,route:=route,draws:=ds}
def Tn.out (x:Tn) (n route:Int) (ds:List Int):H.Out:=H.run (H.bts x.prog) x.cells (x.inp (x.nextEv n) route ds)
def Tn.handle (x:Tn) (n route:Int) (ds:List Int):Tn:=if (x.out n route ds).fault=0 then x.popBox.finish n (x.nextEv n) (x.out n route ds).cells (x.out n route ds).shows (x.out n route ds).sends
 else x.popBox.hold n (x.out n route ds).fault (x.out n route ds).steps
def Tn.sent (x:Tn) (n route:Int) (ds:List Int):List (Int×Int):=if (x.out n route ds).fault=0 then (x.out n route ds).sends.filter (goes x.pub) else []
theorem Tn.nextEv_ok {x:Tn} (h:x.ok) (n:Int):(x.nextEv n).ok:=by
 unfold Tn.nextEv;have hb:=h.box;cases hx:x.box with
 |nil=>exact⟨by show(0:Int)≤3∧(3:Int)≤255;omega,by show(0:Int)≤0∧(0:Int)≤255;omega,by show 0≤n%65536∧n%65536≤65535;omega,by show(0:Int)≤0∧(0:Int)≤255;omega⟩
 |cons y r=>rw[hx] at hb;exact hb y (by simp)
theorem eightD {l:List Int} (h:l.length=8):l=[l.getD 0 0,l.getD 1 0,l.getD 2 0,l.getD 3 0,l.getD 4 0,l.getD 5 0,l.getD 6 0,l.getD 7 0]:=by
 match l,h with
 |[a,b,c,d,e,f,g,i],_=>rfl
structure DrawsAt (w:World) (dao:Option Addr) (dn:Nat) (ds:List Int) (base:Nat):Prop where
 len:ds.length=dn
 max:dn≤maxLen
 row:∃bd off,(0<dn→dao=some ⟨bd,off,none⟩∧bd<base)∧U16Row w bd off ds
 rng:InR ds
theorem own_weak {w:World} {b b':Nat} {e:TypeId} {size:Nat} {v:Value} {n:Nat} {xs:List Value} (h:w.ownsRow b e size v n xs) (hb:b'≤b):w.ownsRow b' e size v n xs:=by
 obtain⟨h1,h2⟩:=h;refine⟨h1,?_⟩;rcases h2 with h2|⟨g,cap,cur,hv,hg,r⟩
 ·exact Or.inl h2
 ·exact Or.inr ⟨g,cap,cur,hv,Nat.le_trans hb hg,r⟩
theorem hid_in {p:Prop} (h:p):Hid p:=h
theorem zero_kept {W w4:World} {cs:Array Value} {t:TypeId} (hb:Below (W.alloc (.cells cs t)).drew.heap.size (W.alloc (.cells cs t)).drew w4):Blk w4 W.heap.size cs t:=(show Blk (W.alloc (.cells cs t)).drew W.heap.size cs t from Blk.new W cs t).below hb (by simp)
theorem below_back {W w:World} {ob:Obj} (h:Below (W.alloc ob).drew.heap.size (W.alloc ob).drew w):Below W.heap.size W w:=by
 have h1:Below W.heap.size W (W.alloc ob).drew:=((Below.refl _ _).alloc (Nat.le_refl _) _).drew;exact h1.trans (h.mono (by simp))
theorem blk13 {A:Nat} {w:World} {c0 c1 c2 c3 c4 c5 c6 c7 c8 c9 c10 c11 c12:Value} (h:Blk w A #[c0,c1,c2,c3,c4,c5,c6,c7,c8,c9,c10,c11,c12] 124) (u0 u1 u2 u3 u4 u5 u6 u7 u8 u9 u10 u11 u12:Value):Blk (((((((((((((w.setCell ⟨A,0,none⟩ u0).setCell ⟨A,1,none⟩ u1).setCell ⟨A,2,none⟩ u2).setCell ⟨A,3,none⟩ u3).setCell ⟨A,4,none⟩ u4).setCell ⟨A,5,none⟩ u5).setCell ⟨A,6,none⟩ u6).setCell ⟨A,7,none⟩ u7).setCell ⟨A,8,none⟩ u8).setCell ⟨A,9,none⟩ u9).setCell ⟨A,10,none⟩ u10).setCell ⟨A,11,none⟩ u11).setCell ⟨A,12,none⟩ u12) A #[u0,u1,u2,u3,u4,u5,u6,u7,u8,u9,u10,u11,u12] 124:=by
 have h0:Blk _ A #[u0,c1,c2,c3,c4,c5,c6,c7,c8,c9,c10,c11,c12] 124:=h.set 0 u0;have h1:Blk _ A #[u0,u1,c2,c3,c4,c5,c6,c7,c8,c9,c10,c11,c12] 124:=h0.set 1 u1;have h2:Blk _ A #[u0,u1,u2,c3,c4,c5,c6,c7,c8,c9,c10,c11,c12] 124:=h1.set 2 u2;have h3:Blk _ A #[u0,u1,u2,u3,c4,c5,c6,c7,c8,c9,c10,c11,c12] 124:=h2.set 3 u3;have h4:Blk _ A #[u0,u1,u2,u3,u4,c5,c6,c7,c8,c9,c10,c11,c12] 124:=h3.set 4 u4;have h5:Blk _ A #[u0,u1,u2,u3,u4,u5,c6,c7,c8,c9,c10,c11,c12] 124:=h4.set 5 u5;have h6:Blk _ A #[u0,u1,u2,u3,u4,u5,u6,c7,c8,c9,c10,c11,c12] 124:=h5.set 6 u6;have h7:Blk _ A #[u0,u1,u2,u3,u4,u5,u6,u7,c8,c9,c10,c11,c12] 124:=h6.set 7 u7;have h8:Blk _ A #[u0,u1,u2,u3,u4,u5,u6,u7,u8,c9,c10,c11,c12] 124:=h7.set 8 u8;have h9:Blk _ A #[u0,u1,u2,u3,u4,u5,u6,u7,u8,u9,c10,c11,c12] 124:=h8.set 9 u9;have h10:Blk _ A #[u0,u1,u2,u3,u4,u5,u6,u7,u8,u9,u10,c11,c12] 124:=h9.set 10 u10;have h11:Blk _ A #[u0,u1,u2,u3,u4,u5,u6,u7,u8,u9,u10,u11,c12] 124:=h10.set 11 u11;have h12:Blk _ A #[u0,u1,u2,u3,u4,u5,u6,u7,u8,u9,u10,u11,u12] 124:=h11.set 12 u12;exact h12
set_option maxRecDepth 100000 in
theorem handle_any {w:World} {tb o:Nat} {x:Tn} {nv bv lv:Value} (h:TenAt w tb o x nv bv lv) (hx:x.ok) (n route:Int) (hn0:0≤n) (hn1:n≤1000000) (hr0:0≤route) (hr1:route≤255) (dao:Option Addr) (dn dcap:Nat) (ds:List Int) (hd:∀u,Kept (fun k=>k=tb∨some k=bv.ownBlock∨some k=lv.ownBlock) w u→DrawsAt u dao dn ds u.heap.size): Calls Tryz.prog 55 #[.pointer (some ⟨tb,o,none⟩),.int .i64 n,.int .u8 route,.slice dao dn dcap] w fun e w'=>∃gv,e= .returned gv∧TAft w tb o bv lv (x.handle n route ds) w'∧w'.ownsRow w.heap.size 108 2 gv (x.sent n route ds).length (sendCells (x.sent n route ds)):=by
 have HT:Hid (TenAt w tb o x nv bv lv):=h;have HX:Hid x.ok:=hx;obtain⟨ev,hev⟩:∃ev,ev=x.nextEv n:=⟨_,rfl⟩;have HEo:Hid ev.ok:=by rw[hev];exact Tn.nextEv_ok hx n
 obtain⟨O,hO⟩:∃O,O=x.out n route ds:=⟨_,rfl⟩;have HNx:Hid (Calls Tryz.prog 65 #[.pointer (some ⟨tb,o,none⟩),.int .i64 n] w fun e w'=>e= .returned (.agg #[.int .u8 ev.what,.int .u8 ev.by_,.int .u16 ev.arg,.int .u8 ev.src])∧TAft w tb o bv lv x.popBox w'):=by rw[hev];exact nextEv_any h n hx.blen
 obtain⟨V,hV⟩:∃V:InV,V=⟨x.fuel,x.cells.getD 0 0,x.cells.getD 1 0,x.cells.getD 2 0,x.cells.getD 3 0,x.cells.getD 4 0,x.cells.getD 5 0,x.cells.getD 6 0,x.cells.getD 7 0,ev.what,ev.by_,ev.arg,ev.src,route,dao,dn,dcap⟩:=⟨_,rfl⟩;have HVo:Hid V.ok:=by rw[hV];refine⟨HEo.out.what,HEo.out.arg,HEo.out.src,⟨hr0,hr1⟩,?_⟩;have q:=hx.rng;rw[eightD hx.cells] at q;exact q
 have HVc:Hid (V.cells=x.cells):=by unfold Hid;rw[hV];exact(eightD hx.cells).symm
 have HRun:Hid (∀u,Kept (fun k=>k=tb∨some k=bv.ownBlock∨some k=lv.ownBlock) w u→Calls Tryz.prog 66 #[.string x.prog,.agg #[.int .i64 x.fuel,.int .u16 (x.cells.getD 0 0),.int .u16 (x.cells.getD 1 0),.int .u16 (x.cells.getD 2 0),.int .u16 (x.cells.getD 3 0),.int .u16 (x.cells.getD 4 0),.int .u16 (x.cells.getD 5 0),.int .u16 (x.cells.getD 6 0),.int .u16 (x.cells.getD 7 0),.int .u8 ev.what,.int .u8 ev.by_,.int .u16 ev.arg,.int .u8 ev.src,.int .u8 route,.slice dao dn dcap]] u fun e w'=>∃sv dv,e= .returned (.tuple #[.agg #[.int .u8 O.fault,.int .i64 (O.steps:Int),.int .i64 (O.draws:Int),.int .u16 (O.cells.getD 0 0),.int .u16 (O.cells.getD 1 0),.int .u16 (O.cells.getD 2 0),.int .u16 (O.cells.getD 3 0),.int .u16 (O.cells.getD 4 0),.int .u16 (O.cells.getD 5 0),.int .u16 (O.cells.getD 6 0),.int .u16 (O.cells.getD 7 0),sv,dv],.int .i64 O.err])∧w'.ownsRow u.heap.size 132 2 sv O.shows.length (showCells O.shows)∧w'.ownsRow u.heap.size 108 2 dv O.sends.length (sendCells O.sends)∧Below u.heap.size u w'):=by
  intro u hu;obtain⟨d1,d2,d3,d4⟩:=hd u hu;have q:=runW_any x.prog V ds u hx.prog HVo.out (by rw[hV];exact⟨d1,d2,d3,d4⟩);have e1:H.run (H.bts x.prog) V.cells (V.inp ds)=O:=by rw[hO,HVc.out];unfold Tn.out;rw[←hev,hV];rfl
  rw[e1] at q;have e2:V.arr=#[.int .i64 x.fuel,.int .u16 (x.cells.getD 0 0),.int .u16 (x.cells.getD 1 0),.int .u16 (x.cells.getD 2 0),.int .u16 (x.cells.getD 3 0),.int .u16 (x.cells.getD 4 0),.int .u16 (x.cells.getD 5 0),.int .u16 (x.cells.getD 6 0),.int .u16 (x.cells.getD 7 0),.int .u8 ev.what,.int .u8 ev.by_,.int .u16 ev.arg,.int .u8 ev.src,.int .u8 route,.slice dao dn dcap]:=by rw[hV];rfl
  rw[e2] at q;exact q
 have HOk:Hid (H.OutOk O):=by
  have q:=H.run_ok x.prog V HVo.out ds (hd w (Kept.refl _ _)).rng;have e1:H.run (H.bts x.prog) V.cells (V.inp ds)=O:=by rw[hO,HVc.out];unfold Tn.out;rw[←hev,hV];rfl
  rw[e1] at q;exact q
 have HHd:Hid (x.handle n route ds=if O.fault=0 then x.popBox.finish n ev O.cells O.shows O.sends else x.popBox.hold n O.fault O.steps):=by unfold Hid Tn.handle;rw[←hO,←hev]
 have HSd:Hid (x.sent n route ds=if O.fault=0 then O.sends.filter (goes x.pub) else []):=by unfold Hid Tn.sent;rw[←hO]
 clear h hx hev hV hO hd;obtain⟨OF,OS,OD,OC,shows,sends,oerr⟩:=O;simp only at HRun HOk HHd HSd;have hOC:=eightD HOk.out.clen;simp only at hOC;generalize OC.getD 0 0=p0 at HRun hOC;generalize OC.getD 1 0=p1 at HRun hOC;generalize OC.getD 2 0=p2 at HRun hOC;generalize OC.getD 3 0=p3 at HRun hOC;generalize OC.getD 4 0=p4 at HRun hOC;generalize OC.getD 5 0=p5 at HRun hOC;generalize OC.getD 6 0=p6 at HRun hOC;generalize OC.getD 7 0=p7 at HRun hOC;subst hOC;obtain⟨a0,ha0⟩:∃a,a=x.cells.getD 0 0:=⟨_,rfl⟩;rw[←ha0] at HRun;obtain⟨a1,ha1⟩:∃a,a=x.cells.getD 1 0:=⟨_,rfl⟩;rw[←ha1] at HRun;obtain⟨a2,ha2⟩:∃a,a=x.cells.getD 2 0:=⟨_,rfl⟩;rw[←ha2] at HRun;obtain⟨a3,ha3⟩:∃a,a=x.cells.getD 3 0:=⟨_,rfl⟩;rw[←ha3] at HRun;obtain⟨a4,ha4⟩:∃a,a=x.cells.getD 4 0:=⟨_,rfl⟩;rw[←ha4] at HRun;obtain⟨a5,ha5⟩:∃a,a=x.cells.getD 5 0:=⟨_,rfl⟩;rw[←ha5] at HRun;obtain⟨a6,ha6⟩:∃a,a=x.cells.getD 6 0:=⟨_,rfl⟩;rw[←ha6] at HRun;obtain⟨a7,ha7⟩:∃a,a=x.cells.getD 7 0:=⟨_,rfl⟩;rw[←ha7] at HRun;go_enter Tryz.func55,Tryz.ntmps55;go_wp2_with fail;refine HNx.out.mono ?_;rintro e w1 ⟨rfl,nv1,bv1,lv1,ht1,hf1,hm1,hm2⟩;have HT1:Hid (TenAt w1 tb o x.popBox nv1 bv1 lv1):=ht1;have HF1:Hid (TFr w w1 tb o bv lv):=hf1;have HM1:Hid (Moved w bv bv1∧Moved w lv lv1):=⟨hm1,hm2⟩;have htb:=ht1.slot.lt;have hne:¬tb=w1.heap.size:=by omega
 have hne1:¬tb=w1.heap.size+1:=by omega
 have c1:w1.cell? ⟨tb,o+1,none⟩=some (.int .i64 x.fuel):=ht1.slot.cell 1 rfl;have y1:∀a b,((w1.alloc a).alloc b).cell? ⟨tb,o+1,none⟩=some (.int .i64 x.fuel):=fun a b=>((ht1.alloc a).alloc b).slot.cell 1 rfl;have c8:w1.cell? ⟨tb,o+8,none⟩=some (.int .u16 a0):=by rw[ha0];exact ht1.slot.cell 8 rfl
 have y8:∀a b,((w1.alloc a).alloc b).cell? ⟨tb,o+8,none⟩=some (.int .u16 a0):=fun a b=>by rw[ha0];exact((ht1.alloc a).alloc b).slot.cell 8 rfl
 have c9:w1.cell? ⟨tb,o+8+1,none⟩=some (.int .u16 a1):=by rw[ha1];exact ht1.slot.cell 9 rfl
 have y9:∀a b,((w1.alloc a).alloc b).cell? ⟨tb,o+8+1,none⟩=some (.int .u16 a1):=fun a b=>by rw[ha1];exact((ht1.alloc a).alloc b).slot.cell 9 rfl
 have c10:w1.cell? ⟨tb,o+8+2,none⟩=some (.int .u16 a2):=by rw[ha2];exact ht1.slot.cell 10 rfl
 have y10:∀a b,((w1.alloc a).alloc b).cell? ⟨tb,o+8+2,none⟩=some (.int .u16 a2):=fun a b=>by rw[ha2];exact((ht1.alloc a).alloc b).slot.cell 10 rfl
 have c11:w1.cell? ⟨tb,o+8+3,none⟩=some (.int .u16 a3):=by rw[ha3];exact ht1.slot.cell 11 rfl
 have y11:∀a b,((w1.alloc a).alloc b).cell? ⟨tb,o+8+3,none⟩=some (.int .u16 a3):=fun a b=>by rw[ha3];exact((ht1.alloc a).alloc b).slot.cell 11 rfl
 have c12:w1.cell? ⟨tb,o+8+4,none⟩=some (.int .u16 a4):=by rw[ha4];exact ht1.slot.cell 12 rfl
 have y12:∀a b,((w1.alloc a).alloc b).cell? ⟨tb,o+8+4,none⟩=some (.int .u16 a4):=fun a b=>by rw[ha4];exact((ht1.alloc a).alloc b).slot.cell 12 rfl
 have c13:w1.cell? ⟨tb,o+8+5,none⟩=some (.int .u16 a5):=by rw[ha5];exact ht1.slot.cell 13 rfl
 have y13:∀a b,((w1.alloc a).alloc b).cell? ⟨tb,o+8+5,none⟩=some (.int .u16 a5):=fun a b=>by rw[ha5];exact((ht1.alloc a).alloc b).slot.cell 13 rfl
 have c14:w1.cell? ⟨tb,o+8+6,none⟩=some (.int .u16 a6):=by rw[ha6];exact ht1.slot.cell 14 rfl
 have y14:∀a b,((w1.alloc a).alloc b).cell? ⟨tb,o+8+6,none⟩=some (.int .u16 a6):=fun a b=>by rw[ha6];exact((ht1.alloc a).alloc b).slot.cell 14 rfl
 have c15:w1.cell? ⟨tb,o+8+7,none⟩=some (.int .u16 a7):=by rw[ha7];exact ht1.slot.cell 15 rfl
 have y15:∀a b,((w1.alloc a).alloc b).cell? ⟨tb,o+8+7,none⟩=some (.int .u16 a7):=fun a b=>by rw[ha7];exact((ht1.alloc a).alloc b).slot.cell 15 rfl
 clear ht1 hf1 hm1 hm2 HNx ha0 ha1 ha2 ha3 ha4 ha5 ha6 ha7;go_upto_region 2 with fail
 go_region
 all_goals
  obtain⟨W3,hW3⟩:∃W3,W3=((w1.alloc (.cells #[.int .u8 ev.what,.int .u8 ev.by_,.int .u16 ev.arg,.int .u8 ev.src] 78)).alloc (.cells #[.int .i64 x.fuel,.int .u16 a0,.int .u16 a1,.int .u16 a2,.int .u16 a3,.int .u16 a4,.int .u16 a5,.int .u16 a6,.int .u16 a7,.int .u8 ev.what,.int .u8 ev.by_,.int .u16 ev.arg,.int .u8 ev.src,.int .u8 route,.slice dao dn dcap] 128)).drew:=⟨_,rfl⟩;have HT3:Hid (TenAt W3 tb o x.popBox nv1 bv1 lv1):=by unfold Hid;rw[hW3];exact((HT1.out.alloc _).alloc _).drew
  have HF3:Hid (TFr w W3 tb o bv lv):=by unfold Hid;rw[hW3];exact((HF1.out.alloc htb _).alloc (by simp;omega) _).drew
  have HE3:Hid (Blk W3 w1.heap.size #[.int .u8 ev.what,.int .u8 ev.by_,.int .u16 ev.arg,.int .u8 ev.src] 78):=by unfold Hid;rw[hW3];exact(Blk.new w1 _ 78).alloc _
  have HI3:Hid (Blk W3 (w1.heap.size+1) #[.int .i64 x.fuel,.int .u16 a0,.int .u16 a1,.int .u16 a2,.int .u16 a3,.int .u16 a4,.int .u16 a5,.int .u16 a6,.int .u16 a7,.int .u8 ev.what,.int .u8 ev.by_,.int .u16 ev.arg,.int .u8 ev.src,.int .u8 route,.slice dao dn dcap] 128):=by unfold Hid;rw[hW3];have q:=Blk.new (w1.alloc (.cells #[.int .u8 ev.what,.int .u8 ev.by_,.int .u16 ev.arg,.int .u8 ev.src] 78)) #[.int .i64 x.fuel,.int .u16 a0,.int .u16 a1,.int .u16 a2,.int .u16 a3,.int .u16 a4,.int .u16 a5,.int .u16 a6,.int .u16 a7,.int .u8 ev.what,.int .u8 ev.by_,.int .u16 ev.arg,.int .u8 ev.src,.int .u8 route,.slice dao dn dcap] 128;rw[show(w1.alloc (.cells #[.int .u8 ev.what,.int .u8 ev.by_,.int .u16 ev.arg,.int .u8 ev.src] 78)).heap.size=w1.heap.size+1 by simp] at q;exact q
  have hs3:w1.heap.size+2≤W3.heap.size:=by rw[hW3];simp
  first|rw[←hW3]|skip
  clear hW3 c1 y1 c8 y8 c9 y9 c10 y10 c11 y11 c12 y12 c13 y13 c14 y14 c15 y15;have c0:W3.cell? ⟨tb,o,none⟩=some (.string x.prog):=HT3.out.slot.cell0 rfl;have z0:∀ob,(W3.alloc ob).cell? ⟨tb,o,none⟩=some (.string x.prog):=fun ob=>(HT3.out.alloc ob).slot.cell0 rfl;have i0:W3.cell? ⟨w1.heap.size+1,0,none⟩=some (.int .i64 x.fuel):=by rw[HI3.out.cell 0];rfl
  have j0:∀ob,(W3.alloc ob).cell? ⟨w1.heap.size+1,0,none⟩=some (.int .i64 x.fuel):=fun ob=>by rw[(HI3.out.alloc ob).cell 0];rfl
  have i1:W3.cell? ⟨w1.heap.size+1,1,none⟩=some (.int .u16 a0):=by rw[HI3.out.cell 1];rfl
  have j1:∀ob,(W3.alloc ob).cell? ⟨w1.heap.size+1,1,none⟩=some (.int .u16 a0):=fun ob=>by rw[(HI3.out.alloc ob).cell 1];rfl
  have i2:W3.cell? ⟨w1.heap.size+1,2,none⟩=some (.int .u16 a1):=by rw[HI3.out.cell 2];rfl
  have j2:∀ob,(W3.alloc ob).cell? ⟨w1.heap.size+1,2,none⟩=some (.int .u16 a1):=fun ob=>by rw[(HI3.out.alloc ob).cell 2];rfl
  have i3:W3.cell? ⟨w1.heap.size+1,3,none⟩=some (.int .u16 a2):=by rw[HI3.out.cell 3];rfl
  have j3:∀ob,(W3.alloc ob).cell? ⟨w1.heap.size+1,3,none⟩=some (.int .u16 a2):=fun ob=>by rw[(HI3.out.alloc ob).cell 3];rfl
  have i4:W3.cell? ⟨w1.heap.size+1,4,none⟩=some (.int .u16 a3):=by rw[HI3.out.cell 4];rfl
  have j4:∀ob,(W3.alloc ob).cell? ⟨w1.heap.size+1,4,none⟩=some (.int .u16 a3):=fun ob=>by rw[(HI3.out.alloc ob).cell 4];rfl
  have i5:W3.cell? ⟨w1.heap.size+1,5,none⟩=some (.int .u16 a4):=by rw[HI3.out.cell 5];rfl
  have j5:∀ob,(W3.alloc ob).cell? ⟨w1.heap.size+1,5,none⟩=some (.int .u16 a4):=fun ob=>by rw[(HI3.out.alloc ob).cell 5];rfl
  have i6:W3.cell? ⟨w1.heap.size+1,6,none⟩=some (.int .u16 a5):=by rw[HI3.out.cell 6];rfl
  have j6:∀ob,(W3.alloc ob).cell? ⟨w1.heap.size+1,6,none⟩=some (.int .u16 a5):=fun ob=>by rw[(HI3.out.alloc ob).cell 6];rfl
  have i7:W3.cell? ⟨w1.heap.size+1,7,none⟩=some (.int .u16 a6):=by rw[HI3.out.cell 7];rfl
  have j7:∀ob,(W3.alloc ob).cell? ⟨w1.heap.size+1,7,none⟩=some (.int .u16 a6):=fun ob=>by rw[(HI3.out.alloc ob).cell 7];rfl
  have i8:W3.cell? ⟨w1.heap.size+1,8,none⟩=some (.int .u16 a7):=by rw[HI3.out.cell 8];rfl
  have j8:∀ob,(W3.alloc ob).cell? ⟨w1.heap.size+1,8,none⟩=some (.int .u16 a7):=fun ob=>by rw[(HI3.out.alloc ob).cell 8];rfl
  have i9:W3.cell? ⟨w1.heap.size+1,9,none⟩=some (.int .u8 ev.what):=by rw[HI3.out.cell 9];rfl
  have j9:∀ob,(W3.alloc ob).cell? ⟨w1.heap.size+1,9,none⟩=some (.int .u8 ev.what):=fun ob=>by rw[(HI3.out.alloc ob).cell 9];rfl
  have i10:W3.cell? ⟨w1.heap.size+1,10,none⟩=some (.int .u8 ev.by_):=by rw[HI3.out.cell 10];rfl
  have j10:∀ob,(W3.alloc ob).cell? ⟨w1.heap.size+1,10,none⟩=some (.int .u8 ev.by_):=fun ob=>by rw[(HI3.out.alloc ob).cell 10];rfl
  have i11:W3.cell? ⟨w1.heap.size+1,11,none⟩=some (.int .u16 ev.arg):=by rw[HI3.out.cell 11];rfl
  have j11:∀ob,(W3.alloc ob).cell? ⟨w1.heap.size+1,11,none⟩=some (.int .u16 ev.arg):=fun ob=>by rw[(HI3.out.alloc ob).cell 11];rfl
  have i12:W3.cell? ⟨w1.heap.size+1,12,none⟩=some (.int .u8 ev.src):=by rw[HI3.out.cell 12];rfl
  have j12:∀ob,(W3.alloc ob).cell? ⟨w1.heap.size+1,12,none⟩=some (.int .u8 ev.src):=fun ob=>by rw[(HI3.out.alloc ob).cell 12];rfl
  have i13:W3.cell? ⟨w1.heap.size+1,13,none⟩=some (.int .u8 route):=by rw[HI3.out.cell 13];rfl
  have j13:∀ob,(W3.alloc ob).cell? ⟨w1.heap.size+1,13,none⟩=some (.int .u8 route):=fun ob=>by rw[(HI3.out.alloc ob).cell 13];rfl
  have i14:W3.cell? ⟨w1.heap.size+1,14,none⟩=some (.slice dao dn dcap):=by rw[HI3.out.cell 14];rfl
  have j14:∀ob,(W3.alloc ob).cell? ⟨w1.heap.size+1,14,none⟩=some (.slice dao dn dcap):=fun ob=>by rw[(HI3.out.alloc ob).cell 14];rfl
  have HKd:Hid (Kept (fun k=>k=tb∨some k=bv.ownBlock∨some k=lv.ownBlock) w W3.drew):=HF3.out.drew.kept;have HKa:Hid (∀ob,Kept (fun k=>k=tb∨some k=bv.ownBlock∨some k=lv.ownBlock) w (W3.alloc ob).drew):=fun ob=>(HF3.out.alloc HT3.out.slot.lt ob).drew.kept;have HRunA:Hid (Calls Tryz.prog 66 #[.string x.prog,.agg #[.int .i64 x.fuel,.int .u16 a0,.int .u16 a1,.int .u16 a2,.int .u16 a3,.int .u16 a4,.int .u16 a5,.int .u16 a6,.int .u16 a7,.int .u8 ev.what,.int .u8 ev.by_,.int .u16 ev.arg,.int .u8 ev.src,.int .u8 route,.slice dao dn dcap]] W3.drew fun e w4=>∃(so dO:Option Addr) (sc dc:Nat),e= .returned (.tuple #[.agg #[.int .u8 OF,.int .i64 (OS:Int),.int .i64 (OD:Int),.int .u16 p0,.int .u16 p1,.int .u16 p2,.int .u16 p3,.int .u16 p4,.int .u16 p5,.int .u16 p6,.int .u16 p7,.slice so shows.length sc,.slice dO sends.length dc],.int .i64 oerr])∧Hid (w4.ownsRow W3.heap.size 132 2 (.slice so shows.length sc) shows.length (showCells shows)∧w4.ownsRow W3.heap.size 108 2 (.slice dO sends.length dc) sends.length (sendCells sends)∧Below W3.heap.size W3 w4)):=by refine(HRun.out _ HKd.out).mono ?_;rintro e w4 ⟨sv,dv,rfl,hs4,hd4,hb4⟩;obtain⟨so,sc,rfl⟩:=own_is hs4;obtain⟨dO,dc,rfl⟩:=own_is hd4;exact⟨so,dO,sc,dc,rfl,hs4,hd4,⟨hb4.os,hb4.tape,hb4.output,hb4.size,hb4.block⟩⟩
  have HRunB:Hid (Calls Tryz.prog 66 #[.string x.prog,.agg #[.int .i64 x.fuel,.int .u16 a0,.int .u16 a1,.int .u16 a2,.int .u16 a3,.int .u16 a4,.int .u16 a5,.int .u16 a6,.int .u16 a7,.int .u8 ev.what,.int .u8 ev.by_,.int .u16 ev.arg,.int .u8 ev.src,.int .u8 route,.slice dao dn dcap]] (W3.alloc (.cells #[.int .u8 0,.int .i64 0,.int .i64 0,.int .u16 0,.int .u16 0,.int .u16 0,.int .u16 0,.int .u16 0,.int .u16 0,.int .u16 0,.int .u16 0,.slice none 0 0,.slice none 0 0] 124)).drew fun e w4=>∃(so dO:Option Addr) (sc dc:Nat),e= .returned (.tuple #[.agg #[.int .u8 OF,.int .i64 (OS:Int),.int .i64 (OD:Int),.int .u16 p0,.int .u16 p1,.int .u16 p2,.int .u16 p3,.int .u16 p4,.int .u16 p5,.int .u16 p6,.int .u16 p7,.slice so shows.length sc,.slice dO sends.length dc],.int .i64 oerr])∧Hid (w4.ownsRow W3.heap.size 132 2 (.slice so shows.length sc) shows.length (showCells shows)∧w4.ownsRow W3.heap.size 108 2 (.slice dO sends.length dc) sends.length (sendCells sends)∧Below W3.heap.size W3 w4)∧Hid (Blk w4 W3.heap.size #[.int .u8 0,.int .i64 0,.int .i64 0,.int .u16 0,.int .u16 0,.int .u16 0,.int .u16 0,.int .u16 0,.int .u16 0,.int .u16 0,.int .u16 0,.slice none 0 0,.slice none 0 0] 124)∧(∀i,w4.frozen? ⟨W3.heap.size,i,none⟩=false)∧w4.cell? ⟨W3.heap.size,0,none⟩=some (.int .u8 0)∧w4.cell? ⟨W3.heap.size,1,none⟩=some (.int .i64 0)∧w4.cell? ⟨W3.heap.size,2,none⟩=some (.int .i64 0)∧w4.cell? ⟨W3.heap.size,3,none⟩=some (.int .u16 0)∧w4.cell? ⟨W3.heap.size,4,none⟩=some (.int .u16 0)∧w4.cell? ⟨W3.heap.size,5,none⟩=some (.int .u16 0)∧w4.cell? ⟨W3.heap.size,6,none⟩=some (.int .u16 0)∧w4.cell? ⟨W3.heap.size,7,none⟩=some (.int .u16 0)∧w4.cell? ⟨W3.heap.size,8,none⟩=some (.int .u16 0)∧w4.cell? ⟨W3.heap.size,9,none⟩=some (.int .u16 0)∧w4.cell? ⟨W3.heap.size,10,none⟩=some (.int .u16 0)∧w4.cell? ⟨W3.heap.size,11,none⟩=some (.slice none 0 0)∧w4.cell? ⟨W3.heap.size,12,none⟩=some (.slice none 0 0)):=by refine(HRun.out _ (HKa.out _)).mono ?_;rintro e w4 ⟨sv,dv,rfl,hs4,hd4,hb4⟩;obtain⟨so,sc,rfl⟩:=own_is hs4;obtain⟨dO,dc,rfl⟩:=own_is hd4;have hz:=zero_kept hb4;refine⟨so,dO,sc,dc,rfl,⟨own_weak hs4 (by simp),own_weak hd4 (by simp),below_back hb4⟩,hz,fun i=>hz.free i,?_,?_,?_,?_,?_,?_,?_,?_,?_,?_,?_,?_,?_⟩;all_goals (rw[hz.cell];rfl)
  go_upto_region 3 with fail
  go_cut [11] from 29 to 38 (fun v wx=>∃(g:Nat) (so dO:Option Addr) (sc dc:Nat),v= .pointer (some ⟨g,0,none⟩)∧Hid (Blk wx g #[.int .u8 OF,.int .i64 (OS:Int),.int .i64 (OD:Int),.int .u16 p0,.int .u16 p1,.int .u16 p2,.int .u16 p3,.int .u16 p4,.int .u16 p5,.int .u16 p6,.int .u16 p7,.slice so shows.length sc,.slice dO sends.length dc] 124)∧Hid (wx.ownsRow W3.heap.size 132 2 (.slice so shows.length sc) shows.length (showCells shows)∧wx.ownsRow W3.heap.size 108 2 (.slice dO sends.length dc) sends.length (sendCells sends))∧Hid (Below W3.heap.size W3 wx))
  case first=>
   go_region_with (go_at_call 66;first|(refine HRunA.out.mono ?_;rintro e w4 ⟨so,dO,sc,dc,rfl,HR4⟩)|(refine HRunB.out.mono ?_;rintro e w4 ⟨so,dO,sc,dc,rfl,HR4,HZb,qf,q0,q1,q2,q3,q4,q5,q6,q7,q8,q9,q10,q11,q12⟩))
   all_goals (try go_wp2_with fail)
   all_goals go_meet
   all_goals first
    |exact⟨W3.heap.size,so,dO,sc,dc,rfl,blk13 HZb.out _ _ _ _ _ _ _ _ _ _ _ _ _,⟨own_13 HR4.out.1 (fun e'=>HZb.out.ne_own HR4.out.1 (by decide) e'.symm) _ _ _ _ _ _ _ _ _ _ _ _ _,own_13 HR4.out.2.1 (fun e'=>HZb.out.ne_own HR4.out.2.1 (by decide) e'.symm) _ _ _ _ _ _ _ _ _ _ _ _ _⟩,below_13 HR4.out.2.2 (Nat.le_refl _) _ _ _ _ _ _ _ _ _ _ _ _ _⟩
    |exact⟨w4.heap.size,so,dO,sc,dc,rfl,Blk.new w4 _ 124,⟨HR4.out.1.alloc _,HR4.out.2.1.alloc _⟩,HR4.out.2.2.alloc HR4.out.2.2.size _⟩
  case rest=>
   obtain⟨g,so,dO,sc,dc,rfl,HG,HRw,HB⟩:=hcut;have HTc:Hid (TenAt wc tb o x.popBox nv1 bv1 lv1):=HT3.out.below HB.out;have HFc:Hid (TFr w wc tb o bv lv):=HF3.out.trans (TFr.of_below HB.out HT3.out.slot.lt) (Moved.refl _ _) (Moved.refl _ _);have HEc:Hid (Blk wc w1.heap.size #[.int .u8 ev.what,.int .u8 ev.by_,.int .u16 ev.arg,.int .u8 ev.src] 78):=HE3.out.below HB.out HE3.out.lt;have g0:wc.cell? ⟨g,0,none⟩=some (.int .u8 OF):=by rw[HG.out.cell 0];rfl
   have g1:wc.cell? ⟨g,1,none⟩=some (.int .i64 (OS:Int)):=by rw[HG.out.cell 1];rfl
   have g2:wc.cell? ⟨g,2,none⟩=some (.int .i64 (OD:Int)):=by rw[HG.out.cell 2];rfl
   have g3:wc.cell? ⟨g,3,none⟩=some (.int .u16 p0):=by rw[HG.out.cell 3];rfl
   have g4:wc.cell? ⟨g,4,none⟩=some (.int .u16 p1):=by rw[HG.out.cell 4];rfl
   have g5:wc.cell? ⟨g,5,none⟩=some (.int .u16 p2):=by rw[HG.out.cell 5];rfl
   have g6:wc.cell? ⟨g,6,none⟩=some (.int .u16 p3):=by rw[HG.out.cell 6];rfl
   have g7:wc.cell? ⟨g,7,none⟩=some (.int .u16 p4):=by rw[HG.out.cell 7];rfl
   have g8:wc.cell? ⟨g,8,none⟩=some (.int .u16 p5):=by rw[HG.out.cell 8];rfl
   have g9:wc.cell? ⟨g,9,none⟩=some (.int .u16 p6):=by rw[HG.out.cell 9];rfl
   have g10:wc.cell? ⟨g,10,none⟩=some (.int .u16 p7):=by rw[HG.out.cell 10];rfl
   have g11:wc.cell? ⟨g,11,none⟩=some (.slice so shows.length sc):=by rw[HG.out.cell 11];rfl
   have g12:wc.cell? ⟨g,12,none⟩=some (.slice dO sends.length dc):=by rw[HG.out.cell 12];rfl
   have e0:wc.cell? ⟨w1.heap.size,0,none⟩=some (.int .u8 ev.what):=by rw[HEc.out.cell 0];rfl
   have e1:wc.cell? ⟨w1.heap.size,1,none⟩=some (.int .u8 ev.by_):=by rw[HEc.out.cell 1];rfl
   have e2:wc.cell? ⟨w1.heap.size,2,none⟩=some (.int .u16 ev.arg):=by rw[HEc.out.cell 2];rfl
   have e3:wc.cell? ⟨w1.heap.size,3,none⟩=some (.int .u8 ev.src):=by rw[HEc.out.cell 3];rfl
   have hsw:w.heap.size≤wc.heap.size:=HFc.out.kept.size;clear c0 z0 i0 j0 i1 j1 i2 j2 i3 j3 i4 j4 i5 j5 i6 j6 i7 j7 i8 j8 i9 j9 i10 j10 i11 j11 i12 j12 i13 j13 i14 j14 HRunA HRunB HKd HKa;by_cases hf:OF=0
   ·subst hf;have HHf:Hid (x.handle n route ds=x.popBox.finish n ev [p0,p1,p2,p3,p4,p5,p6,p7] shows sends):=by unfold Hid;rw[HHd.out,if_pos rfl]
    have HSf:Hid (x.sent n route ds=sends.filter (goes x.pub)):=by unfold Hid;rw[HSd.out,if_pos rfl]
    go_wp2_with fail;refine(finish_any HTc.out n ev 0 OS OD p0 p1 p2 p3 p4 p5 p6 p7 shows sends (.slice so shows.length sc) (.slice dO sends.length dc) W3.heap.size HRw.out.1 HRw.out.2 (Nat.le_trans HOk.out.shows (by decide)) (Nat.le_trans HOk.out.sends (by decide)) (fun y hy=>⟨(HOk.out.keys y hy).1,Nat.le_trans (HOk.out.keys y hy).2 (by unfold maxLen;decide)⟩) (fun y hy=>by have:=(HOk.out.topics y hy).1;omega) HX.out.nodes HX.out.llen HX.out.pub.1 HX.out.pub.2 HEo.out.what.1 HEo.out.what.2).mono ?_;rintro e w5 ⟨gv,rfl,ha5,ho5⟩;have HA5:Hid (TAft w tb o bv lv (x.popBox.finish n ev [p0,p1,p2,p3,p4,p5,p6,p7] shows sends) w5):=TAft.trans HFc.out HM1.out.1 HM1.out.2 ha5;have HO5:Hid (w5.ownsRow w.heap.size 108 2 gv (sends.filter (goes x.pub)).length (sendCells (sends.filter (goes x.pub)))):=own_weak ho5 hsw;obtain⟨vo,vc,rfl⟩:=own_is ho5;clear ha5 ho5;go_wp2;go_ret;refine⟨_,rfl,?_,?_⟩
    ·rw[HHf.out];exact HA5.out
    ·rw[HSf.out];exact HO5.out
   ·have hfb:(OF !=0)=true:=by simpa using hf
    have HHf:Hid (x.handle n route ds=x.popBox.hold n OF OS):=by unfold Hid;rw[HHd.out,if_neg hf]
    have HSf:Hid (x.sent n route ds=[]):=by unfold Hid;rw[HSd.out,if_neg hf]
    clear hf;go_wp2_with fail;refine(hold_any HTc.out n OF OS OD p0 p1 p2 p3 p4 p5 p6 p7 (.slice so shows.length sc) (.slice dO sends.length dc) (Nat.le_trans HX.out.llen (by decide)) HX.out.back.1 HX.out.back.2 HX.out.dbl.1 HX.out.dbl.2 hn0 hn1 HOk.out.fault.1 (by have:=HOk.out.fault.2;simp only at this;omega) HX.out.nodes).mono ?_;rintro e w5 ⟨rfl,ha5⟩;have HA5:Hid (TAft w tb o bv lv (x.popBox.hold n OF OS) w5):=TAft.trans HFc.out HM1.out.1 HM1.out.2 ha5;clear ha5;go_wp2;go_ret;refine⟨_,rfl,?_,?_⟩
    ·rw[HHf.out];exact HA5.out
    ·rw[HSf.out];exact World.ownsRow_nil _ _ _ _
end Go.Proofs.YtidaflmmldefcaaGreat
