/- Parts of the proof of Hosts: RnA. -/
import Derived.Test.YtidaflmmldefcaaGreatQ30
import Derived.Test.YtidaflmmldefcaaGreatQ27
import Derived.Test.YtidaflmmldefcaaGreatQ15
import Derived.Test.YtidaflmmldefcaaGreatQ36
import Derived.Deep.CutRange
import Derived.Deep.RegionHeld3
import Derived.BigRegion
set_option maxHeartbeats 16000000
namespace Go.Proofs.YtidaflmmldefcaaGreat
open Go.RowKit
set_option linter.unusedVariables false
def Tn.heldIf (x:Tn) (n route:Int) (ds:List Int) (t:Nat) (k:Int) (held:List Int):List Int:=if (x.out n route ds).fault=0 then held else held.set t (k+1)
def mlCells (l:List Lt):List Value:=l.flatMap fun x=>[.int .i64 x.1,.int .i64 x.2.1,.int .i64 x.2.2]
theorem mlCells_snoc (l:List Lt) (x:Lt):mlCells (l++[x])=mlCells l++[.int .i64 x.1,.int .i64 x.2.1,.int .i64 x.2.2]:=by simp[mlCells]
theorem own_some {w:World} {base n c size:Nat} {e:TypeId} {ao:Option Addr} {xs:List Value} (h:w.ownsRow base e size (.slice ao n c) n xs) (hn:0<n):∃g,ao=some ⟨g,0,none⟩∧n≤c:=by
 rcases h.2 with ⟨_,h0⟩|⟨g,cap,cur,hv,hb,hh,h1,_⟩
 ·omega
 ·simp only[Value.slice.injEq] at hv;obtain⟨rfl,_,rfl⟩:=hv;exact⟨g,rfl,h1⟩
theorem popBox_nil {x:Tn} (h:x.box=[]):x.popBox=x:=by
 obtain⟨p1,p2,p3,p4,p5,p6,p7,p8,p9,p10,p11,p12,p13,p14⟩:=x;simp only at h;subst h;rfl
theorem run_doc {x:Tn} (hok:x.ok) (hmf:x.mf.good) (n route:Int) (hr0:0≤route) (hr1:route≤255) (dao:Option Addr) (dn dcap:Nat) (ds:List Int) (u:World) (hd:DrawsAt u dao dn ds u.heap.size) {ev:Ev} (hev:ev=x.nextEv n): Calls Tryz.prog 58 #[.string x.prog,.agg #[.int .i64 x.fuel,.int .u16 (x.cells.getD 0 0),.int .u16 (x.cells.getD 1 0),.int .u16 (x.cells.getD 2 0),.int .u16 (x.cells.getD 3 0),.int .u16 (x.cells.getD 4 0),.int .u16 (x.cells.getD 5 0),.int .u16 (x.cells.getD 6 0),.int .u16 (x.cells.getD 7 0),.int .u8 ev.what,.int .u8 ev.by_,.int .u16 ev.arg,.int .u8 ev.src,.int .u8 route,.slice dao dn dcap]] u fun e w'=>runEnd (x.out n route ds) u.heap.size u e w':=by
 have heo:ev.ok:=by rw[hev];exact Tn.nextEv_ok hok n
 obtain⟨V,hV⟩:∃V:InV,V=⟨x.fuel,x.cells.getD 0 0,x.cells.getD 1 0,x.cells.getD 2 0,x.cells.getD 3 0,x.cells.getD 4 0,x.cells.getD 5 0,x.cells.getD 6 0,x.cells.getD 7 0,ev.what,ev.by_,ev.arg,ev.src,route,dao,dn,dcap⟩:=⟨_,rfl⟩;have hvo:V.ok:=by rw[hV];refine⟨heo.what,heo.arg,heo.src,⟨hr0,hr1⟩,?_⟩;have q:=hok.rng;rw[eightD hok.cells] at q;exact q
 have hvc:V.cells=x.cells:=by rw[hV];exact(eightD hok.cells).symm
 obtain⟨d1,d2,d3,d4⟩:=hd;have f:=hmf.fuel;rcases H.decode_cases (H.bts x.prog) (H.at0_bts_range x.prog) with ⟨p,hp,h⟩|⟨l,h,hl1,hl64,hlok,hle⟩
 ·have:=hmf.code;rw[show x.mf.prog=x.prog from rfl,h] at this;simp at this
 ·have q:=refR_main x.prog V ds u hok.prog hvo (by rw[hV];exact⟨d1,d2,d3,d4⟩) l h hl1 hl64 hlok (by rw[hV];have:=f.1;show 0≤x.fuel;exact Int.le_trans (by decide) this) (by rw[hV];exact f.2);have e1:H.run (H.bts x.prog) V.cells (V.inp ds)=x.out n route ds:=by rw[hvc];unfold Tn.out;rw[←hev,hV];rfl
  rw[e1] at q;have e2:V.arr=#[.int .i64 x.fuel,.int .u16 (x.cells.getD 0 0),.int .u16 (x.cells.getD 1 0),.int .u16 (x.cells.getD 2 0),.int .u16 (x.cells.getD 3 0),.int .u16 (x.cells.getD 4 0),.int .u16 (x.cells.getD 5 0),.int .u16 (x.cells.getD 6 0),.int .u16 (x.cells.getD 7 0),.int .u8 ev.what,.int .u8 ev.by_,.int .u16 ev.arg,.int .u8 ev.src,.int .u8 route,.slice dao dn dcap]:=by rw[hV];rfl
  rw[e2] at q;exact q
section
variable {w w' : World} {R : RB} {H : Hs} {held : List Int}
set_option maxRecDepth 100000 in
theorem rrun_any (h:RefAt w R H held) {t:Nat} {x:Tn} (hx:H.ts[t]? =some x) (hl:H.ts.length≤4) (hok:x.ok) (hmf:x.mf.good) (hsm:Tr.ndSmall x.nodes) (hn0:0≤H.frames) (hn1:H.frames≤1000) (hr0:0≤H.route) (hr1:H.route≤255) (q:Int) (hq:held[t]? =some q) (hqm:q≤1000) (dao:Option Addr) (dn dcap:Nat) (ds:List Int) (hd:∀u,Kept (refOwn R) w u→DrawsAt u dao dn ds u.heap.size): Calls Tryz.prog 50 #[.pointer (some ⟨R.rb,0,none⟩),.int .i64 t,.slice dao dn dcap] w fun e w'=>∃gv,e= .returned gv∧RAft w R {H with ts:=H.ts.set t (x.handle H.frames H.route ds)} (x.heldIf H.frames H.route ds t q held) w'∧w'.ownsRow w.heap.size 118 3 gv (x.sent H.frames H.route ds).length (mlCells (lettersOf t (x.sent H.frames H.route ds))):=by
 obtain⟨i0,hi,hz0,hz1,hz2⟩:=info_parts info58;obtain⟨j0,hj,hy0,hy1,hy2⟩:=info_parts info118;have HH:Hid (RefAt w R H held):=h;have HXo:Hid (x.ok∧x.mf.good):=⟨hok,hmf⟩;have HSm:Hid (Tr.ndSmall x.nodes):=hsm;have HD:Hid (∀u,Kept (refOwn R) w u→DrawsAt u dao dn ds u.heap.size):=hd;obtain⟨n,hn⟩:∃n,n=H.frames:=⟨_,rfl⟩;obtain⟨r,hr⟩:∃r,r=H.route:=⟨_,rfl⟩;obtain⟨N,hN⟩:∃N,N=H.ts.length:=⟨_,rfl⟩;have HN:Hid (H.ts.length=N∧H.frames=n∧H.route=r):=⟨hN.symm,hn.symm,hr.symm⟩;have hil:t<N:=by rw[hN];exact(List.getElem?_eq_some_iff.1 hx).1
 have HX:Hid (H.ts[t]? =some x):=hx;have HQ:Hid (held[t]? =some q):=hq;obtain⟨ev,hev⟩:∃ev,ev=x.nextEv n:=⟨_,rfl⟩;have HEo:Hid ev.ok:=by rw[hev];exact Tn.nextEv_ok hok n
 have HEv:Hid (ev=x.nextEv n):=hev;obtain⟨O,hO⟩:∃O,O=x.out n r ds:=⟨_,rfl⟩;have HO:Hid (O=x.out n r ds):=hO;have HOk:Hid (Go.Proofs.YtidaflmmldefcaaGreat.H.OutOk O):=by rw[hO];exact Tn.out_ok hok n r ds (by omega) (hd w (Kept.refl _ _)).rng
 rw[←hn,←hr];rw[←hn] at hn0 hn1;rw[←hr] at hr0 hr1;rw[←hN] at hl;obtain⟨b,hbv⟩:∃v,R.bv[t]? =some v:=⟨_,List.getElem?_eq_getElem (by rw[h.blen,←hN];exact hil)⟩;have hbo:=h.box t x b hx hbv;obtain⟨bo,bc,rfl⟩:=own_is hbo;have HBo:Hid (w.ownsRow 0 78 4 (.slice bo x.box.length bc) x.box.length (evCells x.box)):=hbo;obtain⟨LB,hLB⟩:∃LB,LB=x.box.length:=⟨_,rfl⟩;have HLB:Hid (x.box.length=LB):=hLB.symm;have hblen:LB≤100000:=by rw[hLB];exact hok.blen
 obtain⟨W,hW⟩:∃W,W=w.alloc (.cells #[.int .u8 3,.int .u8 0,.int .u16 (n%65536),.int .u8 0] 78):=⟨_,rfl⟩;have hbW:Below w.heap.size w W:=by rw[hW];exact(Below.refl _ _).alloc (Nat.le_refl _) _
 have HBW:Hid (Below w.heap.size w W):=hbW;have HRW:Hid (RefAt W R H held):=h.below hbW;have HEW:Hid (Blk W w.heap.size #[.int .u8 3,.int .u8 0,.int .u16 (n%65536),.int .u8 0] 78):=by unfold Hid;rw[hW];exact Blk.new w _ 78
 have c2:w.cell? ⟨R.rb,2,none⟩=some (.int .i64 n):=by rw[h.host.cell 2,hn];rfl
 have d6:W.cell? ⟨R.rb,6,none⟩=some (.slice (some ⟨R.b,0,none⟩) N R.bc):=by rw[HRW.out.host.cell 6,hN];rfl
 have db:W.cell? ⟨R.b,t,none⟩=some (.slice bo LB bc):=by rw[hLB];exact own_cellN HRW.out.rx hbv
 have hwn:IntKind.u16.wrap n=n%65536:=by rw[IntKind.wrap_u16]
 have hhb:=h.host.lt;have hhn:¬R.rb=w.heap.size:=by omega
 have hti:(t:Int)<(N:Int):=by omega
 have ht0:(0:Int)≤(t:Int):=by omega
 clear h hx hok hmf hsm hd hq hev hO hbv hbo hbW hn hr hN hLB;go_enter Tryz.func50,Tryz.ntmps50;go_upto_region 2 with fail
 rw[←hW];clear hW c2;go_upto_if 36 with fail
 go_cut [8] from 28 to 62 (fun v8 wx=>∃V,Hid (Below w.heap.size w V∧Blk V w.heap.size #[.int .u8 ev.what,.int .u8 ev.by_,.int .u16 ev.arg,.int .u8 ev.src] 78)∧Hid (RAft V R {H with ts:=H.ts.set t x.popBox} held wx))
 case first=>
  cases hbx:x.box with
  |nil=>
   have hL0:LB=0:=by rw[←HLB.out,hbx];rfl
   subst hL0;have HBx:Hid (x.box=[]):=hbx;clear hbx;go_wp2_with fail;go_meet
   refine⟨W,⟨HBW.out,?_⟩,?_⟩
   ·rw[HEv.out];unfold Tn.nextEv;rw[HBx.out];exact HEW.out
   ·rw[popBox_nil HBx.out,set_self2 HX.out];exact RAft.refl HRW.out
  |cons y z=>
   have hL0:LB=z.length+1:=by rw[←HLB.out,hbx];rfl
   have hbo:=own_below' HBo.out HBW.out (Nat.le_refl _);rw[HLB.out,hbx] at hbo;obtain⟨g,rfl,hcp⟩:=own_some hbo (by omega);have HLz:Hid (LB=z.length+1):=hL0;have HBx:Hid (x.box=y::z):=hbx;have hye:ev=y:=by rw[HEv.out];unfold Tn.nextEv;rw[hbx]
   have HYe:Hid (ev=y):=hye;have g0:W.cell? ⟨g,0,none⟩=some (.int .u8 ev.what):=by rw[hye];exact own_cellN hbo rfl
   have g1:W.cell? ⟨g,1,none⟩=some (.int .u8 ev.by_):=by rw[hye];exact own_cellN hbo rfl
   have g2:W.cell? ⟨g,2,none⟩=some (.int .u16 ev.arg):=by rw[hye];exact own_cellN hbo rfl
   have g3:W.cell? ⟨g,3,none⟩=some (.int .u8 ev.src):=by rw[hye];exact own_cellN hbo rfl
   have k0:W.cell? ⟨w.heap.size,0,none⟩=some (.int .u8 3):=by rw[HEW.out.cell 0];rfl
   have k1:W.cell? ⟨w.heap.size,1,none⟩=some (.int .u8 0):=by rw[HEW.out.cell 1];rfl
   have k2:W.cell? ⟨w.heap.size,2,none⟩=some (.int .u16 (n%65536)):=by rw[HEW.out.cell 2];rfl
   have k3:W.cell? ⟨w.heap.size,3,none⟩=some (.int .u8 0):=by rw[HEW.out.cell 3];rfl
   have ke:∀i,W.frozen? ⟨w.heap.size,i,none⟩=false:=fun i=>HEW.out.free i;have HBz:Hid (W.ownsRow 0 78 4 (.slice (some ⟨g,0,none⟩) LB bc) LB (evCells (y::z))):=hbo;have hgl:g<w.heap.size:=by obtain⟨_,q⟩:=own_blk HBo.out rfl;exact q.lt
   obtain⟨V,hV⟩:∃V,V=(((W.setCell ⟨w.heap.size,0,none⟩ (.int .u8 ev.what)).setCell ⟨w.heap.size,1,none⟩ (.int .u8 ev.by_)).setCell ⟨w.heap.size,2,none⟩ (.int .u16 ev.arg)).setCell ⟨w.heap.size,3,none⟩ (.int .u8 ev.src):=⟨_,rfl⟩;have HVk:Hid (∀k,k<w.heap.size→V.heap[k]? =W.heap[k]?):=by
    intro k hk;have hne:k≠w.heap.size:=by omega
    rw[hV,Below.heap_setCell _ _ _ _ hne,Below.heap_setCell _ _ _ _ hne,Below.heap_setCell _ _ _ _ hne,Below.heap_setCell _ _ _ _ hne]
   have HVe:Hid (Blk V w.heap.size #[.int .u8 ev.what,.int .u8 ev.by_,.int .u16 ev.arg,.int .u8 ev.src] 78):=by unfold Hid;rw[hV];exact(((HEW.out.set 0 _).set 1 _).set 2 _).set 3 _
   have HVb:Hid (Below w.heap.size w V):=by unfold Hid;rw[hV];exact(((HBW.out.setCell (p:=⟨w.heap.size,0,none⟩) (Nat.le_refl _) _).setCell (p:=⟨w.heap.size,1,none⟩) (Nat.le_refl _) _).setCell (p:=⟨w.heap.size,2,none⟩) (Nat.le_refl _) _).setCell (p:=⟨w.heap.size,3,none⟩) (Nat.le_refl _) _
   have HRV:Hid (RefAt V R H held):=HH.out.below HVb.out;have v6:V.cell? ⟨R.rb,6,none⟩=some (.slice (some ⟨R.b,0,none⟩) N R.bc):=by rw[HRV.out.host.cell 6,←HN.out.1];rfl
   have vb:V.cell? ⟨R.b,t,none⟩=some (.slice (some ⟨g,0,none⟩) LB bc):=by have q:=HRV.out.rx;obtain⟨cu,q1⟩:=own_cur HRV.out.rx;obtain⟨cu2,q2⟩:=own_cur HRW.out.rx;have hbl:=(own_cur HH.out.rx).choose_spec.lt;rw[q1.cell t,←db,q2.cell t];have e1:V.heap[R.b]? =W.heap[R.b]? :=HVk.out _ hbl;have e2:some (Obj.cells cu 29)=some (Obj.cells cu2 29):=q1.symm.trans (e1.trans q2);simp at e2;rw[e2]
   have HVz:Hid (∀j u,(evCells z)[j]? =some u→V.cell? ((⟨g,4,none⟩:Addr).add j)=some u):=by
    intro j u hj;have hb2:V.ownsRow 0 78 4 (.slice (some ⟨g,0,none⟩) LB bc) LB (evCells (y::z)):=own_block HBz.out fun k hk=>by
     obtain rfl:g=k:=by simpa[Value.ownBlock] using hk
     exact HVk.out _ hgl
    rw[Addr.add_lit];refine own_cellN hb2 ?_;show(y.cells++evCells z)[4+j]? =some u;rw[List.getElem?_append_right (by simp[Ev.cells])];rw[show 4+j-y.cells.length=j by simp[Ev.cells]];exact hj
   have hpos:(0:Int)<(LB:Int):=by omega
   have hpos1:1≤LB:=by omega
   have hge:¬g=w.heap.size:=by omega
   clear hbx hbo hL0 hye HBz;go_upto_region 4 with fail
   rw[←hV];clear hV g0 g1 g2 g3 k0 k1 k2 k3 ke d6 db;have HKEY:Hid (∀v1 w1,w1.ownsRow V.heap.size 78 4 v1 (LB-1) (evCells z)→V.grownBy w1 (Value.ownBlock (.slice none 0 0))→∃vo vc,v1= .slice vo (LB-1) vc∧w1.cell? ⟨R.rb,6,none⟩=some (.slice (some ⟨R.b,0,none⟩) N R.bc)∧w1.cell? ⟨R.b,t,none⟩=some (.slice (some ⟨g,0,none⟩) LB bc)∧w1.frozen? ⟨R.b,t,none⟩=false∧Hid (RAft V R {H with ts:=H.ts.set t x.popBox} held (w1.setCell ⟨R.b,t,none⟩ (.slice vo (LB-1) vc)))):=by
    intro v1 w1 ho1 hg1;have hb1:Below V.heap.size V w1:=(Below.refl _ _).grown hg1 (Nat.le_refl _) (by intro k hk;simp[Value.ownBlock] at hk);obtain⟨vo,vc,rfl⟩:=own_is ho1;have hz:LB-1=z.length:=by have:=HLz.out;omega
    have e:x.popBox={x with box:=z}:=by unfold Tn.popBox;rw[HBx.out];rfl
    have a1:=HRV.out.below hb1;refine⟨vo,vc,rfl,by rw[a1.host.cell 6,←HN.out.1];rfl,?_,own_freeN a1.rx t,?_⟩
    ·obtain⟨cu,q1⟩:=own_cur HRV.out.rx;have q2:=q1.below hb1 q1.lt;rw[q2.cell t,←q1.cell t];exact vb
    ·unfold Hid;rw[e];refine HRV.out.lay_box HX.out hb1 ?_;rw[←hz];exact ho1
   have hgV:g<V.heap.size:=by have:=HVb.out.size;omega
   by_cases hc1:bc=1
   ·subst hc1;obtain rfl:LB=1:=by omega
    have HZ0:Hid (z=[]):=List.eq_nil_of_length_eq_zero (by have:=HLz.out;omega);go_wp2_with (at_builtin;refine wpList_append_own_at _ rfl (.tmp 46) (.tmp 54) 29 rfl V.heap.size 78 i0 (.agg #[.int .u8 0,.int .u8 0,.int .u16 0,.int .u8 0]) 4 6 Tryz.underlying29 hi hz0 hz1 hz2 rfl (by decide) _ 0 [] rfl (World.ownsRow_nil _ _ _ _) ⟨g,0,none⟩ 0 _ (evCells z) rfl (by rw[HZ0.out];rfl) (by rw[HZ0.out];intro j u hj;simp[evCells] at hj) (evCells_one _) (by unfold maxLen;omega) (by omega) (Nat.le_refl _) ?_);intro v1 w1 ho1 hg1 _ _;obtain⟨vo,vc,rfl,q6,qb,qf,HA1⟩:=HKEY.out v1 w1 (by simpa using ho1) hg1;clear ho1 hg1;go_wp2_with fail;go_meet
    exact⟨V,⟨HVb.out,HVe.out⟩,HA1.out⟩
   ·have hc2:¬bc-1=0:=by omega
    go_wp2_with (at_builtin;refine wpList_append_own_at _ rfl (.tmp 46) (.tmp 54) 29 rfl V.heap.size 78 i0 (.agg #[.int .u8 0,.int .u8 0,.int .u16 0,.int .u8 0]) 4 6 Tryz.underlying29 hi hz0 hz1 hz2 rfl (by decide) _ 0 [] rfl (World.ownsRow_nil _ _ _ _) ⟨g,4,none⟩ (LB-1) _ (evCells z) rfl (by rw[evCells_length,HLz.out,Nat.add_sub_cancel]) HVz.out (evCells_one _) (by unfold maxLen;omega) (by omega) (Nat.le_refl _) ?_);intro v1 w1 ho1 hg1 _ _;obtain⟨vo,vc,rfl,q6,qb,qf,HA1⟩:=HKEY.out v1 w1 (by simpa using ho1) hg1;clear ho1 hg1;go_wp2_with fail;go_meet
    exact⟨V,⟨HVb.out,HVe.out⟩,HA1.out⟩
 case rest=>
  rename World=>wb
  obtain⟨V,HV,HA⟩:=hcut;obtain⟨nv,bv,lv,b1,b2,b3⟩:=HA.out;have hx1:({H with ts:=H.ts.set t x.popBox}:Hs).ts[t]? =some x.popBox:=List.getElem?_set_self (by rw[HN.out.1];exact hil);have hlen:(H.ts.set t x.popBox).length=N:=by rw[List.length_set];exact HN.out.1
  have hew:Blk wb w.heap.size #[.int .u8 ev.what,.int .u8 ev.by_,.int .u16 ev.arg,.int .u8 ev.src] 78:=RAft.keep_new HH.out HA.out HV.out.2 (Nat.le_refl _);have HEw:Hid (Blk wb w.heap.size #[.int .u8 ev.what,.int .u8 ev.by_,.int .u16 ev.arg,.int .u8 ev.src] 78):=hew;obtain⟨a0,ha0⟩:∃a,a=x.cells.getD 0 0:=⟨_,rfl⟩;obtain⟨a1,ha1⟩:∃a,a=x.cells.getD 1 0:=⟨_,rfl⟩;obtain⟨a2,ha2⟩:∃a,a=x.cells.getD 2 0:=⟨_,rfl⟩;obtain⟨a3,ha3⟩:∃a,a=x.cells.getD 3 0:=⟨_,rfl⟩;obtain⟨a4,ha4⟩:∃a,a=x.cells.getD 4 0:=⟨_,rfl⟩;obtain⟨a5,ha5⟩:∃a,a=x.cells.getD 5 0:=⟨_,rfl⟩;obtain⟨a6,ha6⟩:∃a,a=x.cells.getD 6 0:=⟨_,rfl⟩;obtain⟨a7,ha7⟩:∃a,a=x.cells.getD 7 0:=⟨_,rfl⟩;have HCell:Hid (∀u,Below wb.heap.size wb u→u.cell? ⟨R.rb,0,none⟩=some (.slice (some ⟨R.m,0,none⟩) N R.mc)∧u.cell? ⟨R.rb,4,none⟩=some (.slice (some ⟨R.c,0,none⟩) N R.cc)∧u.cell? ⟨R.rb,1,none⟩=some (.int .i64 r)∧u.cell? ⟨R.m,t*7,none⟩=some (.string x.prog)∧u.cell? ⟨R.m,t*7+1,none⟩=some (.int .i64 x.fuel)∧u.cell? ⟨R.c,t*8,none⟩=some (.int .u16 a0)∧u.cell? ⟨R.c,t*8+1,none⟩=some (.int .u16 a1)∧u.cell? ⟨R.c,t*8+2,none⟩=some (.int .u16 a2)∧u.cell? ⟨R.c,t*8+3,none⟩=some (.int .u16 a3)∧u.cell? ⟨R.c,t*8+4,none⟩=some (.int .u16 a4)∧u.cell? ⟨R.c,t*8+5,none⟩=some (.int .u16 a5)∧u.cell? ⟨R.c,t*8+6,none⟩=some (.int .u16 a6)∧u.cell? ⟨R.c,t*8+7,none⟩=some (.int .u16 a7)∧u.cell? ⟨w.heap.size,0,none⟩=some (.int .u8 ev.what)∧u.cell? ⟨w.heap.size,1,none⟩=some (.int .u8 ev.by_)∧u.cell? ⟨w.heap.size,2,none⟩=some (.int .u16 ev.arg)∧u.cell? ⟨w.heap.size,3,none⟩=some (.int .u8 ev.src)):=by intro u hu;have c1:=b1.below hu;have hE:=hew.below hu hew.lt;rw[ha0,ha1,ha2,ha3,ha4,ha5,ha6,ha7];refine⟨by rw[c1.host.cell 0,←hlen];rfl,by rw[c1.host.cell 4,←hlen];rfl,by rw[c1.host.cell 1,←HN.out.2.2];rfl,c1.mf hx1 0 (by decide),c1.mf hx1 1 (by decide),own_cellN c1.rc (cells8_get _ t _ hx1 0 (by decide)),own_cellN c1.rc (cells8_get _ t _ hx1 1 (by decide)),own_cellN c1.rc (cells8_get _ t _ hx1 2 (by decide)),own_cellN c1.rc (cells8_get _ t _ hx1 3 (by decide)),own_cellN c1.rc (cells8_get _ t _ hx1 4 (by decide)),own_cellN c1.rc (cells8_get _ t _ hx1 5 (by decide)),own_cellN c1.rc (cells8_get _ t _ hx1 6 (by decide)),own_cellN c1.rc (cells8_get _ t _ hx1 7 (by decide)),?_,?_,?_,?_⟩;all_goals (rw[hE.cell];rfl)
  have HRun:Hid (∀u,Below wb.heap.size wb u→Calls Tryz.prog 58 #[.string x.prog,.agg #[.int .i64 x.fuel,.int .u16 a0,.int .u16 a1,.int .u16 a2,.int .u16 a3,.int .u16 a4,.int .u16 a5,.int .u16 a6,.int .u16 a7,.int .u8 ev.what,.int .u8 ev.by_,.int .u16 ev.arg,.int .u8 ev.src,.int .u8 r,.slice dao dn dcap]] u fun e w'=>runEnd O u.heap.size u e w'):=by intro u hu;rw[ha0,ha1,ha2,ha3,ha4,ha5,ha6,ha7,HO.out];exact run_doc HXo.out.1 HXo.out.2 n r hr0 hr1 dao dn dcap ds u (HD.out u (((Kept.of_below (S:=refOwn R) HV.out.1).trans b2 (fun _ _ q=>q)).trans (Kept.of_below (S:=refOwn R) hu) (fun _ _ q=>q))) HEv.out
  have HHd:Hid (x.handle n r ds=if O.fault=0 then x.popBox.finish n ev O.cells O.shows O.sends else x.popBox.hold n O.fault O.steps):=by unfold Hid Tn.handle;rw[←HO.out,←HEv.out]
  have HSd:Hid (x.sent n r ds=if O.fault=0 then O.sends.filter (goes x.pub) else []):=by unfold Hid Tn.sent;rw[←HO.out]
  have HHl:Hid (x.heldIf n r ds t q held=if O.fault=0 then held else held.set t (q+1)):=by unfold Hid Tn.heldIf;rw[←HO.out]
  obtain⟨OF,OS,OD,OC,shows,sends,oerr⟩:=O;simp only at HRun HOk HHd HSd HHl;have hOC:=eightD HOk.out.clen;simp only at hOC;obtain⟨p0,hp0⟩:∃a,a=OC.getD 0 0:=⟨_,rfl⟩;obtain⟨p1,hp1⟩:∃a,a=OC.getD 1 0:=⟨_,rfl⟩;obtain⟨p2,hp2⟩:∃a,a=OC.getD 2 0:=⟨_,rfl⟩;obtain⟨p3,hp3⟩:∃a,a=OC.getD 3 0:=⟨_,rfl⟩;obtain⟨p4,hp4⟩:∃a,a=OC.getD 4 0:=⟨_,rfl⟩;obtain⟨p5,hp5⟩:∃a,a=OC.getD 5 0:=⟨_,rfl⟩;obtain⟨p6,hp6⟩:∃a,a=OC.getD 6 0:=⟨_,rfl⟩;obtain⟨p7,hp7⟩:∃a,a=OC.getD 7 0:=⟨_,rfl⟩;rw[←hp0,←hp1,←hp2,←hp3,←hp4,←hp5,←hp6,←hp7] at hOC;have HRunA:Hid (Calls Tryz.prog 58 #[.string x.prog,.agg #[.int .i64 x.fuel,.int .u16 a0,.int .u16 a1,.int .u16 a2,.int .u16 a3,.int .u16 a4,.int .u16 a5,.int .u16 a6,.int .u16 a7,.int .u8 ev.what,.int .u8 ev.by_,.int .u16 ev.arg,.int .u8 ev.src,.int .u8 r,.slice dao dn dcap]] wb.drew fun e w4=>∃(so dO:Option Addr) (sc dc:Nat),e= .returned (.tuple #[.agg #[.int .u8 OF,.int .i64 (OS:Int),.int .i64 (OD:Int),.int .u16 p0,.int .u16 p1,.int .u16 p2,.int .u16 p3,.int .u16 p4,.int .u16 p5,.int .u16 p6,.int .u16 p7,.slice so shows.length sc,.slice dO sends.length dc],.int .i64 oerr])∧Hid (w4.ownsRow wb.heap.size 132 2 (.slice so shows.length sc) shows.length (showCells shows)∧w4.ownsRow wb.heap.size 108 2 (.slice dO sends.length dc) sends.length (sendCells sends)∧Below wb.heap.size wb w4)):=by refine(HRun.out _ ((Below.refl _ _).drew)).mono ?_;rintro e w4 ⟨sv,dv,rfl,hs4,hd4,hb4⟩;obtain⟨so,sc,rfl⟩:=own_is hs4;obtain⟨dO,dc,rfl⟩:=own_is hd4;rw[hp0,hp1,hp2,hp3,hp4,hp5,hp6,hp7];exact⟨so,dO,sc,dc,rfl,hs4,hd4,⟨hb4.os,hb4.tape,hb4.output,hb4.size,hb4.block⟩⟩
  have HRunB:Hid (Calls Tryz.prog 58 #[.string x.prog,.agg #[.int .i64 x.fuel,.int .u16 a0,.int .u16 a1,.int .u16 a2,.int .u16 a3,.int .u16 a4,.int .u16 a5,.int .u16 a6,.int .u16 a7,.int .u8 ev.what,.int .u8 ev.by_,.int .u16 ev.arg,.int .u8 ev.src,.int .u8 r,.slice dao dn dcap]] (wb.alloc (.cells #[.int .u8 0,.int .i64 0,.int .i64 0,.int .u16 0,.int .u16 0,.int .u16 0,.int .u16 0,.int .u16 0,.int .u16 0,.int .u16 0,.int .u16 0,.slice none 0 0,.slice none 0 0] 124)).drew fun e w4=>∃(so dO:Option Addr) (sc dc:Nat),e= .returned (.tuple #[.agg #[.int .u8 OF,.int .i64 (OS:Int),.int .i64 (OD:Int),.int .u16 p0,.int .u16 p1,.int .u16 p2,.int .u16 p3,.int .u16 p4,.int .u16 p5,.int .u16 p6,.int .u16 p7,.slice so shows.length sc,.slice dO sends.length dc],.int .i64 oerr])∧Hid (w4.ownsRow wb.heap.size 132 2 (.slice so shows.length sc) shows.length (showCells shows)∧w4.ownsRow wb.heap.size 108 2 (.slice dO sends.length dc) sends.length (sendCells sends)∧Below wb.heap.size wb w4)∧Hid (Blk w4 wb.heap.size #[.int .u8 0,.int .i64 0,.int .i64 0,.int .u16 0,.int .u16 0,.int .u16 0,.int .u16 0,.int .u16 0,.int .u16 0,.int .u16 0,.int .u16 0,.slice none 0 0,.slice none 0 0] 124)∧(∀i,w4.frozen? ⟨wb.heap.size,i,none⟩=false)∧w4.cell? ⟨wb.heap.size,0,none⟩=some (.int .u8 0)∧w4.cell? ⟨wb.heap.size,1,none⟩=some (.int .i64 0)∧w4.cell? ⟨wb.heap.size,2,none⟩=some (.int .i64 0)∧w4.cell? ⟨wb.heap.size,3,none⟩=some (.int .u16 0)∧w4.cell? ⟨wb.heap.size,4,none⟩=some (.int .u16 0)∧w4.cell? ⟨wb.heap.size,5,none⟩=some (.int .u16 0)∧w4.cell? ⟨wb.heap.size,6,none⟩=some (.int .u16 0)∧w4.cell? ⟨wb.heap.size,7,none⟩=some (.int .u16 0)∧w4.cell? ⟨wb.heap.size,8,none⟩=some (.int .u16 0)∧w4.cell? ⟨wb.heap.size,9,none⟩=some (.int .u16 0)∧w4.cell? ⟨wb.heap.size,10,none⟩=some (.int .u16 0)∧w4.cell? ⟨wb.heap.size,11,none⟩=some (.slice none 0 0)∧w4.cell? ⟨wb.heap.size,12,none⟩=some (.slice none 0 0)):=by refine(HRun.out _ (((Below.refl _ _).alloc (Nat.le_refl _) _).drew)).mono ?_;rintro e w4 ⟨sv,dv,rfl,hs4,hd4,hb4⟩;obtain⟨so,sc,rfl⟩:=own_is hs4;obtain⟨dO,dc,rfl⟩:=own_is hd4;have hz:=zero_kept hb4;rw[hp0,hp1,hp2,hp3,hp4,hp5,hp6,hp7];refine⟨so,dO,sc,dc,rfl,⟨own_weak hs4 (by simp),own_weak hd4 (by simp),below_back hb4⟩,hz,fun i=>hz.free i,?_,?_,?_,?_,?_,?_,?_,?_,?_,?_,?_,?_,?_⟩;all_goals (rw[hz.cell];rfl)
  have HS:Hid (∀u,Below wb.heap.size wb u→Below wb.heap.size wb u∧u.cell? ⟨R.rb,0,none⟩=some (.slice (some ⟨R.m,0,none⟩) N R.mc)∧u.cell? ⟨R.rb,4,none⟩=some (.slice (some ⟨R.c,0,none⟩) N R.cc)∧u.cell? ⟨R.rb,1,none⟩=some (.int .i64 r)∧u.cell? ⟨R.m,t*7,none⟩=some (.string x.prog)∧u.cell? ⟨R.m,t*7+1,none⟩=some (.int .i64 x.fuel)∧u.cell? ⟨R.c,t*8,none⟩=some (.int .u16 a0)∧u.cell? ⟨R.c,t*8+1,none⟩=some (.int .u16 a1)∧u.cell? ⟨R.c,t*8+2,none⟩=some (.int .u16 a2)∧u.cell? ⟨R.c,t*8+3,none⟩=some (.int .u16 a3)∧u.cell? ⟨R.c,t*8+4,none⟩=some (.int .u16 a4)∧u.cell? ⟨R.c,t*8+5,none⟩=some (.int .u16 a5)∧u.cell? ⟨R.c,t*8+6,none⟩=some (.int .u16 a6)∧u.cell? ⟨R.c,t*8+7,none⟩=some (.int .u16 a7)∧u.cell? ⟨w.heap.size,0,none⟩=some (.int .u8 ev.what)∧u.cell? ⟨w.heap.size,1,none⟩=some (.int .u8 ev.by_)∧u.cell? ⟨w.heap.size,2,none⟩=some (.int .u16 ev.arg)∧u.cell? ⟨w.heap.size,3,none⟩=some (.int .u8 ev.src)):=fun u hu=>⟨hu,HCell.out u hu⟩;obtain⟨r0,r4,r1,m0,m1,q0,q1,q2,q3,q4,q5,q6,q7,e0,e1,e2,e3⟩:=HCell.out wb (Below.refl _ _);subst hOC;have hwr:IntKind.u8.wrap r=r:=by rw[IntKind.wrap_u8];omega
  have hrb:R.rb<wb.heap.size:=b1.host.lt;have hwc1:¬R.rb=wb.heap.size:=by omega
  clear hx1 hlen hew b1 b2 b3 ha0 ha1 ha2 ha3 ha4 ha5 ha6 ha7 hp0 hp1 hp2 hp3 hp4 hp5 hp6 hp7 HCell HRun;go_upto_region 7 with fail
  go_cut [9,10] from 63 to 97 (fun v e10 wx=>∃(g:Nat) (so dO:Option Addr) (sc dc:Nat),v= .pointer (some ⟨g,0,none⟩)∧e10= .int .i64 oerr∧Hid (Blk wx g #[.int .u8 OF,.int .i64 (OS:Int),.int .i64 (OD:Int),.int .u16 p0,.int .u16 p1,.int .u16 p2,.int .u16 p3,.int .u16 p4,.int .u16 p5,.int .u16 p6,.int .u16 p7,.slice so shows.length sc,.slice dO sends.length dc] 124)∧Hid (wx.ownsRow wb.heap.size 132 2 (.slice so shows.length sc) shows.length (showCells shows)∧wx.ownsRow wb.heap.size 108 2 (.slice dO sends.length dc) sends.length (sendCells sends))∧Hid (Below wb.heap.size wb wx))
  case first=>
   go_region_held3 (fun w'=>Below wb.heap.size wb w'∧w'.cell? ⟨R.rb,0,none⟩=some (.slice (some ⟨R.m,0,none⟩) N R.mc)∧w'.cell? ⟨R.rb,4,none⟩=some (.slice (some ⟨R.c,0,none⟩) N R.cc)∧w'.cell? ⟨R.rb,1,none⟩=some (.int .i64 r)∧w'.cell? ⟨R.m,t*7,none⟩=some (.string x.prog)∧w'.cell? ⟨R.m,t*7+1,none⟩=some (.int .i64 x.fuel)∧w'.cell? ⟨R.c,t*8,none⟩=some (.int .u16 a0)∧w'.cell? ⟨R.c,t*8+1,none⟩=some (.int .u16 a1)∧w'.cell? ⟨R.c,t*8+2,none⟩=some (.int .u16 a2)∧w'.cell? ⟨R.c,t*8+3,none⟩=some (.int .u16 a3)∧w'.cell? ⟨R.c,t*8+4,none⟩=some (.int .u16 a4)∧w'.cell? ⟨R.c,t*8+5,none⟩=some (.int .u16 a5)∧w'.cell? ⟨R.c,t*8+6,none⟩=some (.int .u16 a6)∧w'.cell? ⟨R.c,t*8+7,none⟩=some (.int .u16 a7)∧w'.cell? ⟨w.heap.size,0,none⟩=some (.int .u8 ev.what)∧w'.cell? ⟨w.heap.size,1,none⟩=some (.int .u8 ev.by_)∧w'.cell? ⟨w.heap.size,2,none⟩=some (.int .u16 ev.arg)∧w'.cell? ⟨w.heap.size,3,none⟩=some (.int .u8 ev.src)) ((refine HS.out _ ?_;(repeat (with_reducible first|exact hw1|exact Below.refl _ _|refine Below.drew ?_|refine Below.alloc ?_ (by first|exact Nat.le_refl _|omega|(simp;done)|(simp;omega)) _|refine Below.setCell ?_ (by first|exact Nat.le_refl _|omega|(simp;done)|(simp;omega)) _))))
    ((go_at_call 58;first|(refine HRunA.out.mono ?_;rintro e w4 ⟨so,dO,sc,dc,rfl,HR4⟩;have hw1:Below wb.heap.size wb w4:=HR4.out.2.2;have hs1:=hw1.size)|(refine HRunB.out.mono ?_;rintro e w4 ⟨so,dO,sc,dc,rfl,HR4,HZb,qf,s0,s1,s2,s3,s4,s5,s6,s7,s8,s9,s10,s11,s12⟩;have hw1:Below wb.heap.size wb w4:=HR4.out.2.2;have hs1:=hw1.size)))
   all_goals (try go_wp2_with fail)
   all_goals go_meet
   all_goals first
    |exact⟨wb.heap.size,so,dO,sc,dc,rfl,rfl,blk13 HZb.out _ _ _ _ _ _ _ _ _ _ _ _ _,⟨own_13 HR4.out.1 (fun e'=>HZb.out.ne_own HR4.out.1 (by decide) e'.symm) _ _ _ _ _ _ _ _ _ _ _ _ _,own_13 HR4.out.2.1 (fun e'=>HZb.out.ne_own HR4.out.2.1 (by decide) e'.symm) _ _ _ _ _ _ _ _ _ _ _ _ _⟩,below_13 HR4.out.2.2 (Nat.le_refl _) _ _ _ _ _ _ _ _ _ _ _ _ _⟩
    |exact⟨w4.heap.size,so,dO,sc,dc,rfl,rfl,Blk.new w4 _ 124,⟨HR4.out.1.alloc _,HR4.out.2.1.alloc _⟩,HR4.out.2.2.alloc HR4.out.2.2.size _⟩
  case rest=>
   obtain⟨g,so,dO,sc,dc,rfl,rfl,HG,HRw,HB⟩:=hcut;obtain⟨OB,hOB⟩:∃OB:Array Value,OB=#[.int .u8 OF,.int .i64 (OS:Int),.int .i64 (OD:Int),.int .u16 p0,.int .u16 p1,.int .u16 p2,.int .u16 p3,.int .u16 p4,.int .u16 p5,.int .u16 p6,.int .u16 p7,.slice so shows.length sc,.slice dO sends.length dc]:=⟨_,rfl⟩;have HOB:Hid (OB=#[.int .u8 OF,.int .i64 (OS:Int),.int .i64 (OD:Int),.int .u16 p0,.int .u16 p1,.int .u16 p2,.int .u16 p3,.int .u16 p4,.int .u16 p5,.int .u16 p6,.int .u16 p7,.slice so shows.length sc,.slice dO sends.length dc]):=hOB;have HSt:Hid (RSt V R g wb.heap.size OB (.slice so shows.length sc) (.slice dO sends.length dc) shows sends {H with ts:=H.ts.set t x.popBox} held wc):=⟨HA.out.below HB.out,by rw[hOB];exact HG.out,HRw.out.1,HRw.out.2⟩;have hVw:w.heap.size≤V.heap.size:=HV.out.1.size;have HSet:Hid (∀y,({H with ts:=H.ts.set t y}:Hs).ts[t]? =some y∧(H.ts.set t y).length=N):=fun y=>⟨List.getElem?_set_self (by rw[HN.out.1];exact hil),by rw[List.length_set];exact HN.out.1⟩;have Hil:Hid (t<H.ts.length):=by unfold Hid;rw[HN.out.1];exact hil
   have g0:wc.cell? ⟨g,0,none⟩=some (.int .u8 OF):=by rw[HG.out.cell 0];rfl
   clear r0 r4 r1 m0 m1 q0 q1 q2 q3 q4 q5 q6 q7 e0 e1 e2 e3 HRunA HRunB HS HEw hOB HA HRw HB hwc1 hrb d6 db HRW HEW HBW HBo;by_cases hf:OF=0
   ·subst hf;have HHf:Hid (x.handle n r ds=x.popBox.finish n ev [p0,p1,p2,p3,p4,p5,p6,p7] shows sends):=by unfold Hid;rw[HHd.out,if_pos rfl]
    have HSf:Hid (x.sent n r ds=sends.filter (goes x.pub)):=by unfold Hid;rw[HSd.out,if_pos rfl]
    have HHl2:Hid (x.heldIf n r ds t q held=held):=by unfold Hid;rw[HHl.out,if_pos rfl]
    obtain⟨z0,z3,z4,z5,z6,z8,z9⟩:RC wc R N:=HSt.out.aft.cells (HSet.out _).2;have c0:wc.cell? ⟨R.c,t*8,none⟩=some (.int .u16 (x.cells.getD 0 0)):=(HSt.out.aft.cellc (HSet.out _).1 0 (by decide)).1;have c1:wc.cell? ⟨R.c,t*8+1,none⟩=some (.int .u16 (x.cells.getD 1 0)):=(HSt.out.aft.cellc (HSet.out _).1 1 (by decide)).1;have c2:wc.cell? ⟨R.c,t*8+2,none⟩=some (.int .u16 (x.cells.getD 2 0)):=(HSt.out.aft.cellc (HSet.out _).1 2 (by decide)).1;have c3:wc.cell? ⟨R.c,t*8+3,none⟩=some (.int .u16 (x.cells.getD 3 0)):=(HSt.out.aft.cellc (HSet.out _).1 3 (by decide)).1;have c4:wc.cell? ⟨R.c,t*8+4,none⟩=some (.int .u16 (x.cells.getD 4 0)):=(HSt.out.aft.cellc (HSet.out _).1 4 (by decide)).1;have c5:wc.cell? ⟨R.c,t*8+5,none⟩=some (.int .u16 (x.cells.getD 5 0)):=(HSt.out.aft.cellc (HSet.out _).1 5 (by decide)).1;have c6:wc.cell? ⟨R.c,t*8+6,none⟩=some (.int .u16 (x.cells.getD 6 0)):=(HSt.out.aft.cellc (HSet.out _).1 6 (by decide)).1;have c7:wc.cell? ⟨R.c,t*8+7,none⟩=some (.int .u16 (x.cells.getD 7 0)):=(HSt.out.aft.cellc (HSet.out _).1 7 (by decide)).1;have fc:=(HSt.out.aft.cellc (HSet.out _).1 0 (by decide)).2;have g3:wc.cell? ⟨g,3,none⟩=some (.int .u16 p0):=by rw[HG.out.cell 3];rfl
    have g4:wc.cell? ⟨g,4,none⟩=some (.int .u16 p1):=by rw[HG.out.cell 4];rfl
    have g5:wc.cell? ⟨g,5,none⟩=some (.int .u16 p2):=by rw[HG.out.cell 5];rfl
    have g6:wc.cell? ⟨g,6,none⟩=some (.int .u16 p3):=by rw[HG.out.cell 6];rfl
    have g7:wc.cell? ⟨g,7,none⟩=some (.int .u16 p4):=by rw[HG.out.cell 7];rfl
    have g8:wc.cell? ⟨g,8,none⟩=some (.int .u16 p5):=by rw[HG.out.cell 8];rfl
    have g9:wc.cell? ⟨g,9,none⟩=some (.int .u16 p6):=by rw[HG.out.cell 9];rfl
    have g10:wc.cell? ⟨g,10,none⟩=some (.int .u16 p7):=by rw[HG.out.cell 10];rfl
    clear HHd HSd HHl;go_upto_region 22 with fail
    go_cut [] from 188 to 195 (fun wx=>Hid (RSt V R g wb.heap.size OB (.slice so shows.length sc) (.slice dO sends.length dc) shows sends {H with ts:=H.ts.set t {x.popBox with cells:=[p0,p1,p2,p3,p4,p5,p6,p7]}} held wx))
    case first=>
     go_big_region;all_goals (try go_wp2_with fail)
     all_goals go_meet
     all_goals exact(HSt.out.step Hil.out fun nv bv lv rr hx=>rr.lay_cells hx p0 p1 p2 p3 p4 p5 p6 p7).below ((Below.refl _ _).drew)
    case rest=>
     rename World=>V1
     have H1:Hid (RSt V R g wb.heap.size OB (.slice so shows.length sc) (.slice dO sends.length dc) shows sends {H with ts:=H.ts.set t {x.popBox with cells:=[p0,p1,p2,p3,p4,p5,p6,p7]}} held V1):=hcut;clear hcut z0 z3 z4 z5 z6 z8 z9 c0 c1 c2 c3 c4 c5 c6 c7 fc g0 g3 g4 g5 g6 g7 g8 g9 g10 HSt HG;obtain⟨z0,z3,z4,z5,z6,z8,z9⟩:RC V1 R N:=H1.out.aft.cells (HSet.out _).2;obtain⟨no,nc,⟨s5,f5⟩,hna⟩:=H1.out.aft.nodec (HSet.out _).1;obtain⟨LN,hLN⟩:∃LN,LN=x.nodes.length:=⟨_,rfl⟩;have s5':V1.cell? ⟨R.n,t,none⟩=some (.slice no LN nc):=by rw[hLN];exact s5
     have o11:V1.cell? ⟨g,11,none⟩=some (.slice so shows.length sc):=by have qq:=H1.out.out;rw[HOB.out] at qq;rw[qq.cell 11];rfl
     have HPl:Hid (∀u,Below V1.heap.size V1 u→Calls Tryz.prog 59 #[.slice no LN nc,.slice so shows.length sc] u fun e w4=>∃vo vc pe LP,e= .returned (.tuple #[.slice vo LP vc,.int .i64 pe])∧Hid (Below V1.heap.size V1 w4∧w4.ownsRow V1.heap.size 76 3 (.slice vo LP vc) (Tr.T.planO x.nodes shows).length (Tr.ndCells (Tr.T.planO x.nodes shows)))):=by intro u hu;have hko:=HXo.out.1.nodes;have hkl:=HXo.out.1.nlen;have hsl:=HOk.out.shows;have hks:=HOk.out.keys;simp only at hsl hks;have qq:=Tr.refPlan_any no so nc sc x.nodes shows u (by unfold maxLen;omega) (by unfold maxLen;omega) (hna.below hu (Nat.le_refl _) hu.size) hko HSm.out (own_shAt (own_below' H1.out.shows hu (Nat.le_refl _))) (fun y hy=>⟨(hks y hy).1,Nat.le_trans (hks y hy).2 (by unfold maxLen;decide)⟩) (fun y hy=>Nat.le_trans (hks y hy).2 (by decide));rw[←hLN] at qq;refine qq.mono ?_;rintro e w4 ⟨v,rfl,ho,hb⟩;obtain⟨vo,vc,rfl⟩:=own_is ho;exact⟨vo,vc,_,_,rfl,hu.trans (hb.mono hu.size),own_weak ho hu.size⟩
     have HS23:Hid (∀w',Below V1.heap.size V1 w'→Below V1.heap.size V1 w'∧w'.cell? ⟨R.rb,5,none⟩=some (.slice (some ⟨R.n,0,none⟩) N R.nc)∧w'.cell? ⟨R.n,t,none⟩=some (.slice no LN nc)∧w'.cell? ⟨g,11,none⟩=some (.slice so shows.length sc)):=by
      intro w' hb;have h2:=H1.out.below hb;have kk:∀b i v,b<V1.heap.size→V1.cell? ⟨b,i,none⟩=some v→w'.cell? ⟨b,i,none⟩=some v:=fun b i v hbl hv=>by rw[←hv];exact hb.cell (p:=⟨b,i,none⟩) hbl
      exact⟨hb,kk _ _ _ (World.block_lt_of_cell? _ _ z5) z5,kk _ _ _ (World.block_lt_of_cell? _ _ s5') s5',kk _ _ _ (World.block_lt_of_cell? _ _ o11) o11⟩
     clear s5 hna hLN;go_upto_region 23 with fail
     go_cut [15,16] from 196 to 208 (fun v e16 wx=>∃vo vc pe LP,v= .slice vo LP vc∧e16= .int .i64 pe∧Hid (Below V1.heap.size V1 wx∧wx.ownsRow V1.heap.size 76 3 (.slice vo LP vc) (Tr.T.planO x.nodes shows).length (Tr.ndCells (Tr.T.planO x.nodes shows))))
     case first=>
      go_region_held3 (fun w'=>Below V1.heap.size V1 w'∧w'.cell? ⟨R.rb,5,none⟩=some (.slice (some ⟨R.n,0,none⟩) N R.nc)∧w'.cell? ⟨R.n,t,none⟩=some (.slice no LN nc)∧w'.cell? ⟨g,11,none⟩=some (.slice so shows.length sc)) ((refine HS23.out _ ?_;(repeat (with_reducible first|exact hw1|exact Below.refl _ _|refine Below.drew ?_))))
       ((go_at_call 59;refine(HPl.out _ (by first|exact Below.refl _ _|exact(Below.refl _ _).drew)).mono ?_;rintro e w4 ⟨vo,vc,pe,LP,rfl,HP4⟩;have hw1:Below V1.heap.size V1 w4:=HP4.out.1))
      all_goals (try go_wp2_with fail)
      all_goals go_meet
      all_goals exact⟨vo,vc,pe,LP,rfl,rfl,HP4.out⟩
     case rest=>
      rename World=>V2
      obtain⟨vo,vc,pe,LP,rfl,rfl,HP4⟩:=hcut;clear z0 z3 z4 z5 z6 z8 z9 s5' f5 o11 HPl;have h2:=H1.out.below HP4.out.1;obtain⟨z0,z3,z4,z5,z6,z8,z9⟩:RC V2 R N:=h2.aft.cells (HSet.out _).2;obtain⟨no2,nc2,⟨s5,f5⟩,_⟩:=h2.aft.nodec (HSet.out _).1;clear h2;go_upto_region 25 with fail
      obtain⟨V3,hV3⟩:∃V3,V3=V2.setCell ⟨R.n,t,none⟩ (.slice vo LP vc):=⟨_,rfl⟩;have H3:Hid (RSt V R g wb.heap.size OB (.slice so shows.length sc) (.slice dO sends.length dc) shows sends {H with ts:=H.ts.set t {x.popBox with cells:=[p0,p1,p2,p3,p4,p5,p6,p7],nodes:=Tr.T.planO x.nodes shows}} held V3):=by unfold Hid;rw[hV3];exact H1.out.step Hil.out fun nv bv lv rr hx=>rr.lay_nodes hx HP4.out.1 HP4.out.2
      rw[←hV3];clear hV3 z0 z3 z4 z5 z6 z8 z9 s5 f5 H1 HP4;have hew:Blk V3 w.heap.size #[.int .u8 ev.what,.int .u8 ev.by_,.int .u16 ev.arg,.int .u8 ev.src] 78:=RAft.keep_new HH.out H3.out.aft HV.out.2 (Nat.le_refl _);have e0:V3.cell? ⟨w.heap.size,0,none⟩=some (.int .u8 ev.what):=by rw[hew.cell 0];rfl
      have e2:V3.cell? ⟨w.heap.size,2,none⟩=some (.int .u16 ev.arg):=by rw[hew.cell 2];rfl
      obtain⟨⟨hw0,hw1⟩,_,⟨ha0,ha1⟩,_⟩:=HEo.out;have hwe0:IntKind.i64.wrap ev.what=ev.what:=by rw[IntKind.wrap_i64];omega
      have hwe2:IntKind.i64.wrap ev.arg=ev.arg:=by rw[IntKind.wrap_i64];omega
      obtain⟨y,hy⟩:∃y,y=Tn.note {x.popBox with cells:=[p0,p1,p2,p3,p4,p5,p6,p7],nodes:=Tr.T.planO x.nodes shows} n 0 ev.what ev.arg:=⟨_,rfl⟩;have HFin:Hid (x.popBox.finish n ev [p0,p1,p2,p3,p4,p5,p6,p7] shows sends=y.sift n sends):=by unfold Hid Tn.finish;rw[hy];rfl
      have HYp:Hid (y.pub=x.pub):=by unfold Hid;rw[hy];rfl
      have HYl:Hid (y.log.length≤90001):=by unfold Hid;rw[hy];have:=HXo.out.1.llen;simp[Tn.note,Tn.popBox];omega
      have HTl:Hid (Calls Tryz.prog 60 #[.pointer (some ⟨R.rb,0,none⟩),.int .i64 t,.int .i64 0,.int .i64 ev.what,.int .i64 ev.arg] V3 fun e w4=>e= .returned (.tuple #[])∧Hid (RSt V R g wb.heap.size OB (.slice so shows.length sc) (.slice dO sends.length dc) shows sends {H with ts:=H.ts.set t y} held w4)):=by obtain⟨nv,bv,lv,a1,a2⟩:=H3.out.call;refine(tell_any a1 (HSet.out _).1 0 ev.what ev.arg (by omega) (by omega) hw0 (by omega) ha0 ha1 (Nat.le_trans HXo.out.1.llen (by decide)) (by rw[(HSet.out _).2];exact hl)).mono ?_;rintro e w4 ⟨rfl,ha⟩;have zz:=(a2 _ _ _ ha).1;rw[List.set_set,HN.out.2.1,←hy,←HN.out.2.1] at zz;exact⟨rfl,zz⟩
      clear hew hy;go_wp2_with fail;refine HTl.out.mono ?_;rintro e w4 ⟨rfl,H4⟩;clear HTl e0 e2 H3;obtain⟨NS,hNS⟩:∃NS,NS=sends.length:=⟨_,rfl⟩;have HNS:Hid (sends.length=NS):=hNS.symm;have hns4:NS≤4:=by rw[hNS];exact HOk.out.sends
      have HTp:Hid (∀y∈sends,(0≤y.1∧y.1≤3)∧0≤y.2∧y.2≤65535):=HOk.out.topics;have o12:w4.cell? ⟨g,12,none⟩=some (.slice dO NS dc):=by have qq:=H4.out.out;rw[HOB.out] at qq;rw[qq.cell 12,hNS];rfl
      clear hNS;go_wp2_with fail;go_loopw [17,18] (fun ov i wr=>∃(k m gc:Nat) (go:Option Addr),k≤NS∧m≤k∧i= .int .i64 k∧ov= .slice go m gc∧Hid (((sends.take k).filter (goes x.pub)).length=m)∧Hid (RSt V R g wb.heap.size OB (.slice so shows.length sc) (.slice dO sends.length dc) shows sends {H with ts:=H.ts.set t (y.sift n (sends.take k))} held wr)∧Hid (wr.ownsRow V.heap.size 118 3 (.slice go m gc) m (mlCells (lettersOf t ((sends.take k).filter (goes x.pub))))))
       (fun _ i _=>NS-(intOf i).toNat)
      case atStart=>exact⟨0,0,0,none,Nat.zero_le _,Nat.le_refl _,rfl,rfl,rfl,H4.out,World.ownsRow_nil _ _ _ _⟩
      case round=>
       obtain⟨k,m,gc,go,hk,hmk,rfl,rfl,HLn,HSk,HGk⟩:=hrel;clear H4 o12;have o12:wr.cell? ⟨g,12,none⟩=some (.slice dO NS dc):=by have qq:=HSk.out.out;rw[HOB.out] at qq;rw[qq.cell 12,←HNS.out];rfl
       by_cases hlt:k<NS
       ·obtain⟨sd,hsd⟩:∃z,sends[k]? =some z:=⟨sends[k]'(by have:=HNS.out;omega),List.getElem?_eq_getElem (by have:=HNS.out;omega)⟩;obtain⟨⟨hr2,hr3⟩,hr4,hr5⟩:=HTp.out sd (List.mem_of_getElem? hsd);obtain⟨s0,s1⟩:=sendCells_at sends k _ hsd;obtain⟨gd,rfl,d0,d1⟩:=own_pair HSk.out.sends s0 s1;have HSt2:=show Hid _ from sift_step y n hsd;have HFt:=show Hid _ from filter_step (p:=goes x.pub) hsd;obtain⟨tp,vl⟩:=sd;simp only at d0 d1 hr2 hr3 hr4 hr5;have hki:(k:Int)<(NS:Int):=by omega
        have hk0:(0:Int)≤(k:Int):=by omega
        have hwt:IntKind.i64.wrap tp=tp:=by rw[IntKind.wrap_i64];omega
        have hwv:IntKind.i64.wrap vl=vl:=by rw[IntKind.wrap_i64];omega
        obtain⟨z0,z3,z4,z5,z6,z8,z9⟩:RC wr R N:=HSk.out.aft.cells (HSet.out _).2;have m3:wr.cell? ⟨R.m,t*7+3,none⟩=some (.int .u8 x.pub):=by have qq:=HSk.out.aft.mfc (HSet.out _).1 3 (by decide);rw[qq];show some (Value.int .u8 (y.sift n (sends.take k)).pub)=_;rw[sift_pub,HYp.out]
        have hpb:=HXo.out.1.pub;have HBit:Hid (Calls Tryz.prog 48 #[.int .u8 x.pub,.int .i64 tp] wr fun e w'=>e= .returned (.bool (goes x.pub (tp,vl)))∧wr=w'):=rhas_any x.pub tp wr hpb.1 hpb.2 hr2 (by omega);have HLg:Hid ((y.sift n (sends.take k)).log.length≤100000):=by
         have qq:=sift_log y n (sends.take k);have:=HYl.out;have:(sends.take k).length≤k:=by simp;omega
         unfold Hid;omega
        clear hsd s0 s1 hpb;go_wp2_with fail;refine HBit.out.mono ?_;rintro e w' ⟨rfl,rfl⟩;clear HBit d0 d1 z0 z3 z4 z5 z6 z8 z9 m3;obtain⟨gg,hgg⟩:∃gg,gg=goes x.pub (tp,vl):=⟨_,rfl⟩;rw[←hgg];have HGg:Hid (goes x.pub (tp,vl)=gg):=hgg.symm;clear hgg;cases gg with
        |true=>
         have hsz:V.heap.size≤wr.heap.size:=HSk.out.sz;have HNw:Hid (∀jj u,[Value.int .i64 (t:Int),.int .i64 tp,.int .i64 vl][jj]? =some u→(wr.alloc (.cells #[.int .i64 (t:Int),.int .i64 tp,.int .i64 vl] 118)).cell? ((⟨wr.heap.size,0,none⟩:Addr).add jj)=some u):=Tr.new_three wr _ _ _ _;go_wp2_with (at_builtin;refine wpList_append_own_at _ rfl (.tmp 257) (.tmp 262) 114 rfl V.heap.size 118 j0 (.agg #[.int .i64 0,.int .i64 0,.int .i64 0]) 3 24 Tryz.underlying114 hj hy0 hy1 hy2 rfl (by decide) _ m _ rfl (HGk.out.alloc _) ⟨wr.heap.size,0,none⟩ 1 1 [.int .i64 (t:Int),.int .i64 tp,.int .i64 vl] rfl rfl HNw.out (by intro u hu;simp at hu;rcases hu with rfl|rfl|rfl<;>rfl) (by unfold maxLen;omega) (by omega) (by simp;omega) ?_);intro g1 w1 ho1 hg1 _ _;obtain⟨go1,gc1,rfl⟩:=own_is ho1;have HGn:Hid (w1.ownsRow V.heap.size 118 3 (.slice go1 (m+1) gc1) (m+1) (mlCells (lettersOf t ((sends.take (k+1)).filter (goes x.pub))))):=by unfold Hid;rw[HFt.out,HGg.out,if_pos rfl];unfold lettersOf;rw[List.map_append];show w1.ownsRow _ _ _ _ _ (mlCells (_++[((t:Int),tp,vl)]));rw[mlCells_snoc];exact ho1
         have HLn2:Hid (((sends.take (k+1)).filter (goes x.pub)).length=m+1):=by unfold Hid;rw[HFt.out,HGg.out,if_pos rfl,List.length_append,HLn.out];rfl
         have HSn:Hid (RSt V R g wb.heap.size OB (.slice so shows.length sc) (.slice (some ⟨gd,0,none⟩) sends.length dc) shows sends {H with ts:=H.ts.set t (y.sift n (sends.take (k+1)))} held w1):=by unfold Hid;rw[HSt2.out,HYp.out,HGg.out,if_pos rfl];exact(HSk.out.below ((Below.refl _ _).alloc (Nat.le_refl _) _)).grown (HGk.out.alloc _) hg1
         clear ho1 hg1 HNw HSk HGk;go_wp2;go_roundw
         case rel=>exact⟨k+1,m+1,gc1,go1,by omega,by omega,by go_num,rfl,HLn2,HSn,HGn⟩
         case measure=>simp[intOf];omega
        |false=>
         have HTl:Hid (Calls Tryz.prog 60 #[.pointer (some ⟨R.rb,0,none⟩),.int .i64 t,.int .i64 1,.int .i64 tp,.int .i64 vl] wr fun e w1=>e= .returned (.tuple #[])∧Hid (RSt V R g wb.heap.size OB (.slice so shows.length sc) (.slice (some ⟨gd,0,none⟩) sends.length dc) shows sends {H with ts:=H.ts.set t (y.sift n (sends.take (k+1)))} held w1)∧Hid (w1.ownsRow V.heap.size 118 3 (.slice go m gc) m (mlCells (lettersOf t ((sends.take (k+1)).filter (goes x.pub)))))):=by
          obtain⟨nv,bv,lv,a1,a2⟩:=HSk.out.call;refine(tell_any a1 (HSet.out _).1 1 tp vl (by omega) (by omega) hr2 (by omega) hr4 hr5 HLg.out (by rw[(HSet.out _).2];exact hl)).mono ?_;rintro e w1 ⟨rfl,ha⟩;obtain⟨zz,zm⟩:=a2 _ _ _ ha;rw[List.set_set,HN.out.2.1] at zz;refine⟨rfl,?_,?_⟩
          ·unfold Hid;rw[HSt2.out,HYp.out,HGg.out,if_neg (by decide),HN.out.2.1];exact zz
          ·unfold Hid;rw[HFt.out,HGg.out,if_neg (by decide),List.append_nil];exact zm _ _ _ HGk.out
         have HLn2:Hid (((sends.take (k+1)).filter (goes x.pub)).length=m):=by unfold Hid;rw[HFt.out,HGg.out,if_neg (by decide),List.append_nil,HLn.out]
         go_wp2_with fail;refine HTl.out.mono ?_;rintro e w1 ⟨rfl,HSn,HGn⟩;clear HTl HSk HGk;go_wp2;go_roundw
         case rel=>exact⟨k+1,m,gc,go,by omega,by omega,by go_num,rfl,HLn2,HSn,HGn⟩
         case measure=>simp[intOf];omega
       ·have hkn:k=NS:=by omega
        subst hkn;have hki:¬(k:Int)<(k:Int):=by omega
        have HAl:Hid (sends.take k=sends):=List.take_of_length_le (by have:=HNS.out;omega);go_wp2;go_ret;refine⟨_,rfl,?_,?_⟩
        ·have zz:=HSk.out.aft;rw[HAl.out,HN.out.2.1,HN.out.2.2] at zz;rw[HHf.out,HHl2.out,HFin.out];exact RAft.of_below HV.out.1 zz
        ·have zz:=HGk.out;have z2:=HLn.out;rw[HAl.out] at zz z2;rw[HSf.out,z2];exact own_weak zz hVw
   ·have hf0:0<OF:=by have:=HOk.out.fault.1;simp only at this;omega
    have HHf:Hid (x.handle n r ds=x.popBox.hold n OF OS):=by unfold Hid;rw[HHd.out,if_neg hf]
    have HSf:Hid (x.sent n r ds=[]):=by unfold Hid;rw[HSd.out,if_neg hf]
    have HHl2:Hid (x.heldIf n r ds t q held=held.set t (q+1)):=by unfold Hid;rw[HHl.out,if_neg hf]
    obtain⟨hq0,hqd⟩:=HH.out.held t x q HX.out HQ.out;obtain⟨K,hK⟩:∃K:Nat,(K:Int)=if q<4 then q else 4:=⟨(if q<4 then q else 4).toNat,by split<;>omega⟩
    have HKd:Hid (x.dbl=(K:Int)):=by unfold Hid;rw[hqd,hK]
    have HDb:Hid ((if q+1<4 then q+1 else 4)=if x.dbl<4 then x.dbl+1 else x.dbl):=by unfold Hid;rw[hqd];(repeat' split)<;>omega
    have hK4:K≤4:=by split at hK<;>omega
    have hKq:(K:Int)≤q:=by split at hK<;>omega
    have hKe:(K:Int)=q∨K=4:=by split at hK<;>omega
    obtain⟨z0,z3,z4,z5,z6,z8,z9⟩:RC wc R N:=HSt.out.aft.cells (HSet.out _).2;obtain⟨s9,f9⟩:=HSt.out.aft.heldc HQ.out;obtain⟨s3,f3⟩:=HSt.out.aft.phase (HSet.out _).1;clear hf hqd hK HHd HSd HHl;go_wp2_with fail;go_loopw [11,12] (fun tm i wr=>∃k:Nat,k≤K∧i= .int .i64 k∧tm= .int .i64 (2^k)∧wr=wc) (fun _ i _=>K-(intOf i).toNat)
    case atStart=>exact⟨0,Nat.zero_le _,rfl,rfl,rfl⟩
    case round=>
     obtain⟨k,hk,rfl,rfl,hwr⟩:=hrel;subst hwr;obtain⟨P,hP⟩:∃P:Int,P=2^k:=⟨_,rfl⟩;obtain⟨hP0,hP1⟩:=pow_small k (by omega);rw[←hP] at hP0 hP1 ⊢;have hk0:(0:Int)≤(k:Int):=by omega
     by_cases hlt:k<K
     ·have hkq:(k:Int)<q:=by omega
      have hk4:(k:Int)<4:=by omega
      have HP2:Hid (2*P=2^(k+1)):=by unfold Hid;rw[hP];exact pow_times k
      clear hP;go_wp2;go_roundw
      case rel=>exact⟨k+1,by omega,by go_num,by rw[←HP2.out],by first|rfl|trivial⟩
      case measure=>simp[intOf];omega
     ·have hkK:k=K:=by omega
      have HPw:Hid (2^x.dbl.toNat=P):=by unfold Hid;rw[HKd.out,hP,hkK];rfl
      have hcs:((k:Int)<q∧¬(k:Int)<4)∨¬(k:Int)<q:=by omega
      obtain⟨bt,hbt⟩:∃bt,bt=x.back*P:=⟨_,rfl⟩;have hxb:=HXo.out.1.back;have hbt0:0≤bt:=by rw[hbt];exact Int.mul_nonneg hxb.1 hP0
      have hbt1:bt≤100000*16:=by rw[hbt];exact Int.mul_le_mul hxb.2 hP1 hP0 (by decide)
      have hwm:IntKind.i64.wrap (x.back*P)=bt:=by rw[←hbt,IntKind.wrap_i64];omega
      have hwa:IntKind.i64.wrap (n+bt)=n+bt:=by rw[IntKind.wrap_i64];omega
      have hwq:IntKind.i64.wrap (q+1)=q+1:=by rw[IntKind.wrap_i64];omega
      have HBt:Hid (bt=x.back*P):=hbt;clear hP hkK hbt hlt hxb;rcases hcs with ⟨hkq,hk4⟩|hkq;all_goals
       go_upto_region 15 with fail
       obtain⟨V1,hV1⟩:∃V1,V1=wr.setCell ⟨R.p,t,none⟩ (.int .i64 2):=⟨_,rfl⟩;have H1:Hid (RSt V R g wb.heap.size OB (.slice so shows.length sc) (.slice dO sends.length dc) shows sends {H with ts:=H.ts.set t {x.popBox with phase:=2}} held V1):=by unfold Hid;rw[hV1];exact HSt.out.step Hil.out fun nv bv lv rr hx=>rr.lay_phase hx 2
       rw[←hV1];clear hV1 s3 f3 s9 f9 z0 z3 z4 z5 z6 z8 z9 g0 HSt;obtain⟨z0,z3,z4,z5,z6,z8,z9⟩:RC V1 R N:=H1.out.aft.cells (HSet.out _).2;obtain⟨s8,f8⟩:=H1.out.aft.until_ (HSet.out _).1;have z2:V1.cell? ⟨R.rb,2,none⟩=some (.int .i64 n):=by rw[←HN.out.2.1];exact H1.out.aft.frames
       have m6:V1.cell? ⟨R.m,t*7+6,none⟩=some (.int .i64 x.back):=H1.out.aft.mfc (HSet.out _).1 6 (by decide);go_cut [] from 124 to 144 (fun wx=>Hid (RSt V R g wb.heap.size OB (.slice so shows.length sc) (.slice dO sends.length dc) shows sends {H with ts:=H.ts.set t {x.popBox with phase:=2,until_:=n+bt}} held wx))
       case first=>
        go_region
        all_goals (try go_wp2_with fail)
        all_goals go_meet
        all_goals exact(H1.out.below ((Below.refl _ _).drew)).step Hil.out fun nv bv lv rr hx=>rr.lay_until hx (n+bt)
       case rest=>
        rename World=>V2
        have H2:Hid (RSt V R g wb.heap.size OB (.slice so shows.length sc) (.slice dO sends.length dc) shows sends {H with ts:=H.ts.set t {x.popBox with phase:=2,until_:=n+bt}} held V2):=hcut;clear hcut s8 f8 z0 z3 z4 z5 z6 z8 z9 z2 m6 H1;obtain⟨z0,z3,z4,z5,z6,z8,z9⟩:RC V2 R N:=H2.out.aft.cells (HSet.out _).2;obtain⟨s9,f9⟩:=H2.out.aft.heldc HQ.out;go_upto_region 17 with fail
        obtain⟨V3,hV3⟩:∃V3,V3=V2.setCell ⟨R.h,t,none⟩ (.int .i64 (q+1)):=⟨_,rfl⟩;have H3:Hid (RSt V R g wb.heap.size OB (.slice so shows.length sc) (.slice dO sends.length dc) shows sends {H with ts:=H.ts.set t {x.popBox with phase:=2,until_:=n+bt,dbl:=if q+1<4 then q+1 else 4}} (held.set t (q+1)) V3):=by unfold Hid;rw[hV3];exact H2.out.step Hil.out fun nv bv lv rr hx=>rr.lay_dbl hx (q+1) _ (by omega) rfl
        rw[←hV3];clear hV3 s9 f9 z0 z3 z4 z5 z6 z8 z9 H2;obtain⟨z0,z3,z4,z5,z6,z8,z9⟩:RC V3 R N:=H3.out.aft.cells (HSet.out _).2;obtain⟨no,nc,⟨s5,f5⟩,hna⟩:=H3.out.aft.nodec (HSet.out _).1;obtain⟨LN,hLN⟩:∃LN,LN=x.nodes.length:=⟨_,rfl⟩;have s5':V3.cell? ⟨R.n,t,none⟩=some (.slice no LN nc):=by rw[hLN];exact s5
        have hko:=HXo.out.1.nodes;have hkl:=HXo.out.1.nlen;have HPl:Hid (Calls Tryz.prog 59 #[.slice no LN nc,.slice (some ⟨V3.heap.size,0,none⟩) 1 1] (V3.alloc (.cells #[.int .u16 65535,.string ⟨#[33]⟩] 132)) fun e w4=>∃vo vc pe LP,e= .returned (.tuple #[.slice vo LP vc,.int .i64 pe])∧(∃cs,w4.cell? ⟨R.rb,5,none⟩=some (.slice (some ⟨R.n,0,none⟩) N R.nc)∧w4.cell? ⟨R.n,t,none⟩=some cs∧w4.frozen? ⟨R.n,t,none⟩=false)∧Hid (RSt V R g wb.heap.size OB (.slice so shows.length sc) (.slice dO sends.length dc) shows sends {H with ts:=H.ts.set t {x.popBox with phase:=2,until_:=n+bt,dbl:=if q+1<4 then q+1 else 4,nodes:=Tr.T.planO x.nodes heldShow}} (held.set t (q+1)) (w4.setCell ⟨R.n,t,none⟩ (.slice vo LP vc)))):=by have hbl:Below V3.heap.size V3 (V3.alloc (.cells #[.int .u16 65535,.string ⟨#[33]⟩] 132)):=(Below.refl _ _).alloc (Nat.le_refl _) _;have qq:=Tr.refPlan_any no (some ⟨V3.heap.size,0,none⟩) nc 1 x.nodes heldShow (V3.alloc (.cells #[.int .u16 65535,.string ⟨#[33]⟩] 132)) (by unfold maxLen;omega) (by unfold maxLen;decide) (hna.below hbl (Nat.le_refl _) hbl.size) hko HSm.out (heldSh_at V3) heldShow_sh (by intro y hy;simp[heldShow] at hy;subst hy;decide);rw[←hLN] at qq;refine qq.mono ?_;rintro e w4 ⟨v,rfl,ho,hb⟩;obtain⟨vo,vc,rfl⟩:=own_is ho;have hb2:Below V3.heap.size V3 w4:=hbl.trans (hb.mono hbl.size);have h4:=H3.out.below hb2;obtain⟨y0,y3,y4,y5,y6,y8,y9⟩:RC w4 R N:=h4.aft.cells (HSet.out _).2;obtain⟨no4,nc4,⟨t5,u5⟩,_⟩:=h4.aft.nodec (HSet.out _).1;exact⟨vo,vc,_,_,rfl,⟨_,y5,t5,u5⟩,H3.out.step Hil.out fun nv bv lv rr hx=>rr.lay_nodes hx hb2 (own_weak ho hbl.size)⟩
        clear s5 hna hLN hko hkl;go_wp2_with fail;refine HPl.out.mono ?_;rintro e w4 ⟨vo,vc,pe,LP,rfl,⟨cs,y5,t5,u5⟩,H4⟩;clear HPl H3 z0 z3 z4 z5 z6 z8 z9 s5' f5;go_upto_region 19 with fail
        obtain⟨V5,hV5⟩:∃V5,V5=w4.setCell ⟨R.n,t,none⟩ (.slice vo LP vc):=⟨_,rfl⟩;rw[←hV5] at H4 ⊢;clear hV5 y5 t5 u5;obtain⟨z0,z3,z4,z5,z6,z8,z9⟩:RC V5 R N:=H4.out.aft.cells (HSet.out _).2;obtain⟨bx,s6,f6⟩:=H4.out.aft.boxc (HSet.out _).1;go_upto_region 20 with fail
        obtain⟨V6,hV6⟩:∃V6,V6=V5.setCell ⟨R.b,t,none⟩ (.slice none 0 0):=⟨_,rfl⟩;have H6:Hid (RSt V R g wb.heap.size OB (.slice so shows.length sc) (.slice dO sends.length dc) shows sends {H with ts:=H.ts.set t {x.popBox with phase:=2,until_:=n+bt,dbl:=if q+1<4 then q+1 else 4,nodes:=Tr.T.planO x.nodes heldShow,box:=[]}} (held.set t (q+1)) V6):=by unfold Hid;rw[hV6];exact H4.out.step Hil.out fun nv bv lv rr hx=>rr.lay_box hx (Below.refl _ _) (World.ownsRow_nil _ _ _ _)
        rw[←hV6];clear hV6 z0 z3 z4 z5 z6 z8 z9 s6 f6 H4;have hof:=HOk.out.fault;have hos:=HOk.out.steps;simp only at hof hos;have go0:V6.cell? ⟨g,0,none⟩=some (.int .u8 OF):=by have qq:=H6.out.out;rw[HOB.out] at qq;rw[qq.cell 0];rfl
        have go1:V6.cell? ⟨g,1,none⟩=some (.int .i64 (OS:Int)):=by have qq:=H6.out.out;rw[HOB.out] at qq;rw[qq.cell 1];rfl
        have hwo:IntKind.i64.wrap OF=OF:=by rw[IntKind.wrap_i64];omega
        have HTl:Hid (Calls Tryz.prog 60 #[.pointer (some ⟨R.rb,0,none⟩),.int .i64 t,.int .i64 2,.int .i64 OF,.int .i64 (OS:Int)] V6 fun e w7=>e= .returned (.tuple #[])∧Hid (RAft V R {H with ts:=H.ts.set t (x.popBox.hold n OF OS)} (held.set t (q+1)) w7)):=by
         obtain⟨nv,bv,lv,a1,a2,a3⟩:=H6.out.aft;refine(tell_any a1 (HSet.out _).1 2 OF OS (by omega) (by omega) (by omega) (by omega) (by omega) (by omega) (Nat.le_trans HXo.out.1.llen (by decide)) (by rw[(HSet.out _).2];exact hl)).mono ?_;rintro e w7 ⟨rfl,ha⟩;refine⟨rfl,?_⟩;have ey:x.popBox.hold n OF OS=Tn.note {x.popBox with phase:=2,until_:=n+bt,dbl:=if q+1<4 then q+1 else 4,nodes:=Tr.T.planO x.nodes heldShow,box:=[]} n 2 OF OS:=by unfold Tn.hold;rw[show(OS:Int)%65536=OS by omega,show n+x.popBox.back*2^x.popBox.dbl.toNat=n+bt by rw[HBt.out,←HPw.out];rfl,HDb.out];rfl
         have e1:({H with ts:=H.ts.set t (x.popBox.hold n OF OS)}:Hs)={H with ts:=(H.ts.set t {x.popBox with phase:=2,until_:=n+bt,dbl:=if q+1<4 then q+1 else 4,nodes:=Tr.T.planO x.nodes heldShow,box:=[]}).set t (Tn.note {x.popBox with phase:=2,until_:=n+bt,dbl:=if q+1<4 then q+1 else 4,nodes:=Tr.T.planO x.nodes heldShow,box:=[]} H.frames 2 OF OS)}:=by rw[List.set_set,ey,HN.out.2.1]
         unfold Hid;rw[e1];exact RAft.trans (H1:=H) (held1:=held) a2 a3 ha
        go_wp2_with fail;refine HTl.out.mono ?_;rintro e w7 ⟨rfl,H7⟩;clear HTl go0 go1 H6;go_wp2;go_ret;refine⟨_,rfl,?_,?_⟩
        ·have zz:=H7.out;rw[HN.out.2.1,HN.out.2.2] at zz;rw[HHf.out,HHl2.out];exact RAft.of_below HV.out.1 zz
        ·rw[HSf.out];exact World.ownsRow_nil _ _ _ _
end
end Go.Proofs.YtidaflmmldefcaaGreat
