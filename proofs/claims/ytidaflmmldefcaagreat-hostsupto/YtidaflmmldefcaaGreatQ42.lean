/- Parts of the proof of Hosts: WlS, WlH, WlO. -/
import Derived.Test.YtidaflmmldefcaaGreatQ25
import Derived.Test.YtidaflmmldefcaaGreatQ39
import Derived.Test.YtidaflmmldefcaaGreatQ40
import Derived.Test.YtidaflmmldefcaaGreatQ41
import Derived.Deep.RegionHeld3
import Derived.Test.YtidaflmmldefcaaGreatRows
import Derived.ProofKit
import Derived.OpenShut
import Derived.ShutString
import Derived.ChangeOld
import Derived.Deep.SlicePairs
import Derived.Deep.Slices
set_option maxHeartbeats 16000000
namespace Go.Proofs.YtidaflmmldefcaaGreat
open Go.RowKit
set_option linter.unusedVariables false
def pk (c:Int) (n:Nat):Nat:=if c<0 then (-(c+1)).toNat%n else c.toNat%n
theorem pk_lt (c:Int) {n:Nat} (hn:0<n):pk c n<n:=by unfold pk;split<;>exact Nat.mod_lt _ hn
theorem pick_one (c:Int) (n:Nat) (w:World) (hn:0<n) (hn1:n≤2000000) (h0: -9223372036854775808≤c) (h1:c≤9223372036854775807): Calls Tryz.prog 12 #[.int .i64 c,.int .i64 n] w fun r w'=>r= .returned (.int .i64 (pk c n:Int))∧w=w':=by
 have hnb:((n:Int)==0)=false:=by rw[beq_eq_false_iff_ne];omega
 have hn0:¬(n:Int)=0:=by omega
 by_cases hc:c<0
 ·have e1:IntKind.i64.wrap (c+1)=c+1:=by rw[IntKind.wrap_i64];omega
  have e2:IntKind.i64.wrap (-(c+1))= -(c+1):=by rw[IntKind.wrap_i64];omega
  have e3:(-(c+1)).tmod (n:Int)=(pk c n:Int):=by unfold pk;rw[if_pos hc,Int.tmod_eq_emod_of_nonneg (by omega),Int.natCast_emod,Int.toNat_of_nonneg (by omega)]
  have hlt:=pk_lt c hn;have e4:IntKind.i64.wrap (pk c n:Int)=(pk c n:Int):=by rw[IntKind.wrap_i64];omega
  generalize pk c n=q at e3 e4 ⊢;go_enter Tryz.func12,Tryz.ntmps12;go_wp2;go_ret;exact⟨rfl,rfl⟩
 ·have e3:c.tmod (n:Int)=(pk c n:Int):=by unfold pk;rw[if_neg hc,Int.tmod_eq_emod_of_nonneg (by omega),Int.natCast_emod,Int.toNat_of_nonneg (by omega)]
  have hlt:=pk_lt c hn;have e4:IntKind.i64.wrap (pk c n:Int)=(pk c n:Int):=by rw[IntKind.wrap_i64];omega
  generalize pk c n=q at e3 e4 ⊢;go_enter Tryz.func12,Tryz.ntmps12;go_wp2;go_ret;exact⟨rfl,rfl⟩
def Turn (w:World) (D:Dk) (w2:World):Prop:=∃D',DkAt w2 D'∧(D'.hb=D.hb∧D'.R.rb=D.R.rb)∧Kept D.all w w2∧∀k,D'.all k→D.all k∨w.heap.size≤k
theorem nav_both {w:World} {D:Dk} (h:DkAt w D) (r:Int) (h0:0≤r) (h1:r≤255):∃ne:Int,Calls Tryz.prog 13 #[.pointer (some ⟨D.hb,0,none⟩),.int .u8 r] w fun x w1=>x= .returned (.int .i64 ne)∧Kept (ownOf D.hb D.tb D.vs) w w1∧Hid (Calls Tryz.prog 14 #[.pointer (some ⟨D.R.rb,0,none⟩),.int .u8 r] w1 fun x w2=>x= .returned (.int .i64 ne)∧Hid (Turn w D w2)):=by
 refine⟨if 4≤r then 6 else 0,?_⟩;have tbne:D.hb≠D.tb:=by
  obtain⟨x,hx⟩:∃x,D.H.ts[0]? =some x:=by
   cases hts:D.H.ts with
   |nil=>exact absurd hts h.ne
   |cons x r=>exact⟨x,rfl⟩
  obtain⟨v,_,ht⟩:=h.host.at hx;obtain⟨cur,q,_⟩:=ht.slot;exact h.host.host.ne q (by decide)
 have bx:∀v∈D.vs,v.2.1.ownBlock≠some D.hb∧v.2.2.ownBlock≠some D.hb:=by
  intro v hv;obtain⟨i,hi⟩:=List.mem_iff_getElem?.1 hv;have hl:=(List.getElem?_eq_some_iff.1 hi).1;have ht:=h.host.ten i _ v (List.getElem?_eq_getElem (by rw[←h.host.len];exact hl)) hi;constructor
  ·intro e;obtain⟨cur,q⟩:=ht.box.blk e;exact h.host.host.ne q (by decide) rfl
  ·intro e;obtain⟨cur,q⟩:=own_blk ht.log e;exact h.host.host.ne q (by decide) rfl
 refine(navigate_any h.host r tbne bx).mono ?_;rintro x w1 ⟨rfl,a1,a2⟩;have hh:HAft w D.hb D.tb D.cap D.vs (D.H.navigate r) w1:=⟨D.vs,a1,a2,fun k q=>Or.inl q⟩;refine⟨rfl,a2,?_⟩;refine(rnavigate_any (h.first hh) r h0 h1).mono ?_;rintro x w2 ⟨rfl,hr⟩;refine⟨rfl,h.both hh hr (h.inv.navigate r h0) ?_⟩;intro k hk;have e:(D.H.navigate r).frames=D.H.frames:=by unfold Hs.navigate;split<;>rfl
 rw[e];exact h.held k hk
theorem click_both {w:World} {D:Dk} (h:DkAt w D) (id:Int) (h0: -9223372036854775808≤id) (h1:id≤9223372036854775807):∃ne:Int,Calls Tryz.prog 15 #[.pointer (some ⟨D.hb,0,none⟩),.int .i64 id] w fun x w1=>x= .returned (.int .i64 ne)∧Kept (ownOf D.hb D.tb D.vs) w w1∧Hid (Calls Tryz.prog 16 #[.pointer (some ⟨D.R.rb,0,none⟩),.int .i64 id] w1 fun x w2=>x= .returned (.int .i64 ne)∧Hid (Turn w D w2)):=by
 refine⟨D.H.clickE id,?_⟩;have hok:=h.inv.clickOk h.len.2;refine(hclick_any h.host id h0 h1 (by have:=h.n4;omega) hok).mono ?_;rintro x w1 ⟨rfl,hh⟩;have hh2:=hh;obtain⟨_,_,a2,_⟩:=hh2;refine⟨rfl,a2,?_⟩;refine(rclick_any (h.first hh) id h0 h1 h.n4 (fun x hx=>?_)).mono ?_
 ·obtain⟨q1,q2,q3⟩:=hok x hx;obtain⟨i,hi⟩:=h.inv.ten.mem hx;exact⟨q1,q2,q3,fun e he=>(hi.box e he).1⟩
 rintro x w2 ⟨rfl,hr⟩;refine⟨rfl,h.both hh hr (h.inv.click id) ?_⟩;intro k hk;have e:(D.H.click id).frames=D.H.frames:=by unfold Hs.click;(repeat' (first|rfl|split))
 rw[e];exact h.held k hk
structure SOp where
 kind:Int
 on:Int
 ms:List Mf
 a:Int
 dl:List (List Int)
 mo:Option Addr
 mc:Nat
 dO:Option Addr
 dc:Nat
def SOp.arr (o:SOp):Array Value:=#[.int .i64 o.kind,.int .i64 o.on,.slice o.mo o.ms.length o.mc,.int .i64 o.a,.slice o.dO o.dl.length o.dc]
structure SOp.ok (w:World) (lim:Nat) (o:SOp):Prop where
 on: -9223372036854775808≤o.on∧o.on≤9223372036854775807
 a: -9223372036854775808≤o.a∧o.a≤9223372036854775807
 raw:∀m∈o.ms,m.raw
 mlen:o.ms.length≤1100000
 mat:o.ms≠[]→∃b off,o.mo=some ⟨b,off,none⟩∧MfRow w b off o.ms∧b<lim
 mnil:o.mo=none→o.ms.length=0∧o.mc=0
 dlen:o.dl.length≤1100000
 dat:DrwAt w lim o.dO o.dl
theorem SOp.ok.keep {w w':World} {lim:Nat} {o:SOp} (h:o.ok w lim) (hk:∀k,k<lim→w'.heap[k]? =w.heap[k]?):o.ok w' lim:=by
 refine⟨h.on,h.a,h.raw,h.mlen,fun hne=>?_,h.mnil,h.dlen,h.dat.keep hk⟩;obtain⟨b,off,e,hr,hl⟩:=h.mat hne;exact⟨b,off,e,fun i m hm j v hv=>by rw[←hr i m hm j v hv];exact World.cell?_of_block (hk b hl),hl⟩
set_option maxRecDepth 100000 in
theorem wstep_any {w0 w:World} {B:Nat} {Ds:List Dk} {e:Nat} (h:WS w0 w B Ds e) (o:SOp) (ho:o.ok w w0.heap.size) (he:e+8≤90000000) (hds:Ds.length≤1100000): Calls Tryz.prog 5 #[.pointer (some ⟨B,0,none⟩),.agg #[.int .i64 o.kind,.int .i64 o.on,.slice o.mo o.ms.length o.mc,.int .i64 o.a,.slice o.dO o.dl.length o.dc]] w fun r w'=>r= .returned (.bool true)∧∃Ds',WS w0 w' B Ds' (e+8)∧Ds.length≤Ds'.length∧Ds'.length≤Ds.length+1:=by
 have up:∀{w':World} {Ds':List Dk},WS w0 w' B Ds' e→WS w0 w' B Ds' (e+8):=by rintro w' Ds' ⟨dv,K1,K2,K3,l1,l2,l3,q,h1,h2,h3⟩;exact⟨dv,K1,K2,K3,l1,l2,l3,q,by omega,by omega,by omega⟩
 have HUp:Hid (∀(w':World) (Ds':List Dk),WS w0 w' B Ds' e→WS w0 w' B Ds' (e+8)):=fun w' Ds'=>up;obtain⟨W,hW⟩:∃W,W=w.alloc (.cells #[.int .i64 o.kind,.int .i64 o.on,.slice o.mo o.ms.length o.mc,.int .i64 o.a,.slice o.dO o.dl.length o.dc] 42):=⟨_,rfl⟩;have hbW:Below w.heap.size w W:=by rw[hW];exact(Below.refl _ _).alloc (Nat.le_refl _) _
 have hwl:w0.heap.size≤w.heap.size:=h.bl.size;have HWW:Hid (WS w0 W B Ds e):=h.below hbW;have HOk:Hid (o.ok W w0.heap.size):=ho.keep fun k hk=>hbW.block k (by omega);have HEW:Hid (Blk W w.heap.size #[.int .i64 o.kind,.int .i64 o.on,.slice o.mo o.ms.length o.mc,.int .i64 o.a,.slice o.dO o.dl.length o.dc] 42):=by unfold Hid;rw[hW];exact Blk.new w _ 42
 have hsW:w0.heap.size≤W.heap.size:=Nat.le_trans hwl hbW.size;obtain⟨mn,hmn⟩:∃n,n=o.ms.length:=⟨_,rfl⟩;obtain⟨dn,hdn⟩:∃n,n=o.dl.length:=⟨_,rfl⟩;have HMn:Hid (o.ms.length=mn∧o.dl.length=dn):=⟨hmn.symm,hdn.symm⟩;rw[←hmn,←hdn] at hW HEW ⊢;have k0:W.cell? ⟨w.heap.size,0,none⟩=some (.int .i64 o.kind):=by rw[HEW.out.cell 0];rfl
 have k1:W.cell? ⟨w.heap.size,1,none⟩=some (.int .i64 o.on):=by rw[HEW.out.cell 1];rfl
 have k2:W.cell? ⟨w.heap.size,2,none⟩=some (.slice o.mo mn o.mc):=by rw[HEW.out.cell 2];rfl
 clear h ho hbW hmn hdn up;generalize hkind:o.kind=kind at hW k0 ⊢;have HKd:Hid (o.kind=kind):=hkind;clear hkind;by_cases kd1:kind=1
 ·subst kd1;have HBg:Hid (Calls Tryz.prog 4 #[.pointer (some ⟨B,0,none⟩),.slice o.mo mn o.mc] W fun r w'=>r= .returned (.bool true)∧Hid (∃Ds',WS w0 w' B Ds' (e+8)∧Ds.length≤Ds'.length∧Ds'.length≤Ds.length+1)):=by
   have hmat:o.ms≠[]→∃b off,o.mo=some ⟨b,off,none⟩∧MfRow W b off o.ms∧b<W.heap.size:=fun hne=>by obtain⟨b,off,q1,q2,q3⟩:=HOk.out.mat hne;exact⟨b,off,q1,q2,by omega⟩
   have hnil:o.mo=none→mn=0∧o.mc=0:=fun q=>by have:=HOk.out.mnil q;rw[HMn.out.1] at this;exact this
   cases hmay:mayAll o.ms with
   |false=>refine(begin_bad HWW.out o.mo mn o.mc o.ms HMn.out.1 (by rw[←HMn.out.1];exact HOk.out.mlen) hds HOk.out.raw hmat hnil hmay).mono ?_;rintro r w' ⟨rfl,z⟩;exact⟨rfl,Ds,HUp.out _ _ z,Nat.le_refl _,by omega⟩
   |true=>refine(begin_good HWW.out o.mo mn o.mc o.ms HMn.out.1 (by rw[←HMn.out.1];exact HOk.out.mlen) hds HOk.out.raw hmat hnil hmay).mono ?_;rintro r w' ⟨rfl,D,z⟩;exact⟨rfl,_,HUp.out _ _ z,by simp,by simp⟩
  go_enter Tryz.func5,Tryz.ntmps5;go_upto_region 1 with fail
  rw[←hW];clear hW;go_wp2_with fail;refine HBg.out.mono ?_;rintro r w1 ⟨rfl,HZ⟩;clear HBg;go_wp2;go_ret;exact⟨rfl,HZ.out⟩
 ·have kd1b:(kind==1)=false:=by rw[beq_eq_false_iff_ne];exact kd1
  obtain⟨N,hN⟩:∃N,N=Ds.length:=⟨_,rfl⟩;have HN:Hid (Ds.length=N):=hN.symm;have HDv:Hid (∀u,Below W.heap.size W u→∃dO dc,u.cell? ⟨B,0,none⟩=some (.slice dO N dc)∧u.ownsRow w0.heap.size 47 2 (.slice dO N dc) N (dkCells Ds)):=by intro u hu;obtain⟨dv,K1,K2,K3,l1,l2,l3,q,_⟩:=HWW.out.below hu;obtain⟨dO,dc,hdv⟩:=own_is q.row;have z:=q.row;have z2:=q.books.blk.cell 0;rw[hdv] at z z2;rw[←HN.out];exact⟨dO,dc,z2,z⟩
  obtain⟨dO,dc,b0,hrow⟩:=HDv.out W (Below.refl _ _);have HRow:Hid (W.ownsRow w0.heap.size 47 2 (.slice dO N dc) N (dkCells Ds)):=hrow;rw[←hN] at hds;clear hrow hN;by_cases h0:N=0
  ·subst h0;have HZ:=hid_in (HUp.out _ _ HWW.out);go_enter Tryz.func5,Tryz.ntmps5;go_upto_region 1 with fail
   rw[←hW];clear hW;go_wp2;go_ret;exact⟨rfl,Ds,HZ.out,Nat.le_refl _,by omega⟩
  ·have h0b:((N:Int)==0)=false:=by rw[beq_eq_false_iff_ne];omega
   obtain⟨J,hJ⟩:∃J,J=pk o.on N:=⟨_,rfl⟩;have hJl:J<N:=by rw[hJ];exact pk_lt _ (by omega)
   obtain⟨D,hD⟩:∃D,Ds[J]? =some D:=⟨Ds[J]'(by have:=HN.out;omega),List.getElem?_eq_getElem (by have:=HN.out;omega)⟩;have HD:Hid (Ds[J]? =some D):=hD;obtain⟨p0,p1⟩:=dkCells_at Ds J D hD;obtain⟨gd,rfl,d0,d1⟩:=own_pair HRow.out p0 p1;have HPk:Hid (∀u,Calls Tryz.prog 12 #[.int .i64 o.on,.int .i64 N] u fun r w'=>r= .returned (.int .i64 (J:Int))∧u=w'):=fun u=>by rw[hJ];exact pick_one o.on N u (by omega) (by omega) HOk.out.on.1 HOk.out.on.2
   have hJi:(J:Int)<(N:Int):=by omega
   have hJ0:(0:Int)≤(J:Int):=by omega
   have HSS:Hid (∀u,Below W.heap.size W u→Below W.heap.size W u∧u.cell? ⟨B,0,none⟩=some (.slice (some ⟨gd,0,none⟩) N dc)∧u.cell? ⟨w.heap.size,1,none⟩=some (.int .i64 o.on)∧u.cell? ⟨gd,J*2,none⟩=some (.pointer (some ⟨D.hb,0,none⟩))∧u.cell? ⟨gd,J*2+1,none⟩=some (.pointer (some ⟨D.R.rb,0,none⟩))):=by
    intro u hu;have kk:∀b i v,W.cell? ⟨b,i,none⟩=some v→u.cell? ⟨b,i,none⟩=some v:=fun b i v hv=>by rw[←hv];exact hu.cell (p:=⟨b,i,none⟩) (World.block_lt_of_cell? _ _ hv)
    exact⟨hu,kk _ _ _ b0,kk _ _ _ k1,kk _ _ _ d0,kk _ _ _ d1⟩
   clear hD p0 p1 hJ;go_enter Tryz.func5,Tryz.ntmps5;go_upto_region 1 with fail
   rw[←hW];clear hW;go_upto_region 5 with fail
   go_cut [5] from 23 to 36 (fun v wx=>∃g,v= .pointer (some ⟨g,0,none⟩)∧Hid (Below W.heap.size W wx)∧Hid (Blk wx g #[.pointer (some ⟨D.hb,0,none⟩),.pointer (some ⟨D.R.rb,0,none⟩)] 47))
   case first=>
    go_region_held3 (fun u=>Below W.heap.size W u∧u.cell? ⟨B,0,none⟩=some (.slice (some ⟨gd,0,none⟩) N dc)∧u.cell? ⟨w.heap.size,1,none⟩=some (.int .i64 o.on)∧u.cell? ⟨gd,J*2,none⟩=some (.pointer (some ⟨D.hb,0,none⟩))∧u.cell? ⟨gd,J*2+1,none⟩=some (.pointer (some ⟨D.R.rb,0,none⟩))) ((refine HSS.out _ ?_;(repeat (with_reducible first|exact Below.refl _ _|refine Below.drew ?_|refine Below.alloc ?_ (by first|exact Nat.le_refl _|omega|(simp;done)|(simp;omega)) _|refine Below.setCell ?_ (by first|exact Nat.le_refl _|omega|(simp;done)|(simp;omega)) _))))
     ((go_at_call 12;refine(HPk.out _).mono ?_;rintro r w1 ⟨rfl,rfl⟩))
    all_goals (try go_wp2_with fail)
    all_goals go_meet
    all_goals exact⟨W.heap.size,rfl,((Below.refl _ _).alloc (Nat.le_refl _) _).drew,Blk.new W _ 47⟩
   case rest=>
    rename World=>V
    obtain⟨g,rfl,HBv,HGv⟩:=hcut;have HWV:Hid (WS w0 V B Ds e):=HWW.out.below HBv.out;have HDV:=hid_in (HWV.out.dk HD.out);have HEV:Hid (Blk V w.heap.size #[.int .i64 o.kind,.int .i64 o.on,.slice o.mo mn o.mc,.int .i64 o.a,.slice o.dO dn o.dc] 42):=HEW.out.below HBv.out HEW.out.lt;have HOV:Hid (o.ok V w0.heap.size):=HOk.out.keep fun k hk=>HBv.out.block k (by omega);clear k0 k1 k2 b0 d0 d1 HSS HPk HRow HDv;have k0:V.cell? ⟨w.heap.size,0,none⟩=some (.int .i64 kind):=by rw[HEV.out.cell 0,←HKd.out];rfl
    have k3:V.cell? ⟨w.heap.size,3,none⟩=some (.int .i64 o.a):=by rw[HEV.out.cell 3];rfl
    have k4:V.cell? ⟨w.heap.size,4,none⟩=some (.slice o.dO dn o.dc):=by rw[HEV.out.cell 4];rfl
    have g0:V.cell? ⟨g,0,none⟩=some (.pointer (some ⟨D.hb,0,none⟩)):=by rw[HGv.out.cell 0];rfl
    have g1:V.cell? ⟨g,1,none⟩=some (.pointer (some ⟨D.R.rb,0,none⟩)):=by rw[HGv.out.cell 1];rfl
    clear HWW HEW HOk HBv;by_cases kd2:kind=2
    ·subst kd2;obtain⟨r8,hr8⟩:∃r,r=IntKind.u8.wrap o.a:=⟨_,rfl⟩;have hw8:IntKind.u8.wrap o.a=r8:=hr8.symm;have hr0:0≤r8∧r8≤255:=by rw[hr8,IntKind.wrap_u8];omega
     clear hr8;have HE:Hid (∃ne:Int,Calls Tryz.prog 13 #[.pointer (some ⟨D.hb,0,none⟩),.int .u8 r8] V fun x w1=>x= .returned (.int .i64 ne)∧Kept (ownOf D.hb D.tb D.vs) V w1∧Hid (Calls Tryz.prog 14 #[.pointer (some ⟨D.R.rb,0,none⟩),.int .u8 r8] w1 fun x w2=>x= .returned (.int .i64 ne)∧Hid (Turn V D w2))):=nav_both HDV.out r8 hr0.1 hr0.2;obtain⟨ne,hc⟩:=HE.out;have HC1:=hid_in hc;clear HE hc;go_wp2_with fail;refine HC1.out.mono ?_;rintro x w1 ⟨rfl,hk1,HC2⟩;have HO1:=hid_in (HDV.out.host.kept_blk HDV.out.ne hk1 HEV.out (by decide) (by decide) (by decide) (by decide) (by decide));have HG1:=hid_in (HDV.out.host.kept_blk HDV.out.ne hk1 HGv.out (by decide) (by decide) (by decide) (by decide) (by decide));clear HC1 hk1 g0 g1 k0 k3 k4;have k3:w1.cell? ⟨w.heap.size,3,none⟩=some (.int .i64 o.a):=by rw[HO1.out.cell 3];rfl
     have g1:w1.cell? ⟨g,1,none⟩=some (.pointer (some ⟨D.R.rb,0,none⟩)):=by rw[HG1.out.cell 1];rfl
     go_wp2_with fail;refine HC2.out.mono ?_;rintro x w2 ⟨rfl,HT⟩;have HZ:Hid (∃Ds',WS w0 w2 B Ds' (e+8)∧Ds.length≤Ds'.length∧Ds'.length≤Ds.length+1):=by obtain⟨D',y1,y2,y3,y4⟩:=HT.out;exact⟨Ds.set J D',HUp.out _ _ (HWV.out.upd HD.out y1 y2 y3 y4),by simp,by simp⟩
     clear HC2 HT;go_wp2;go_ret;exact⟨rfl,HZ.out⟩
    have kd2b:(kind==2)=false:=by rw[beq_eq_false_iff_ne];exact kd2
    by_cases kd3:kind=3
    ·subst kd3;have HE:Hid (∃ne:Int,Calls Tryz.prog 15 #[.pointer (some ⟨D.hb,0,none⟩),.int .i64 o.a] V fun x w1=>x= .returned (.int .i64 ne)∧Kept (ownOf D.hb D.tb D.vs) V w1∧Hid (Calls Tryz.prog 16 #[.pointer (some ⟨D.R.rb,0,none⟩),.int .i64 o.a] w1 fun x w2=>x= .returned (.int .i64 ne)∧Hid (Turn V D w2))):=click_both HDV.out o.a HOV.out.a.1 HOV.out.a.2;obtain⟨ne,hc⟩:=HE.out;have HC1:=hid_in hc;clear HE hc;go_wp2_with fail;refine HC1.out.mono ?_;rintro x w1 ⟨rfl,hk1,HC2⟩;have HO1:=hid_in (HDV.out.host.kept_blk HDV.out.ne hk1 HEV.out (by decide) (by decide) (by decide) (by decide) (by decide));have HG1:=hid_in (HDV.out.host.kept_blk HDV.out.ne hk1 HGv.out (by decide) (by decide) (by decide) (by decide) (by decide));clear HC1 hk1 g0 g1 k0 k3 k4;have k3:w1.cell? ⟨w.heap.size,3,none⟩=some (.int .i64 o.a):=by rw[HO1.out.cell 3];rfl
     have g1:w1.cell? ⟨g,1,none⟩=some (.pointer (some ⟨D.R.rb,0,none⟩)):=by rw[HG1.out.cell 1];rfl
     go_wp2_with fail;refine HC2.out.mono ?_;rintro x w2 ⟨rfl,HT⟩;have HZ:Hid (∃Ds',WS w0 w2 B Ds' (e+8)∧Ds.length≤Ds'.length∧Ds'.length≤Ds.length+1):=by obtain⟨D',y1,y2,y3,y4⟩:=HT.out;exact⟨Ds.set J D',HUp.out _ _ (HWV.out.upd HD.out y1 y2 y3 y4),by simp,by simp⟩
     clear HC2 HT;go_wp2;go_ret;exact⟨rfl,HZ.out⟩
    have kd3b:(kind==3)=false:=by rw[beq_eq_false_iff_ne];exact kd3
    by_cases kd4:kind=4
    ·subst kd4;have HC1:Hid (Calls Tryz.prog 17 #[.pointer (some ⟨B,0,none⟩),.agg #[.pointer (some ⟨D.hb,0,none⟩),.pointer (some ⟨D.R.rb,0,none⟩)],.slice o.dO dn o.dc] V fun x w2=>x= .returned (.bool true)∧Hid (∃Ds',WS w0 w2 B Ds' (e+8)∧Ds.length≤Ds'.length∧Ds'.length≤Ds.length+1)):=by refine(frame_both HWV.out HD.out o.dO dn o.dc o.dl HMn.out.2 (by rw[←HMn.out.2];exact HOV.out.dlen) HOV.out.dat).mono ?_;rintro x w2 ⟨rfl,D',z⟩;exact⟨rfl,Ds.set J D',HUp.out _ _ z,by simp,by simp⟩
     go_wp2_with fail;refine HC1.out.mono ?_;rintro x w2 ⟨rfl,HZ⟩;clear HC1;go_wp2;go_ret;exact⟨rfl,HZ.out⟩
    have kd4b:(kind==4)=false:=by rw[beq_eq_false_iff_ne];exact kd4
    by_cases kd5:kind=5
    ·subst kd5;have HC1:Hid (Calls Tryz.prog 8 #[.agg #[.pointer (some ⟨D.hb,0,none⟩),.pointer (some ⟨D.R.rb,0,none⟩)],.int .i64 o.a] V fun x w2=>x= .returned (.bool true)∧Hid (∃Ds',WS w0 w2 B Ds' (e+8)∧Ds.length≤Ds'.length∧Ds'.length≤Ds.length+1)):=by
      refine(dphase_any HDV.out.host HDV.out.ref o.a HDV.out.n4 (HDV.out.host.tbl HDV.out.ne) (fun x hx=>?_)).mono ?_
      ·obtain⟨j,hj⟩:=HDV.out.inv.ten.mem hx;rcases hj.phase with q|q|q<;>omega
      rintro x w2 ⟨rfl,hb⟩;exact⟨rfl,Ds,HUp.out _ _ (HWV.out.below hb),Nat.le_refl _,by omega⟩
     go_wp2_with fail;refine HC1.out.mono ?_;rintro x w2 ⟨rfl,HZ⟩;clear HC1;go_wp2;go_ret;exact⟨rfl,HZ.out⟩
    have kd5b:(kind==5)=false:=by rw[beq_eq_false_iff_ne];exact kd5
    by_cases kd6:kind=6
    ·subst kd6;have HC1:Hid (Calls Tryz.prog 6 #[.pointer (some ⟨B,0,none⟩),.agg #[.pointer (some ⟨D.hb,0,none⟩),.pointer (some ⟨D.R.rb,0,none⟩)],.int .i64 6,.int .i64 o.a] V fun x w2=>x= .returned (.bool true)∧Hid (∃Ds',WS w0 w2 B Ds' (e+8)∧Ds.length≤Ds'.length∧Ds'.length≤Ds.length+1)):=by refine(lists_any HWV.out HD.out he 6 o.a).mono ?_;rintro x w2 ⟨rfl,z,_⟩;exact⟨rfl,Ds,z,Nat.le_refl _,by omega⟩
     go_wp2_with fail;refine HC1.out.mono ?_;rintro x w2 ⟨rfl,HZ⟩;clear HC1;go_wp2;go_ret;exact⟨rfl,HZ.out⟩
    have kd6b:(kind==6)=false:=by rw[beq_eq_false_iff_ne];exact kd6
    by_cases kd7:kind=7
    ·subst kd7;have HC1:Hid (Calls Tryz.prog 6 #[.pointer (some ⟨B,0,none⟩),.agg #[.pointer (some ⟨D.hb,0,none⟩),.pointer (some ⟨D.R.rb,0,none⟩)],.int .i64 7,.int .i64 o.a] V fun x w2=>x= .returned (.bool true)∧Hid (∃Ds',WS w0 w2 B Ds' (e+8)∧Ds.length≤Ds'.length∧Ds'.length≤Ds.length+1)):=by refine(lists_any HWV.out HD.out he 7 o.a).mono ?_;rintro x w2 ⟨rfl,z,_⟩;exact⟨rfl,Ds,z,Nat.le_refl _,by omega⟩
     go_wp2_with fail;refine HC1.out.mono ?_;rintro x w2 ⟨rfl,HZ⟩;clear HC1;go_wp2;go_ret;exact⟨rfl,HZ.out⟩
    have kd7b:(kind==7)=false:=by rw[beq_eq_false_iff_ne];exact kd7
    by_cases kd8:kind=8
    ·subst kd8;have HC1:Hid (Calls Tryz.prog 6 #[.pointer (some ⟨B,0,none⟩),.agg #[.pointer (some ⟨D.hb,0,none⟩),.pointer (some ⟨D.R.rb,0,none⟩)],.int .i64 8,.int .i64 o.a] V fun x w2=>x= .returned (.bool true)∧Hid (∃Ds',WS w0 w2 B Ds' (e+8)∧Ds.length≤Ds'.length∧Ds'.length≤Ds.length+1)):=by refine(lists_any HWV.out HD.out he 8 o.a).mono ?_;rintro x w2 ⟨rfl,z,_⟩;exact⟨rfl,Ds,z,Nat.le_refl _,by omega⟩
     go_wp2_with fail;refine HC1.out.mono ?_;rintro x w2 ⟨rfl,HZ⟩;clear HC1;go_wp2;go_ret;exact⟨rfl,HZ.out⟩
    have kd8b:(kind==8)=false:=by rw[beq_eq_false_iff_ne];exact kd8
    have HZ:=hid_in (HUp.out _ _ HWV.out);go_wp2;go_ret;exact⟨rfl,Ds,HZ.out,Nat.le_refl _,by omega⟩
theorem ends_ws {w0 w:World} {B:Nat} {Ds:List Dk} {e:Nat} (h:WS w0 w B Ds e) (he:e≤90000000): Calls Tryz.prog 9 #[.pointer (some ⟨B,1,none⟩)] w fun r w'=>r= .returned (.bool true)∧Below w0.heap.size w0 w':=by
 obtain⟨dv,K1,K2,K3,l1,l2,l3,h1,q1,q2,q3⟩:=h;have H1:Hid (Calls Tryz.prog 30 #[.pointer (some ⟨B,1,none⟩)] w fun r w1=>r= .returned (.tuple #[])∧Hid (Calls Tryz.prog 31 #[.pointer (some ⟨B,1,none⟩)] w1 fun r w2=>r= .returned (.tuple #[])∧Hid (Calls Tryz.prog 32 #[.pointer (some ⟨B,1,none⟩)] w2 fun r w3=>r= .returned (.tuple #[])∧Hid (Calls Tryz.prog 7 #[.pointer (some ⟨B,1,none⟩)] w3 fun r w4=>r= .returned (.bool true)∧Below w0.heap.size w0 w4)))):=by
  have fr:∀{u:World} {L1 L2 L3:KV} {m1:List Tr.T.Nd} {m2:List Ev} {m3:List En} (g:WSt w0 u B dv Ds L1 L2 L3 m1 m2 m3) {P1 P2 P3:KV},(∀k,bkAll B P1 P2 P3 k→bkAll B L1 L2 L3 k∨u.heap.size≤k)→∀k,bkAll B P1 P2 P3 k→bkAll B L1 L2 L3 k∨Free w0 B dv Ds L1 L2 L3 k:=by
   intro u L1 L2 L3 m1 m2 m3 g P1 P2 P3 hp k hk;rcases hp k hk with e|e
   ·exact Or.inl e
   ·exact Or.inr (g.free e)
  refine(keepN_mark h1.books (by omega)).mono ?_;rintro r w1 ⟨rfl,v1,E1,b1,n1,k1,s1⟩;have g1:=h1.book b1 k1 (fr h1 s1);refine⟨rfl,?_⟩;refine(keepEv_mark g1.books (by omega)).mono ?_;rintro r w2 ⟨rfl,v2,E2,b2,n2,k2,s2⟩;have g2:=g1.book b2 k2 (fr g1 s2);refine⟨rfl,?_⟩;refine(keepEn_mark g2.books (by omega)).mono ?_;rintro r w3 ⟨rfl,v3,E3,b3,n3,k3,s3⟩;have g3:=g2.book b3 k3 (fr g2 s3);refine⟨rfl,?_⟩;have g:=g3.books;refine(still_any g.blk g.n1 g.n2 g.n3 (Nat.zero_le _) (Nat.zero_le _) (Nat.zero_le _) (by show E1.length≤_;omega) (by show E2.length≤_;omega) (by show E3.length≤_;omega)).mono ?_;rintro r w4 ⟨rfl,q,rfl⟩;exact⟨rfl,g3.bl.os,g3.bl.tape,g3.bl.output,g3.bl.size,g3.bl.block⟩
 clear h1;go_enter Tryz.func9,Tryz.ntmps9;go_wp2_with fail;refine H1.out.mono ?_;rintro r w1 ⟨rfl,H2⟩;clear H1;go_wp2_with fail;refine H2.out.mono ?_;rintro r w2 ⟨rfl,H3⟩;clear H2;go_wp2_with fail;refine H3.out.mono ?_;rintro r w3 ⟨rfl,H4⟩;clear H3;go_wp2_with fail;refine H4.out.mono ?_;rintro r w4 ⟨rfl,hb⟩;have HB:Hid (Below w0.heap.size w0 w4):=hb;clear H4 hb;go_wp2;go_ret;exact⟨rfl,HB.out⟩
theorem still_ws {w0 w:World} {B:Nat} {Ds:List Dk} {e:Nat} (h:WS w0 w B Ds e) (he:e≤90000000): Calls Tryz.prog 7 #[.pointer (some ⟨B,1,none⟩)] w fun r w'=>r= .returned (.bool true)∧WS w0 w' B Ds e:=by
 have hw:=h;obtain⟨dv,K1,K2,K3,l1,l2,l3,h1,q1,q2,q3⟩:=h;have g:=h1.books;refine(still_any g.blk g.n1 g.n2 g.n3 g.len.1 g.len.2.1 g.len.2.2 (by omega) (by omega) (by omega)).mono ?_;rintro r w4 ⟨rfl,q,rfl⟩;exact⟨rfl,hw.below ⟨rfl,rfl,rfl,Nat.le_refl _,fun _ _=>rfl⟩⟩
theorem ws_new (w:World):WS w (w.alloc (.cells #[.slice none 0 0,.slice none 0 0,.slice none 0 0,.slice none 0 0,.bool false,.slice none 0 0,.slice none 0 0,.slice none 0 0,.slice none 0 0,.slice none 0 0,.slice none 0 0] 34)) w.heap.size [] 0:=by
 have nk:∀k,¬knAll (.slice none 0 0) [] (.slice none 0 0) (.slice none 0 0) k:=by
  rintro k (e|⟨u,hu,_⟩|e|e)
  ·simp[Value.ownBlock] at e
  ·simp at hu
  ·simp[Value.ownBlock] at e
  ·simp[Value.ownBlock] at e
 have bk:∀k,bkAll w.heap.size ⟨.slice none 0 0,[],.slice none 0 0,.slice none 0 0⟩ ⟨.slice none 0 0,[],.slice none 0 0,.slice none 0 0⟩ ⟨.slice none 0 0,[],.slice none 0 0,.slice none 0 0⟩ k→k=w.heap.size:=by
  rintro k (e|e|e|e)
  ·exact e
  ·exact absurd e (nk k)
  ·exact absurd e (nk k)
  ·exact absurd e (nk k)
 refine⟨.slice none 0 0,⟨.slice none 0 0,[],.slice none 0 0,.slice none 0 0⟩,⟨.slice none 0 0,[],.slice none 0 0,.slice none 0 0⟩,⟨.slice none 0 0,[],.slice none 0 0,.slice none 0 0⟩,[],[],[],⟨(Below.refl _ _).alloc (Nat.le_refl _) _,⟨Blk.new w _ 34,?_,?_,?_,⟨rfl,fun u hu=>by simp at hu⟩,⟨rfl,fun u hu=>by simp at hu⟩,⟨rfl,fun u hu=>by simp at hu⟩,⟨Nat.zero_le _,Nat.zero_le _,Nat.zero_le _⟩⟩,World.ownsRow_nil _ _ _ _,fun i D hD=>by simp at hD,fun i D hD=>by simp at hD,fun k hk=>by rw[bk k hk];exact Nat.le_refl _,fun i j D D' hD=>by simp at hD,fun i D hD=>by simp at hD,fun k hk=>by simp[Value.ownBlock] at hk⟩,Nat.le_refl _,Nat.le_refl _,Nat.le_refl _⟩;all_goals exact⟨World.ownsRow_nil _ _ _ _,fun i u hu=>by simp at hu,World.ownsRow_nil _ _ _ _,World.ownsRow_nil _ _ _ _⟩
def mf0:Mf:=⟨⟨#[27]⟩,9,1,0,0,1,2⟩
theorem may0:mayAll [mf0]=true:=by kernel_rfl
theorem raw0:∀m∈[mf0],m.raw:=by
 intro m hm;simp at hm;subst hm;exact⟨by unfold maxLen;decide,by decide,by decide,by decide⟩
def OpRow (w:World) (lim:Nat) (ao:Option Addr) (os:List SOp):Prop:=∀(i:Nat) (o:SOp),os[i]? =some o→∃b off,ao=some ⟨b,off,none⟩∧b<lim∧(∀j v,o.arr[j]? =some v→w.cell? ⟨b,off+i*5+j,none⟩=some v)∧o.ok w lim
theorem OpRow.keep {w w':World} {lim:Nat} {ao:Option Addr} {os:List SOp} (h:OpRow w lim ao os) (hk:∀k,k<lim→w'.heap[k]? =w.heap[k]?):OpRow w' lim ao os:=by
 intro i o ho;obtain⟨b,off,e,hl,hc,h1⟩:=h i o ho;exact⟨b,off,e,hl,fun j v hv=>by rw[←hc j v hv];exact World.cell?_of_block (hk b hl),h1.keep hk⟩
theorem WS.mono {w0 w:World} {B:Nat} {Ds:List Dk} {e e':Nat} (h:WS w0 w B Ds e) (he:e≤e'):WS w0 w B Ds e':=by
 obtain⟨dv,K1,K2,K3,l1,l2,l3,h1,q1,q2,q3⟩:=h;exact⟨dv,K1,K2,K3,l1,l2,l3,h1,by omega,by omega,by omega⟩
theorem WS.desk {w0 w:World} {B:Nat} {Ds:List Dk} {e k N:Nat} {D:Dk} (h:WS w0 w B Ds e) (hN:Ds.length=N) (hD:Ds[k]? =some D):∃gd dc,w.cell? ⟨B,0,none⟩=some (.slice (some ⟨gd,0,none⟩) N dc)∧w.cell? ⟨gd,k*2,none⟩=some (.pointer (some ⟨D.hb,0,none⟩))∧w.cell? ⟨gd,k*2+1,none⟩=some (.pointer (some ⟨D.R.rb,0,none⟩)):=by
 obtain⟨dv,K1,K2,K3,l1,l2,l3,q,_⟩:=h;obtain⟨dO,dc,hdv⟩:=own_is q.row;have z:=q.row;have z2:=q.books.blk.cell 0;rw[hdv] at z z2;obtain⟨p0,p1⟩:=dkCells_at Ds k D hD;obtain⟨gd,rfl,d0,d1⟩:=own_pair z p0 p1;rw[←hN];exact⟨gd,dc,z2,d0,d1⟩
theorem WS.len {w0 w:World} {B:Nat} {Ds:List Dk} {e N:Nat} (h:WS w0 w B Ds e) (hN:Ds.length=N):∃dO dc,w.cell? ⟨B,0,none⟩=some (.slice dO N dc):=by
 obtain⟨dv,K1,K2,K3,l1,l2,l3,q,_⟩:=h;obtain⟨dO,dc,hdv⟩:=own_is q.row;have z2:=q.books.blk.cell 0;rw[hdv] at z2;rw[←hN];exact⟨dO,dc,z2⟩
set_option maxRecDepth 100000 in
theorem hosts_any (w:World) (ao:Option Addr) (n cap:Nat) (os:List SOp) (hn:os.length=n) (hn1:n≤175000) (hrow:OpRow w w.heap.size ao os): Calls Tryz.prog 3 #[.slice ao n cap] w fun r w'=>r= .returned (.bool true)∧Below w.heap.size w w':=by
 have Hn:Hid (os.length=n):=hn;have HRow:Hid (OpRow w w.heap.size ao os):=hrow;obtain⟨W,hW⟩:∃W,W=w.alloc (.cells #[.slice none 0 0,.slice none 0 0,.slice none 0 0,.slice none 0 0,.bool false,.slice none 0 0,.slice none 0 0,.slice none 0 0,.slice none 0 0,.slice none 0 0,.slice none 0 0] 34):=⟨_,rfl⟩;have HWS:Hid (WS w W w.heap.size [] 0):=by unfold Hid;rw[hW];exact ws_new w
 have HBg:Hid (Calls Tryz.prog 4 #[.pointer (some ⟨w.heap.size,0,none⟩),.slice (some ⟨W.heap.size,0,none⟩) 1 1] (W.alloc (.cells #[.string ⟨#[27]⟩,.int .i64 9,.int .u8 1,.int .u8 0,.int .u8 0,.int .i64 1,.int .i64 2] 37)) fun r w'=>r= .returned (.bool true)∧Hid (∃Ds,WS w w' w.heap.size Ds 0∧Ds.length=1)):=by
  have hb:=HWS.out.below ((Below.refl _ _).alloc (Nat.le_refl _) (.cells #[.string ⟨#[27]⟩,.int .i64 9,.int .u8 1,.int .u8 0,.int .u8 0,.int .i64 1,.int .i64 2] 37));refine(begin_good hb (some ⟨W.heap.size,0,none⟩) 1 1 [mf0] rfl (by decide) (by decide) raw0 (fun _=>⟨W.heap.size,0,rfl,?_,by simp⟩) (fun q=>by simp at q) may0).mono ?_
  ·intro i m hm j v hv;match i,hm with
   |0,hm=>simp at hm;subst hm;have q:=(Blk.new W #[.string ⟨#[27]⟩,.int .i64 9,.int .u8 1,.int .u8 0,.int .u8 0,.int .i64 1,.int .i64 2] 37).cell j;rw[show 0+0*7+j=j by omega,q,←hv];rfl
   |i+1,hm=>simp at hm
  rintro r w' ⟨rfl,D,z⟩;exact⟨rfl,[D],z,rfl⟩
 clear hn hrow;go_enter Tryz.func3,Tryz.ntmps3;go_upto_region 2 with fail
 rw[←hW];clear hW;go_wp2_with fail;refine HBg.out.mono ?_;rintro r w1 ⟨rfl,HZ⟩;clear HBg HWS;go_wp2_with fail;go_loopw [5] (fun i wr=>∃k:Nat,k≤2∧i= .int .i64 k∧Hid (∃Ds,WS w wr w.heap.size Ds (16*k)∧1≤Ds.length∧Ds.length≤1+k))
  (fun i _=>2-(intOf i).toNat)
 case atStart=>obtain⟨Ds,z1,z2⟩:=HZ.out;exact⟨0,by omega,rfl,Ds,z1,by omega,by omega⟩
 case round=>
  obtain⟨k,hk,rfl,HS⟩:=hrel;clear HZ;by_cases hlt:k<2
  ·obtain⟨Ds,hws,hd1,hd2⟩:=HS.out;have hki:(k:Int)<2:=by omega
   have HSt:Hid (Calls Tryz.prog 5 #[.pointer (some ⟨w.heap.size,0,none⟩),.agg #[.int .i64 4,.int .i64 0,.slice none 0 0,.int .i64 0,.slice none 0 0]] wr fun r w2=>r= .returned (.bool true)∧Hid (∃Ds,WS w w2 w.heap.size Ds (16*k+8)∧1≤Ds.length∧Ds.length≤1+(k+1))):=by refine(wstep_any hws ⟨4,0,[],0,[],none,0,none,0⟩ ⟨⟨by decide,by decide⟩,⟨by decide,by decide⟩,fun m hm=>by simp at hm,Nat.zero_le _,fun q=>absurd rfl q,fun _=>⟨rfl,rfl⟩,Nat.zero_le _,fun i ds hd=>by simp at hd⟩ (by omega) (by omega)).mono ?_;rintro r w2 ⟨rfl,Ds',z1,z2,z3⟩;exact⟨rfl,Ds',z1,by omega,by omega⟩
   clear hws hd1 hd2 HS;go_wp2_with fail;refine HSt.out.mono ?_;rintro r w2 ⟨rfl,HS2⟩;clear HSt;obtain⟨Ds2,hw2,hd1,hd2⟩:=HS2.out;obtain⟨D,hD⟩:∃D,Ds2[0]? =some D:=⟨Ds2[0]'(by omega),List.getElem?_eq_getElem (by omega)⟩;obtain⟨N,hN⟩:∃N,N=Ds2.length:=⟨_,rfl⟩;obtain⟨gd,dc,b0,d0,d1⟩:=hw2.desk hN.symm hD;have HL:Hid (Calls Tryz.prog 6 #[.pointer (some ⟨w.heap.size,0,none⟩),.agg #[.pointer (some ⟨D.hb,0,none⟩),.pointer (some ⟨D.R.rb,0,none⟩)],.int .i64 8,.int .i64 0] w2 fun r w3=>r= .returned (.bool true)∧Hid (∃Ds,WS w w3 w.heap.size Ds (16*(k+1))∧1≤Ds.length∧Ds.length≤1+(k+1))):=by refine(lists_any hw2 hD (by omega) 8 0).mono ?_;rintro r w3 ⟨rfl,z,_⟩;exact⟨rfl,Ds2,z.mono (by omega),hd1,hd2⟩
   have hN0:(0:Int)<(N:Int):=by omega
   have d0':w2.cell? ⟨gd,0,none⟩=some (.pointer (some ⟨D.hb,0,none⟩)):=d0;have d1':w2.cell? ⟨gd,1,none⟩=some (.pointer (some ⟨D.R.rb,0,none⟩)):=d1;clear hw2 hd1 hd2 hD hN HS2 d0 d1;go_wp2_with fail;refine HL.out.mono ?_;rintro r w3 ⟨rfl,HS3⟩;clear HL b0 d0' d1';go_wp2;go_roundw
   case rel=>exact⟨k+1,by omega,by go_num,HS3.out⟩
   case measure=>simp[intOf];omega
  ·have hk2:k=2:=by omega
   subst hk2;go_wp2_with fail;go_loopw [7] (fun i wr=>∃k:Nat,k≤n∧i= .int .i64 k∧Hid (∃Ds,WS w wr w.heap.size Ds (32+8*k)∧1≤Ds.length∧Ds.length≤3+k))
    (fun i _=>n-(intOf i).toNat)
   case atStart=>obtain⟨Ds,z1,z2,z3⟩:=HS.out;exact⟨0,by omega,rfl,Ds,z1,z2,by omega⟩
   case round=>
    obtain⟨k,hk,rfl,HS⟩:=hrel;by_cases hlt:k<n
    ·obtain⟨Ds,hws,hd1,hd2⟩:=HS.out;obtain⟨o,ho⟩:∃o,os[k]? =some o:=⟨os[k]'(by have:=Hn.out;omega),List.getElem?_eq_getElem (by have:=Hn.out;omega)⟩;obtain⟨b,off,rfl,hbl,hc,hok⟩:=(HRow.out.keep (w':=wr) fun q hq=>hws.bl.block q hq) k o ho;obtain⟨mn,hmn⟩:∃n,n=o.ms.length:=⟨_,rfl⟩;obtain⟨dn,hdn⟩:∃n,n=o.dl.length:=⟨_,rfl⟩;have c0:wr.cell? ⟨b,off+k*5,none⟩=some (.int .i64 o.kind):=hc 0 _ rfl;have c1:wr.cell? ⟨b,off+k*5+1,none⟩=some (.int .i64 o.on):=hc 1 _ rfl;have c2:wr.cell? ⟨b,off+k*5+2,none⟩=some (.slice o.mo mn o.mc):=by rw[hmn];exact hc 2 _ rfl
     have c3:wr.cell? ⟨b,off+k*5+3,none⟩=some (.int .i64 o.a):=hc 3 _ rfl;have c4:wr.cell? ⟨b,off+k*5+4,none⟩=some (.slice o.dO dn o.dc):=by rw[hdn];exact hc 4 _ rfl
     have hki:(k:Int)<(n:Int):=by omega
     have hk0:(0:Int)≤(k:Int):=by omega
     have HSt:Hid (Calls Tryz.prog 5 #[.pointer (some ⟨w.heap.size,0,none⟩),.agg #[.int .i64 o.kind,.int .i64 o.on,.slice o.mo mn o.mc,.int .i64 o.a,.slice o.dO dn o.dc]] wr fun r w2=>r= .returned (.bool true)∧Hid (Calls Tryz.prog 7 #[.pointer (some ⟨w.heap.size,1,none⟩)] w2 fun r w3=>r= .returned (.bool true)∧Hid (∃Ds,WS w w3 w.heap.size Ds (32+8*(k+1))∧1≤Ds.length∧Ds.length≤3+(k+1)))):=by rw[hmn,hdn];refine(wstep_any hws o hok (by omega) (by omega)).mono ?_;rintro r w2 ⟨rfl,Ds',z1,z2,z3⟩;refine⟨rfl,?_⟩;refine(still_ws z1 (by omega)).mono ?_;rintro r w3 ⟨rfl,z4⟩;exact⟨rfl,Ds',z4.mono (by omega),by omega,by omega⟩
     clear hws hd1 hd2 ho hc hok hmn hdn HS;go_wp2_with fail;refine HSt.out.mono ?_;rintro r w2 ⟨rfl,HS2⟩;clear HSt c0 c1 c2 c3 c4;go_wp2_with fail;refine HS2.out.mono ?_;rintro r w3 ⟨rfl,HS3⟩;clear HS2;go_wp2;go_roundw
     case rel=>(repeat apply Exists.intro);exact⟨⟨k+1,by omega,by go_num,HS3.out⟩,rfl⟩
     case measure=>simp[intOf];omega
    ·have hkn:k=n:=by omega
     subst hkn;have hki:¬(k:Int)<(k:Int):=by omega
     obtain⟨Ds,hws0,hd1,hd2⟩:=HS.out;have HW0:Hid (WS w wr w.heap.size Ds (32+8*k)):=hws0;obtain⟨N,hN⟩:∃N,N=Ds.length:=⟨_,rfl⟩;have HN:Hid (Ds.length=N):=hN.symm;have hNn:N≤3+k:=by omega
     clear hws0 hd1 hd2 hN HS;go_wp2_with fail;go_loopw [9] (fun i wr=>∃m:Nat,m≤N∧i= .int .i64 m∧Hid (WS w wr w.heap.size Ds (32+8*k+144*m)))
      (fun i _=>N-(intOf i).toNat)
     case atStart=>exact⟨0,Nat.zero_le _,rfl,HW0.out⟩
     case round=>
      obtain⟨m,hm,rfl,HWm⟩:=hrel;clear HW0;by_cases hmN:m<N
      ·obtain⟨D,hD⟩:∃D,Ds[m]? =some D:=⟨Ds[m]'(by have:=HN.out;omega),List.getElem?_eq_getElem (by have:=HN.out;omega)⟩;have HD:Hid (Ds[m]? =some D):=hD;obtain⟨gd,dc,b0,d0,d1⟩:=HWm.out.desk HN.out hD;have hmi:(m:Int)<(N:Int):=by omega
       have hm0:(0:Int)≤(m:Int):=by omega
       obtain⟨V,hV⟩:∃V,V=wr.alloc (.cells #[.pointer (some ⟨D.hb,0,none⟩),.pointer (some ⟨D.R.rb,0,none⟩)] 47):=⟨_,rfl⟩;have HWV:Hid (WS w V w.heap.size Ds (32+8*k+144*m)):=by unfold Hid;rw[hV];exact HWm.out.below ((Below.refl _ _).alloc (Nat.le_refl _) _)
       have HGV:Hid (Blk V wr.heap.size #[.pointer (some ⟨D.hb,0,none⟩),.pointer (some ⟨D.R.rb,0,none⟩)] 47):=by unfold Hid;rw[hV];exact Blk.new wr _ 47
       obtain⟨g,hg⟩:∃g,g=wr.heap.size:=⟨_,rfl⟩;obtain⟨L,hL⟩:∃L,L=D.H.ts.length:=⟨_,rfl⟩;have HLn:Hid (D.H.ts.length=L):=hL.symm;have hL4:L≤4:=by rw[hL];exact(HWm.out.dk hD).n4
       rw[←hg] at HGV;clear hD hL;go_upto_region 23 with fail
       rw[←hV,←hg];clear hV hg b0 d0 d1;go_wp2_with fail;go_loopw [11] (fun t wq=>∃j:Nat,j≤L+2∧t= .int .i64 ((j:Int)-1)∧Hid (WS w wq w.heap.size Ds (32+8*k+144*m+24*j))∧Hid (Blk wq g #[.pointer (some ⟨D.hb,0,none⟩),.pointer (some ⟨D.R.rb,0,none⟩)] 47))
        (fun t _=>L+2-(intOf t+1).toNat)
       case atStart=>exact⟨0,by omega,rfl,HWV.out,HGV.out⟩
       case round=>
        obtain⟨j,hj,rfl,HWj,HGj⟩:=hrel;have g0:wr.cell? ⟨g,0,none⟩=some (.pointer (some ⟨D.hb,0,none⟩)):=by rw[HGj.out.cell 0];rfl
        have g1:wr.cell? ⟨g,1,none⟩=some (.pointer (some ⟨D.R.rb,0,none⟩)):=by rw[HGj.out.cell 1];rfl
        have m0:wr.cell? ⟨D.R.rb,0,none⟩=some (.slice (some ⟨D.R.m,0,none⟩) L D.R.mc):=by rw[(HWj.out.dk HD.out).ref.host.cell 0,←HLn.out];rfl
        obtain⟨T,hT⟩:∃T:Int,T=(j:Int)-1:=⟨_,rfl⟩;rw[←hT];by_cases hjl:j<L+2
        ·have hTl:T≤(L:Int):=by omega
         have hTd:decide (T≤(L:Int))=true:=decide_eq_true hTl;have HC:Hid (Calls Tryz.prog 8 #[.agg #[.pointer (some ⟨D.hb,0,none⟩),.pointer (some ⟨D.R.rb,0,none⟩)],.int .i64 T] wr fun r w1=>r= .returned (.bool true)∧Hid (WS w w1 w.heap.size Ds (32+8*k+144*m+24*j))∧Hid (Blk w1 g #[.pointer (some ⟨D.hb,0,none⟩),.pointer (some ⟨D.R.rb,0,none⟩)] 47)):=by
          have hdk:=HWj.out.dk HD.out;refine(dphase_any hdk.host hdk.ref T hdk.n4 (hdk.host.tbl hdk.ne) (fun x hx=>?_)).mono ?_
          ·obtain⟨z,hz⟩:=hdk.inv.ten.mem hx;rcases hz.phase with q|q|q<;>omega
          rintro r w1 ⟨rfl,hb⟩;exact⟨rfl,HWj.out.below hb,HGj.out.below hb HGj.out.lt⟩
         have HLs:Hid (∀(kd:Int) (e:Nat) (u:World),e+8≤90000000→WS w u w.heap.size Ds e→Blk u g #[.pointer (some ⟨D.hb,0,none⟩),.pointer (some ⟨D.R.rb,0,none⟩)] 47→Calls Tryz.prog 6 #[.pointer (some ⟨w.heap.size,0,none⟩),.agg #[.pointer (some ⟨D.hb,0,none⟩),.pointer (some ⟨D.R.rb,0,none⟩)],.int .i64 kd,.int .i64 T] u fun r w1=>r= .returned (.bool true)∧Hid (WS w w1 w.heap.size Ds (e+8))∧Hid (Blk w1 g #[.pointer (some ⟨D.hb,0,none⟩),.pointer (some ⟨D.R.rb,0,none⟩)] 47)):=by intro kd e u he hu hb;refine(lists_any hu HD.out he kd T).mono ?_;rintro r w1 ⟨rfl,z1,z2⟩;exact⟨rfl,z1,z2 _ _ hb⟩
         have HTj:Hid (T=(j:Int)-1):=hT;clear hT hTl;go_wp2_with fail;refine HC.out.mono ?_;rintro r w1 ⟨rfl,HW1,HG1⟩;have x0:w1.cell? ⟨g,0,none⟩=some (.pointer (some ⟨D.hb,0,none⟩)):=by rw[HG1.out.cell 0];rfl
         have x1:w1.cell? ⟨g,1,none⟩=some (.pointer (some ⟨D.R.rb,0,none⟩)):=by rw[HG1.out.cell 1];rfl
         have HC2:=hid_in (HLs.out 6 _ w1 (by omega) HW1.out HG1.out);clear HC g0 g1 m0;go_wp2_with fail;refine HC2.out.mono ?_;rintro r w2 ⟨rfl,HW2,HG2⟩;clear x0 x1;have x0:w2.cell? ⟨g,0,none⟩=some (.pointer (some ⟨D.hb,0,none⟩)):=by rw[HG2.out.cell 0];rfl
         have x1:w2.cell? ⟨g,1,none⟩=some (.pointer (some ⟨D.R.rb,0,none⟩)):=by rw[HG2.out.cell 1];rfl
         have HC3:=hid_in (HLs.out 7 _ w2 (by omega) HW2.out HG2.out);clear HC2;go_wp2_with fail;refine HC3.out.mono ?_;rintro r w3 ⟨rfl,HW3,HG3⟩;clear x0 x1;have x0:w3.cell? ⟨g,0,none⟩=some (.pointer (some ⟨D.hb,0,none⟩)):=by rw[HG3.out.cell 0];rfl
         have x1:w3.cell? ⟨g,1,none⟩=some (.pointer (some ⟨D.R.rb,0,none⟩)):=by rw[HG3.out.cell 1];rfl
         have HC4:=hid_in (HLs.out 8 _ w3 (by omega) HW3.out HG3.out);clear HC3;go_wp2_with fail;refine HC4.out.mono ?_;rintro r w4 ⟨rfl,HW4,HG4⟩;clear HC4 x0 x1;have hTb: -1≤T∧T≤5:=by have:=HTj.out;omega
         go_wp2;go_roundw
         case rel=>exact⟨j+1,by omega,by rw[HTj.out];congr 1;push_cast;omega,HW4.out.mono (by omega),HG4.out⟩
         case measure=>have:=HTj.out;simp[intOf];omega
        ·have hTl:¬T≤(L:Int):=by omega
         have hTd:decide (T≤(L:Int))=false:=decide_eq_false hTl;have HWn:Hid (WS w wr w.heap.size Ds (32+8*k+144*(m+1))):=HWj.out.mono (by omega);clear hT;go_wp2;go_roundw
         case rel=>exact⟨m+1,by omega,by go_num,HWn.out⟩
         case measure=>simp[intOf];omega
      ·have hmi:¬(m:Int)<(N:Int):=by omega
       obtain⟨dO,dc,b0⟩:=HWm.out.len HN.out;have HE:=hid_in (ends_ws HWm.out (by omega));go_wp2_with fail;refine HE.out.mono ?_;rintro r w5 ⟨rfl,hb5⟩;have HB5:Hid (Below w.heap.size w w5):=hb5;clear HE hb5 b0;go_wp2;go_ret;exact⟨rfl,HB5.out⟩
end Go.Proofs.YtidaflmmldefcaaGreat
namespace Go.Proofs.YtidaflmmldefcaaGreat
open Go.ChangeShapes Go.WideShapes Go.ChangeAt Go.RowKit Go.Deep
set_option linter.unusedVariables false
theorem own:ownKnob Tryz.prog.godebug=none:=by kernel_rfl
theorem laidOut:laidOutB Tryz.prog=true:=by kernel_rfl
theorem cells74:Tryz.prog.cellsOf 74=1:=by kernel_rfl
theorem cells93:Tryz.prog.cellsOf 93=1:=by kernel_rfl
theorem cells37:Tryz.prog.cellsOf 37=7:=by kernel_rfl
theorem cells38:Tryz.prog.cellsOf 38=1:=by kernel_rfl
theorem cells40:Tryz.prog.cellsOf 40=1:=by kernel_rfl
theorem cells42:Tryz.prog.cellsOf 42=5:=by kernel_rfl
theorem cells3:Tryz.prog.cellsOf 3=1:=by kernel_rfl
theorem cells5:Tryz.prog.cellsOf 5=1:=by kernel_rfl
theorem cells9:Tryz.prog.cellsOf 9=1:=by kernel_rfl
theorem bulk_one {H:Type} (d:DataW H):1≤Rows.uptoBulk d:=by
 cases d with
 |lit l=>cases l<;>simp[Rows.uptoBulk]
 |nil=>simp[Rows.uptoBulk]
 |ptr d=>simp[Rows.uptoBulk]
 |slice elems spare=>simp[Rows.uptoBulk]
 |agg parts=>simp[Rows.uptoBulk]
 |iface t d=>simp[Rows.uptoBulk]
 |map entries=>simp[Rows.uptoBulk]
 |held h=>simp[Rows.uptoBulk]
theorem bulk_part {H:Type} {d:DataW H} {l:List (DataW H)} (h:d∈l):Rows.uptoBulk d≤Rows.uptoBulkAll l:=by
 induction l with
 |nil=>cases h
 |cons x r ih=>
  simp only[Rows.uptoBulkAll];cases List.mem_cons.1 h with
  |inl e=>subst e;omega
  |inr e=>have:=ih e;omega
theorem bulk_many {H:Type} (c:Nat) (l:List (DataW H)) (h:∀d∈l,c≤Rows.uptoBulk d):c*l.length≤Rows.uptoBulkAll l:=by
 induction l with
 |nil=>simp
 |cons x r ih=>have h1:=h x (by simp);have h2:=ih fun d hd=>h d (by simp[hd]);simp only[Rows.uptoBulkAll,List.length_cons,Nat.mul_add];omega
theorem bulk_len {H:Type} (l:List (DataW H)):l.length≤Rows.uptoBulkAll l:=by have:=bulk_many 1 l (fun d _=>bulk_one d);omega
section
variable {H : Type} {enc : TypeId × Value → H} {W : World} {x : DataW H × List MemPlace} {fuel : Nat}
theorem open_dr {v:Value} (h:DataW.trod enc Tryz.prog W 0 (fun _=>true) true fuel 93 [v]=some x) (hb:Rows.uptoBulk x.1≤1048576): ∃(eo:Option Addr) (ec:Nat) (ds:List Int),v= .slice eo ds.length ec∧DrOne W W.heap.size eo ec ds:=by
 rcases open_slice1 Tryz.underlying93 cells74 h with ⟨hcs,_⟩|⟨a,len,cap,m,n,V,D,Pl,hcs,_,hl,hm,hmm,hx,hc⟩
 ·simp at hcs;subst hcs;exact⟨none,0,[],rfl,by intro x hx;simp at hx,Nat.zero_le _,fun _=>⟨rfl,rfl⟩,fun q=>absurd rfl q⟩
 ·simp at hcs;subst hcs;simp at hmm;subst hmm;obtain⟨b,off,spot⟩:=a;have each:∀i,i<len→∃z:Int,W.cell? ((⟨b,off,spot⟩:Addr).add i)=some (.int .u16 z)∧(Lit.int .u16 z).wf=true:=by intro i hi;obtain⟨c0,t0⟩:=hc i (by omega);obtain⟨z,e,_,w⟩:=DataW.trod_int Tryz.underlying74 t0;simp at e;exact⟨z,by rw[c0,e],w⟩
  obtain⟨f,hf⟩:=choose_lt each;have hspot:0<len→spot=none:=by intro h0;have:=(hf 0 h0).1;simpa[Addr.add] using World.cell?_spot this
  have hlen:len≤1048576:=by rw[hx] at hb;have:=bulk_len ((List.range len).map D);simp only[Rows.uptoBulk] at hb;simp at this;omega
  refine⟨some ⟨b,off,spot⟩,m,(List.range len).map f,by simp,?_,by simp;omega,fun q=>by simp at q,fun hne=>?_⟩
  ·intro z hz;obtain⟨i,hi,rfl⟩:=List.mem_map.1 hz;exact bounds_u16 (hf i (by simpa using hi)).2
  ·have h0:0<len:=by
    rcases Nat.eq_zero_or_pos len with q|q
    ·subst q;exact absurd rfl hne
    ·exact q
   have hs:=hspot h0;subst hs;have q:=(hf 0 h0).1;rw[Addr.add_lit] at q;refine⟨b,off,rfl,World.block_lt_of_cell? _ _ q,fun i z hz=>?_⟩;have hi:i<len:=by have:=(List.getElem?_eq_some_iff.1 hz).1;simpa using this
   have hz':f i=z:=by simpa[hi] using hz
   subst hz';have q:=(hf i hi).1;rw[Addr.add_lit] at q;exact q
theorem open_drs {v:Value} (h:DataW.trod enc Tryz.prog W 0 (fun _=>true) true fuel 40 [v]=some x) (hb:Rows.uptoBulk x.1≤1048576): ∃(dao:Option Addr) (dcap:Nat) (dl:List (List Int)),v= .slice dao dl.length dcap∧dl.length≤1100000∧DrwAt W W.heap.size dao dl:=by
 rcases open_slice1 Tryz.underlying40 cells93 h with ⟨hcs,_⟩|⟨a,len,cap,m,n,V,D,Pl,hcs,_,hl,hm,hmm,hx,hc⟩
 ·simp at hcs;subst hcs;exact⟨none,0,[],rfl,Nat.zero_le _,by intro i x hx;simp at hx⟩
 ·simp at hcs;subst hcs;simp at hmm;subst hmm;obtain⟨b,off,spot⟩:=a;rw[hx] at hb;simp only[Rows.uptoBulk] at hb;have each:∀i,i<len→∃z:Option Addr×Nat×List Int,W.cell? ((⟨b,off,spot⟩:Addr).add i)=some (.slice z.1 z.2.2.length z.2.1)∧DrOne W W.heap.size z.1 z.2.1 z.2.2:=by intro i hi;obtain⟨c0,t0⟩:=hc i (by omega);have hp:Rows.uptoBulk (D i)≤Rows.uptoBulkAll ((List.range len).map D):=bulk_part (List.mem_map.2 ⟨i,by simpa using hi,rfl⟩);obtain⟨eo,ec,ds,e,r⟩:=open_dr t0 (by show Rows.uptoBulk (D i)≤_;omega);exact⟨(eo,ec,ds),by rw[c0,e],r⟩
  obtain⟨f,hf⟩:=choose_lt each;have hspot:0<len→spot=none:=by intro h0;have:=(hf 0 h0).1;simpa[Addr.add] using World.cell?_spot this
  have hlen:=bulk_len ((List.range len).map D);simp at hlen;refine⟨some ⟨b,off,spot⟩,m,(List.range len).map (fun i=>(f i).2.2),by simp,by simp;omega,?_⟩;intro i ds hd;have hi:i<len:=by have:=(List.getElem?_eq_some_iff.1 hd).1;simpa using this
  have hsp:=hspot (by omega);subst hsp;have hz':(f i).2.2=ds:=by simpa[hi] using hd
  subst hz';obtain⟨q0,q1⟩:=hf i hi;rw[Addr.add_lit] at q0;exact⟨b,off,(f i).1,(f i).2.1,rfl,World.block_lt_of_cell? _ _ q0,q0,q1⟩
set_option maxRecDepth 100000 in
theorem open_mf {cs:List Value} (hl:cs.length=7) (h:DataW.trod enc Tryz.prog W 0 (fun _=>true) true fuel 37 cs=some x):∃m:Mf,cs=m.arr.toList∧m.raw:=by
 obtain⟨xs,k,hk,hxy,_,hxl,hf⟩:=DataW.trod_struct Tryz.underlying37 h;match xs,hxl,cs,hl with
 |[y1,y2,y3,y4,y5,y6,y7],_,[v1,v2,v3,v4,v5,v6,v7],_=>have g1:=hf 0 _ rfl;have g2:=hf 1 _ rfl;have g3:=hf 2 _ rfl;have g4:=hf 3 _ rfl;have g5:=hf 4 _ rfl;have g6:=hf 5 _ rfl;have g7:=hf 6 _ rfl;simp[cells9,cells3,cells5] at g1 g2 g3 g4 g5 g6 g7;obtain⟨z1,q1,_,w1⟩:=DataW.trod_string Tryz.underlying9 g1;obtain⟨z2,q2,_,w2⟩:=DataW.trod_int Tryz.underlying3 g2;obtain⟨z3,q3,_,w3⟩:=DataW.trod_int Tryz.underlying5 g3;obtain⟨z4,q4,_,w4⟩:=DataW.trod_int Tryz.underlying5 g4;obtain⟨z5,q5,_,w5⟩:=DataW.trod_int Tryz.underlying5 g5;obtain⟨z6,q6,_,w6⟩:=DataW.trod_int Tryz.underlying3 g6;obtain⟨z7,q7,_,w7⟩:=DataW.trod_int Tryz.underlying3 g7;simp at q1 q2 q3 q4 q5 q6 q7;subst q1 q2 q3 q4 q5 q6 q7;exact⟨⟨z1,z2,z3,z4,z5,z6,z7⟩,rfl,w1,bounds_u8 w3,bounds_u8 w4,bounds_u8 w5⟩
theorem open_mfs {v:Value} (h:DataW.trod enc Tryz.prog W 0 (fun _=>true) true fuel 38 [v]=some x) (hb:Rows.uptoBulk x.1≤1048576): ∃(mo:Option Addr) (mc:Nat) (ms:List Mf),v= .slice mo ms.length mc∧(∀m∈ms,m.raw)∧ms.length≤1100000∧(ms≠[]→∃b off,mo=some ⟨b,off,none⟩∧MfRow W b off ms∧b<W.heap.size)∧(mo=none→ms.length=0∧mc=0):=by
 rcases open_slice Tryz.underlying38 h with ⟨hcs,_⟩|⟨a,len,cap,m,n,D,Pl,hcs,_,hl,hm,hmm,hx,hc⟩
 ·simp at hcs;subst hcs;exact⟨none,0,[],rfl,by intro m hm;simp at hm,Nat.zero_le _,fun q=>absurd rfl q,fun _=>⟨rfl,rfl⟩⟩
 ·simp at hcs;subst hcs;simp at hmm;subst hmm;obtain⟨b,off,spot⟩:=a;rw[hx] at hb;simp only[Rows.uptoBulk] at hb;have each:∀i,i<len→∃g:Mf,(∀j v,g.arr[j]? =some v→W.cell? ((⟨b,off,spot⟩:Addr).add (i*7+j))=some v)∧g.raw:=by
   intro i hi;obtain⟨cs',h1,h2⟩:=hc i (by omega);rw[cells37] at h1;obtain⟨_,hln,hcell⟩:=World.cells?_some h1;obtain⟨g,e,hg⟩:=open_mf hln h2;refine⟨g,fun j v hv=>?_,hg⟩;have hj:j<7:=(Array.getElem?_eq_some_iff.1 hv).1;have q:=hcell j (by omega);rw[add_add] at q;rw[q];subst e;simp only[Array.getElem?_toList] at*;first
    |(rw[hv];done)
    |(simp[hv];done)
    |(have:=(Array.getElem?_eq_some_iff.1 hv).2;simp[this])
  haveI:Inhabited Mf:=⟨mf0⟩;obtain⟨f,hf⟩:=choose_lt each;have hspot:0<len→spot=none:=by intro h0;have:=(hf 0 h0).1 0 (.string (f 0).prog) rfl;simpa[Addr.add] using World.cell?_spot this
  have hlen:=bulk_len ((List.range len).map D);simp at hlen;refine⟨some ⟨b,off,spot⟩,m,(List.range len).map f,by simp,?_,by simp;omega,fun hne=>?_,fun q=>by simp at q⟩
  ·intro g hg;obtain⟨i,hi,rfl⟩:=List.mem_map.1 hg;exact(hf i (by simpa using hi)).2
  ·have h0:0<len:=by
    rcases Nat.eq_zero_or_pos len with q|q
    ·subst q;exact absurd rfl hne
    ·exact q
   have hsp:=hspot h0;subst hsp;have hrow:MfRow W b off ((List.range len).map f):=by
    intro i z hz j v hv;have hi:i<len:=by have:=(List.getElem?_eq_some_iff.1 hz).1;simpa using this
    have hz':f i=z:=by simpa[hi] using hz
    subst hz';have q:=(hf i hi).1 j v hv;rw[Addr.add_lit,←Nat.add_assoc] at q;exact q
   exact⟨b,off,rfl,hrow,World.block_lt_of_cell? _ _ (hrow 0 (f 0) (by simp[h0]) 1 _ rfl)⟩
set_option maxRecDepth 100000 in
theorem open_op {cs:List Value} (hl:cs.length=5) (h:DataW.trod enc Tryz.prog W 0 (fun _=>true) true fuel 42 cs=some x):6≤Rows.uptoBulk x.1∧(Rows.uptoBulk x.1≤1048576→∃o:SOp,cs=o.arr.toList∧o.ok W W.heap.size):=by
 obtain⟨xs,k,hk,hxy,_,hxl,hf⟩:=DataW.trod_struct Tryz.underlying42 h;match xs,hxl,cs,hl with
 |[y1,y2,y3,y4,y5],_,[v1,v2,v3,v4,v5],_=>rw[hxy];simp only[List.map_cons,List.map_nil,Rows.uptoBulk,Rows.uptoBulkAll];have o1:=bulk_one y1.1;have o2:=bulk_one y2.1;have o3:=bulk_one y3.1;have o4:=bulk_one y4.1;have o5:=bulk_one y5.1;refine⟨by omega,fun hb=>?_⟩;have g1:=hf 0 _ rfl;have g2:=hf 1 _ rfl;have g3:=hf 2 _ rfl;have g4:=hf 3 _ rfl;have g5:=hf 4 _ rfl;simp[cells38,cells40,cells3] at g1 g2 g3 g4 g5;obtain⟨z1,q1,_,w1⟩:=DataW.trod_int Tryz.underlying3 g1;obtain⟨z2,q2,_,w2⟩:=DataW.trod_int Tryz.underlying3 g2;obtain⟨mo,mc,ms,q3,m1,m2,m3,m4⟩:=open_mfs g3 (by omega);obtain⟨z4,q4,_,w4⟩:=DataW.trod_int Tryz.underlying3 g4;obtain⟨dO,dc,dl,q5,d1,d2⟩:=open_drs g5 (by omega);simp at q1 q2 q4;subst q1 q2 q3 q4 q5;exact⟨⟨z1,z2,ms,z4,dl,mo,mc,dO,dc⟩,rfl,bounds_i64 w2,bounds_i64 w4,m1,m2,m3,m4,d1,d2⟩
theorem open_ops {a0:Option Addr} {len cap:Nat} (h:DataW.trod enc Tryz.prog W 0 (fun _=>true) true fuel 22 [.slice a0 len cap]=some x) (hb:Rows.uptoBulk x.1≤1048576): ∃l:List SOp,l.length=len∧len≤175000∧OpRow W W.heap.size a0 l:=by
 rcases open_slice Tryz.underlying22 h with ⟨hcs,_⟩|⟨a,len',cap',m,n,D,Pl,hcs,_,hl,hm,hmm,hx,hc⟩
 ·simp at hcs;obtain⟨rfl,rfl,rfl⟩:=hcs;exact⟨[],rfl,Nat.zero_le _,by intro i o ho;simp at ho⟩
 ·simp at hcs;obtain⟨rfl,rfl,rfl⟩:=hcs;simp at hmm;subst hmm;obtain⟨b,off,spot⟩:=a;rw[hx] at hb;simp only[Rows.uptoBulk] at hb;have six:∀d∈(List.range len).map D,6≤Rows.uptoBulk d:=by intro d hd;obtain⟨i,hi,rfl⟩:=List.mem_map.1 hd;obtain⟨cs',h1,h2⟩:=hc i (by have q:i<len:=(by simpa using hi);omega);rw[cells42] at h1;obtain⟨_,hln,_⟩:=World.cells?_some h1;exact(open_op hln h2).1
  have hmany:=bulk_many 6 _ six;simp at hmany;have each:∀i,i<len→∃o:SOp,(∀j v,o.arr[j]? =some v→W.cell? ((⟨b,off,spot⟩:Addr).add (i*5+j))=some v)∧o.ok W W.heap.size:=by
   intro i hi;obtain⟨cs',h1,h2⟩:=hc i (by omega);rw[cells42] at h1;obtain⟨_,hln,hcell⟩:=World.cells?_some h1;have hp:Rows.uptoBulk (D i)≤Rows.uptoBulkAll ((List.range len).map D):=bulk_part (List.mem_map.2 ⟨i,by simpa using hi,rfl⟩);obtain⟨o,e,ho⟩:=(open_op hln h2).2 (by show Rows.uptoBulk (D i)≤_;omega);refine⟨o,fun j v hv=>?_,ho⟩;have hj:j<5:=(Array.getElem?_eq_some_iff.1 hv).1;have q:=hcell j (by omega);rw[add_add] at q;rw[q];subst e;simp only[Array.getElem?_toList] at*;first
    |(rw[hv];done)
    |(simp[hv];done)
    |(have:=(Array.getElem?_eq_some_iff.1 hv).2;simp[this])
  haveI:Inhabited SOp:=⟨⟨0,0,[],0,[],none,0,none,0⟩⟩;obtain⟨f,hf⟩:=choose_lt each;have hspot:0<len→spot=none:=by intro h0;have:=(hf 0 h0).1 0 (.int .i64 (f 0).kind) rfl;simpa[Addr.add] using World.cell?_spot this
  refine⟨(List.range len).map f,by simp,by omega,?_⟩;intro i o ho;have hi:i<len:=by have:=(List.getElem?_eq_some_iff.1 ho).1;simpa using this
  have hsp:=hspot (by omega);subst hsp;have hz':f i=o:=by simpa[hi] using ho
  subst hz';have key:∀j v,(f i).arr[j]? =some v→W.cell? ⟨b,off+i*5+j,none⟩=some v:=by intro j v hv;have q:=(hf i hi).1 j v hv;rw[Addr.add_lit,←Nat.add_assoc] at q;exact q
  exact⟨b,off,rfl,World.block_lt_of_cell? _ _ (key 0 _ rfl),key,(hf i hi).2⟩
end
end Go.Proofs.YtidaflmmldefcaaGreat
