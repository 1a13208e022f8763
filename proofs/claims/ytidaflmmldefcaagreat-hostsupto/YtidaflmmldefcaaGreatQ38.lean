/- Parts of the proof of Hosts: RnF. -/
import Derived.Test.YtidaflmmldefcaaGreatQ37
import Derived.Test.YtidaflmmldefcaaGreatQ27
import Derived.Test.YtidaflmmldefcaaGreatQ21
set_option maxHeartbeats 16000000
namespace Go.Proofs.YtidaflmmldefcaaGreat
open Go.RowKit
set_option linter.unusedVariables false
theorem tree_small {l:List Tr.T.Nd} (h:Tr.T.isTree l=true):Tr.ndSmall l:=by
 intro x hx;have q:=Tr.T.isTree_ok h x hx;unfold Tr.T.okNd at q;rw[Bool.and_eq_true] at q;have q2:=Tr.T.isText_len q.2;have e:(Tr.T.bts x.2.2).length=x.2.2.size:=by simp[Tr.T.bts]
 omega
theorem mlCells_length:∀l:List Lt,(mlCells l).length=l.length*3
 |[]=>rfl
 |x::r=>by
  have e:mlCells (x::r)=[.int .i64 x.1,.int .i64 x.2.1,.int .i64 x.2.2]++mlCells r:=rfl;rw[e,List.length_append,mlCells_length r];simp;omega
theorem mlCells_app (a b:List Lt):mlCells (a++b)=mlCells a++mlCells b:=by simp[mlCells]
theorem mlCells_one (l:List Lt):∀u∈mlCells l,u.oneCell'=true:=by
 intro u hu;simp only[mlCells,List.mem_flatMap] at hu;obtain⟨x,_,h⟩:=hu;simp at h;rcases h with rfl|rfl|rfl<;>rfl
theorem mlCells_at:∀(l:List Lt) (i:Nat) (x:Lt),l[i]? =some x→(mlCells l)[i*3]? =some (.int .i64 x.1)∧(mlCells l)[i*3+1]? =some (.int .i64 x.2.1)∧(mlCells l)[i*3+2]? =some (.int .i64 x.2.2)
 |[],i,x,h=>by simp at h
 |y::r,0,x,h=>by simp at h;subst h;simp[mlCells]
 |y::r,i+1,x,h=>by
  have:=mlCells_at r i x (by simpa using h);simp only[mlCells,List.flatMap_cons] at*;rw[show(i+1)*3=i*3+3 by omega];simpa using this
theorem own_new4 (w:World) (a b c d:Int):(w.alloc (.cells #[.int .u8 a,.int .u8 b,.int .u16 c,.int .u8 d] 78)).ownsRow w.heap.size 78 4 (.slice (some ⟨w.heap.size,0,none⟩) 1 1) [(⟨a,b,c,d⟩:Ev)].length (evCells [⟨a,b,c,d⟩]):=by
 refine⟨rfl,Or.inr ⟨w.heap.size,1,#[.int .u8 a,.int .u8 b,.int .u16 c,.int .u8 d],rfl,Nat.le_refl _,Blk.new w _ 78,?_,?_,?_,rfl⟩⟩
 ·exact Nat.le_refl _
 ·unfold maxLen;decide
 ·simp
theorem start_eq {x:Tn} (h:x.box=[]) (route:Int):x.start route={x with phase:=1,box:=[⟨0,0,route,0⟩]}:=by unfold Tn.start;rw[h];rfl
def heldTo (n:Int) (k:Nat) (held:List Int):Prop:=∀(j:Nat) (v:Int),held[j]? =some v→v≤n-1+(if j<k then 1 else 0)
theorem heldTo.next {n:Int} {k:Nat} {held:List Int} (h:heldTo n k held):heldTo n (k+1) held:=by
 intro j v hv;have:=h j v hv;split at this<;>split<;>omega
theorem heldTo.set {n:Int} {k:Nat} {held:List Int} (h:heldTo n k held) {q:Int} (hq:held[k]? =some q):heldTo n (k+1) (held.set k (q+1)):=by
 intro j v hv;by_cases e:j=k
 ·subst e;rw[List.getElem?_set_self (List.getElem?_eq_some_iff.1 hq).1] at hv;have:=Option.some.inj hv;have h1:=h j q hq;rw[if_neg (by omega)] at h1;rw[if_pos (by omega)];omega
 ·rw[List.getElem?_set_ne (fun q=>e q.symm)] at hv;exact h.next j v hv
theorem heldTo.ran {n:Int} {k:Nat} {held:List Int} (h:heldTo n k held) {q:Int} (hq:held[k]? =some q) (x:Tn) (m route:Int) (ds:List Int):heldTo n (k+1) (x.heldIf m route ds k q held):=by
 unfold Tn.heldIf;split
 ·exact h.next
 ·exact h.set hq
section
variable {w w' : World} {R : RB} {H : Hs} {held : List Int}
set_option maxRecDepth 100000 in
theorem rframe_any (h:RefAt w R H held) {ms:List Mf} (hI:HI ms H) (hm:ms.length≤4) (hne:H.ts≠[]) (dao:Option Addr) (dcap:Nat) (dl:List (List Int)) (hdl:dl.length≤maxLen) (hin:∀l∈dl,InR l) (hd:DrsK (refOwn R) w dao dl) (hh:∀k∈held,k≤H.frames): Calls Tryz.prog 39 #[.pointer (some ⟨R.rb,0,none⟩),.slice dao dl.length dcap] w fun e w'=>e= .returned (.int .i64 H.frameE)∧∃held',RAft w R (H.frame dl) held' w'∧∀k∈held',k≤(H.frame dl).frames:=by
 obtain⟨i0,hi,hz0,hz1,hz2⟩:=info_parts info118;have HH:Hid (RefAt w R H held):=h;have hfit:=hI.fit hm hin;have c2:w.cell? ⟨R.rb,2,none⟩=some (.int .i64 H.frames):=by rw[h.host.cell 2];rfl
 have f2:=h.host.free 2;by_cases h200:200≤H.frames
 ·have HE:Hid (H.frameE=9∧H.frame dl=H):=by unfold Hid Hs.frameE Hs.frame;rw[if_pos h200,if_pos h200];exact⟨rfl,rfl⟩
  have Hh:Hid (∀k∈held,k≤H.frames):=hh;clear h hd hh;go_enter Tryz.func39,Tryz.ntmps39;go_wp2;go_ret;rw[HE.out.1,HE.out.2];exact⟨rfl,held,RAft.refl HH.out,Hh.out⟩
 ·have HE:Hid (H.frameE=0∧H.frame dl={H with frames:=H.frames+1,ts:=H.posted dl (H.post dl).length}):=by unfold Hid Hs.frameE Hs.frame;rw[if_neg h200,if_neg h200,posted_all];exact⟨rfl,rfl⟩
  obtain⟨n1,hn1⟩:∃n1,n1=H.frames+1:=⟨_,rfl⟩;have hr:=hfit.frames;have hw1:IntKind.i64.wrap (H.frames+1)=n1:=by rw[IntKind.wrap_i64,hn1];omega
  have hn10:0≤n1:=by omega
  have hn11:n1≤201:=by omega
  obtain⟨hr0,hr1⟩:=hI.route;obtain⟨rt,hrt⟩:∃rt,rt=H.route:=⟨_,rfl⟩;have HRt:Hid (H.route=rt):=hrt.symm;obtain⟨fc,hfc⟩:∃fc:Nat→Tn→Tn,fc=fun _ x=>x.come n1 rt:=⟨_,rfl⟩;obtain⟨fr,hfr⟩:∃fr:Nat→Tn→Tn,fr=fun i x=>x.turn n1 rt (drawsOf dl i):=⟨_,rfl⟩;have HFc:Hid (∀i x,fc i x=x.come n1 rt):=by intro i x;rw[hfc]
  have HFr:Hid (∀i x,fr i x=x.turn n1 rt (drawsOf dl i)):=by intro i x;rw[hfr]
  obtain⟨N,hN⟩:∃N,N=H.ts.length:=⟨_,rfl⟩;have HN:Hid (H.ts.length=N):=hN.symm;obtain⟨C,hC⟩:∃C,C=H.came:=⟨_,rfl⟩;have HCa:Hid (upTo fc N H.ts=C):=by unfold Hid;rw[hN,upTo_all,hC,hfc,hn1,hrt];rfl
  have HCl:Hid (C.length=N):=by unfold Hid;rw[hC,hN];simp[Hs.came]
  have HTu:Hid (upTo fr N C=H.turned dl):=by unfold Hid;rw[←HCl.out,upTo_all,hC,hfr,hn1,hrt];rfl
  obtain⟨pt,hpt⟩:∃pt:Nat→List Lt,pt=postTo C n1 rt dl:=⟨_,rfl⟩;have HPt:Hid (∀k x,C[k]? =some x→pt (k+1)=pt k++lettersOf k (x.gives n1 rt (drawsOf dl k))):=by intro k x hx;rw[hpt];show postTo C n1 rt dl k++_=_;rw[hx]
  have HP0:Hid (pt 0=[]):=by unfold Hid;rw[hpt];rfl
  have HPo:Hid (pt N=H.post dl):=by unfold Hid;rw[hpt,hN,hC,hn1,hrt];rfl
  have HOkC:Hid (∀x∈C,(x.ok∧x.mf.good∧Tr.ndSmall x.nodes)∧∀i,(x.gives n1 rt (drawsOf dl i)).length≤4):=by intro x hx;rw[hC] at hx;rw[hn1,hrt];obtain⟨i,hx2⟩:=hI.came.mem hx;exact⟨⟨hfit.came x hx,hx2.good,tree_small hx2.tree⟩,fun i=>hfit.gives x hx i⟩
  have HOkS:Hid (∀x∈H.ts,(0≤x.routes∧x.routes≤255)∧(x.phase=0∨x.phase=1∨x.phase=2)∧(x.phase=0→x.box=[])):=by intro x hx;obtain⟨i,hx2⟩:=hI.ten.mem hx;obtain⟨o1,o2,o3⟩:=hfit.start x hx;exact⟨⟨o2,o3⟩,hx2.phase,fun hp=>(hx2.out hp).2.2⟩
  have HOkP:Hid (∀k,∀x∈H.posted dl k,x.box.length≤100000∧x.log.length≤100000∧0≤x.sub∧x.sub≤255∧∀e∈x.box,e.ok):=by intro k x hx;obtain⟨o1,o2,o3,o4⟩:=hfit.posted k x hx;obtain⟨i,hx2⟩:=(hI.posted hm hin k).mem hx;exact⟨o1,o2,o3,o4,fun e he=>(hx2.box e he).1⟩
  have HOkL:Hid (∀L∈H.post dl,(0≤L.1∧L.1≤200)∧(0≤L.2.1∧L.2.1≤16)∧0≤L.2.2∧L.2.2≤65535):=by intro L hL;obtain⟨s,m,_,_,⟨h3,h4⟩,h5,_⟩:=(hI.post hm hin).2 L hL;exact⟨(hfit.post L hL).1,⟨h3,by omega⟩,h5⟩
  have HPs:Hid (∀k L,(H.post dl)[k]? =some L→H.posted dl (k+1)=deliver n1 (H.posted dl k) L):=by intro k L hL;rw[hn1];exact posted_step H dl hL
  have hN4:N≤4:=by rw[hN];exact hfit.len
  have HDr:Hid (DrsK (refOwn R) w dao dl):=hd;have HF0:Hid (RAft w R {H with frames:=n1} held (w.setCell ⟨R.rb,2,none⟩ (.int .i64 n1))):=h.lay_now n1;have HEn:Hid (H.frame dl={H with frames:=n1,ts:=H.posted dl (H.post dl).length}):=by unfold Hid;rw[HE.out.2,hn1]
  have HPz:Hid (H.posted dl 0=H.turned dl):=posted_zero H dl;have HPl:Hid (∀k,(H.posted dl k).length=N):=by intro k;rw[posted_length];exact hN.symm
  have HHd:Hid (heldTo n1 0 held):=by intro j v hv;have:=hh v (List.mem_of_getElem? hv);rw[if_neg (by omega)];omega
  rw[←hrt] at hr0 hr1;clear h hd hfit hI hne hn1 hN hfc hfr hC hpt hh hin hrt;go_enter Tryz.func39,Tryz.ntmps39;go_upto_region 5 with fail
  go_loopw [5] (fun i wr=>∃k:Nat,k≤N∧i= .int .i64 k∧Hid (RAft w R {H with frames:=n1,ts:=upTo fc k H.ts} held wr))
   (fun i _=>N-(intOf i).toNat)
  case atStart=>exact⟨0,Nat.zero_le _,rfl,by rw[upTo_zero];exact HF0.out⟩
  case round=>
   obtain⟨k,hk,rfl,HA⟩:=hrel;clear c2 f2;by_cases hlt:k<N
   ·obtain⟨x,hx⟩:∃x,H.ts[k]? =some x:=⟨H.ts[k]'(by have:=HN.out;omega),List.getElem?_eq_getElem (by have:=HN.out;omega)⟩;obtain⟨nv,bv,lv,a1,a2,a3⟩:=HA.out;have hx1:({H with frames:=n1,ts:=upTo fc k H.ts}:Hs).ts[k]? =some x:=by show(upTo fc k H.ts)[k]? =_;rw[upTo_get];exact hx
    have hlen:(upTo fc k H.ts).length=N:=by rw[upTo_length];exact HN.out
    obtain⟨⟨ok1,ok2⟩,ok3,ok4⟩:=HOkS.out x (List.mem_of_getElem? hx);have HSt:Hid (∀x',x.come n1 rt=x'→upTo fc (k+1) H.ts=(upTo fc k H.ts).set k x'):=by intro x' he;rw[←upTo_step fc hx,HFc.out,he]
    have HBx:Hid (x.phase=0→x.box=[]):=ok4;have HSs:Hid ((upTo fc k H.ts).set k x=upTo fc k H.ts):=set_self2 hx1;have hki:(k:Int)<(N:Int):=by omega
    have hk0:(0:Int)≤(k:Int):=by omega
    obtain⟨on,hon⟩:∃on,on=bitOf x.routes rt:=⟨_,rfl⟩;have HBit:Hid (∀u,Calls Tryz.prog 48 #[.int .u8 x.routes,.int .i64 rt] u fun e w'=>e= .returned (.bool on)∧u=w'):=by rw[hon];exact fun u=>rhas_any x.routes rt u ok1 ok2 hr0 (by omega)
    have HCo:Hid (x.come n1 rt=x.comeOn n1 rt on):=by rw[hon];rfl
    have HRA:Hid (∀u,Below wr.heap.size wr u→RefAt u {R with nv:=nv,bv:=bv,lv:=lv} {H with frames:=n1,ts:=upTo fc k H.ts} held):=fun u hu=>a1.below hu;have HRX:Hid (({H with frames:=n1,ts:=upTo fc k H.ts}:Hs).ts[k]? =some x∧(upTo fc k H.ts).length=N):=⟨hx1,hlen⟩;have HFin:Hid (∀(x':Tn) (u w2:World),Below wr.heap.size wr u→x.come n1 rt=x'→RAft u {R with nv:=nv,bv:=bv,lv:=lv} {H with frames:=n1,ts:=(upTo fc k H.ts).set k x'} held w2→Hid (RAft w R {H with frames:=n1,ts:=upTo fc (k+1) H.ts} held w2)):=by intro x' u w2 hu he hq;unfold Hid;rw[HSt.out x' he];exact RAft.trans (H1:=H) (held1:=held) a2 a3 (RAft.of_below hu hq)
    have HOut:Hid (∀u,Below wr.heap.size wr u→Calls Tryz.prog 49 #[.pointer (some ⟨R.rb,0,none⟩),.int .i64 k] u fun e w'=>e= .returned (.tuple #[])∧RAft u {R with nv:=nv,bv:=bv,lv:=lv} {H with frames:=n1,ts:=(upTo fc k H.ts).set k x.goOut} held w'):=fun u hu=>rout_any (a1.below hu) hx1 (by show(upTo fc k H.ts).length≤4;rw[hlen];exact hN4);have hnr:IntKind.u16.wrap rt=rt:=by rw[IntKind.wrap_u16];omega
    obtain⟨r0,r3,r4,r5,r6,r8,r9⟩:RC wr R N:=a1.cells hlen;have r1:wr.cell? ⟨R.rb,1,none⟩=some (.int .i64 rt):=by rw[a1.host.cell 1,←HRt.out];rfl
    have r2:wr.cell? ⟨R.rb,2,none⟩=some (.int .i64 n1):=by rw[a1.host.cell 2];rfl
    have m2:wr.cell? ⟨R.m,k*7+2,none⟩=some (.int .u8 x.routes):=a1.mf hx1 2 (by decide);have p0:wr.cell? ⟨R.p,k,none⟩=some (.int .i64 x.phase):=own_cellN a1.rp (by rw[List.getElem?_map,hx1];rfl);have u0:wr.cell? ⟨R.u,k,none⟩=some (.int .i64 x.until_):=own_cellN a1.ru (by rw[List.getElem?_map,hx1];rfl);clear hx hx1 hlen a1 a2 a3 hon HSt ok1 ok2;go_wp2_with fail;go_quiet ((go_at_call 48;exact(HBit.out _).mono fun _ _ h=>⟨h.1,_,h.2.symm⟩));obtain⟨U,hU⟩:∃U,U=wr.drewN nq:=⟨_,rfl⟩;have HBU:Hid (Below wr.heap.size wr U):=by unfold Hid;rw[hU];exact⟨rfl,rfl,rfl,Nat.le_refl _,fun _ _=>rfl⟩
    have HRU:=show Hid _ from HRA.out U HBU.out;rw[←hU];clear hU r0 r3 r4 r5 r6 r8 r9 r1 r2 m2 p0 u0 HBit;obtain⟨r0,r3,r4,r5,r6,r8,r9⟩:RC U R N:=HRU.out.cells HRX.out.2;have r2:U.cell? ⟨R.rb,2,none⟩=some (.int .i64 n1):=by rw[HRU.out.host.cell 2];rfl
    have p0:U.cell? ⟨R.p,k,none⟩=some (.int .i64 x.phase):=own_cellN HRU.out.rp (by rw[List.getElem?_map,HRX.out.1];rfl);have u0:U.cell? ⟨R.u,k,none⟩=some (.int .i64 x.until_):=own_cellN HRU.out.ru (by rw[List.getElem?_map,HRX.out.1];rfl);have HNo:Hid (∀w2,Below U.heap.size U w2→x.come n1 rt=x→Hid (RAft w R {H with frames:=n1,ts:=upTo fc (k+1) H.ts} held w2)):=by intro w2 hb he;refine HFin.out x U w2 HBU.out he ?_;rw[HSs.out];exact(RAft.refl HRU.out).below hb
    have HBd:Hid (∀q,Below U.heap.size U (U.drewN q)):=fun q=>⟨rfl,rfl,rfl,Nat.le_refl _,fun _ _=>rfl⟩;have HOu:Hid (∀q,Calls Tryz.prog 49 #[.pointer (some ⟨R.rb,0,none⟩),.int .i64 k] (U.drewN q) fun e w'=>e= .returned (.tuple #[])∧RC w' R N∧(w'.cell? ⟨R.rb,1,none⟩=some (.int .i64 rt)∧w'.cell? ⟨R.p,k,none⟩=some (.int .i64 0)∧w'.frozen? ⟨R.p,k,none⟩=false)∧(∃bv,w'.cell? ⟨R.b,k,none⟩=some bv∧w'.frozen? ⟨R.b,k,none⟩=false)∧Hid (∀w2,Below w'.heap.size w' w2→x.come n1 rt=x.goOut→Hid (RAft w R {H with frames:=n1,ts:=upTo fc (k+1) H.ts} held w2))∧Hid (x.come n1 rt=x.goOut.start rt→∀ob:Obj,ob= .cells #[.int .u8 0,.int .u8 0,.int .u16 rt,.int .u8 0] 78→∀W2:World,W2=(w'.setCell ⟨R.p,k,none⟩ (.int .i64 1))→W2.cell? ⟨R.rb,6,none⟩=some (.slice (some ⟨R.b,0,none⟩) N R.bc)∧W2.cell? ⟨R.rb,1,none⟩=some (.int .i64 rt)∧(∃bv,W2.cell? ⟨R.b,k,none⟩=some bv∧W2.frozen? ⟨R.b,k,none⟩=false)∧Hid (RAft w R {H with frames:=n1,ts:=upTo fc (k+1) H.ts} held ((W2.alloc ob).setCell ⟨R.b,k,none⟩ (.slice (some ⟨W2.heap.size,0,none⟩) 1 1))))):=by
     intro q;have hbq:Below wr.heap.size wr (U.drewN q):=HBU.out.trans ((HBd.out q).mono HBU.out.size);refine(HOut.out _ hbq).mono ?_;rintro e w1 ⟨rfl,ha⟩;have hx1:({H with frames:=n1,ts:=(upTo fc k H.ts).set k x.goOut}:Hs).ts[k]? =some x.goOut:=List.getElem?_set_self (List.getElem?_eq_some_iff.1 HRX.out.1).1;have hl1:((upTo fc k H.ts).set k x.goOut).length=N:=by rw[List.length_set];exact HRX.out.2
     have hc:=ha.cells (n:=N) hl1;refine⟨rfl,hc,⟨?_,(ha.phase hx1).1,(ha.phase hx1).2⟩,ha.boxc hx1,fun w2 hb he=>HFin.out _ _ _ hbq he (ha.below hb),?_⟩
     ·obtain⟨nv,bv,lv,b1,_,_⟩:=ha;rw[b1.host.cell 1,←HRt.out];rfl
     ·intro he ob hob W2 hW2;have ha2:RAft (U.drewN q) {R with nv:=nv,bv:=bv,lv:=lv} {H with frames:=n1,ts:=(upTo fc k H.ts).set k {x.goOut with phase:=1}} held W2:=by rw[hW2];refine ha.go fun nv2 bv2 lv2 rr=>?_;have z:=rr.lay_phase hx1 1;simp only[List.set_set] at z;exact z
      have hx2:({H with frames:=n1,ts:=(upTo fc k H.ts).set k {x.goOut with phase:=1}}:Hs).ts[k]? =some {x.goOut with phase:=1}:=List.getElem?_set_self (List.getElem?_eq_some_iff.1 HRX.out.1).1;have hl2:((upTo fc k H.ts).set k {x.goOut with phase:=1}).length=N:=by rw[List.length_set];exact HRX.out.2
      obtain⟨_,_,_,_,y6,_,_⟩:=ha2.cells (n:=N) hl2;refine⟨y6,?_,ha2.boxc hx2,HFin.out _ _ _ hbq he ?_⟩
      ·obtain⟨nv,bv,lv,b1,_,_⟩:=ha2;rw[b1.host.cell 1,←HRt.out];rfl
      ·rw[start_eq rfl];refine ha2.go fun nv2 bv2 lv2 rr=>?_;have z:=rr.lay_box hx2 (l:=[⟨0,0,rt,0⟩]) ((Below.refl _ _).alloc (Nat.le_refl _) ob) (by rw[hob];exact own_new4 W2 _ _ _ _);simp only[List.set_set] at z;exact z
    have HSt0:Hid (∀q,x.phase=0→x.come n1 rt=x.start rt→∀ob:Obj,ob= .cells #[.int .u8 0,.int .u8 0,.int .u16 rt,.int .u8 0] 78→∀W2:World,W2=((U.drewN q).setCell ⟨R.p,k,none⟩ (.int .i64 1))→W2.cell? ⟨R.rb,6,none⟩=some (.slice (some ⟨R.b,0,none⟩) N R.bc)∧W2.cell? ⟨R.rb,1,none⟩=some (.int .i64 rt)∧(∃bv,W2.cell? ⟨R.b,k,none⟩=some bv∧W2.frozen? ⟨R.b,k,none⟩=false)∧Hid (RAft w R {H with frames:=n1,ts:=upTo fc (k+1) H.ts} held ((W2.alloc ob).setCell ⟨R.b,k,none⟩ (.slice (some ⟨W2.heap.size,0,none⟩) 1 1)))):=by
     intro q hp0 he ob hob W2 hW2;have hbq:Below wr.heap.size wr (U.drewN q):=HBU.out.trans ((HBd.out q).mono HBU.out.size);have ha2:RAft (U.drewN q) {R with nv:=nv,bv:=bv,lv:=lv} {H with frames:=n1,ts:=(upTo fc k H.ts).set k {x with phase:=1}} held W2:=by rw[hW2];exact(HRA.out _ hbq).lay_phase HRX.out.1 1
     have hx2:({H with frames:=n1,ts:=(upTo fc k H.ts).set k {x with phase:=1}}:Hs).ts[k]? =some {x with phase:=1}:=List.getElem?_set_self (List.getElem?_eq_some_iff.1 HRX.out.1).1;have hl2:((upTo fc k H.ts).set k {x with phase:=1}).length=N:=by rw[List.length_set];exact HRX.out.2
     obtain⟨_,_,_,_,y6,_,_⟩:=ha2.cells (n:=N) hl2;refine⟨y6,?_,ha2.boxc hx2,HFin.out _ _ _ hbq he ?_⟩
     ·obtain⟨nv,bv,lv,b1,_,_⟩:=ha2;rw[b1.host.cell 1,←HRt.out];rfl
     ·rw[start_eq (HBx.out hp0)];refine ha2.go fun nv2 bv2 lv2 rr=>?_;have z:=rr.lay_box hx2 (l:=[⟨0,0,rt,0⟩]) ((Below.refl _ _).alloc (Nat.le_refl _) ob) (by rw[hob];exact own_new4 W2 _ _ _ _);simp only[List.set_set] at z;exact z
    clear HOut;have fp0:U.frozen? ⟨R.p,k,none⟩=false:=own_freeN HRU.out.rp k;have r1:U.cell? ⟨R.rb,1,none⟩=some (.int .i64 rt):=by rw[HRU.out.host.cell 1,←HRt.out];rfl
    rcases ok3 with hp|hp|hp
    ·rw[hp] at p0;have HBx2:=ok4 hp;clear ok4;cases on with
     |false=>
      have he:x.come n1 rt=x:=by rw[HCo.out];exact come_c0 hp
      clear HCo;have HE:Hid (x.come n1 rt=x):=he;clear he;go_wp2_with fail;go_quiet (fail);go_wp2;go_roundw
      case rel=>exact⟨k+1,by omega,by go_num,HNo.out _ (HBd.out _) HE.out⟩
      case measure=>simp[intOf];omega
     |true=>
      have he:x.come n1 rt=x.start rt:=by rw[HCo.out];exact come_c1 hp
      have HE:Hid (x.come n1 rt=x.start rt):=he;have HP:Hid (x.phase=0):=hp;clear he HCo hp;go_wp2_with fail;go_quiet (fail);go_upto_region 14 with fail
      obtain⟨W2,hW2⟩:∃W2,W2=(U.drewN nq).setCell ⟨R.p,k,none⟩ (.int .i64 1):=⟨_,rfl⟩;obtain⟨y6,y1,⟨ob,yb,yf⟩,HF⟩:=HSt0.out nq HP.out HE.out _ rfl W2 hW2;rw[←hW2];have hb1:R.rb<W2.heap.size:=World.block_lt_of_cell? _ _ y6;have hb2:R.b<W2.heap.size:=World.block_lt_of_cell? _ _ yb;have hn1':¬R.rb=W2.heap.size:=by omega
      have hn2':¬R.b=W2.heap.size:=by omega
      clear hW2;go_big_region;go_wp2;go_roundw
      case rel=>exact⟨k+1,by omega,by go_num,by have z:=HF.out;rw[World.setCell_alloc_past _ _ _ _ hb2] at z;exact z.below ((Below.refl _ _).drew)⟩
      case measure=>simp[intOf];omega
    ·rw[hp] at p0;cases on with
     |true=>
      have HE:Hid (x.come n1 rt=x):=by unfold Hid;rw[HCo.out];exact come_b1 hp
      clear HCo hp;go_wp2_with fail;go_quiet (fail);go_wp2;go_roundw
      case rel=>exact⟨k+1,by omega,by go_num,HNo.out _ (HBd.out _) HE.out⟩
      case measure=>simp[intOf];omega
     |false=>
      have HE:Hid (x.come n1 rt=x.goOut):=by unfold Hid;rw[HCo.out];exact come_b0 hp
      clear HCo hp;go_wp2_with fail;go_quiet (fail);go_wp2_with fail;refine(HOu.out nq).mono ?_;rintro e w1 ⟨rfl,⟨x0,x3,x4,x5,x6,x8,x9⟩,⟨x1,xp,xf⟩,⟨bv1,xb,xbf⟩,HZ1,HZ2⟩;clear r0 r3 r4 r5 r6 r8 r9 r1 r2 p0 u0 fp0 HOu;go_wp2;go_roundw
      case rel=>exact⟨k+1,by omega,by go_num,HZ1.out _ (Below.refl _ _) HE.out⟩
      case measure=>simp[intOf];omega
    ·rw[hp] at p0;by_cases hu:x.until_≤n1
     ·cases on with
      |true=>
       have HE:Hid (x.come n1 rt=x.goOut.start rt):=by unfold Hid;rw[HCo.out];exact come_a1 ⟨hp,hu⟩
       clear HCo hp;go_wp2_with fail;go_quiet (fail);go_wp2_with fail;refine(HOu.out nq).mono ?_;rintro e w1 ⟨rfl,⟨x0,x3,x4,x5,x6,x8,x9⟩,⟨x1,xp,xf⟩,⟨bv1,xb,xbf⟩,HZ1,HZ2⟩;clear r0 r3 r4 r5 r6 r8 r9 r1 r2 p0 u0 fp0 HOu;go_upto_region 14 with fail
       obtain⟨W2,hW2⟩:∃W2,W2=w1.setCell ⟨R.p,k,none⟩ (.int .i64 1):=⟨_,rfl⟩;obtain⟨y6,y1,⟨ob,yb,yf⟩,HF⟩:=HZ2.out HE.out _ rfl W2 hW2;rw[←hW2];have hb1:R.rb<W2.heap.size:=World.block_lt_of_cell? _ _ y6;have hb2:R.b<W2.heap.size:=World.block_lt_of_cell? _ _ yb;have hn1':¬R.rb=W2.heap.size:=by omega
       have hn2':¬R.b=W2.heap.size:=by omega
       clear hW2;go_big_region;go_wp2;go_roundw
       case rel=>exact⟨k+1,by omega,by go_num,by have z:=HF.out;rw[World.setCell_alloc_past _ _ _ _ hb2] at z;exact z.below ((Below.refl _ _).drew)⟩
       case measure=>simp[intOf];omega
      |false=>
       have HE:Hid (x.come n1 rt=x.goOut):=by unfold Hid;rw[HCo.out];exact come_a0 ⟨hp,hu⟩
       clear HCo hp;go_wp2_with fail;go_quiet (fail);go_wp2_with fail;refine(HOu.out nq).mono ?_;rintro e w1 ⟨rfl,⟨x0,x3,x4,x5,x6,x8,x9⟩,⟨x1,xp,xf⟩,⟨bv1,xb,xbf⟩,HZ1,HZ2⟩;clear r0 r3 r4 r5 r6 r8 r9 r1 r2 p0 u0 fp0 HOu;go_wp2;go_roundw
       case rel=>exact⟨k+1,by omega,by go_num,HZ1.out _ (Below.refl _ _) HE.out⟩
       case measure=>simp[intOf];omega
     ·have HE:Hid (x.come n1 rt=x):=by unfold Hid;rw[HCo.out];exact come_d (fun z=>hu z.2) (by rw[hp];decide) (by rw[hp];decide)
      clear HCo hp;go_wp2_with fail;go_quiet (fail);go_wp2;go_roundw
      case rel=>exact⟨k+1,by omega,by go_num,HNo.out _ (HBd.out _) HE.out⟩
      case measure=>simp[intOf];omega
   ·have hkn:k=N:=by omega
    have hki:¬(k:Int)<(N:Int):=by omega
    have HA1:Hid (RAft w R {H with frames:=n1,ts:=C} held wr):=by have q:=HA.out;rw[hkn,HCa.out] at q;exact q
    obtain⟨r0,r3,r4,r5,r6,r8,r9⟩:RC wr R N:=HA1.out.cells HCl.out;clear HA HF0 HFc hkn;go_upto_region 17 with fail
    go_loopw [7,8] (fun p i wr=>∃(k m pc:Nat) (po:Option Addr) (hk:List Int),k≤N∧i= .int .i64 k∧p= .slice po m pc∧m≤4*k∧Hid ((pt k).length=m)∧Hid (RAft w R {H with frames:=n1,ts:=upTo fr k C} hk wr∧heldTo n1 k hk)∧Hid (wr.ownsRow w.heap.size 118 3 (.slice po m pc) m (mlCells (pt k))))
     (fun _ i _=>N-(intOf i).toNat)
    case atStart=>refine⟨0,0,0,none,held,Nat.zero_le _,rfl,rfl,Nat.le_refl _,by rw[HP0.out];rfl,⟨by rw[upTo_zero];exact HA1.out,HHd.out⟩,?_⟩;rw[HP0.out];exact World.ownsRow_nil _ _ _ _
    case round=>
     obtain⟨k,m,pc,po,hd,hk,rfl,rfl,hm4,HLn,HA,HP⟩:=hrel;clear r0 r3 r4 r5 r6 r8 r9 HA1;by_cases hlt:k<N
     ·obtain⟨x,hx⟩:∃x,C[k]? =some x:=⟨C[k]'(by have:=HCl.out;omega),List.getElem?_eq_getElem (by have:=HCl.out;omega)⟩;obtain⟨⟨nv,bv,lv,a1,a2,a3⟩,hht⟩:=HA.out;have hx1:({H with frames:=n1,ts:=upTo fr k C}:Hs).ts[k]? =some x:=by show(upTo fr k C)[k]? =_;rw[upTo_get];exact hx
      have hlen:(upTo fr k C).length=N:=by rw[upTo_length];exact HCl.out
      obtain⟨⟨ok1,ok2,ok3⟩,ok4⟩:=HOkC.out x (List.mem_of_getElem? hx);have HPk:=HPt.out k x hx;obtain⟨r0,r3,r4,r5,r6,r8,r9⟩:RC wr R N:=a1.cells hlen;have p0:wr.cell? ⟨R.p,k,none⟩=some (.int .i64 x.phase):=own_cellN a1.rp (by rw[List.getElem?_map,hx1];rfl);have hki:(k:Int)<(N:Int):=by omega
      have hk0:(0:Int)≤(k:Int):=by omega
      by_cases hp:x.phase=1
      ·rw[hp] at p0;obtain⟨S,hS⟩:∃S,S=x.sent n1 rt (drawsOf dl k):=⟨_,rfl⟩;have hgv:x.gives n1 rt (drawsOf dl k)=S:=by rw[hS];unfold Tn.gives;rw[if_pos hp]
       have htn:x.turn n1 rt (drawsOf dl k)=x.handle n1 rt (drawsOf dl k):=by unfold Tn.turn;rw[if_pos hp]
       rw[hgv] at HPk;have HPk':Hid (pt (k+1)=pt k++lettersOf k S):=HPk;have hS4:S.length≤4:=by rw[←hgv];exact ok4 k
       obtain⟨q,hq⟩:∃q,hd[k]? =some q:=⟨hd[k]'(by have:=a1.hlen;simp only at this;omega),List.getElem?_eq_getElem (by have:=a1.hlen;simp only at this;omega)⟩;have hqm:q≤1000:=by have:=hht k q hq;rw[if_neg (by omega)] at this;omega
       have HRun:Hid (∀(eo:Option Addr) (ec en:Nat),(∀u,Kept (refOwn {R with nv:=nv,bv:=bv,lv:=lv}) wr u→DrawsAt u eo en (drawsOf dl k) u.heap.size)→Calls Tryz.prog 50 #[.pointer (some ⟨R.rb,0,none⟩),.int .i64 k,.slice eo en ec] wr fun e w'=>∃go gc,e= .returned (.slice go S.length gc)∧Hid (∃hk2,RAft w R {H with frames:=n1,ts:=upTo fr (k+1) C} hk2 w'∧heldTo n1 (k+1) hk2)∧Hid (w'.ownsRow 0 118 3 (.slice go S.length gc) S.length (mlCells (lettersOf k S)))∧Hid (w'.ownsRow w.heap.size 118 3 (.slice po m pc) m (mlCells (pt k)))∧Hid (∀j,Value.ownBlock (.slice go S.length gc)=some j→wr.heap.size≤j)):=by
        intro eo ec en hdr;have z:=rrun_any a1 hx1 (by show(upTo fr k C).length≤4;rw[hlen];exact hN4) ok1 ok2 ok3 (by show 0≤n1;omega) (by show n1≤1000;omega) (by show 0≤H.route;rw[HRt.out];exact hr0) (by show H.route≤255;rw[HRt.out];omega) q hq hqm eo en ec (drawsOf dl k) hdr;refine z.mono ?_;rintro e w2 ⟨gv,rfl,ha,ho⟩;simp only[HRt.out] at ha ho;rw[←hS] at ho;obtain⟨go,gc,rfl⟩:=own_is ho;refine⟨go,gc,rfl,⟨_,?_,hht.ran hq x n1 rt (drawsOf dl k)⟩,own_weak ho (Nat.zero_le _),?_,fun j hj=>own_ge ho hj⟩
        ·rw[←upTo_step fr hx,HFr.out,htn,HRt.out];exact RAft.trans (H1:=H) (held1:=held) a2 a3 ha
        ·obtain⟨_,_,_,_,c2,_⟩:=ha;exact a1.keep_own c2 HP.out (by decide)
       have HDk:Hid (∀ds,dl[k]? =some ds→∃g off eo ec,dao=some ⟨g,off,none⟩∧wr.cell? ⟨g,off+k,none⟩=some (.slice eo ds.length ec)∧∀u,Kept (refOwn {R with nv:=nv,bv:=bv,lv:=lv}) wr u→DrawsAt u eo ds.length (drawsOf dl k) u.heap.size):=by
        intro ds hds;obtain⟨g,off,eo,ec,e1,hu⟩:=(HDr.out.step a2 a3) k ds hds;have ed:drawsOf dl k=ds:=by unfold drawsOf;rw[List.getD_eq_getElem?_getD,hds];rfl
        rw[ed];exact⟨g,off,eo,ec,e1,(hu wr (Kept.refl _ _)).1,fun u q=>(hu u q).2⟩
       have HDn:Hid (¬k<dl.length→drawsOf dl k=[]):=by intro hh;unfold drawsOf;rw[List.getD_eq_getElem?_getD,List.getElem?_eq_none (by omega)];rfl
       obtain⟨M,hM⟩:∃M,M=S.length:=⟨_,rfl⟩;have HM:Hid (S.length=M):=hM.symm;rw[←hM] at HRun hS4;clear hx hx1 hlen a1 a2 a3 hht HPk hp hgv htn ok1 ok2 ok3 ok4 hq hqm hS hM HA HP;by_cases hdk:k<dl.length
       ·obtain⟨g,off,eo,ec,rfl,cd,hdr⟩:=HDk.out dl[k] (List.getElem?_eq_getElem hdk);have HR2:=hid_in (HRun.out eo ec _ hdr);have hdi:(k:Int)<(dl.length:Int):=by omega
        clear hdr HRun HDk HDn;go_wp2_with fail;refine HR2.out.mono ?_;rintro e w2 ⟨go,gc,rfl,HA2,HO2,HP2,HG2⟩;clear HR2;have hgn:go=none→M=0∧gc=0:=by
         rintro rfl;rcases HO2.out.2 with ⟨hv,h0⟩|⟨g,cap,cur,hv,_⟩
         ·simp only[Value.slice.injEq] at hv;exact⟨h0,hv.2.2⟩
         ·simp at hv
        have hsz:w.heap.size≤w2.heap.size:=by obtain⟨_,⟨_,_,_,_,z,_⟩,_⟩:=HA2.out;exact z.size
        cases go with
        |none=>
         obtain⟨rfl,rfl⟩:=hgn rfl;have HS0:Hid (S=[]):=List.eq_nil_of_length_eq_zero HM.out;have HPk2:Hid (pt (k+1)=pt k):=by unfold Hid;rw[HPk'.out,HS0.out];simp[lettersOf]
         have hpn:(po=none∧m=0∧pc=0)∨∃g,po=some ⟨g,0,none⟩∧m≤pc:=by
          rcases HP2.out.2 with ⟨hv,h0⟩|⟨g,cap,cur,hv,_,_,h1,_⟩
          ·simp only[Value.slice.injEq] at hv;exact Or.inl ⟨hv.1,h0,hv.2.2⟩
          ·simp only[Value.slice.injEq] at hv;exact Or.inr ⟨g,hv.1,by rw[hv.2.2];exact h1⟩
         clear hgn;rcases hpn with ⟨rfl,rfl,rfl⟩|⟨gp,rfl,hmp⟩;all_goals
          go_wp2;go_roundw
          case rel=>obtain⟨hk2,z1,z2⟩:=HA2.out;exact⟨k+1,_,_,_,hk2,by omega,by go_num,rfl,by omega,by rw[HPk2.out];exact HLn,⟨z1,z2⟩,by rw[HPk2.out];exact HP2⟩
          case measure=>simp[intOf];omega
        |some a=>
         have HC3:Hid (∀j v,(mlCells (lettersOf k S))[j]? =some v→w2.cell? (a.add j)=some v):=by
          intro j v hj;rcases HO2.out.2 with ⟨hv,_⟩|⟨g,cap,cur,hv,_⟩
          ·simp at hv
          ·simp only[Value.slice.injEq,Option.some.injEq] at hv;rw[hv.1];exact World.ownsRow.cells HO2.out (by rw[hv.1];rfl) j v hj
         have HC4:Hid ((mlCells (lettersOf k S)).length=M*3):=by unfold Hid;rw[mlCells_length];simp[lettersOf,HM.out]
         clear hgn;go_wp2_with (at_builtin;refine wpList_append_own_at _ rfl (.tmp 145) (.tmp 146) 114 rfl w.heap.size 118 i0 (.agg #[.int .i64 0,.int .i64 0,.int .i64 0]) 3 24 Tryz.underlying114 hi hz0 hz1 hz2 rfl (by decide) _ m _ rfl HP2.out a M gc (mlCells (lettersOf k S)) rfl HC4.out HC3.out (mlCells_one _) (by unfold maxLen;omega) (by omega) hsz ?_);intro g1 w3 ho1 hg1 _ _;obtain⟨go1,gc1,rfl⟩:=own_is ho1;have HPn:Hid (w3.ownsRow w.heap.size 118 3 (.slice go1 (m+M) gc1) (m+M) (mlCells (pt (k+1)))):=by unfold Hid;rw[HPk'.out,mlCells_app];exact ho1
         have HLn2:Hid ((pt (k+1)).length=m+M):=by unfold Hid;rw[HPk'.out,List.length_append,HLn.out];simp[lettersOf,HM.out]
         have HAn:Hid (∃hk2,RAft w R {H with frames:=n1,ts:=upTo fr (k+1) C} hk2 w3∧heldTo n1 (k+1) hk2):=by obtain⟨hk2,z1,z2⟩:=HA2.out;exact⟨hk2,z1.grown HP2.out (Nat.le_refl _) hg1 (by decide),z2⟩
         clear ho1 hg1 HA2 HO2 HP2 HC3 HC4;go_wp2;go_roundw
         case rel=>obtain⟨hk2,z1,z2⟩:=HAn.out;exact⟨k+1,m+M,gc1,go1,hk2,by omega,by go_num,rfl,by omega,HLn2,⟨z1,z2⟩,HPn⟩
         case measure=>simp[intOf];omega
       ·have HR2:=hid_in (HRun.out none 0 0 (by rw[HDn.out hdk];exact fun u _=>DrawsAt.none _ _));have hdi:¬(k:Int)<(dl.length:Int):=by omega
        clear HRun HDk HDn;go_wp2_with fail;refine HR2.out.mono ?_;rintro e w2 ⟨go,gc,rfl,HA2,HO2,HP2,HG2⟩;clear HR2;have hgn:go=none→M=0∧gc=0:=by
         rintro rfl;rcases HO2.out.2 with ⟨hv,h0⟩|⟨g,cap,cur,hv,_⟩
         ·simp only[Value.slice.injEq] at hv;exact⟨h0,hv.2.2⟩
         ·simp at hv
        have hsz:w.heap.size≤w2.heap.size:=by obtain⟨_,⟨_,_,_,_,z,_⟩,_⟩:=HA2.out;exact z.size
        cases go with
        |none=>
         obtain⟨rfl,rfl⟩:=hgn rfl;have HS0:Hid (S=[]):=List.eq_nil_of_length_eq_zero HM.out;have HPk2:Hid (pt (k+1)=pt k):=by unfold Hid;rw[HPk'.out,HS0.out];simp[lettersOf]
         have hpn:(po=none∧m=0∧pc=0)∨∃g,po=some ⟨g,0,none⟩∧m≤pc:=by
          rcases HP2.out.2 with ⟨hv,h0⟩|⟨g,cap,cur,hv,_,_,h1,_⟩
          ·simp only[Value.slice.injEq] at hv;exact Or.inl ⟨hv.1,h0,hv.2.2⟩
          ·simp only[Value.slice.injEq] at hv;exact Or.inr ⟨g,hv.1,by rw[hv.2.2];exact h1⟩
         clear hgn;rcases hpn with ⟨rfl,rfl,rfl⟩|⟨gp,rfl,hmp⟩;all_goals
          go_wp2;go_roundw
          case rel=>obtain⟨hk2,z1,z2⟩:=HA2.out;exact⟨k+1,_,_,_,hk2,by omega,by go_num,rfl,by omega,by rw[HPk2.out];exact HLn,⟨z1,z2⟩,by rw[HPk2.out];exact HP2⟩
          case measure=>simp[intOf];omega
        |some a=>
         have HC3:Hid (∀j v,(mlCells (lettersOf k S))[j]? =some v→w2.cell? (a.add j)=some v):=by
          intro j v hj;rcases HO2.out.2 with ⟨hv,_⟩|⟨g,cap,cur,hv,_⟩
          ·simp at hv
          ·simp only[Value.slice.injEq,Option.some.injEq] at hv;rw[hv.1];exact World.ownsRow.cells HO2.out (by rw[hv.1];rfl) j v hj
         have HC4:Hid ((mlCells (lettersOf k S)).length=M*3):=by unfold Hid;rw[mlCells_length];simp[lettersOf,HM.out]
         clear hgn;go_wp2_with (at_builtin;refine wpList_append_own_at _ rfl (.tmp 145) (.tmp 146) 114 rfl w.heap.size 118 i0 (.agg #[.int .i64 0,.int .i64 0,.int .i64 0]) 3 24 Tryz.underlying114 hi hz0 hz1 hz2 rfl (by decide) _ m _ rfl HP2.out a M gc (mlCells (lettersOf k S)) rfl HC4.out HC3.out (mlCells_one _) (by unfold maxLen;omega) (by omega) hsz ?_);intro g1 w3 ho1 hg1 _ _;obtain⟨go1,gc1,rfl⟩:=own_is ho1;have HPn:Hid (w3.ownsRow w.heap.size 118 3 (.slice go1 (m+M) gc1) (m+M) (mlCells (pt (k+1)))):=by unfold Hid;rw[HPk'.out,mlCells_app];exact ho1
         have HLn2:Hid ((pt (k+1)).length=m+M):=by unfold Hid;rw[HPk'.out,List.length_append,HLn.out];simp[lettersOf,HM.out]
         have HAn:Hid (∃hk2,RAft w R {H with frames:=n1,ts:=upTo fr (k+1) C} hk2 w3∧heldTo n1 (k+1) hk2):=by obtain⟨hk2,z1,z2⟩:=HA2.out;exact⟨hk2,z1.grown HP2.out (Nat.le_refl _) hg1 (by decide),z2⟩
         clear ho1 hg1 HA2 HO2 HP2 HC3 HC4;go_wp2;go_roundw
         case rel=>obtain⟨hk2,z1,z2⟩:=HAn.out;exact⟨k+1,m+M,gc1,go1,hk2,by omega,by go_num,rfl,by omega,HLn2,⟨z1,z2⟩,HPn⟩
         case measure=>simp[intOf];omega
      ·have hpb:(x.phase==1)=false:=by rw[beq_eq_false_iff_ne];exact hp
       have hgv:x.gives n1 rt (drawsOf dl k)=[]:=by unfold Tn.gives;rw[if_neg hp]
       have HUk:Hid (upTo fr (k+1) C=upTo fr k C):=upTo_keep fr hx (by rw[HFr.out];unfold Tn.turn;rw[if_neg hp]);have HPk2:Hid (pt (k+1)=pt k):=by unfold Hid;rw[HPk,hgv];simp[lettersOf]
       have HHk:Hid (heldTo n1 (k+1) hd):=hht.next;clear hx hx1 hlen a1 a2 a3 hht HPk hgv hp ok1 ok2 ok3 ok4;go_wp2;go_roundw
       case rel=>exact⟨k+1,m,pc,po,hd,by omega,by go_num,rfl,by omega,by rw[HPk2.out];exact HLn,⟨by rw[HUk.out];exact HA.out.1,HHk.out⟩,by rw[HPk2.out];exact HP⟩
       case measure=>simp[intOf];omega
     ·have hkn:k=N:=by omega
      have HA3:Hid (RAft w R {H with frames:=n1,ts:=H.posted dl 0} hd wr):=by have q:=HA.out.1;rw[hkn,HTu.out] at q;unfold Hid;rw[HPz.out];exact q
      have HH3:Hid (∀v∈hd,v≤n1):=by intro v hv;obtain⟨j,hj⟩:=List.mem_iff_getElem?.1 hv;have:=HA.out.2 j v hj;split at this<;>omega
      have HP3:Hid (wr.ownsRow w.heap.size 118 3 (.slice po m pc) m (mlCells (H.post dl))):=by have q:=HP.out;rw[hkn,HPo.out] at q;exact q
      have HL3:Hid ((H.post dl).length=m):=by have q:=HLn.out;rw[hkn,HPo.out] at q;exact q
      have hki:¬(k:Int)<(N:Int):=by omega
      have hm16:m≤16:=by omega
      obtain⟨r0,r3,r4,r5,r6,r8,r9⟩:RC wr R N:=HA3.out.cells (HPl.out 0);clear HA HP HLn HPt HP0 HPo HTu HFr HOkC HDr;go_upto_region 26 with fail
      go_loopw [11] (fun i wr=>∃k:Nat,k≤m∧i= .int .i64 k∧Hid (RAft w R {H with frames:=n1,ts:=H.posted dl k} hd wr)∧Hid (wr.ownsRow w.heap.size 118 3 (.slice po m pc) m (mlCells (H.post dl))))
       (fun i _=>m-(intOf i).toNat)
      case atStart=>exact⟨0,Nat.zero_le _,rfl,HA3.out,HP3.out⟩
      case round=>
       obtain⟨j,hj,rfl,HA,HP⟩:=hrel;clear HA3 HP3 r0 r3 r4 r5 r6 r8 r9;by_cases hlj:j<m
       ·obtain⟨L,hL⟩:∃L,(H.post dl)[j]? =some L:=⟨(H.post dl)[j]'(by have:=HL3.out;omega),List.getElem?_eq_getElem (by have:=HL3.out;omega)⟩;obtain⟨s0,s1,s2⟩:=mlCells_at (H.post dl) j _ hL;obtain⟨gp,rfl,p0,p1,p2⟩:=own_three HP.out s0 s1 s2;obtain⟨⟨o1,o2⟩,⟨o3,o4⟩,o5,o6⟩:=HOkL.out L (List.mem_of_getElem? hL);have HPj:=HPs.out j L hL;obtain⟨snd,tp,vl⟩:=L;simp only at p0 p1 p2 o1 o2 o3 o4 o5 o6;have hji:(j:Int)<(m:Int):=by omega
        have hj0:(0:Int)≤(j:Int):=by omega
        have HC:Hid (Calls Tryz.prog 51 #[.pointer (some ⟨R.rb,0,none⟩),.agg #[.int .i64 snd,.int .i64 tp,.int .i64 vl]] wr fun e w'=>e= .returned (.tuple #[])∧RAft w R {H with frames:=n1,ts:=H.posted dl (j+1)} hd w'∧w'.ownsRow w.heap.size 118 3 (.slice (some ⟨gp,0,none⟩) m pc) m (mlCells (H.post dl))):=by
         obtain⟨nv,bv,lv,a1,a2,a3⟩:=HA.out;refine(rpost_any a1 (snd,tp,vl) o1 o2 o3 o4 o5 o6 (by show(H.posted dl j).length≤_;rw[HPl.out];exact hN4) (HOkP.out j)).mono ?_;rintro e w2 ⟨rfl,ha⟩;refine⟨rfl,?_,?_⟩
         ·rw[HPj];exact RAft.trans (H1:=H) (held1:=held) a2 a3 ha
         ·obtain⟨_,_,_,_,d2,_⟩:=ha;exact a1.keep_own d2 HP.out (by decide)
        clear hL s0 s1 s2 HPj;go_wp2_with fail;refine HC.out.mono ?_;rintro e w2 ⟨rfl,ha,hp⟩;have HA2:Hid (RAft w R {H with frames:=n1,ts:=H.posted dl (j+1)} hd w2):=ha;have HP2:Hid (w2.ownsRow w.heap.size 118 3 (.slice (some ⟨gp,0,none⟩) m pc) m (mlCells (H.post dl))):=hp;clear ha hp HA HP HC;go_wp2;go_roundw
        case rel=>exact⟨j+1,by omega,by go_num,HA2,HP2⟩
        case measure=>simp[intOf];omega
       ·have hjm:j=m:=by omega
        subst hjm;have hji:¬(j:Int)<(j:Int):=by omega
        go_wp2;go_ret;rw[HE.out.1,HEn.out,HL3.out];exact⟨rfl,hd,HA.out,HH3.out⟩
end
end Go.Proofs.YtidaflmmldefcaaGreat
