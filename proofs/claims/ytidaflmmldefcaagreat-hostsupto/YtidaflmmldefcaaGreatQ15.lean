/- Parts of the proof of Hosts: FrM, NewA, InvM, InvH. -/
import Derived.Test.YtidaflmmldefcaaGreatQ10
import Derived.Test.YtidaflmmldefcaaGreatQ14
import Derived.Test.YtidaflmmldefcaaGreatQ09
import Derived.BigRegion
set_option maxHeartbeats 4000000
namespace Go.Proofs.YtidaflmmldefcaaGreat
open Go.RowKit
set_option linter.unusedVariables false
def upTo {α:Type} (f:Nat→α→α) (k:Nat) (l:List α):List α:=l.mapIdx fun i x=>if i<k then f i x else x
section
variable {α : Type} (f : Nat → α → α)
theorem upTo_length (k:Nat) (l:List α):(upTo f k l).length=l.length:=by simp[upTo]
theorem upTo_zero (l:List α):upTo f 0 l=l:=by
 apply List.ext_getElem?;intro i;simp[upTo]
theorem upTo_get (k:Nat) (l:List α):(upTo f k l)[k]? =l[k]? :=by
 simp[upTo]
theorem upTo_all (l:List α):upTo f l.length l=l.mapIdx f:=by
 apply List.ext_getElem?;intro i;simp only[upTo,List.getElem?_mapIdx];cases h:l[i]? with
 |none=>rfl
 |some x=>have:=(List.getElem?_eq_some_iff.1 h).1;simp[this]
theorem upTo_step {k:Nat} {l:List α} {x:α} (h:l[k]? =some x):(upTo f k l).set k (f k x)=upTo f (k+1) l:=by
 have hk:=(List.getElem?_eq_some_iff.1 h).1;apply List.ext_getElem?;intro i;by_cases hi:i=k
 ·subst hi;rw[List.getElem?_set_self (by rw[upTo_length];exact hk)];simp[upTo,h]
 ·rw[List.getElem?_set_ne (fun e=>hi e.symm)];simp only[upTo,List.getElem?_mapIdx];cases h2:l[i]? with
  |none=>rfl
  |some y=>
   by_cases hlt:i<k
   ·simp[hlt,show i<k+1 by omega]
   ·simp[hlt,show¬i<k+1 by omega]
theorem upTo_keep {k:Nat} {l:List α} {x:α} (h:l[k]? =some x) (he:f k x=x):upTo f (k+1) l=upTo f k l:=by
 rw[←upTo_step f h,he];have h2:=upTo_get f k l;rw[h] at h2;have hk:=(List.getElem?_eq_some_iff.1 h2).1;apply List.ext_getElem?;intro i;by_cases hi:i=k
 ·subst hi;rw[List.getElem?_set_self hk,h2]
 ·rw[List.getElem?_set_ne (fun e=>hi e.symm)]
end
def Tn.turn (x:Tn) (n route:Int) (ds:List Int):Tn:=if x.phase=1 then x.handle n route ds else x
def Tn.gives (x:Tn) (n route:Int) (ds:List Int):List (Int×Int):=if x.phase=1 then x.sent n route ds else []
def drawsOf (dl:List (List Int)) (i:Nat):List Int:=dl.getD i []
abbrev Lt:=Int×Int×Int
def ltCells (l:List Lt):List Value:=l.flatMap fun x=>[.int .i64 x.1,.int .u8 x.2.1,.int .u16 x.2.2]
def lettersOf (t:Nat) (l:List (Int×Int)):List Lt:=l.map fun s=>((t:Int),s.1,s.2)
theorem ltCells_snoc (l:List Lt) (x:Lt):ltCells (l++[x])=ltCells l++[.int .i64 x.1,.int .u8 x.2.1,.int .u16 x.2.2]:=by simp[ltCells]
theorem ltCells_at:∀(l:List Lt) (i:Nat) (x:Lt),l[i]? =some x→(ltCells l)[i*3]? =some (.int .i64 x.1)∧(ltCells l)[i*3+1]? =some (.int .u8 x.2.1)∧(ltCells l)[i*3+2]? =some (.int .u16 x.2.2)
 |[],i,x,h=>by simp at h
 |y::r,0,x,h=>by simp at h;subst h;simp[ltCells]
 |y::r,i+1,x,h=>by
  have:=ltCells_at r i x (by simpa using h);simp only[ltCells,List.flatMap_cons] at*;rw[show(i+1)*3=i*3+3 by omega];simpa using this
def postTo (ts:List Tn) (n route:Int) (dl:List (List Int)):Nat→List Lt
 |0=>[]
 |k+1=>postTo ts n route dl k++(match ts[k]? with|some x=>lettersOf k (x.gives n route (drawsOf dl k))|none=>[])
def Tn.get (i:Nat) (n:Int) (L:Lt) (x:Tn):Tn:=if (i:Int)=L.1 then x else x.receive n L.1 L.2.1 L.2.2
def deliver (n:Int) (ts:List Tn) (L:Lt):List Tn:=ts.mapIdx fun i x=>x.get i n L
def Hs.came (H:Hs):List Tn:=H.ts.mapIdx fun _ x=>x.come (H.frames+1) H.route
def Hs.turned (H:Hs) (dl:List (List Int)):List Tn:=H.came.mapIdx fun i x=>x.turn (H.frames+1) H.route (drawsOf dl i)
def Hs.post (H:Hs) (dl:List (List Int)):List Lt:=postTo H.came (H.frames+1) H.route dl H.ts.length
def Hs.posted (H:Hs) (dl:List (List Int)) (k:Nat):List Tn:=((H.post dl).take k).foldl (deliver (H.frames+1)) (H.turned dl)
def Hs.frame (H:Hs) (dl:List (List Int)):Hs:=if 200≤H.frames then H else {H with frames:=H.frames+1,ts:=(H.post dl).foldl (deliver (H.frames+1)) (H.turned dl)}
def Hs.frameE (H:Hs):Int:=if 200≤H.frames then 9 else 0
theorem posted_step (H:Hs) (dl:List (List Int)) {k:Nat} {L:Lt} (h:(H.post dl)[k]? =some L):H.posted dl (k+1)=deliver (H.frames+1) (H.posted dl k) L:=by
 unfold Hs.posted;rw[List.take_add_one,h];simp
theorem deliver_length (n:Int) (ts:List Tn) (L:Lt):(deliver n ts L).length=ts.length:=by simp[deliver]
theorem posted_length (H:Hs) (dl:List (List Int)) (k:Nat):(H.posted dl k).length=H.ts.length:=by
 have hf:∀(l:List Lt) (ts:List Tn),(l.foldl (deliver (H.frames+1)) ts).length=ts.length:=by
  intro l;induction l with
  |nil=>intro ts;rfl
  |cons a r ih=>intro ts;rw[List.foldl_cons,ih,deliver_length]
 unfold Hs.posted;rw[hf];simp[Hs.turned,Hs.came]
theorem posted_all (H:Hs) (dl:List (List Int)):H.posted dl (H.post dl).length=(H.post dl).foldl (deliver (H.frames+1)) (H.turned dl):=by unfold Hs.posted;rw[List.take_length]
theorem posted_zero (H:Hs) (dl:List (List Int)):H.posted dl 0=H.turned dl:=rfl
structure Fit (H:Hs) (dl:List (List Int)):Prop where
 route:0≤H.route∧H.route≤255
 frames:0≤H.frames∧H.frames≤200
 len:H.ts.length≤4
 start:∀x∈H.ts,x.box.length≤100000∧0≤x.routes∧x.routes≤255
 came:∀x∈H.came,x.ok
 gives:∀x∈H.came,∀i,(x.gives (H.frames+1) H.route (drawsOf dl i)).length≤4
 post:∀L∈H.post dl,(0≤L.1∧L.1≤200)∧0≤L.2.1∧L.2.1≤255
 posted:∀k,∀x∈H.posted dl k,x.box.length≤100000∧x.log.length≤100000∧0≤x.sub∧x.sub≤255
structure Mf where
 prog:ByteArray
 fuel:Int
 routes:Int
 pub:Int
 sub:Int
 share:Int
 back:Int
def Mf.arr (m:Mf):Array Value:=#[.string m.prog,.int .i64 m.fuel,.int .u8 m.routes,.int .u8 m.pub,.int .u8 m.sub,.int .i64 m.share,.int .i64 m.back]
structure Mf.good (m:Mf):Prop where
 size:m.prog.size≤maxLen
 code:(H.decode (H.bts m.prog)).2.1=0
 fuel:1≤m.fuel∧m.fuel≤1000
 routes:0≤m.routes∧m.routes<16
 pub:0≤m.pub∧m.pub<16
 sub:0≤m.sub∧m.sub<16
 share:1≤m.share∧m.share≤3
 back:1≤m.back∧m.back≤8
theorem dec_no {p:Prop} [Decidable p] (h:¬p):decide p=false:=by simp[h]
theorem mayBe_good (m:Mf) (hm:m.good) (w:World):Calls Tryz.prog 40 #[.agg m.arr] w fun e w'=>e= .returned (.bool true)∧Below w.heap.size w w':=by
 have HD:Hid (∀ob,Calls Tryz.prog 52 #[.string m.prog] (w.alloc ob) fun e w'=>decEnd (H.bts m.prog) (w.alloc ob).heap.size (w.alloc ob) e w'):=fun ob=>dec_any m.prog (w.alloc ob) hm.size;have HC:Hid ((H.decode (H.bts m.prog)).2.1=0):=hm.code;obtain⟨f0,f1⟩:=hm.fuel;obtain⟨s0,s1⟩:=hm.share;obtain⟨b0,b1⟩:=hm.back;obtain⟨r0,r1⟩:=hm.routes;obtain⟨p0,p1⟩:=hm.pub;obtain⟨q0,q1⟩:=hm.sub;obtain⟨pr,fu,ro,pu,su,sh,ba⟩:=m;unfold Mf.arr;simp only at HD HC f0 f1 s0 s1 b0 b1 r0 r1 p0 p1 q0 q1 ⊢;have d1:decide (fu<1)=false:=dec_no (by omega);have d2:decide (1000<fu)=false:=dec_no (by omega);have d3:decide (sh<1)=false:=dec_no (by omega);have d4:decide (3<sh)=false:=dec_no (by omega);have d5:decide (ba<1)=false:=dec_no (by omega);have d6:decide (8<ba)=false:=dec_no (by omega);have d7:decide (16≤ro)=false:=dec_no (by omega);have d8:decide (16≤pu)=false:=dec_no (by omega);have d9:decide (16≤su)=false:=dec_no (by omega);clear hm;go_enter Tryz.func40,Tryz.ntmps40;go_wp2_with fail;refine(HD.out _).mono ?_;rintro e w1 ⟨v,rfl,ho,hb⟩;rw[HC.out];have HB:Hid (Below w.heap.size w w1):=((Below.refl _ _).alloc (Nat.le_refl _) _).trans (hb.mono (by simp));clear ho hb;go_wp2;go_ret;exact⟨rfl,HB.out⟩
def MfRow (w:World) (b off:Nat) (l:List Mf):Prop:=∀i m,l[i]? =some m→∀j v,m.arr[j]? =some v→w.cell? ⟨b,off+i*7+j,none⟩=some v
theorem MfRow.below {w w':World} {b off B:Nat} {l:List Mf} (h:MfRow w b off l) (hb:Below B w w') (hl:b<B):MfRow w' b off l:=by
 intro i m hm j v hv;exact(hb.cell (p:=⟨b,off+i*7+j,none⟩) hl).trans (h i m hm j v hv)
theorem isManifest_good (b off cap:Nat) (l:List Mf) (w:World) (hl0:1≤l.length) (hl4:l.length≤4) (hg:∀m∈l,m.good) (hr:MfRow w b off l) (hb:b<w.heap.size): Calls Tryz.prog 33 #[.slice (some ⟨b,off,none⟩) l.length cap] w fun e w'=>e= .returned (.bool true)∧Below w.heap.size w w':=by
 obtain⟨n,hn⟩:∃n,n=l.length:=⟨_,rfl⟩;have Hn:Hid (l.length=n):=hn.symm;have HG:Hid (∀m∈l,m.good):=hg;have HR:Hid (MfRow w b off l):=hr;rw[←hn] at hl0 hl4 ⊢;have d1:decide ((n:Int)<1)=false:=dec_no (by omega);have d2:decide ((4:Int)<(n:Int))=false:=dec_no (by omega);clear hn hg hr;go_enter Tryz.func33,Tryz.ntmps33;go_wp2_with fail;go_loopw [15] (fun i wr=>∃k:Nat,k≤n∧i= .int .i64 k∧Hid (Below w.heap.size w wr))
  (fun i _=>n-(intOf i).toNat)
 case atStart=>exact⟨0,Nat.zero_le _,rfl,Below.refl _ _⟩
 case round=>
  obtain⟨k,hk,rfl,HB⟩:=hrel;have hsz:=HB.out.size;by_cases hlt:k<n
  ·obtain⟨m,hm⟩:∃m,l[k]? =some m:=⟨l[k]'(by have:=Hn.out;omega),List.getElem?_eq_getElem (by have:=Hn.out;omega)⟩;have hrow:=(HR.out.below HB.out hb) k m hm;have HM:Hid (∀u,Calls Tryz.prog 40 #[.agg m.arr] u fun e w'=>e= .returned (.bool true)∧Below u.heap.size u w'):=fun u=>mayBe_good m (HG.out m (List.mem_of_getElem? hm)) u;obtain⟨pr,fu,ro,pu,su,sh,ba⟩:=m;have c0:wr.cell? ⟨b,off+k*7,none⟩=some (.string pr):=hrow 0 _ rfl;have c1:wr.cell? ⟨b,off+k*7+1,none⟩=some (.int .i64 fu):=hrow 1 _ rfl;have c2:wr.cell? ⟨b,off+k*7+2,none⟩=some (.int .u8 ro):=hrow 2 _ rfl;have c3:wr.cell? ⟨b,off+k*7+3,none⟩=some (.int .u8 pu):=hrow 3 _ rfl;have c4:wr.cell? ⟨b,off+k*7+4,none⟩=some (.int .u8 su):=hrow 4 _ rfl;have c5:wr.cell? ⟨b,off+k*7+5,none⟩=some (.int .i64 sh):=hrow 5 _ rfl;have c6:wr.cell? ⟨b,off+k*7+6,none⟩=some (.int .i64 ba):=hrow 6 _ rfl;unfold Mf.arr at HM;simp only at HM;have hki:(k:Int)<(n:Int):=by omega
   have hk0:(0:Int)≤(k:Int):=by omega
   clear hm hrow;go_wp2_with fail;refine(HM.out _).mono ?_;rintro e w1 ⟨rfl,hb1⟩;have HB1:Hid (Below w.heap.size w w1):=(HB.out.alloc hsz _).trans (hb1.mono (by simp;omega));clear hb1;go_wp2;go_roundw
   case rel=>exact⟨k+1,by omega,by go_num,HB1.out⟩
   case measure=>simp[intOf];omega
  ·have hkn:k=n:=by omega
   subst hkn;have hki:¬(k:Int)<(k:Int):=by omega
   go_wp2;go_ret;exact⟨rfl,HB.out⟩
def Tn.mf (x:Tn):Mf:=⟨x.prog,x.fuel,x.routes,x.pub,x.sub,x.share,x.back⟩
def isStart (e:Ev):Bool:=e.what==0
def linked (p q:Int):Prop:=∃k:Int,(0≤k∧k≤3)∧bitOf p k=true∧bitOf q k=true
def evGood (ms:List Mf) (i:Nat) (e:Ev):Prop:=e.ok∧((e.what=0∧e.by_=0)∨(e.what=1∧e.by_=0)∨(e.what=2∧∃(s:Nat) (m m':Mf),ms[s]? =some m∧ms[i]? =some m'∧e.by_=(s:Int)+1∧s≠i∧linked m.pub m'.sub))
def zeros:List Int:=[0,0,0,0,0,0,0,0]
def bang:ByteArray:=⟨#[33]⟩
structure TnI (ms:List Mf) (i:Nat) (lim:Nat) (x:Tn):Prop where
 mf:ms[i]? =some x.mf
 good:x.mf.good
 phase:x.phase=0∨x.phase=1∨x.phase=2
 clen:x.cells.length=8
 cells:InR x.cells
 nodes:Tr.ndOk x.nodes
 tree:Tr.T.isTree x.nodes=true
 nlen:x.nodes.length≤8
 box:∀e∈x.box,evGood ms i e
 starts:x.box.countP isStart≤1
 clicks:x.clicks≤6
 msgs:∀b,(x.waiting b:Int)≤x.share
 llen:x.log.length≤lim
 dbl:0≤x.dbl∧x.dbl≤4
 out:x.phase=0→x.cells=zeros∧x.nodes=[]∧x.box=[]
 held:x.phase=2→(∃id,x.nodes=[(id,65535,bang)])∧x.box=[]
def sumTo (f:Nat→Nat):Nat→Nat
 |0=>0
 |k+1=>sumTo f k+f k
def msgsTo (l:List Ev) (k:Nat):Nat:=sumTo (fun s=>l.countP (isMsg ((s:Int)+1))) k
theorem sumTo_add (f g:Nat→Nat):∀k,sumTo (fun s=>f s+g s) k=sumTo f k+sumTo g k
 |0=>rfl
 |k+1=>by simp only[sumTo];rw[sumTo_add f g k];omega
theorem sumTo_one (s0:Nat):∀k,sumTo (fun s=>if s=s0 then 1 else 0) k=if s0<k then 1 else 0
 |0=>by simp[sumTo]
 |k+1=>by
  simp only[sumTo];rw[sumTo_one s0 k];by_cases h1:s0<k
  ·rw[if_pos h1,if_neg (by omega),if_pos (by omega)]
  ·rw[if_neg h1];by_cases h2:k=s0
   ·rw[if_pos h2,if_pos (by omega)]
   ·rw[if_neg h2,if_neg (by omega)]
theorem sumTo_zero:∀k,sumTo (fun _=>0) k=0
 |0=>rfl
 |k+1=>by simp only[sumTo];rw[sumTo_zero k]
theorem sumTo_le (f:Nat→Nat) (c:Nat) (h:∀s,f s≤c):∀k,sumTo f k≤k*c
 |0=>by simp[sumTo]
 |k+1=>by
  simp only[sumTo];have:=sumTo_le f c h k;have:=h k;rw[Nat.add_mul];omega
theorem msgsTo_other (e:Ev) (r:List Ev) (h:e.what≠2) (k:Nat):msgsTo (e::r) k=msgsTo r k:=by
 unfold msgsTo;congr 1;funext s;rw[List.countP_cons];simp[isMsg,h]
theorem msgsTo_msg (e:Ev) (r:List Ev) (h:e.what=2) (s0:Nat) (hs:e.by_=(s0:Int)+1) (k:Nat):msgsTo (e::r) k=msgsTo r k+if s0<k then 1 else 0:=by
 unfold msgsTo;rw[←sumTo_one s0 k,←sumTo_add];congr 1;funext s;rw[List.countP_cons];by_cases q:s=s0
 ·subst q;simp[isMsg,h,hs]
 ·have:¬((s0:Int)+1=(s:Int)+1):=by omega
  simp[isMsg,h,hs,q,this]
theorem box_sum (ms:List Mf) (i:Nat):∀l:List Ev,(∀e∈l,evGood ms i e)→l.length=l.countP isStart+l.countP isClick+msgsTo l ms.length
 |[],_=>by simp[msgsTo,sumTo_zero]
 |e::r,h=>by
  have ih:=box_sum ms i r (fun y hy=>h y (by simp[hy]));rw[List.length_cons,List.countP_cons,List.countP_cons];rcases(h e (by simp)).2 with ⟨h1,h2⟩|⟨h1,h2⟩|⟨h1,s,m,m',hm,hm',hb,_⟩
  ·rw[msgsTo_other e r (by omega)];simp[isStart,isClick,h1];omega
  ·rw[msgsTo_other e r (by omega)];simp[isStart,isClick,h1];omega
  ·have hs:=(List.getElem?_eq_some_iff.1 hm).1;rw[msgsTo_msg e r h1 s hb,if_pos hs];simp[isStart,isClick,h1];omega
section
variable {ms : List Mf} {i lim : Nat} {x : Tn}
theorem TnI.blen (h:TnI ms i lim x) (hm:ms.length≤4):x.box.length≤19:=by
 have e:=box_sum ms i x.box h.box;have h1:=h.starts;have h2:=h.clicks;have h3:=sumTo_le (fun s=>x.box.countP (isMsg ((s:Int)+1))) 3 (fun s=>by have:=h.msgs ((s:Int)+1);have:=h.good.share.2;unfold Tn.waiting at*;simp only[Tn.mf] at this;omega) ms.length;unfold msgsTo at e;unfold Tn.clicks at h2;omega
theorem TnI.weaken (h:TnI ms i lim x) {lim':Nat} (hl:lim≤lim'):TnI ms i lim' x:={h with llen:=Nat.le_trans h.llen hl}
theorem TnI.toOk (h:TnI ms i lim x) (hm:ms.length≤4) (hl:lim≤90000):x.ok:=by
 have g:=h.good;exact⟨g.size,⟨g.routes.1,by have:=g.routes.2;simp only[Tn.mf] at this;omega⟩,⟨g.pub.1,by have:=g.pub.2;simp only[Tn.mf] at this;omega⟩,⟨g.sub.1,by have:=g.sub.2;simp only[Tn.mf] at this;omega⟩,⟨by have:=g.back.1;simp only[Tn.mf] at this;omega,by have:=g.back.2;simp only[Tn.mf] at this;omega⟩,h.clen,h.cells,h.nodes,Nat.le_trans h.nlen (by decide),fun e he=>(h.box e he).1,Nat.le_trans (h.blen hm) (by decide),Nat.le_trans h.llen hl,h.dbl⟩
theorem zeros_in:InR zeros:=by intro v hv;simp[zeros] at hv;omega
theorem TnI.goOut (h:TnI ms i lim x):TnI ms i lim x.goOut where
 mf:=h.mf
 good:=h.good
 phase:=Or.inl rfl
 clen:=rfl
 cells:=zeros_in
 nodes:=by intro y hy;simp[Tn.goOut] at hy
 tree:=rfl
 nlen:=Nat.zero_le _
 box:=by intro e he;simp[Tn.goOut] at he
 starts:=Nat.zero_le _
 clicks:=Nat.zero_le _
 msgs:=by
  intro b;have:=h.good.share.1;simp only[Tn.mf] at this;show(0:Int)≤x.share;omega
 llen:=h.llen;dbl:=h.dbl;out:=fun _=>⟨rfl,rfl,rfl⟩;held:=fun e=>by simp[Tn.goOut] at e
theorem TnI.start (h:TnI ms i lim x) (hp:x.phase=0) (route:Int) (hr:0≤route∧route≤255):TnI ms i lim (x.start route):=by
 obtain⟨o1,o2,o3⟩:=h.out hp;have hb:(x.start route).box=[⟨0,0,route,0⟩]:=by simp[Tn.start,o3]
 refine {mf:=h.mf,good:=h.good,phase:=Or.inr (Or.inl rfl),clen:=h.clen,cells:=h.cells,nodes:=h.nodes,tree:=h.tree,nlen:=h.nlen,box:=?_,starts:=?_,clicks:=?_,msgs:=?_,llen:=h.llen,dbl:=h.dbl,out:=?_,held:=?_}
 ·intro e he;rw[hb,List.mem_singleton] at he;subst he;exact⟨⟨by simp,by simp,⟨hr.1,by simp only;omega⟩,by simp⟩,Or.inl ⟨rfl,rfl⟩⟩
 ·rw[hb];simp[isStart]
 ·unfold Tn.clicks;rw[hb];simp[isClick]
 ·intro b;unfold Tn.waiting;rw[hb];have:=h.good.share.1;simp only[Tn.mf] at this;show _≤x.share;simp[isMsg];omega
 ·intro e;simp[Tn.start] at e
 ·intro e;simp[Tn.start] at e
theorem TnI.come (h:TnI ms i lim x) (n route:Int) (hr:0≤route∧route≤255):TnI ms i lim (x.come n route):=by
 unfold Tn.come Tn.comeOn;split
 ·split
  ·exact h.goOut.start rfl route hr
  ·exact h.goOut
 ·split
  ·exact h.goOut
  ·split
   ·rename_i q;exact h.start q.1 route hr
   ·exact h
theorem planO_tree (old:List Tr.T.Nd) (sh:List Tr.T.Sh):Tr.T.isTree (Tr.T.planO old sh)=true∧(Tr.T.planO old sh).length≤8:=by
 unfold Tr.T.planO;split
 ·rename_i q;unfold Tr.T.planOk at q;simp only[Bool.and_eq_true,decide_eq_true_eq] at q;exact⟨q.2,by rw[Tr.T.plan_length];exact q.1.2⟩
 ·exact⟨rfl,Nat.zero_le _⟩
theorem planO_ok {old:List Tr.T.Nd} {sh:List Tr.T.Sh} (ho:Tr.ndOk old) (hs:Tr.shOk sh):Tr.ndOk (Tr.T.planO old sh):=by
 unfold Tr.T.planO;split
 ·exact Tr.plan_ok ho hs
 ·intro x hx;simp at hx
theorem heldShow_ok:Tr.T.okSh heldShow:=by
 refine⟨by decide,?_,by simp[heldShow]⟩;intro s hs;simp[heldShow] at hs;subst hs;decide
theorem heldShow_sh:Tr.shOk heldShow:=by
 intro s hs;simp[heldShow] at hs;subst hs;refine⟨by simp,?_⟩;show 1≤maxLen;decide
theorem held_nodes {old:List Tr.T.Nd} (ht:Tr.T.isTree old=true) (hl:old.length≤8):∃id,Tr.T.planO old heldShow=[(id,65535,bang)]:=by
 have h1:=Tr.T.plan_tree ht hl heldShow_ok;have h2:Tr.T.planOk old heldShow=true:=by unfold Tr.T.planOk;rw[ht,h1];decide
 unfold Tr.T.planO;rw[if_pos h2];exact⟨_,rfl⟩
theorem Tn.out_ok {x:Tn} (hx:x.ok) (n route:Int) (ds:List Int) (hr:0≤route∧route≤255) (hd:InR ds):H.OutOk (x.out n route ds):=by
 obtain⟨ev,hev⟩:∃ev,ev=x.nextEv n:=⟨_,rfl⟩;have HEo:ev.ok:=by rw[hev];exact Tn.nextEv_ok hx n
 have hok:(InV.mk x.fuel (x.cells.getD 0 0) (x.cells.getD 1 0) (x.cells.getD 2 0) (x.cells.getD 3 0) (x.cells.getD 4 0) (x.cells.getD 5 0) (x.cells.getD 6 0) (x.cells.getD 7 0) ev.what ev.by_ ev.arg ev.src route none 0 0).ok:=by refine⟨HEo.what,HEo.arg,HEo.src,hr,?_⟩;have q:=hx.rng;rw[eightD hx.cells] at q;exact q
 have q:=H.run_ok x.prog _ hok ds hd;have e1:H.run (H.bts x.prog) (InV.mk x.fuel (x.cells.getD 0 0) (x.cells.getD 1 0) (x.cells.getD 2 0) (x.cells.getD 3 0) (x.cells.getD 4 0) (x.cells.getD 5 0) (x.cells.getD 6 0) (x.cells.getD 7 0) ev.what ev.by_ ev.arg ev.src route none 0 0).cells ((InV.mk x.fuel (x.cells.getD 0 0) (x.cells.getD 1 0) (x.cells.getD 2 0) (x.cells.getD 3 0) (x.cells.getD 4 0) (x.cells.getD 5 0) (x.cells.getD 6 0) (x.cells.getD 7 0) ev.what ev.by_ ev.arg ev.src route none 0 0).inp ds)=x.out n route ds:=by unfold Tn.out;rw[←hev];have e2:(InV.mk x.fuel (x.cells.getD 0 0) (x.cells.getD 1 0) (x.cells.getD 2 0) (x.cells.getD 3 0) (x.cells.getD 4 0) (x.cells.getD 5 0) (x.cells.getD 6 0) (x.cells.getD 7 0) ev.what ev.by_ ev.arg ev.src route none 0 0).cells=x.cells:=(eightD hx.cells).symm;rw[e2];rfl
 rw[e1] at q;exact q
theorem TnI.note (h:TnI ms i lim x) (n k a b:Int):TnI ms i (lim+1) (x.note n k a b):={mf:=h.mf,good:=h.good,phase:=h.phase,clen:=h.clen,cells:=h.cells,nodes:=h.nodes,tree:=h.tree,nlen:=h.nlen,box:=h.box,starts:=h.starts,clicks:=h.clicks,msgs:=h.msgs,llen:=by have:=h.llen;simp[Tn.note];omega,dbl:=h.dbl,out:=h.out,held:=h.held}
theorem TnI.sift (n:Int):∀(l:List (Int×Int)) {lim:Nat} {x:Tn},TnI ms i lim x→TnI ms i (lim+l.length) (x.sift n l)
 |[],lim,x,h=>h
 |s::r,lim,x,h=>by
  have e:x.sift n (s::r)=(if goes x.pub s then x else x.note n 1 s.1 s.2).sift n r:=rfl;rw[e,List.length_cons,show lim+(r.length+1)=lim+1+r.length by omega];refine TnI.sift n r ?_;split
  ·exact h.weaken (by omega)
  ·exact h.note _ _ _ _
theorem TnI.pop (h:TnI ms i lim x):TnI ms i lim x.popBox:=by
 have hs:x.box.tail.Sublist x.box:=List.tail_sublist _;refine {mf:=h.mf,good:=h.good,phase:=h.phase,clen:=h.clen,cells:=h.cells,nodes:=h.nodes,tree:=h.tree,nlen:=h.nlen,box:=fun e he=>h.box e (hs.subset he),starts:=Nat.le_trans (hs.countP_le) h.starts,clicks:=Nat.le_trans (hs.countP_le) h.clicks,msgs:=fun b=>?_,llen:=h.llen,dbl:=h.dbl,out:=?_,held:=?_}
 ·have h1:=h.msgs b;have h2:x.box.tail.countP (isMsg b)≤x.box.countP (isMsg b):=hs.countP_le;unfold Tn.waiting at*;show((x.box.tail.countP (isMsg b):Nat):Int)≤x.share;omega
 ·intro e;obtain⟨a,b,c⟩:=h.out e;exact⟨a,b,by show x.box.tail=[];rw[c];rfl⟩
 ·intro e;obtain⟨a,b⟩:=h.held e;exact⟨a,by show x.box.tail=[];rw[b];rfl⟩
theorem TnI.finish (h:TnI ms i lim x) (hp:x.phase=1) (n:Int) (ev:Ev) {O:H.Out} (hO:H.OutOk O):TnI ms i (lim+5) (x.finish n ev O.cells O.shows O.sends):=by
 unfold Tn.finish;have h1:TnI ms i lim (({x with cells:=O.cells}:Tn).show O.shows):=by
  have hsh:Tr.shOk O.shows:=fun s hs=>⟨(hO.keys s hs).1,Nat.le_trans (hO.keys s hs).2 (by decide)⟩;refine {mf:=h.mf,good:=h.good,phase:=h.phase,clen:=hO.clen,cells:=hO.cells,nodes:=planO_ok h.nodes hsh,tree:=(planO_tree _ _).1,nlen:=(planO_tree _ _).2,box:=h.box,starts:=h.starts,clicks:=h.clicks,msgs:=h.msgs,llen:=h.llen,dbl:=h.dbl,out:=fun e=>?_,held:=fun e=>?_}
  ·have:x.phase=0:=e;omega
  ·have:x.phase=2:=e;omega
 exact((h1.note n 0 ev.what ev.arg).sift n O.sends).weaken (by have:=hO.sends;omega)
theorem TnI.hold (h:TnI ms i lim x) (n f s:Int):TnI ms i (lim+1) (x.hold n f s):=by
 unfold Tn.hold;refine TnI.note ?_ _ _ _ _;refine {mf:=h.mf,good:=h.good,phase:=Or.inr (Or.inr rfl),clen:=h.clen,cells:=h.cells,nodes:=planO_ok h.nodes heldShow_sh,tree:=(planO_tree _ _).1,nlen:=(planO_tree _ _).2,box:=fun e he=>by simp at he,starts:=Nat.zero_le _,clicks:=Nat.zero_le _,msgs:=fun b=>?_,llen:=h.llen,dbl:=?_,out:=fun e=>?_,held:=fun e=>⟨held_nodes h.tree h.nlen,rfl⟩}
 ·have:=h.good.share.1;simp only[Tn.mf] at this;show(0:Int)≤x.share;omega
 ·have:=h.dbl;show 0≤(if x.dbl<4 then x.dbl+1 else x.dbl)∧(if x.dbl<4 then x.dbl+1 else x.dbl)≤4;split<;>omega
 ·have:(2:Int)=0:=e;omega
theorem TnI.turn (h:TnI ms i lim x) (hm:ms.length≤4) (hl:lim≤90000) (n route:Int) (ds:List Int) (hr:0≤route∧route≤255) (hd:InR ds):TnI ms i (lim+5) (x.turn n route ds):=by
 unfold Tn.turn;split
 ·rename_i hp;have hO:=Tn.out_ok (h.toOk hm hl) n route ds hr hd;unfold Tn.handle;split
  ·exact h.pop.finish hp n _ hO
  ·exact(h.pop.hold n _ _).weaken (by omega)
 ·exact h.weaken (by omega)
theorem TnI.gives (h:TnI ms i lim x) (hm:ms.length≤4) (hl:lim≤90000) (n route:Int) (ds:List Int) (hr:0≤route∧route≤255) (hd:InR ds):(x.gives n route ds).length≤4∧∀y∈x.gives n route ds,((0≤y.1∧y.1≤3)∧0≤y.2∧y.2≤65535)∧goes x.pub y=true:=by
 unfold Tn.gives;split
 ·have hO:=Tn.out_ok (h.toOk hm hl) n route ds hr hd;unfold Tn.sent;split
  ·refine⟨Nat.le_trans (List.length_filter_le _ _) hO.sends,fun y hy=>?_⟩;rw[List.mem_filter] at hy;exact⟨hO.topics y hy.1,hy.2⟩
  ·exact⟨Nat.zero_le _,fun y hy=>by simp at hy⟩
 ·exact⟨Nat.zero_le _,fun y hy=>by simp at hy⟩
theorem countP_snoc (p:Ev→Bool) (l:List Ev) (e:Ev):(l++[e]).countP p=l.countP p+if p e then 1 else 0:=by
 rw[List.countP_append];simp[List.countP_cons]
theorem TnI.receive (h:TnI ms i lim x) (hm:ms.length≤4) (n:Int) (s:Nat) {m:Mf} (hs:ms[s]? =some m) (hsi:s≠i) (topic value:Int) (ht:0≤topic∧topic≤3) (hv:0≤value∧value≤65535) (hp:bitOf m.pub topic=true):TnI ms i (lim+1) (x.receive n s topic value):=by
 unfold Tn.receive;split
 ·rename_i q;obtain⟨q1,q2⟩:=q;split
  ·exact h.note _ _ _ _
  ·rename_i q3;have hsl:=(List.getElem?_eq_some_iff.1 hs).1;refine {mf:=h.mf,good:=h.good,phase:=h.phase,clen:=h.clen,cells:=h.cells,nodes:=h.nodes,tree:=h.tree,nlen:=h.nlen,box:=fun e he=>?_,starts:=?_,clicks:=?_,msgs:=fun b=>?_,llen:=by have:=h.llen;simp only;omega,dbl:=h.dbl,out:=fun e=>?_,held:=fun e=>?_}
   ·rcases List.mem_append.1 he with he|he
    ·exact h.box e he
    ·rw[List.mem_singleton] at he;subst he;refine⟨⟨by simp,⟨by simp only;omega,by simp only;omega⟩,⟨hv.1,hv.2⟩,⟨ht.1,by simp only;omega⟩⟩,Or.inr (Or.inr ⟨rfl,s,m,x.mf,hs,h.mf,rfl,hsi,topic,ht,hp,q2⟩)⟩
   ·show(x.box++[_]).countP isStart≤1;rw[countP_snoc];have:=h.starts;simpa[isStart] using this
   ·show(x.box++[_]).countP isClick≤6;rw[countP_snoc];have:=h.clicks;simpa[isClick,Tn.clicks] using this
   ·show(((x.box++[_]).countP (isMsg b):Nat):Int)≤x.share;rw[countP_snoc];have:=h.msgs b;unfold Tn.waiting at this q3;by_cases hb:((s:Int)+1)=b
    ·rw[hb] at q3;have e1:isMsg b ⟨2,(s:Int)+1,value,topic⟩=true:=by simp[isMsg,hb]
     rw[if_pos e1];omega
    ·have e1:isMsg b ⟨2,(s:Int)+1,value,topic⟩=false:=by simp[isMsg,hb]
     rw[if_neg (by rw[e1];simp)];omega
   ·have:x.phase=0:=e;omega
   ·have:x.phase=2:=e;omega
 ·exact h.weaken (by omega)
theorem TnI.get (h:TnI ms i lim x) (hm:ms.length≤4) (n:Int) (s:Nat) {m:Mf} (hs:ms[s]? =some m) (topic value:Int) (ht:0≤topic∧topic≤3) (hv:0≤value∧value≤65535) (hp:bitOf m.pub topic=true):TnI ms i (lim+1) (x.get i n ((s:Int),topic,value)):=by
 unfold Tn.get;split
 ·exact h.weaken (by omega)
 ·rename_i q;exact h.receive hm n s hs (fun e=>q (by simp only;omega)) topic value ht hv hp
theorem TnI.click (h:TnI ms i lim x) (id:Int):TnI ms i lim (x.click id):=by
 unfold Tn.click;split
 ·rename_i hp;split
  ·rename_i nd hnd;have hmem:=List.mem_of_find?_eq_some hnd;have hnk:=(h.nodes nd hmem).1;unfold Tn.takeClick;split
   ·exact h
   ·rename_i q;refine {mf:=h.mf,good:=h.good,phase:=h.phase,clen:=h.clen,cells:=h.cells,nodes:=h.nodes,tree:=h.tree,nlen:=h.nlen,box:=fun e he=>?_,starts:=?_,clicks:=?_,msgs:=fun b=>?_,llen:=h.llen,dbl:=h.dbl,out:=fun e=>?_,held:=fun e=>?_}
    ·rcases List.mem_append.1 he with he|he
     ·exact h.box e he
     ·rw[List.mem_singleton] at he;subst he;exact⟨⟨by simp,by simp,⟨hnk.2.2.1,hnk.2.2.2⟩,by simp⟩,Or.inr (Or.inl ⟨rfl,rfl⟩)⟩
    ·show(x.box++[_]).countP isStart≤1;rw[countP_snoc];have:=h.starts;simpa[isStart] using this
    ·show(x.box++[_]).countP isClick≤6;rw[countP_snoc];unfold Tn.clicks at q;simp[isClick];omega
    ·show(((x.box++[_]).countP (isMsg b):Nat):Int)≤x.share;rw[countP_snoc];have:=h.msgs b;unfold Tn.waiting at this;simpa[isMsg] using this
    ·have:x.phase=0:=e;omega
    ·have:x.phase=2:=e;omega
  ·exact h
 ·exact h
end
def TsI (ms:List Mf) (lim:Nat) (ts:List Tn):Prop:=∀i x,ts[i]? =some x→TnI ms i lim x
structure HI (ms:List Mf) (H:Hs):Prop where
 len:H.ts.length=ms.length
 route:0≤H.route∧H.route≤3
 frames:0≤H.frames∧H.frames≤200
 ten:TsI ms (30*H.frames.toNat) H.ts
section
variable {ms : List Mf} {lim lim' : Nat} {ts : List Tn}
theorem TsI.map (h:TsI ms lim ts) {f:Nat→Tn→Tn} (hf:∀i x,TnI ms i lim x→TnI ms i lim' (f i x)):TsI ms lim' (ts.mapIdx f):=by
 intro i y hy;rw[List.getElem?_mapIdx] at hy;cases hx:ts[i]? with
 |none=>rw[hx] at hy;simp at hy
 |some x=>
  rw[hx] at hy;have:f i x=y:=by simpa using hy
  rw[←this];exact hf i x (h i x hx)
theorem TsI.weaken (h:TsI ms lim ts) (hl:lim≤lim'):TsI ms lim' ts:=fun i x hx=>(h i x hx).weaken hl
theorem TsI.mem (h:TsI ms lim ts) {x:Tn} (hx:x∈ts):∃i,TnI ms i lim x:=by
 obtain⟨i,hi⟩:=List.mem_iff_getElem?.1 hx;exact⟨i,h i x hi⟩
def LtGood (ms:List Mf) (L:Lt):Prop:=∃(s:Nat) (m:Mf),ms[s]? =some m∧L.1=(s:Int)∧(0≤L.2.1∧L.2.1≤3)∧(0≤L.2.2∧L.2.2≤65535)∧bitOf m.pub L.2.1=true
theorem TsI.deliver (h:TsI ms lim ts) (hm:ms.length≤4) (n:Int) {L:Lt} (hL:LtGood ms L):TsI ms (lim+1) (deliver n ts L):=by
 obtain⟨s,m,h1,h2,h3,h4,h5⟩:=hL;obtain⟨a,b,c⟩:=L;simp only at h2 h3 h4 h5;subst h2;exact h.map fun i x hx=>hx.get hm n s h1 b c h3 h4 h5
theorem TsI.delivers (hm:ms.length≤4) (n:Int):∀(l:List Lt) {lim:Nat} {ts:List Tn},TsI ms lim ts→(∀L∈l,LtGood ms L)→TsI ms (lim+l.length) (l.foldl (Go.Proofs.YtidaflmmldefcaaGreat.deliver n) ts)
 |[],lim,ts,h,_=>h
 |L::r,lim,ts,h,hl=>by
  rw[List.foldl_cons,List.length_cons,show lim+(r.length+1)=lim+1+r.length by omega];exact TsI.delivers hm n r (h.deliver hm n (hl L (by simp))) (fun z hz=>hl z (by simp[hz]))
theorem drawsOf_in {dl:List (List Int)} (hd:∀l∈dl,InR l) (i:Nat):InR (drawsOf dl i):=by
 unfold drawsOf;rw[List.getD_eq_getElem?_getD];cases h:dl[i]? with
 |none=>intro v hv;simp at hv
 |some l=>exact hd l (List.mem_of_getElem? h)
theorem postTo_good (h:TsI ms lim ts) (hm:ms.length≤4) (hl:lim≤90000) (n route:Int) (hr:0≤route∧route≤255) {dl:List (List Int)} (hd:∀l∈dl,InR l):∀k,(postTo ts n route dl k).length≤4*k∧∀L∈postTo ts n route dl k,LtGood ms L
 |0=>⟨Nat.zero_le _,fun L hL=>by simp[postTo] at hL⟩
 |k+1=>by
  obtain⟨h1,h2⟩:=postTo_good h hm hl n route hr hd k;unfold postTo;cases hx:ts[k]? with
  |none=>simp only[List.append_nil];exact⟨by omega,h2⟩
  |some x=>
   have hx':=h k x hx;obtain⟨g1,g2⟩:=hx'.gives hm hl n route (drawsOf dl k) hr (drawsOf_in hd k);refine⟨?_,?_⟩
   ·simp[lettersOf];omega
   ·intro L hL;rcases List.mem_append.1 hL with hL|hL
    ·exact h2 L hL
    ·simp only[lettersOf,List.mem_map] at hL;obtain⟨y,hy,rfl⟩:=hL;obtain⟨⟨q1,q2⟩,q3⟩:=g2 y hy;exact⟨k,x.mf,hx'.mf,rfl,q1,q2,q3⟩
end
section
variable {ms : List Mf} {H : Hs} {dl : List (List Int)}
theorem HI.came (h:HI ms H):TsI ms (30*H.frames.toNat) H.came:=h.ten.map fun i x hx=>hx.come _ _ (by have:=h.route;omega)
theorem HI.turned (h:HI ms H) (hm:ms.length≤4) (hd:∀l∈dl,InR l):TsI ms (30*H.frames.toNat+5) (H.turned dl):=by
 refine h.came.map fun i x hx=>hx.turn hm (by have:=h.frames;omega) _ _ _ (by have:=h.route;omega) (drawsOf_in hd i)
theorem HI.post (h:HI ms H) (hm:ms.length≤4) (hd:∀l∈dl,InR l):(H.post dl).length≤16∧∀L∈H.post dl,LtGood ms L:=by
 obtain⟨h1,h2⟩:=postTo_good h.came hm (by have:=h.frames;omega) (H.frames+1) H.route (by have:=h.route;omega) hd H.ts.length;refine⟨?_,h2⟩;have:=h.len;unfold Hs.post;omega
theorem HI.posted (h : HI ms H) (hm : ms.length ≤ 4) (hd : ∀ l ∈ dl, InR l) (k : Nat) : TsI ms (30 * H.frames.toNat + 21) (H.posted dl k) := by
  obtain ⟨h1, h2⟩ := h.post (dl := dl) hm hd
  have := TsI.delivers hm (H.frames + 1) ((H.post dl).take k) (h.turned hm hd) (fun L hL => h2 L (List.mem_of_mem_take hL))
  exact this.weaken (by have : ((H.post dl).take k).length ≤ (H.post dl).length := by simp; omega
                        omega)
theorem HI.fit (h:HI ms H) (hm:ms.length≤4) (hd:∀l∈dl,InR l):Fit H dl:=by
 have hf:=h.frames;have hr:=h.route;refine⟨by omega,h.frames,by have:=h.len;omega,?_,?_,?_,?_,?_⟩
 ·intro x hx;obtain⟨i,hi⟩:=h.ten.mem hx;have:=hi.blen hm;have g:=hi.good.routes;simp only[Tn.mf] at g;exact⟨by omega,g.1,by omega⟩
 ·intro x hx;obtain⟨i,hi⟩:=h.came.mem hx;exact hi.toOk hm (by omega)
 ·intro x hx j;obtain⟨i,hi⟩:=h.came.mem hx;obtain⟨g1,g2⟩:=hi.gives hm (by omega) (H.frames+1) H.route (drawsOf dl j) (by omega) (drawsOf_in hd j);exact g1
 ·intro L hL;obtain⟨s,m,h1,h2,h3,_⟩:=(h.post (dl:=dl) hm hd).2 L hL;have:=(List.getElem?_eq_some_iff.1 h1).1;omega
 ·intro k x hx;obtain⟨i,hi⟩:=(h.posted hm hd k).mem hx;have:=hi.blen hm;have:=hi.llen;have g:=hi.good.sub;simp only[Tn.mf] at g;exact⟨by omega,by omega,g.1,by omega⟩
theorem HI.frame (h:HI ms H) (hm:ms.length≤4) (hd:∀l∈dl,InR l):HI ms (H.frame dl):=by
 unfold Hs.frame;split
 ·exact h
 ·rename_i q;have hf:=h.frames;refine⟨?_,h.route,⟨by simp only;omega,by simp only;omega⟩,?_⟩
  ·show((H.post dl).foldl (deliver (H.frames+1)) (H.turned dl)).length=_;rw[←posted_all,posted_length];exact h.len
  ·show TsI ms (30*(H.frames+1).toNat) ((H.post dl).foldl (deliver (H.frames+1)) (H.turned dl));rw[←posted_all];exact(h.posted hm hd _).weaken (by omega)
theorem HI.navigate (h:HI ms H) (r:Int) (hr:0≤r):HI ms (H.navigate r):=by
 unfold Hs.navigate;split
 ·exact h
 ·exact⟨h.len,⟨hr,by simp only;omega⟩,h.frames,h.ten⟩
theorem HI.click (h:HI ms H) (id:Int):HI ms (H.click id):=by
 unfold Hs.click;split
 ·exact h
 ·split
  ·rename_i x hx;refine⟨by simpa using h.len,h.route,h.frames,?_⟩;intro i y hy;simp only at hy;by_cases hi:i=(id/100).toNat
   ·subst hi;rw[List.getElem?_set_self (List.getElem?_eq_some_iff.1 hx).1] at hy;have:=Option.some.inj hy;subst this;exact(h.ten _ x hx).click _
   ·rw[List.getElem?_set_ne (fun e=>hi e.symm)] at hy;exact h.ten i y hy
  ·exact h
theorem HI.clickOk (h:HI ms H) (hm:ms.length≤4):∀x∈H.ts,x.box.length≤100000∧x.nodes.length≤100000∧∀nd∈x.nodes,0≤nd.1∧nd.1≤255:=by
 intro x hx;obtain⟨i,hi⟩:=h.ten.mem hx;have h1:=hi.blen hm;have h2:=hi.nlen;exact⟨by omega,by omega,fun nd hnd=>⟨(hi.nodes nd hnd).1.1,(hi.nodes nd hnd).1.2.1⟩⟩
def Mf.tn (m:Mf):Tn:=⟨m.prog,m.fuel,m.routes,m.pub,m.sub,m.share,m.back,0,zeros,[],[],[],0,0⟩
def newHs (ms:List Mf):Hs:=⟨0,0,ms.map Mf.tn⟩
theorem newHs_ok (hg:∀m∈ms,m.good):HI ms (newHs ms):=by
 refine⟨by simp[newHs],by simp[newHs],by simp[newHs],?_⟩;intro i x hx;simp only[newHs,List.getElem?_map] at hx;cases hm:ms[i]? with
 |none=>rw[hm] at hx;simp at hx
 |some m=>
  rw[hm] at hx;have:m.tn=x:=by simpa using hx
  subst this;have hgm:=hg m (List.mem_of_getElem? hm);exact {mf:=hm,good:=hgm,phase:=Or.inl rfl,clen:=rfl,cells:=zeros_in,nodes:=by intro y hy;simp[Mf.tn] at hy,tree:=rfl,nlen:=Nat.zero_le _,box:=by intro e he;simp[Mf.tn] at he,starts:=Nat.zero_le _,clicks:=Nat.zero_le _,msgs:=fun b=>by have:=hgm.share.1;show(0:Int)≤m.share;omega,llen:=Nat.zero_le _,dbl:=by simp[Mf.tn],out:=fun _=>⟨rfl,rfl,rfl⟩,held:=fun e=>by simp[Mf.tn] at e}
end
end Go.Proofs.YtidaflmmldefcaaGreat
