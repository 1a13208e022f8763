/- Parts of the proof of Hosts: WlD, WlF, SameN. -/
import Derived.Test.YtidaflmmldefcaaGreatQ22
import Derived.Test.YtidaflmmldefcaaGreatQ38
import Derived.Test.YtidaflmmldefcaaGreatQ24
import Derived.Test.YtidaflmmldefcaaGreatQ28
set_option maxHeartbeats 16000000
namespace Go.Proofs.YtidaflmmldefcaaGreat
open Go.RowKit
set_option linter.unusedVariables false
def drCs (ds:List Int):List Value:=ds.map fun x=> .int .u16 x
theorem drCs_one (ds:List Int):∀u∈drCs ds,u.oneCell'=true:=by
 intro u hu;simp only[drCs,List.mem_map] at hu;obtain⟨x,_,rfl⟩:=hu;rfl
theorem drCs_at {ds:List Int} {i:Nat} {x:Int} (h:ds[i]? =some x):(drCs ds)[i]? =some (.int .u16 x):=by simp[drCs,h]
structure DrOne (w:World) (lim:Nat) (eo:Option Addr) (ec:Nat) (ds:List Int):Prop where
 rng:InR ds
 max:ds.length≤1100000
 nil:eo=none→ds=[]∧ec=0
 at_:ds≠[]→∃bd of,eo=some ⟨bd,of,none⟩∧bd<lim∧U16Row w bd of ds
def DrwAt (w:World) (lim:Nat) (dao:Option Addr) (dl:List (List Int)):Prop:=∀(i:Nat) (ds:List Int),dl[i]? =some ds→∃g off eo ec,dao=some ⟨g,off,none⟩∧g<lim∧w.cell? ⟨g,off+i,none⟩=some (.slice eo ds.length ec)∧DrOne w lim eo ec ds
section
variable {w w' : World} {lim : Nat} {dao : Option Addr} {dl : List (List Int)}
theorem DrOne.keep {eo:Option Addr} {ec:Nat} {ds:List Int} (h:DrOne w lim eo ec ds) (hk:∀k,k<lim→w'.heap[k]? =w.heap[k]?):DrOne w' lim eo ec ds:=by
 refine⟨h.rng,h.max,h.nil,fun hne=>?_⟩;obtain⟨bd,of,e,hl,hr⟩:=h.at_ hne;exact⟨bd,of,e,hl,fun i x hx=>by rw[←hr i x hx];exact World.cell?_of_block (hk bd hl)⟩
theorem DrwAt.keep (h:DrwAt w lim dao dl) (hk:∀k,k<lim→w'.heap[k]? =w.heap[k]?):DrwAt w' lim dao dl:=by
 intro i ds hd;obtain⟨g,off,eo,ec,e,hl,hc,h1⟩:=h i ds hd;exact⟨g,off,eo,ec,e,hl,by rw[←hc];exact World.cell?_of_block (hk g hl),h1.keep hk⟩
theorem DrOne.draws {eo:Option Addr} {ec:Nat} {ds:List Int} (h:DrOne w lim eo ec ds) {base:Nat} (hb:lim≤base):DrawsAt w eo ds.length ds base:=by
 refine⟨rfl,Nat.le_trans h.max (by unfold maxLen;decide),?_,h.rng⟩;by_cases hne:ds=[]
 ·subst hne;exact⟨0,0,fun q=>absurd q (by simp),fun i x hx=>by simp at hx⟩
 ·obtain⟨bd,of,e,hl,hr⟩:=h.at_ hne;exact⟨bd,of,fun _=>⟨e,Nat.lt_of_lt_of_le hl hb⟩,hr⟩
theorem DrwAt.drs (h:DrwAt w lim dao dl) (hlw:lim≤w.heap.size) {S:Nat→Prop} (hS:∀k,S k→lim≤k):DrsK S w dao dl:=by
 intro i ds hd;obtain⟨g,off,eo,ec,e,hl,hc,h1⟩:=h i ds hd;refine⟨g,off,eo,ec,e,fun u hu=>?_⟩;have hk:∀k,k<lim→u.heap[k]? =w.heap[k]? :=fun k hkl=>hu.block k (Nat.lt_of_lt_of_le hkl hlw) fun q=>by have:=hS k q;omega
 exact⟨by rw[←hc];exact World.cell?_of_block (hk g hl),(h1.keep hk).draws (Nat.le_trans hlw hu.size)⟩
structure OwnD (w:World) (base:Nat) (ov:Value) (ss:List Value) (dl:List (List Int)):Prop where
 row:w.ownsRow base 93 1 ov ss.length ss
 len:ss.length=dl.length
 one:∀(i:Nat) (v:Value) (ds:List Int),ss[i]? =some v→dl[i]? =some ds→w.ownsRow base 74 1 v ds.length (drCs ds)
 apart:∀(i j:Nat) (v u:Value),ss[i]? =some v→ss[j]? =some u→i≠j→∀k,v.ownBlock=some k→u.ownBlock≠some k
theorem OwnD.keep {base:Nat} {ov:Value} {ss:List Value} (h:OwnD w base ov ss dl) (hk:∀k cs t,Blk w k cs t→(t=93∨t=74)→w'.heap[k]? =w.heap[k]?):OwnD w' base ov ss dl:=by
 refine⟨own_block h.row fun k q=>?_,h.len,fun i v ds hv hd=>own_block (h.one i v ds hv hd) fun k q=>?_,h.apart⟩
 ·obtain⟨c,b⟩:=own_blk h.row q;exact hk k _ _ b (Or.inl rfl)
 ·obtain⟨c,b⟩:=own_blk (h.one i v ds hv hd) q;exact hk k _ _ b (Or.inr rfl)
theorem OwnD.below {base:Nat} {ov:Value} {ss:List Value} (h:OwnD w base ov ss dl) (hb:Below w.heap.size w w'):OwnD w' base ov ss dl:=h.keep fun k cs t b _=>hb.block k b.lt
theorem OwnD.more {base:Nat} {ov:Value} {ss:List Value} (h:OwnD w base ov ss dl) {v:Value} {ds:List Int} (hv:w.ownsRow base 74 1 v ds.length (drCs ds)) (hn:∀(i:Nat) (u:Value),ss[i]? =some u→∀k,v.ownBlock=some k→u.ownBlock≠some k) {w1:World} {ov':Value} (ho:w1.ownsRow base 93 1 ov' (ss.length+1) (ss++[v])) (hg:w.grownBy w1 ov.ownBlock):OwnD w1 base ov' (ss++[v]) (dl++[ds]):=by
 have keep:∀{z:Value} {m:Nat} {xs:List Value},w.ownsRow base 74 1 z m xs→w1.ownsRow base 74 1 z m xs:=by intro z m xs hz;refine own_block hz fun k q=>?_;obtain⟨c,b⟩:=own_blk hz q;refine hg.block k b.lt fun e=>?_;obtain⟨c2,b2⟩:=own_blk h.row e.symm;exact b.ne b2 (by decide) rfl
 have cases':∀(j:Nat) (u:Value),(ss++[v])[j]? =some u→(j<ss.length∧ss[j]? =some u)∨(j=ss.length∧u=v):=by
  intro j u hj;by_cases hl:j<ss.length
  ·rw[List.getElem?_append_left hl] at hj;exact Or.inl ⟨hl,hj⟩
  ·have hj2:=hj;rw[List.getElem?_append_right (by omega)] at hj2;have e:=List.mem_of_getElem? hj2;simp at e;have:=(List.getElem?_eq_some_iff.1 hj).1;simp at this;exact Or.inr ⟨by omega,e⟩
 refine⟨by rw[List.length_append];exact ho,by simp[h.len],?_,?_⟩
 ·intro i u es hu he;rcases cases' i u hu with ⟨hl,hu2⟩|⟨rfl,rfl⟩
  ·rw[List.getElem?_append_left (by rw[←h.len];exact hl)] at he;exact keep (h.one i u es hu2 he)
  ·rw[h.len,List.getElem?_append_right (Nat.le_refl _)] at he;simp at he;subst he;exact keep hv
 ·intro i j u z hu hz hij k hk hk2;rcases cases' i u hu with ⟨hl,hu2⟩|⟨rfl,rfl⟩
  ·rcases cases' j z hz with ⟨hl2,hz2⟩|⟨rfl,rfl⟩
   ·exact h.apart i j u z hu2 hz2 hij k hk hk2
   ·exact hn i u hu2 k hk2 hk
  ·rcases cases' j z hz with ⟨hl2,hz2⟩|⟨rfl,rfl⟩
   ·exact hn j z hz2 k hk hk2
   ·exact hij rfl
theorem OwnD.drs {base:Nat} {oo:Option Addr} {oc:Nat} {ss:List Value} (h:OwnD w base (.slice oo ss.length oc) ss dl) (hr:∀ds∈dl,InR ds∧ds.length≤maxLen) {S:Nat→Prop} (hS:∀k,S k→∀cs t,Blk w k cs t→t≠93∧t≠74):DrsK S w oo dl:=by
 intro i ds hd;obtain⟨v,hv⟩:∃v,ss[i]? =some v:=⟨ss[i]'(by rw[h.len];exact(List.getElem?_eq_some_iff.1 hd).1),List.getElem?_eq_getElem _⟩;obtain⟨g,rfl,_⟩:=row_cell h.row hv;obtain⟨eo,ec,rfl⟩:=own_is (h.one i v ds hv hd);refine⟨g,0,eo,ec,rfl,fun u hu=>?_⟩;have hu2:OwnD u base (.slice (some ⟨g,0,none⟩) ss.length oc) ss dl:=h.keep fun k cs t b ht=>hu.block k b.lt fun q=>by
  have:=hS k q cs t b;rcases ht with e|e
  ·exact this.1 e
  ·exact this.2 e
 obtain⟨g2,e2,hc⟩:=row_cell hu2.row hv;simp only[Option.some.injEq,Addr.mk.injEq,and_true] at e2;subst e2;have ho:=hu2.one i _ ds hv hd;refine⟨by rw[Nat.zero_add];exact hc,rfl,(hr ds (List.mem_of_getElem? hd)).2,?_,(hr ds (List.mem_of_getElem? hd)).1⟩;by_cases hne:ds.length=0
 ·exact⟨0,0,fun q=>absurd q (by omega),fun j x hx=>by have:=(List.getElem?_eq_some_iff.1 hx).1;omega⟩
 ·rcases ho.2 with ⟨_,h0⟩|⟨b,cap,cur,hv2,_,hh,_⟩
  ·exact absurd h0 hne
  ·simp only[Value.slice.injEq] at hv2;obtain⟨rfl,_,rfl⟩:=hv2;refine⟨b,0,fun _=>⟨rfl,lt_of_block hh⟩,fun j x hx=>?_⟩;have q:=own_cellN ho (drCs_at hx);rw[Nat.zero_add];exact q
end
section
variable {w0 w w' : World} {B : Nat} {Ds : List Dk} {e : Nat}
theorem Kn.ty {tn t:TypeId} {size:Nat} {mk:Int→List Value} {v cv wv:Value} {E:List Value} {n:Nat} {xs:List Value} (h:Kn w tn t size mk v E cv wv n xs) {k:Nat} (hk:knAll v E cv wv k):∃cs t',Blk w k cs t'∧(t'=tn∨t'=t):=by
 rcases hk with e|⟨u,hu,hp,e⟩|e|e
 ·obtain⟨c,b⟩:=own_blk h.row e;exact⟨_,_,b,Or.inl rfl⟩
 ·obtain⟨i,hi⟩:=List.mem_iff_getElem?.1 hu;obtain⟨m,_,ao,cap,rfl,q⟩:=h.marks i u hi;by_cases h0:m=0
  ·subst h0;exact absurd rfl (hp ao cap)
  ·obtain⟨g,cur,rfl,hb,_⟩:=q.resolve_left h0;obtain rfl:g=k:=by simpa[Value.ownBlock] using e
   exact⟨_,_,hb,Or.inr rfl⟩
 ·obtain⟨c,b⟩:=own_blk h.came e;exact⟨_,_,b,Or.inr rfl⟩
 ·obtain⟨c,b⟩:=own_blk h.was e;exact⟨_,_,b,Or.inr rfl⟩
theorem WS.other (h:WS w0 w B Ds e) (hk:Kept (fun j=>w0.heap.size≤j∧∃cs,Blk w j cs 74) w w'):WS w0 w' B Ds e:=by
 obtain⟨dv,K1,K2,K3,l1,l2,l3,h1,hq⟩:=h;have same:∀k cs t,Blk w k cs t→t≠74→w'.heap[k]? =w.heap[k]? :=by intro k cs t b ht;refine hk.block k b.lt ?_;rintro⟨_,c2,b2⟩;exact b.ne b2 ht rfl
 refine⟨dv,K1,K2,K3,l1,l2,l3,⟨?_,?_,?_,?_,h1.dge,h1.bge,h1.apart,h1.bap,h1.bdv⟩,hq⟩
 ·refine⟨hk.os.trans h1.bl.os,hk.tape.trans h1.bl.tape,hk.output.trans h1.bl.output,Nat.le_trans h1.bl.size hk.size,fun k hl=>?_⟩;refine(hk.block k (Nat.lt_of_lt_of_le hl h1.bl.size) ?_).trans (h1.bl.block k hl);rintro⟨q,_⟩;omega
 ·refine h1.books.keep fun k hl q=>?_;rcases q with q|q|q|q
  ·rw[q];exact same B _ _ h1.books.blk (by decide)
  ·obtain⟨cs,t,b,ht⟩:=h1.books.n1.ty q;exact same k cs t b (by rcases ht with e|e<;>subst e<;>decide)
  ·obtain⟨cs,t,b,ht⟩:=h1.books.n2.ty q;exact same k cs t b (by rcases ht with e|e<;>subst e<;>decide)
  ·obtain⟨cs,t,b,ht⟩:=h1.books.n3.ty q;exact same k cs t b (by rcases ht with e|e<;>subst e<;>decide)
 ·refine own_block h1.row fun k q=>?_;obtain⟨c,b⟩:=own_blk h1.row q;exact same k _ _ b (by decide)
 ·intro i D hD;refine(h1.dk i D hD).keep fun k q=>?_;obtain⟨cs,t,b,ht⟩:=(h1.dk i D hD).ty q;refine same k cs t b ?_;rintro rfl;exact absurd ht (by decide)
end
theorem info74:(Tryz.prog.info? 74).map (fun i=>(i.zero,i.size,i.bytes))=some (some (.int .u16 0),1,2):=by kernel_rfl
theorem info93:(Tryz.prog.info? 93).map (fun i=>(i.zero,i.size,i.bytes))=some (some (.slice none 0 0),1,24):=by kernel_rfl
theorem copy_draws {w w1:World} {lim n ec:Nat} {eo:Option Addr} {ds:List Int} (hn:ds.length=n) (h:DrOne w lim eo ec ds) (hl:lim≤w.heap.size) (ho:w1.ownsRow w.heap.size 74 1 (.slice (some ⟨w.heap.size,0,none⟩) n n) n (madeCells #[.int .u16 0] n).toList) (hg:w.grownBy w1 none): ∃w2,(Builtin.copy_ #[93,93] 3 #[.slice (some ⟨w.heap.size,0,none⟩) n n,.slice eo n ec]).run Tryz.prog w1= .ok (goInt n) w2∧w.heap.size<w2.heap.size∧Hid (Below w.heap.size w w2)∧Hid (w2.ownsRow w.heap.size 74 1 (.slice (some ⟨w.heap.size,0,none⟩) n n) n (drCs ds)):=by
 obtain⟨i0,hi,hz0,hz1,hz2⟩:=info_parts info74;have hb1:Below w.heap.size w w1:=(Below.refl _ _).grown hg (Nat.le_refl _) (by simp);cases eo with
 |none=>obtain⟨rfl,rfl⟩:=h.nil rfl;simp at hn;subst hn;refine⟨w1,run_copy_nil Tryz.underlying93 hi hz1 w1 _ _ _,?_,hb1,by unfold Hid;simpa[madeCells,drCs] using ho⟩;obtain⟨c,b⟩:=own_cur ho;exact b.lt
 |some a=>
  obtain⟨cur,hcur,hsz,hrest⟩:∃cur:Array Value,Blk w1 w.heap.size cur 74∧cur.size=n∧∀xs:Array Value,xs.size=n→∀W:World,Blk W w.heap.size xs 74→W.ownsRow w.heap.size 74 1 (.slice (some ⟨w.heap.size,0,none⟩) n n) n xs.toList:=by
   rcases ho.2 with ⟨h,_⟩|⟨g,cp,cur,h,h0,h2,h3,h4,h5,h6⟩
   ·simp at h
   ·simp only[Value.slice.injEq,Option.some.injEq,Addr.mk.injEq,and_true,true_and] at h;obtain⟨rfl,rfl⟩:=h;refine⟨cur,h2,by omega,fun xs hx W hW=>⟨by simp[hx],Or.inr ⟨w.heap.size,n,xs,rfl,h0,hW,h3,h4,by omega,?_⟩⟩⟩;rw[List.take_of_length_le (by simp;omega)]
  have hsrc:∀j v,(drCs ds)[j]? =some v→w1.cell? (a.add j)=some v:=by
   intro j v hj;have hne:ds≠[]:=by intro e;rw[e] at hj;simp[drCs] at hj
   obtain⟨bd,of,e,hbl,hr⟩:=h.at_ hne;simp only[Option.some.injEq] at e;subst e;simp only[drCs,List.getElem?_map,Option.map_eq_some_iff] at hj;obtain⟨x,hx,rfl⟩:=hj;have q:=hr j x hx;rw[Addr.add_lit,←q];exact World.cell?_of_block (hb1.block bd (by omega))
  have hl2:(drCs ds).length=n:=by simp[drCs,hn]
  have z:=run_copy_any Tryz.underlying93 hi hz1 w1 w.heap.size n n n a ec cur (drCs ds) hcur (by rw[hl2];omega) (Nat.le_refl _) hsrc (by rw[hl2,hsz];exact Nat.le_refl _) (drCs_one ds);have hd:cur.toList.drop (drCs ds).length=[]:=List.drop_of_length_le (by rw[hl2];simp[hsz]);rw[hd,List.append_nil] at z;have hB:=setRow_blk w1 w.heap.size cur (drCs ds).toArray 74 hcur;have hb2:=below_row hb1 (Nat.le_refl _) (drCs ds).toArray;exact⟨_,z,hB.lt,hb2,by have q:=hrest (drCs ds).toArray (by simp[hl2]) _ hB;unfold Hid;simpa using q⟩
set_option maxRecDepth 100000 in
theorem frame_both {w0 w:World} {B:Nat} {Ds:List Dk} {e i:Nat} {D:Dk} (h:WS w0 w B Ds e) (hi:Ds[i]? =some D) (dao:Option Addr) (n dcap:Nat) (dl:List (List Int)) (hn:dl.length=n) (hlm:n≤1100000) (hd:DrwAt w w0.heap.size dao dl): Calls Tryz.prog 17 #[.pointer (some ⟨B,0,none⟩),.agg #[.pointer (some ⟨D.hb,0,none⟩),.pointer (some ⟨D.R.rb,0,none⟩)],.slice dao n dcap] w fun r w'=>r= .returned (.bool true)∧∃D',WS w0 w' B (Ds.set i D') e:=by
 obtain⟨i0,hi0,hz0,hz1,hz2⟩:=info_parts info74;obtain⟨j0,hj,hy0,hy1,hy2⟩:=info_parts info93;have HI:Hid (Ds[i]? =some D):=hi;have Hn:Hid (dl.length=n):=hn;have hwl:w0.heap.size≤w.heap.size:=h.bl.size;obtain⟨W,hW⟩:∃W,W=w.alloc (.cells #[.pointer (some ⟨D.hb,0,none⟩),.pointer (some ⟨D.R.rb,0,none⟩)] 47):=⟨_,rfl⟩;have hbW:Below w.heap.size w W:=by rw[hW];exact(Below.refl _ _).alloc (Nat.le_refl _) _
 have HWW:Hid (WS w0 W B Ds e):=h.below hbW;have HEW:Hid (Blk W w.heap.size #[.pointer (some ⟨D.hb,0,none⟩),.pointer (some ⟨D.R.rb,0,none⟩)] 47):=by unfold Hid;rw[hW];exact Blk.new w _ 47
 have HDW:Hid (DrwAt W w0.heap.size dao dl):=hd.keep fun k hk=>hbW.block k (by omega);have hsW:w0.heap.size≤W.heap.size:=Nat.le_trans hwl hbW.size;clear h hi hd hn hbW;go_enter Tryz.func17,Tryz.ntmps17;go_upto_region 3 with fail
 rw[←hW];clear hW;go_loopw [7,8] (fun o c wr=>∃(k oc:Nat) (oo:Option Addr),k≤n∧c= .int .i64 k∧o= .slice oo k oc∧Hid (Below W.heap.size W wr)∧Hid (∃ss,OwnD wr W.heap.size (.slice oo k oc) ss (dl.take k)))
  (fun _ c _=>n-(intOf c).toNat)
 case atStart=>exact⟨0,0,none,Nat.zero_le _,rfl,rfl,Below.refl _ _,[],World.ownsRow_nil _ _ _ _,rfl,fun i v ds hv=>by simp at hv,fun i j v u hv=>by simp at hv⟩
 case round=>
  obtain⟨k,oc,oo,hk,rfl,rfl,HB,HO⟩:=hrel;have HDk:Hid (DrwAt wr w0.heap.size dao dl):=HDW.out.keep fun q hq=>HB.out.block q (by omega);have hsr:w0.heap.size≤wr.heap.size:=Nat.le_trans hsW HB.out.size;have hsr2:W.heap.size≤wr.heap.size:=HB.out.size;by_cases hlt:k<n
  ·obtain⟨ds,hds⟩:∃ds,dl[k]? =some ds:=⟨dl[k]'(by have:=Hn.out;omega),List.getElem?_eq_getElem (by have:=Hn.out;omega)⟩;obtain⟨g,off,eo,ec,rfl,hgl,hc,h1⟩:=HDk.out k ds hds;have HOne:Hid (DrOne wr w0.heap.size eo ec ds):=h1;obtain⟨N,hN⟩:∃N,N=ds.length:=⟨_,rfl⟩;have HNd:Hid (ds.length=N):=hN.symm;rw[←hN] at hc;have hmax:N≤1100000:=by rw[hN];exact h1.max
   have hki:(k:Int)<(n:Int):=by omega
   have hk0:(0:Int)≤(k:Int):=by omega
   have HTk:Hid (dl.take (k+1)=dl.take k++[ds]):=by unfold Hid;rw[List.take_add_one,hds];rfl
   have hgw:g<wr.heap.size:=by omega
   clear hds h1 hN;go_wp2_with (at_make;refine wpList_make_full _ rfl (.tmp 24) (.tmp 24) 93 rfl wr.heap.size 74 i0 (.int .u16 0) 1 Tryz.underlying93 hi0 hz0 hz1 .i64 .i64 _ _ N rfl rfl (by first|rfl|go_num|(simp;omega)|omega) (by first|rfl|go_num|(simp;omega)|omega) (by rw[hz2];omega) (by unfold maxLen;omega) (Nat.le_refl _) ?_);intro w1 ho1 hg1;obtain⟨w2,hcopy,hw2,HB2,HO2⟩:=copy_draws HNd.out HOne.out hsr ho1 hg1;have hc1:w1.cell? ⟨g,off+k,none⟩=some (.slice eo N ec):=by rw[←hc];exact World.cell?_of_block (hg1.block g hgw (by simp))
   clear ho1 hg1 hc;have HOw:Hid (∃ss,OwnD w2 W.heap.size (.slice oo k oc) ss (dl.take k)∧ss.length=k∧∀(i:Nat) (u:Value),ss[i]? =some u→∀z,u.ownBlock=some z→z<wr.heap.size):=by
    obtain⟨ss,q⟩:=HO.out;refine⟨ss,q.below HB2.out,by have:=q.len;simp at this;have:=Hn.out;omega,fun i u hu z hz=>?_⟩;have hil:i<(dl.take k).length:=by rw[←q.len];exact(List.getElem?_eq_some_iff.1 hu).1
    exact((q.one i u _ hu (List.getElem?_eq_getElem hil)).lt z hz).2
   obtain⟨ss,hss,hsl,hsz⟩:=HOw.out;have HSS:Hid (OwnD w2 W.heap.size (.slice oo k oc) ss (dl.take k)∧ss.length=k∧∀(i:Nat) (u:Value),ss[i]? =some u→∀z,u.ownBlock=some z→z<wr.heap.size):=⟨hss,hsl,hsz⟩;have HRow:Hid (w2.ownsRow W.heap.size 93 1 (.slice oo k oc) k ss):=by have q:=hss.row;rw[hsl] at q;exact q
   have hs2:W.heap.size≤w2.heap.size:=by omega
   have HNw:Hid (∀jj u,[Value.slice (some ⟨wr.heap.size,0,none⟩) N N][jj]? =some u→(w2.alloc (.cells #[.slice (some ⟨wr.heap.size,0,none⟩) N N] 93)).cell? ((⟨w2.heap.size,0,none⟩:Addr).add jj)=some u):=new_cellsN w2 #[.slice (some ⟨wr.heap.size,0,none⟩) N N] 93;clear hss hsl hsz HOw;go_wp2_with (at_builtin;refine wpList_append_own_at _ rfl (.tmp 32) (.tmp 34) 40 rfl W.heap.size 93 j0 (.slice none 0 0) 1 24 Tryz.underlying40 hj hy0 hy1 hy2 rfl (by decide) _ k _ rfl (HRow.out.alloc _) ⟨w2.heap.size,0,none⟩ 1 1 [.slice (some ⟨wr.heap.size,0,none⟩) N N] rfl rfl HNw.out (by intro u hu;simp at hu;subst hu;rfl) (by unfold maxLen;omega) (by omega) (by simp;omega) ?_);intro v3 w3 ho3 hg3 _ _;obtain⟨o3,c3,rfl⟩:=own_is ho3;have HOn:Hid (∃ss,OwnD w3 W.heap.size (.slice o3 (k+1) c3) ss (dl.take (k+1))):=by
    obtain⟨q1,q2,q3⟩:=HSS.out;have qa:=q1.below ((Below.refl w2.heap.size w2).alloc (Nat.le_refl _) (.cells #[.slice (some ⟨wr.heap.size,0,none⟩) N N] 93));refine⟨ss++[.slice (some ⟨wr.heap.size,0,none⟩) N N],?_⟩;rw[HTk.out];refine qa.more (ds:=ds) (by rw[HNd.out];exact own_weak (HO2.out.alloc _) hsr2) ?_ (by rw[q2];exact ho3) hg3;intro i u hu z hz hz2;obtain rfl:wr.heap.size=z:=by simpa[Value.ownBlock] using hz
    have:=q3 i u hu _ hz2;omega
   have HBn:Hid (Below W.heap.size W w3):=by have q:=(HB.out.trans (HB2.out.mono hsr2)).alloc hs2 (.cells #[.slice (some ⟨wr.heap.size,0,none⟩) N N] 93);exact q.grown hg3 (by simp;omega) (fun z hz=>own_ge HRow.out hz)
   clear ho3 hg3 HNw HRow HSS HB2 HO2 hcopy;go_wp2;go_roundw
   case rel=>exact⟨k+1,c3,o3,by omega,by go_num,rfl,HBn,HOn⟩
   case measure=>simp[intOf];omega
  ·have hkn:k=n:=by omega
   subst hkn;have hki:¬(k:Int)<(k:Int):=by omega
   have HO1:Hid (∃ss,OwnD wr W.heap.size (.slice oo k oc) ss dl):=by obtain⟨ss,q⟩:=HO.out;rw[List.take_of_length_le (by have:=Hn.out;omega)] at q;exact⟨ss,q⟩
   have HW1:Hid (WS w0 wr B Ds e):=HWW.out.below HB.out;have HD1:=hid_in (HW1.out.dk HI.out);have HE1:Hid (Blk wr w.heap.size #[.pointer (some ⟨D.hb,0,none⟩),.pointer (some ⟨D.R.rb,0,none⟩)] 47):=HEW.out.below HB.out HEW.out.lt;have HIn:Hid (∀ds∈dl,InR ds∧ds.length≤maxLen):=by intro ds hds;obtain⟨j,hj⟩:=List.mem_iff_getElem?.1 hds;obtain⟨_,_,_,_,_,_,_,h1⟩:=HDk.out j ds hj;exact⟨h1.rng,Nat.le_trans h1.max (by unfold maxLen;decide)⟩
   have hmx:k≤maxLen:=by unfold maxLen;omega
   obtain⟨fe,hfe⟩:∃fe,fe=D.H.frameE:=⟨_,rfl⟩;have HFr:Hid (Calls Tryz.prog 38 #[.pointer (some ⟨D.hb,0,none⟩),.slice oo k oc] wr fun r w1=>r= .returned (.int .i64 fe)∧w1.cell? ⟨w.heap.size,1,none⟩=some (.pointer (some ⟨D.R.rb,0,none⟩))∧Hid (Calls Tryz.prog 39 #[.pointer (some ⟨D.R.rb,0,none⟩),.slice dao k dcap] w1 fun r w2=>r= .returned (.int .i64 fe)∧Hid (∃D',WS w0 w2 B (Ds.set i D') e)∧Hid (∃ss,OwnD w2 W.heap.size (.slice oo k oc) ss dl))):=by
    obtain⟨ss,hss⟩:=HO1.out;have hsl:ss.length=k:=by rw[hss.len,Hn.out]
    obtain⟨dv,K1,K2,K3,l1,l2,l3,hst,hq⟩:=HW1.out;have hge:=hst.dge i D HI.out;have hin:∀l∈dl,InR l:=fun l hl=>(HIn.out l hl).1;have hty:∀z,ownOf D.hb D.tb D.vs z→∀cs t,Blk wr z cs t→t≠93∧t≠74:=by
     intro z hz cs t b;obtain⟨c2,t2,b2,h2⟩:=HD1.out.host.own_ty HD1.out.ne hz;constructor
     ·rintro rfl;rcases h2 with rfl|rfl|rfl|rfl|rfl<;>exact b.ne b2 (by decide) rfl
     ·rintro rfl;rcases h2 with rfl|rfl|rfl|rfl|rfl<;>exact b.ne b2 (by decide) rfl
    have z:=frame_any HD1.out.host HD1.out.ne oo oc dl (HD1.out.inv.fit HD1.out.len.2 hin) (by rw[Hn.out];exact hmx) (by rw[←hsl] at hss;exact hss.drs HIn.out hty);rw[Hn.out] at z;refine z.mono ?_;rintro r w1 ⟨rfl,hh⟩;have hr1:=HD1.out.first hh;have hh2:=hh;obtain⟨vs',x1,x2,x3⟩:=hh2;refine⟨by rw[hfe],?_,?_⟩
    ·rw[(HD1.out.host.kept_blk HD1.out.ne x2 HE1.out (by decide) (by decide) (by decide) (by decide) (by decide)).cell 1];rfl
    ·have hdw1:DrwAt w1 w0.heap.size dao dl:=HDk.out.keep fun q hq=>x2.block q (by omega) fun y=>by have:=hge q (Or.inl y);omega
     have z2:=rframe_any hr1 HD1.out.inv HD1.out.len.2 HD1.out.ne dao dcap dl (by rw[Hn.out];exact hmx) hin (hdw1.drs (Nat.le_trans hsr x2.size) (fun q y=>hge q (Or.inr (Or.inl y)))) HD1.out.held;rw[Hn.out] at z2;refine z2.mono ?_;rintro r w2 ⟨rfl,held',hr2,hhd⟩;refine⟨by rw[hfe],?_,ss,?_⟩
     ·obtain⟨D',y1,y2,y3,y4⟩:=HD1.out.both hh hr2 (HD1.out.inv.frame HD1.out.len.2 hin) hhd;exact⟨D',HW1.out.upd HI.out y1 y2 y3 y4⟩
     ·have q1:OwnD w1 W.heap.size (.slice oo k oc) ss dl:=hss.keep fun q cs t b ht=>x2.block q b.lt fun y=>by
       have:=hty q y cs t b;rcases ht with e|e
       ·exact this.1 e
       ·exact this.2 e
      obtain⟨_,_,_,_,y2,_⟩:=hr2;refine q1.keep fun q cs t b ht=>?_;have:=hr1.keep_blk y2 b (by rcases ht with e|e<;>subst e<;>decide);exact this.trans b.symm
   have e0:wr.cell? ⟨w.heap.size,0,none⟩=some (.pointer (some ⟨D.hb,0,none⟩)):=by rw[HE1.out.cell 0];rfl
   clear HO HO1 HWW HEW HE1 HDW hfe;go_wp2_with fail;refine HFr.out.mono ?_;rintro r w1 ⟨rfl,e1,HF2⟩;clear HFr e0;go_wp2_with fail;refine HF2.out.mono ?_;rintro r w2 ⟨rfl,HZ,HOs⟩;clear HF2 e1;obtain⟨ss,hss⟩:=HOs.out;have HSS:Hid (OwnD w2 W.heap.size (.slice oo k oc) ss dl∧ss.length=k):=⟨hss,by rw[hss.len,Hn.out]⟩;have HD2:Hid (DrwAt w2 w0.heap.size dao dl∧w0.heap.size≤w2.heap.size):=by obtain⟨D',z⟩:=HZ.out;have z1:=z.bl;have z2:=HW1.out.bl;exact⟨HDk.out.keep fun q hq=>(z1.block q hq).trans (z2.block q hq).symm,z1.size⟩
   clear hss HOs HDk HW1 HD1 HIn HB;go_wp2_with fail;go_loopw [12] (fun c wr=>∃i:Nat,i≤k∧c= .int .i64 i∧Hid (Kept (fun j=>W.heap.size≤j∧∃cs,Blk w2 j cs 74) w2 wr)∧Hid (∀(j:Nat) (v:Value) (ds:List Int),i≤j→ss[j]? =some v→dl[j]? =some ds→wr.ownsRow W.heap.size 74 1 v ds.length (drCs ds)))
    (fun c _=>k-(intOf c).toNat)
   case atStart=>exact⟨0,Nat.zero_le _,rfl,Kept.refl _ _,fun j v ds _ hv hd=>HSS.out.1.one j v ds hv hd⟩
   case round=>
    obtain⟨m,hm,rfl,HK,HRs⟩:=hrel;have HRow:Hid (wr.ownsRow W.heap.size 93 1 (.slice oo k oc) k ss):=by have q:=HSS.out.1.row;rw[HSS.out.2] at q;refine own_block q fun z hz=>?_;obtain⟨c,b⟩:=own_blk q hz;refine HK.out.block z b.lt ?_;rintro⟨_,c2,b2⟩;exact b.ne b2 (by decide) rfl
    by_cases hlm2:m<k
    ·obtain⟨v,hv⟩:∃v,ss[m]? =some v:=⟨ss[m]'(by have:=HSS.out.2;omega),List.getElem?_eq_getElem (by have:=HSS.out.2;omega)⟩;obtain⟨ds,hds⟩:∃ds,dl[m]? =some ds:=⟨dl[m]'(by have:=Hn.out;omega),List.getElem?_eq_getElem (by have:=Hn.out;omega)⟩;obtain⟨go,rfl,cgo⟩:=row_cell HRow.out hv;obtain⟨g,off,eo,ec,rfl,hgl,hc,h1⟩:=HD2.out.1 m ds hds;obtain⟨vo,vc,rfl⟩:=own_is (HRs.out m v ds (Nat.le_refl _) hv hds);obtain⟨N,hN⟩:∃N,N=ds.length:=⟨_,rfl⟩;have HNd:Hid (ds.length=N):=hN.symm;rw[←hN] at hc cgo hv;have HV:Hid (ss[m]? =some (.slice vo N vc)∧dl[m]? =some ds):=⟨hv,hds⟩;have HOne:Hid (DrOne w2 w0.heap.size eo ec ds):=h1;have HC:Hid (w2.cell? ⟨g,off+m,none⟩=some (.slice eo N ec)):=hc;have HRm:Hid (wr.ownsRow W.heap.size 74 1 (.slice vo N vc) N (drCs ds)):=by have q:=HRs.out m _ ds (Nat.le_refl _) HV.out.1 hds;rw[HNd.out] at q;exact q
     have hmax:N≤1100000:=by rw[hN];exact h1.max
     have hmi:(m:Int)<(k:Int):=by omega
     have hm0:(0:Int)≤(m:Int):=by omega
     clear hds h1 hN hc hv;go_wp2_with fail;go_loopw [13] (fun c wq=>∃q:Nat,q≤N∧c= .int .i64 q∧Hid (Kept (fun j=>W.heap.size≤j∧∃cs,Blk w2 j cs 74) w2 wq)∧Hid (∀(j:Nat) (v:Value) (ds:List Int),m+1≤j→ss[j]? =some v→dl[j]? =some ds→wq.ownsRow W.heap.size 74 1 v ds.length (drCs ds))∧Hid (wq.ownsRow W.heap.size 93 1 (.slice (some ⟨go,0,none⟩) k oc) k ss)∧Hid (N=0∨∃gd cur,vo=some ⟨gd,0,none⟩∧W.heap.size≤gd∧Blk wq gd cur 74∧∀(j:Nat) (x:Int),q≤j→ds[j]? =some x→cur[j]? =some (.int .u16 x)))
      (fun c _=>N-(intOf c).toNat)
     case atStart=>
      refine⟨0,Nat.zero_le _,rfl,HK.out,fun j v ds hj=>HRs.out j v ds (by omega),HRow.out,?_⟩;by_cases h0:N=0
      ·exact Or.inl h0
      ·refine Or.inr ?_;rcases HRm.out.2 with ⟨_,z⟩|⟨gd,cap,cur,hv2,hb2,hh,_,_,_,h6⟩
       ·exact absurd z h0
       ·simp only[Value.slice.injEq] at hv2;refine⟨gd,cur,hv2.1,hb2,hh,fun j x _ hx=>?_⟩;have q:=drCs_at hx;rw[←h6,List.getElem?_take] at q;have hjl:=(List.getElem?_eq_some_iff.1 hx).1;rw[if_pos (by have:=HNd.out;omega)] at q;simpa using q
     case round=>
      obtain⟨q,hq,rfl,HKq,HRq,HRw,HCu⟩:=hrel;by_cases hqn:q<N
      ·obtain⟨gd,cur,rfl,hgd,hB,hcu⟩:=HCu.out.resolve_left (by omega);obtain⟨x,hx⟩:∃x,ds[q]? =some x:=⟨ds[q]'(by have:=HNd.out;omega),List.getElem?_eq_getElem (by have:=HNd.out;omega)⟩;have hql:=(List.getElem?_eq_some_iff.1 hx).1;have HX:Hid (∀z,z<w0.heap.size→wr.heap[z]? =w2.heap[z]?):=fun z hz=>HKq.out.block z (by have:=HD2.out.2;omega) (by rintro⟨y,_⟩;omega);obtain⟨bd,of,hee,hbd,hu16⟩:=(HOne.out.keep (w':=wr) HX.out).at_ (by intro z;rw[z] at hx;simp at hx);have hxc:=hu16 q x hx;have hcg:wr.cell? ⟨g,off+m,none⟩=some (.slice eo N ec):=by rw[←HC.out];exact World.cell?_of_block (HX.out g hgl)
       rw[hee] at hcg;obtain⟨go2,e2,cgo2⟩:=row_cell HRw.out HV.out.1;simp only[Option.some.injEq,Addr.mk.injEq,and_true] at e2;subst e2;have d0:wr.cell? ⟨gd,q,none⟩=some (.int .u16 x):=by rw[hB.cell];exact hcu q x (Nat.le_refl _) hx
       have f0:=hB.free q;have hqi:(q:Int)<(N:Int):=by omega
       have hq0:(0:Int)≤(q:Int):=by omega
       have hmi2:(m:Int)<(k:Int):=by omega
       have HFn:Hid (∀y,Kept (fun j=>W.heap.size≤j∧∃cs,Blk w2 j cs 74) w2 ((wr.drewN y).setCell ⟨gd,q,none⟩ (.int .u16 200))∧(∀(j:Nat) (v:Value) (ds:List Int),m+1≤j→ss[j]? =some v→dl[j]? =some ds→((wr.drewN y).setCell ⟨gd,q,none⟩ (.int .u16 200)).ownsRow W.heap.size 74 1 v ds.length (drCs ds))∧((wr.drewN y).setCell ⟨gd,q,none⟩ (.int .u16 200)).ownsRow W.heap.size 93 1 (.slice (some ⟨go,0,none⟩) k oc) k ss∧∃cur,Blk ((wr.drewN y).setCell ⟨gd,q,none⟩ (.int .u16 200)) gd cur 74∧∀(j:Nat) (x:Int),q+1≤j→ds[j]? =some x→cur[j]? =some (.int .u16 x)):=by
        intro y;have hB2:Blk (wr.drewN y) gd cur 74:=hB;have hin2:∃cs,Blk w2 gd cs 74:=by have z:=HSS.out.1.one m _ ds HV.out.1 HV.out.2;rw[HNd.out] at z;exact own_cur z
        refine⟨Kept.setCell (S:=fun j=>W.heap.size≤j∧∃cs,Blk w2 j cs 74) (w:=w2) (w1:=wr.drewN y) ⟨HKq.out.os,HKq.out.tape,HKq.out.output,HKq.out.size,HKq.out.block⟩ ⟨gd,q,none⟩ _ (Or.inl ⟨hgd,hin2⟩),?_,?_,_,hB2.set q _,?_⟩
        ·intro j v es hj hv he;have z:=HRq.out j v es hj hv he;refine own_block (w:=wr.drewN y) z fun p hp=>Below.heap_setCell _ _ _ _ fun e3=>?_;subst e3;exact HSS.out.1.apart j m v _ hv HV.out.1 (by omega) _ hp rfl
        ·refine own_block (w:=wr.drewN y) HRw.out fun p hp=>Below.heap_setCell _ _ _ _ fun e3=>?_;subst e3;obtain⟨c,b⟩:=own_blk HRw.out hp;exact b.ne hB (by decide) rfl
        ·intro j z hj hz;rw[Array.getElem?_setIfInBounds_ne (by omega)];exact hcu j z (by omega) hz
       clear hx hql hu16 hee hB hcu cgo;go_wp2_with fail;go_quiet (fail);go_wp2;go_roundw
       case rel=>obtain⟨z1,z2,z3,cur2,z4,z5⟩:=HFn.out nq;exact⟨q+1,by omega,by go_num,z1,z2,z3,Or.inr ⟨gd,cur2,rfl,hgd,z4,z5⟩⟩
       case measure=>simp[intOf];omega
      ·have hqi:¬(q:Int)<(N:Int):=by omega
       obtain⟨go2,e2,cgo2⟩:=row_cell HRw.out HV.out.1;simp only[Option.some.injEq,Addr.mk.injEq,and_true] at e2;subst e2;clear cgo;go_wp2;go_roundw
       case rel=>exact⟨m+1,by omega,by go_num,HKq.out,HRq.out⟩
       case measure=>simp[intOf];omega
    ·have hmi:¬(m:Int)<(k:Int):=by omega
     have HFin:Hid (∃D',WS w0 wr B (Ds.set i D') e):=by obtain⟨D',z⟩:=HZ.out;exact⟨D',z.other (HK.out.weaken fun j y=>⟨by have:=y.1;omega,y.2⟩)⟩
     go_wp2;go_ret;exact⟨rfl,HFin.out⟩
end Go.Proofs.YtidaflmmldefcaaGreat
namespace Go.Proofs.YtidaflmmldefcaaGreat.Tr
open Go.RowKit
set_option linter.unusedVariables false
theorem sameN_any (ao bo:Option Addr) (ca cb:Nat) (l m:List T.Nd) (w:World) (hl:l.length≤maxLen) (hm:m.length≤maxLen) (ha:NodeAt w ao l) (hb:NodeAt w bo m): Calls Tryz.prog 20 #[.slice ao l.length ca,.slice bo m.length cb] w fun e w'=>e= .returned (.bool (decide (l=m)))∧Below w.heap.size w w':=by
 unfold maxLen at hl hm;by_cases hlm:l.length=m.length
 ·obtain⟨n,hn⟩:∃n,n=l.length:=⟨_,rfl⟩;have Hn:Hid (l.length=n):=hn.symm;have Hm:Hid (m.length=n):=by unfold Hid;omega
  rw[←hlm,←hn];rw[←hn] at hl;have HA:Hid (NodeAt w ao l):=ha;have HB:Hid (NodeAt w bo m):=hb;clear hn ha hb hm hlm;go_enter Tryz.func20,Tryz.ntmps20;go_wp2;go_loopw [5] (fun i wr=>∃(k q:Nat),k≤n∧i= .int .i64 k∧wr=w.drewN q∧Hid (decide (l=m)=decide (l.drop k=m.drop k)))
   (fun i _=>n-(intOf i).toNat)
  case atStart=>exact⟨0,0,Nat.zero_le _,rfl,rfl,by unfold Hid;simp⟩
  case round=>
   obtain⟨k,q,hk,rfl,rfl,HD⟩:=hrel;by_cases hlt:k<n
   ·obtain⟨x,hx⟩:∃x,l[k]? =some x:=⟨l[k]'(by have:=Hn.out;omega),List.getElem?_eq_getElem (by have:=Hn.out;omega)⟩;obtain⟨y,hy⟩:∃x,m[k]? =some x:=⟨m[k]'(by have:=Hm.out;omega),List.getElem?_eq_getElem (by have:=Hm.out;omega)⟩;obtain⟨b1,f1,rfl,_,hr1⟩:∃b off,ao=some ⟨b,off,none⟩∧b<w.heap.size∧NodeRow w b off l:=HA.out.resolve_left (by rintro rfl;simp at hx);obtain⟨b2,f2,rfl,_,hr2⟩:∃b off,bo=some ⟨b,off,none⟩∧b<w.heap.size∧NodeRow w b off m:=HB.out.resolve_left (by rintro rfl;simp at hy);obtain⟨x1,x2,x3⟩:=x;obtain⟨y1,y2,y3⟩:=y;obtain⟨c0,c1,c2⟩:=hr1 k _ hx;obtain⟨d0,d1,d2⟩:=hr2 k _ hy;simp only at c0 c1 c2 d0 d1 d2;have HS:Hid (decide (l=m)=decide ((x1=y1∧x2=y2∧x3=y3)∧l.drop (k+1)=m.drop (k+1))):=by unfold Hid;rw[HD.out,drop_cons l k _ hx,drop_cons m k _ hy];simp
    have hi:(k:Int)<(n:Int):=by omega
    have h0:(0:Int)≤(k:Int):=by omega
    clear hx hy hr1 hr2;by_cases h1:x1=y1
    ·subst h1;by_cases h2:x2=y2
     ·subst h2;by_cases h3:x3=y3
      ·subst h3;have HT:Hid (decide (l=m)=decide (l.drop (k+1)=m.drop (k+1))):=by unfold Hid;rw[HS.out];simp
       go_wp2_with fail;go_quiet (fail);go_wp2;go_roundw
       case rel=>exact⟨k+1,_,by omega,by go_num,by first|rfl|simp,HT⟩
       case measure=>simp[intOf];omega
      ·have HT:Hid (decide (l=m)=false):=by unfold Hid;rw[HS.out];simp[h3]
       have hb:(x3.toList==y3.toList)=false:=text_ne h3;clear h3;go_wp2_with fail;go_quiet (fail);go_wp2;go_ret;rw[HT.out];exact⟨rfl,by (repeat (first|exact Below.refl _ _|assumption|refine Below.setCell ?_ (by first|exact Nat.le_refl _|omega|(simp;done)|(simp;omega)) _|refine below_drewN ?_ _|refine Below.drew ?_|refine Below.alloc ?_ (by first|exact Nat.le_refl _|omega|(simp;done)|(simp;omega)) _))⟩
     ·have HT:Hid (decide (l=m)=false):=by unfold Hid;rw[HS.out];simp[h2]
      have hb:(x2==y2)=false:=by rw[beq_eq_false_iff_ne];exact h2
      clear h2;go_wp2_with fail;go_quiet (fail);go_wp2;go_ret;rw[HT.out];exact⟨rfl,by (repeat (first|exact Below.refl _ _|assumption|refine Below.setCell ?_ (by first|exact Nat.le_refl _|omega|(simp;done)|(simp;omega)) _|refine below_drewN ?_ _|refine Below.drew ?_|refine Below.alloc ?_ (by first|exact Nat.le_refl _|omega|(simp;done)|(simp;omega)) _))⟩
    ·have HT:Hid (decide (l=m)=false):=by unfold Hid;rw[HS.out];simp[h1]
     have hb:(x1==y1)=false:=by rw[beq_eq_false_iff_ne];exact h1
     clear h1;go_wp2_with fail;go_quiet (fail);go_wp2;go_ret;rw[HT.out];exact⟨rfl,by (repeat (first|exact Below.refl _ _|assumption|refine Below.setCell ?_ (by first|exact Nat.le_refl _|omega|(simp;done)|(simp;omega)) _|refine below_drewN ?_ _|refine Below.drew ?_|refine Below.alloc ?_ (by first|exact Nat.le_refl _|omega|(simp;done)|(simp;omega)) _))⟩
   ·have HT:Hid (decide (l=m)=true):=by unfold Hid;rw[HD.out,List.drop_of_length_le (by have:=Hn.out;omega),List.drop_of_length_le (by have:=Hm.out;omega)];simp
    go_wp2;go_ret;rw[HT.out];exact⟨rfl,by (repeat (first|exact Below.refl _ _|assumption|refine Below.setCell ?_ (by first|exact Nat.le_refl _|omega|(simp;done)|(simp;omega)) _|refine below_drewN ?_ _|refine Below.drew ?_|refine Below.alloc ?_ (by first|exact Nat.le_refl _|omega|(simp;done)|(simp;omega)) _))⟩
 ·have hv:decide (l=m)=false:=by simp;intro h;exact hlm (by rw[h])
  rw[hv];have h1:((l.length:Int)==(m.length:Int))=false:=by rw[beq_eq_false_iff_ne];omega
  clear hv;go_enter Tryz.func20,Tryz.ntmps20;go_wp2;go_ret;exact⟨rfl,Below.refl _ _⟩
end Go.Proofs.YtidaflmmldefcaaGreat.Tr
