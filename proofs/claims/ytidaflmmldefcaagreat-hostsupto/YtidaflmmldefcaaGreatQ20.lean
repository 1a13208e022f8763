/- Parts of the proof of Hosts: BokK. -/
import Derived.Test.YtidaflmmldefcaaGreatQ12
import Derived.Test.YtidaflmmldefcaaGreatQ19
set_option maxHeartbeats 4000000
namespace Go.Proofs.YtidaflmmldefcaaGreat
open Go.RowKit
set_option linter.unusedVariables false
section
variable {w w1 w2 w' : World} {tn t : TypeId} {size : Nat} {mk : Int → List Value} {v cv wv : Value} {E : List Value} {n : Nat} {xs : List Value}
theorem Kn.keepT (h:Kn w tn t size mk v E cv wv n xs) (hk:∀k cs t',Blk w k cs t'→(t'=tn∨t'=t)→knAll v E cv wv k→w'.heap[k]? =w.heap[k]?):Kn w' tn t size mk v E cv wv n xs:=by
 refine⟨own_block h.row fun k q=>?_,fun i u hu=>?_,own_block h.came fun k q=>?_,own_block h.was fun k q=>?_⟩
 ·obtain⟨c,b⟩:=own_blk h.row q;exact hk k _ _ b (Or.inl rfl) (Or.inl q)
 ·obtain⟨m,hm,ao,cap,rfl,q⟩:=h.marks i u hu;by_cases h0:m=0
  ·exact⟨m,hm,ao,cap,rfl,Or.inl h0⟩
  ·obtain⟨g,cur,e,hb,hr⟩:=q.resolve_left h0;refine⟨m,hm,ao,cap,rfl,Or.inr ⟨g,cur,e,hb.of_block (hk g _ _ hb (Or.inr rfl) (Or.inr (Or.inl ⟨_,List.mem_of_getElem? hu,pos_of h0,?_⟩))),hr⟩⟩;rw[e];rfl
 ·obtain⟨c,b⟩:=own_blk h.came q;exact hk k _ _ b (Or.inr rfl) (Or.inr (Or.inr (Or.inl q)))
 ·obtain⟨c,b⟩:=own_blk h.was q;exact hk k _ _ b (Or.inr rfl) (Or.inr (Or.inr (Or.inr q)))
def knSep (E:List Value) (cv:Value):Prop:=E.length%4=0∧∀u∈E,pos u→∀k,u.ownBlock=some k→cv.ownBlock≠some k
theorem Kn.next0 (h:Kn w tn t size mk v E cv wv n xs) (hs:knSep E cv) (hn:n≤100000) (hb:Below w.heap.size w w1) {B:Nat} {cs:Array Value} (hB:Blk w1 B cs 34) (ht:t≠34) (htn:tn≠t) (hn3:tn≠34)
 {v':Value} {F:List Value} (m1:w2.ownsRow 0 tn 1 v' (E.length+4) (E++F)) (m2:F.length=4) (m3:∀u∈F,∃m,m≤n+244∧MarkAt w2 t (mk (200+(E.length:Int))) u m∧∀k,u.ownBlock=some k→some k=cv.ownBlock∨w1.heap.size≤k)
 (m4:Kept (fun k=>k=B∨some k=cv.ownBlock∨some k=v.ownBlock) w1 w2) (m5:∀k,v'.ownBlock=some k→some k=v.ownBlock∨w1.heap.size≤k)
 {lv uv:Value} {q:Nat} {ys:List Value} (c1:w.ownsRow 0 t size lv q ys) (c2:w1.ownsRow w.heap.size t size uv q ys) (hf:∀k,lv.ownBlock=some k→¬knAll v E cv wv k): Kn w2 tn t size mk v' (E++F) lv uv q ys∧knSep (E++F) lv∧Kept (fun k=>k=B∨cv.ownBlock=some k∨v.ownBlock=some k) w w2∧∀k,knAll v' (E++F) lv uv k→knAll v E cv wv k∨lv.ownBlock=some k∨w.heap.size≤k:=by
 have hsz:=hb.size;have hnew:∀k,uv.ownBlock=some k→w.heap.size≤k:=fun k hk=>own_ge c2 hk;have c1':w1.ownsRow 0 t size lv q ys:=own_below' c1 hb (Nat.le_refl _);have lvl:∀k,lv.ownBlock=some k→k<w.heap.size:=fun k hk=>(c1.lt k hk).2;have uvl:∀k,uv.ownBlock=some k→k<w1.heap.size:=fun k hk=>(c2.lt k hk).2;have cvl:∀k,some k=cv.ownBlock→k<w.heap.size:=fun k hk=>(h.came.lt k hk.symm).2;have vl:∀k,some k=v.ownBlock→k<w.heap.size:=fun k hk=>(h.row.lt k hk.symm).2;have keepB:∀{k:Nat} {cs:Array Value},Blk w1 k cs t→some k≠cv.ownBlock→Blk w2 k cs t:=by
  intro k cs hk hne;refine hk.of_block (m4.block k hk.lt ?_);rintro(e|e|e)
  ·subst e;exact hk.ne hB ht rfl
  ·exact hne e
  ·obtain⟨c,b⟩:=own_blk h.row e.symm;exact(b.below hb b.lt).ne hk htn rfl
 have keepR:∀{base:Nat} {z:Value} {a:Nat} {zs:List Value},w1.ownsRow base t size z a zs→(∀k,z.ownBlock=some k→some k≠cv.ownBlock)→w2.ownsRow base t size z a zs:=by intro base z a zs ho hz;refine own_block ho fun k hk=>?_;obtain⟨c,b⟩:=own_blk ho hk;exact(keepB b (hz k hk)).trans b.symm
 have hw2:Kn w2 tn t size mk v' (E++F) lv uv q ys:=by
  refine⟨by rw[List.length_append,m2];exact m1,fun i u hu=>?_,keepR c1' (fun k hk e=>hf k hk (Or.inr (Or.inr (Or.inl e.symm)))),own_weak (keepR c2 (fun k hk e=>?_)) (Nat.zero_le _)⟩
  ·by_cases hi:i<E.length
   ·rw[List.getElem?_append_left hi] at hu;obtain⟨m,hm,ao,cap,rfl,q⟩:=h.marks i u hu;by_cases h0:m=0
    ·exact⟨m,hm,ao,cap,rfl,Or.inl h0⟩
    ·obtain⟨g,cur,e,hb2,hr⟩:=q.resolve_left h0;refine⟨m,hm,ao,cap,rfl,Or.inr ⟨g,cur,e,keepB (hb2.below hb hb2.lt) (fun e2=>?_),hr⟩⟩;exact hs.2 _ (List.mem_of_getElem? hu) (pos_of h0) g (by rw[e];rfl) e2.symm
   ·rw[List.getElem?_append_right (by omega)] at hu;obtain⟨m,hm,q,_⟩:=m3 u (List.mem_of_getElem? hu);have hl:=(List.getElem?_eq_some_iff.1 hu).1;rw[m2] at hl;have hs4:=hs.1;have e:(i/4)*4=E.length:=by omega
    have e2:((i/4:Nat):Int)*4=(E.length:Int):=by rw[←e];push_cast;rfl
    rw[e2];exact⟨m,by omega,q⟩
  ·have h1:=hnew k hk;have h2:=cvl k e;omega
 refine⟨hw2,⟨?_,?_⟩,?_,?_⟩
 ·rw[List.length_append,m2];have:=hs.1;omega
 ·intro u hu hp k hk hlv;rcases List.mem_append.1 hu with hu|hu
  ·exact hf k hlv (Or.inr (Or.inl ⟨u,hu,hp,hk⟩))
  ·obtain⟨m,_,_,q⟩:=m3 u hu;rcases q k hk with e|e
   ·exact hf k hlv (Or.inr (Or.inr (Or.inl e.symm)))
   ·have:=lvl k hlv;omega
 ·refine Kept.trans (Kept.of_below hb) m4 (fun k _ hk=>?_);rcases hk with e|e|e
  ·exact Or.inl e
  ·exact Or.inr (Or.inl e.symm)
  ·exact Or.inr (Or.inr e.symm)
 ·intro k hk;rcases hk with e|⟨u,hu,hp,e⟩|e|e
  ·rcases m5 k e with e|e
   ·exact Or.inl (Or.inl e.symm)
   ·exact Or.inr (Or.inr (by omega))
  ·rcases List.mem_append.1 hu with hu|hu
   ·exact Or.inl (Or.inr (Or.inl ⟨u,hu,hp,e⟩))
   ·obtain⟨m,_,_,q⟩:=m3 u hu;rcases q k e with e|e
    ·exact Or.inl (Or.inr (Or.inr (Or.inl e.symm)))
    ·exact Or.inr (Or.inr (by omega))
  ·exact Or.inr (Or.inl e)
  ·exact Or.inr (Or.inr (hnew k e))
theorem Kn.next (h:Kn w tn t size mk v E cv wv n xs) (hs:knSep E cv) (hn:n≤100000) (hb:Below w.heap.size w w1) {B:Nat} {cs:Array Value} (hB:Blk w1 B cs 34) (ht:t≠34) (htn:tn≠t) (hn3:tn≠34)
 {v':Value} {F:List Value} (m1:w2.ownsRow 0 tn 1 v' (E.length+4) (E++F)) (m2:F.length=4) (m3:∀u∈F,∃m,m≤n+244∧MarkAt w2 t (mk (200+(E.length:Int))) u m∧∀k,u.ownBlock=some k→some k=cv.ownBlock∨w1.heap.size≤k)
 (m4:Kept (fun k=>k=B∨some k=cv.ownBlock∨some k=v.ownBlock) w1 w2) (m5:∀k,v'.ownBlock=some k→some k=v.ownBlock∨w1.heap.size≤k) {cs2:Array Value} (hB2:Blk w2 B cs2 34) (i j:Nat) (x y:Value)
 {lv uv:Value} {q:Nat} {ys:List Value} (c1:w.ownsRow 0 t size lv q ys) (c2:w1.ownsRow w.heap.size t size uv q ys) (hf:∀k,lv.ownBlock=some k→¬knAll v E cv wv k): Kn ((w2.setCell ⟨B,i,none⟩ x).setCell ⟨B,j,none⟩ y) tn t size mk v' (E++F) lv uv q ys∧knSep (E++F) lv∧Kept (fun k=>k=B∨cv.ownBlock=some k∨v.ownBlock=some k) w ((w2.setCell ⟨B,i,none⟩ x).setCell ⟨B,j,none⟩ y)∧∀k,knAll v' (E++F) lv uv k→knAll v E cv wv k∨lv.ownBlock=some k∨w.heap.size≤k:=by
 obtain⟨z1,z2,z3,z4⟩:=h.next0 hs hn hb hB ht htn hn3 m1 m2 m3 m4 m5 c1 c2 hf;have ht2:∀k,k≠B→((w2.setCell ⟨B,i,none⟩ x).setCell ⟨B,j,none⟩ y).heap[k]? =w2.heap[k]? :=fun k hk=>by rw[Below.heap_setCell _ _ _ _ hk,Below.heap_setCell _ _ _ _ hk]
 refine⟨z1.keepT fun k cs t' hk ht' _=>ht2 k ?_,z2,(z3.setCell ⟨B,i,none⟩ x (Or.inl (Or.inl rfl))).setCell ⟨B,j,none⟩ y (Or.inl (Or.inl rfl)),z4⟩;rintro rfl;refine hk.ne hB2 ?_ rfl;rcases ht' with e|e
 ·rw[e];exact hn3
 ·rw[e];exact ht
end
structure KV where
 v:Value
 E:List Value
 cv:Value
 wv:Value
def KV.all (K:KV) (k:Nat):Prop:=knAll K.v K.E K.cv K.wv k
structure Books (w:World) (B:Nat) (dv:Value) (K1 K2 K3:KV) (l1:List Tr.T.Nd) (l2:List Ev) (l3:List En):Prop where
 blk:Blk w B #[dv,K1.v,K2.v,K3.v,.bool false,K1.cv,K1.wv,K2.cv,K2.wv,K3.cv,K3.wv] 34
 n1:Kn w 28 76 3 (fun k=>mkNd (IntKind.u16.wrap k)) K1.v K1.E K1.cv K1.wv l1.length (Tr.ndCells l1)
 n2:Kn w 29 78 4 (fun k=>mkEv (IntKind.u16.wrap k)) K2.v K2.E K2.cv K2.wv l2.length (evCells l2)
 n3:Kn w 30 80 4 (fun k=>mkEn (IntKind.i64.wrap k)) K3.v K3.E K3.cv K3.wv l3.length (enCells l3)
 s1:knSep K1.E K1.cv
 s2:knSep K2.E K2.cv
 s3:knSep K3.E K3.cv
 len:l1.length≤100000∧l2.length≤100000∧l3.length≤100000
def bkAll (B:Nat) (K1 K2 K3:KV) (k:Nat):Prop:=k=B∨K1.all k∨K2.all k∨K3.all k
theorem Kn.lt {w:World} {tn t:TypeId} {size:Nat} {mk:Int→List Value} {v cv wv:Value} {E:List Value} {n:Nat} {xs:List Value} (h:Kn w tn t size mk v E cv wv n xs) {k:Nat} (hk:knAll v E cv wv k):k<w.heap.size:=by
 rcases hk with e|⟨u,hu,hp,e⟩|e|e
 ·exact(h.row.lt k e).2
 ·obtain⟨i,hi⟩:=List.mem_iff_getElem?.1 hu;obtain⟨m,_,ao,cap,rfl,q⟩:=h.marks i u hi;by_cases h0:m=0
  ·subst h0;exact absurd rfl (hp ao cap)
  ·obtain⟨g,cur,rfl,hb,_⟩:=q.resolve_left h0;obtain rfl:g=k:=by simpa[Value.ownBlock] using e
   exact hb.lt
 ·exact(h.came.lt k e).2
 ·exact(h.was.lt k e).2
theorem Books.lt {w:World} {B:Nat} {dv:Value} {K1 K2 K3:KV} {l1:List Tr.T.Nd} {l2:List Ev} {l3:List En} (h:Books w B dv K1 K2 K3 l1 l2 l3) {k:Nat} (hk:bkAll B K1 K2 K3 k):k<w.heap.size:=by
 rcases hk with e|e|e|e
 ·rw[e];exact h.blk.lt
 ·exact h.n1.lt e
 ·exact h.n2.lt e
 ·exact h.n3.lt e
theorem was_node {w:World} {wo:Option Addr} {c:Nat} {l:List Tr.T.Nd} (h:w.ownsRow 0 76 3 (.slice wo l.length c) l.length (Tr.ndCells l)):Tr.NodeAt w wo l:=by
 obtain⟨ao,cap,e,_,_,q⟩:=Tr.own_node h;simp only[Value.slice.injEq] at e;rw[e.1];exact q
theorem keepN_end {w w1 w2:World} {B:Nat} {dv:Value} {K1 K2 K3:KV} {l1:List Tr.T.Nd} {l2:List Ev} {l3:List En} (h:Books w B dv K1 K2 K3 l1 l2 l3) {lv:Value} {ll:List Tr.T.Nd} (hc:w.ownsRow 0 76 3 lv ll.length (Tr.ndCells ll)) (hll:ll.length≤100000) (hf:∀k,lv.ownBlock=some k→¬K1.all k) (hb:Below w.heap.size w w1) {uv:Value} (hu:w1.ownsRow w.heap.size 76 3 uv ll.length (Tr.ndCells ll))
 {v':Value} {F:List Value} (r1:Blk w2 B #[dv,v',K2.v,K3.v,.bool false,.slice none 0 0,.slice none 0 0,K2.cv,K2.wv,K3.cv,K3.wv] 34) (m1:w2.ownsRow 0 28 1 v' (K1.E.length+4) (K1.E++F)) (m2:F.length=4) (m3:∀u∈F,∃m,m≤l1.length+244∧MarkAt w2 76 ((fun k=>mkNd (IntKind.u16.wrap k)) (200+(K1.E.length:Int))) u m∧∀k,u.ownBlock=some k→some k=K1.cv.ownBlock∨w1.heap.size≤k)
 (m4:Kept (fun k=>k=B∨some k=K1.cv.ownBlock∨some k=K1.v.ownBlock) w1 w2) (m5:∀k,v'.ownBlock=some k→some k=K1.v.ownBlock∨w1.heap.size≤k): ∃E',Books ((w2.setCell ⟨B,5,none⟩ lv).setCell ⟨B,6,none⟩ uv) B dv ⟨v',E',lv,uv⟩ K2 K3 ll l2 l3∧E'.length=K1.E.length+4∧Kept (bkAll B K1 K2 K3) w ((w2.setCell ⟨B,5,none⟩ lv).setCell ⟨B,6,none⟩ uv)∧∀k,bkAll B ⟨v',E',lv,uv⟩ K2 K3 k→bkAll B K1 K2 K3 k∨lv.ownBlock=some k∨w.heap.size≤k:=by
 have hB1:=h.blk.below hb h.blk.lt;obtain⟨z1,z2,z3,z4⟩:=h.n1.next h.s1 h.len.1 hb hB1 (by decide) (by decide) (by decide) m1 m2 m3 m4 m5 r1 5 6 lv uv hc hu hf;have kk:∀k cs t',Blk w k cs t'→t'≠34→t'≠28→t'≠76→((w2.setCell ⟨B,5,none⟩ lv).setCell ⟨B,6,none⟩ uv).heap[k]? =w.heap[k]? :=by
  intro k cs t' hk a1 a2 a3;refine(z3.block k hk.lt ?_);rintro(e|e|e)
  ·subst e;exact hk.ne h.blk a1 rfl
  ·obtain⟨c,b⟩:=own_blk h.n1.came e;exact hk.ne b a3 rfl
  ·obtain⟨c,b⟩:=own_blk h.n1.row e;exact hk.ne b a2 rfl
 refine⟨K1.E++F,⟨(r1.set 5 lv).set 6 uv,z1,h.n2.keepT fun k cs t' hk ht' _=>kk k cs t' hk (by rcases ht' with e|e<;>subst e<;>decide) (by rcases ht' with e|e<;>subst e<;>decide) (by rcases ht' with e|e<;>subst e<;>decide),h.n3.keepT fun k cs t' hk ht' _=>kk k cs t' hk (by rcases ht' with e|e<;>subst e<;>decide) (by rcases ht' with e|e<;>subst e<;>decide) (by rcases ht' with e|e<;>subst e<;>decide),z2,h.s2,h.s3,⟨hll,h.len.2.1,h.len.2.2⟩⟩,by rw[List.length_append,m2],z3.weaken fun k hk=>?_,fun k hk=>?_⟩
 ·rcases hk with e|e|e
  ·exact Or.inl e
  ·exact Or.inr (Or.inl (Or.inr (Or.inr (Or.inl e))))
  ·exact Or.inr (Or.inl (Or.inl e))
 rcases hk with e|e|e|e
 ·exact Or.inl (Or.inl e)
 ·rcases z4 k e with e|e|e
  ·exact Or.inl (Or.inr (Or.inl e))
  ·exact Or.inr (Or.inl e)
  ·exact Or.inr (Or.inr e)
 ·exact Or.inl (Or.inr (Or.inr (Or.inl e)))
 ·exact Or.inl (Or.inr (Or.inr (Or.inr e)))
theorem keepN_mark {w:World} {B:Nat} {dv:Value} {K1 K2 K3:KV} {l1:List Tr.T.Nd} {l2:List Ev} {l3:List En} (h:Books w B dv K1 K2 K3 l1 l2 l3) (he:K1.E.length≤100000000): Calls Tryz.prog 30 #[.pointer (some ⟨B,1,none⟩)] w fun e w'=>e= .returned (.tuple #[])∧∃v' E',Books w' B dv ⟨v',E',.slice none 0 0,.slice none 0 0⟩ K2 K3 [] l2 l3∧E'.length=K1.E.length+4∧Kept (bkAll B K1 K2 K3) w w'∧∀k,bkAll B ⟨v',E',.slice none 0 0,.slice none 0 0⟩ K2 K3 k→bkAll B K1 K2 K3 k∨w.heap.size≤k:=by
 have hbu:=h.blk;have hk:=h.n1;obtain⟨ao,cc,e1⟩:=own_is hk.came;obtain⟨wo,wc,e2⟩:=own_is hk.was;rw[e1,e2] at hbu;rw[e1] at hk;rw[e2] at hk;have q:=marked_any 0 B K1.v K1.E ao wo l1.length cc wc l1 dv K2.v K3.v K2.cv K2.wv K3.cv K3.wv w (Nat.zero_le _) hbu hk.row he rfl h.len.1 hk.came (was_node hk.was) (Nat.zero_le _);refine q.mono ?_;rintro e w2 ⟨rfl,v',F,r1,m1,m2,m3,m4,m5⟩;rw[←e1] at m3 m4;obtain⟨z1,z2,z3,z4⟩:=h.n1.next0 h.s1 h.len.1 (Below.refl _ _) h.blk (by decide) (by decide) (by decide) m1 m2 m3 m4 m5 (lv:= .slice none 0 0) (uv:= .slice none 0 0) (q:=0) (ys:=[]) (World.ownsRow_nil _ _ _ _) (World.ownsRow_nil _ _ _ _) (fun k hk=>by simp[Value.ownBlock] at hk);have kk:∀k cs t',Blk w k cs t'→t'≠34→t'≠28→t'≠76→w2.heap[k]? =w.heap[k]? :=by
  intro k cs t' hk a1 a2 a3;refine(z3.block k hk.lt ?_);rintro(e|e|e)
  ·subst e;exact hk.ne h.blk a1 rfl
  ·obtain⟨c,b⟩:=own_blk h.n1.came e;exact hk.ne b a3 rfl
  ·obtain⟨c,b⟩:=own_blk h.n1.row e;exact hk.ne b a2 rfl
 refine⟨rfl,v',K1.E++F,⟨r1,z1,h.n2.keepT fun k cs t' hk ht' _=>kk k cs t' hk (by rcases ht' with e|e<;>subst e<;>decide) (by rcases ht' with e|e<;>subst e<;>decide) (by rcases ht' with e|e<;>subst e<;>decide),h.n3.keepT fun k cs t' hk ht' _=>kk k cs t' hk (by rcases ht' with e|e<;>subst e<;>decide) (by rcases ht' with e|e<;>subst e<;>decide) (by rcases ht' with e|e<;>subst e<;>decide),z2,h.s2,h.s3,⟨Nat.zero_le _,h.len.2.1,h.len.2.2⟩⟩,by rw[List.length_append,m2],z3.weaken fun k hk=>?_,fun k hk=>?_⟩
 ·rcases hk with e|e|e
  ·exact Or.inl e
  ·exact Or.inr (Or.inl (Or.inr (Or.inr (Or.inl e))))
  ·exact Or.inr (Or.inl (Or.inl e))
 ·rcases hk with e|e|e|e
  ·exact Or.inl (Or.inl e)
  ·rcases z4 k e with e|e|e
   ·exact Or.inl (Or.inr (Or.inl e))
   ·simp[Value.ownBlock] at e
   ·exact Or.inr e
  ·exact Or.inl (Or.inr (Or.inr (Or.inl e)))
  ·exact Or.inl (Or.inr (Or.inr (Or.inr e)))
set_option maxRecDepth 100000 in
theorem keepN_any {w:World} {B:Nat} {dv:Value} {K1 K2 K3:KV} {l1:List Tr.T.Nd} {l2:List Ev} {l3:List En} (h:Books w B dv K1 K2 K3 l1 l2 l3) {lv:Value} {ll:List Tr.T.Nd} (hc:w.ownsRow 0 76 3 lv ll.length (Tr.ndCells ll)) (hll:ll.length≤100000) (hf:∀k,lv.ownBlock=some k→¬K1.all k) (he:K1.E.length≤100000000): Calls Tryz.prog 21 #[.pointer (some ⟨B,1,none⟩),lv] w fun e w'=>e= .returned (.tuple #[])∧∃v' E' uv,Books w' B dv ⟨v',E',lv,uv⟩ K2 K3 ll l2 l3∧E'.length=K1.E.length+4∧Kept (bkAll B K1 K2 K3) w w'∧∀k,bkAll B ⟨v',E',lv,uv⟩ K2 K3 k→bkAll B K1 K2 K3 k∨lv.ownBlock=some k∨w.heap.size≤k:=by
 obtain⟨i0,hi,hz0,hz1,hz2⟩:=info_parts Tr.info60;have HS:Hid (Books w B dv K1 K2 K3 l1 l2 l3):=h;have HC:Hid (w.ownsRow 0 76 3 lv ll.length (Tr.ndCells ll)):=hc;have HF:Hid (∀k,lv.ownBlock=some k→¬K1.all k):=hf;have HM:Hid (∀u:World,Below w.heap.size w u→Calls Tryz.prog 30 #[.pointer (some ⟨B,1,none⟩)] u fun e w'=>e= .returned (.tuple #[])∧∃v' F,Blk w' B #[dv,v',K2.v,K3.v,.bool false,.slice none 0 0,.slice none 0 0,K2.cv,K2.wv,K3.cv,K3.wv] 34∧w'.ownsRow 0 28 1 v' (K1.E.length+4) (K1.E++F)∧F.length=4∧(∀y∈F,∃m,m≤l1.length+244∧MarkAt w' 76 ((fun k=>mkNd (IntKind.u16.wrap k)) (200+(K1.E.length:Int))) y m∧∀k,y.ownBlock=some k→some k=K1.cv.ownBlock∨u.heap.size≤k)∧Kept (fun k=>k=B∨some k=K1.cv.ownBlock∨some k=K1.v.ownBlock) u w'∧∀k,v'.ownBlock=some k→some k=K1.v.ownBlock∨u.heap.size≤k):=by intro u hu;have hbu:=h.blk.below hu h.blk.lt;have hk:=h.n1.keep (w':=u) fun k hk _=>hu.block k hk;obtain⟨ao,cc,e1⟩:=own_is hk.came;obtain⟨wo,wc,e2⟩:=own_is hk.was;rw[e1,e2] at hbu;rw[e1] at hk ⊢;rw[e2] at hk;exact marked_any 0 B K1.v K1.E ao wo l1.length cc wc l1 dv K2.v K3.v K2.cv K2.wv K3.cv K3.wv u (Nat.zero_le _) hbu hk.row he rfl h.len.1 hk.came (was_node hk.was) (Nat.zero_le _)
 obtain⟨lo,lc,rfl⟩:=own_is hc;obtain⟨N,hN⟩:∃N,N=ll.length:=⟨_,rfl⟩;have HN:Hid (ll.length=N):=hN.symm;have hcn:lo=none→N=0∧lc=0:=by
  rintro rfl;rcases hc.2 with ⟨hv,h0⟩|⟨g,cap,cur,hv,_⟩
  ·simp only[Value.slice.injEq] at hv;exact⟨hN.trans h0,hv.2.2⟩
  ·simp at hv
 have HL:Hid (ll.length≤100000):=hll;rw[←hN] at HC HF hll ⊢;have HE:Hid (∀w1 w2 uo uc,Below w.heap.size w w1→w1.ownsRow w.heap.size 76 3 (.slice uo N uc) N (Tr.ndCells ll)→∀v' F,Blk w2 B #[dv,v',K2.v,K3.v,.bool false,.slice none 0 0,.slice none 0 0,K2.cv,K2.wv,K3.cv,K3.wv] 34→w2.ownsRow 0 28 1 v' (K1.E.length+4) (K1.E++F)→F.length=4→(∀y∈F,∃m,m≤l1.length+244∧MarkAt w2 76 ((fun k=>mkNd (IntKind.u16.wrap k)) (200+(K1.E.length:Int))) y m∧∀k,y.ownBlock=some k→some k=K1.cv.ownBlock∨w1.heap.size≤k)→Kept (fun k=>k=B∨some k=K1.cv.ownBlock∨some k=K1.v.ownBlock) w1 w2→(∀k,v'.ownBlock=some k→some k=K1.v.ownBlock∨w1.heap.size≤k)→(w2.cell? ⟨B,5,none⟩=some (.slice none 0 0)∧w2.cell? ⟨B,6,none⟩=some (.slice none 0 0)∧∀i,w2.frozen? ⟨B,i,none⟩=false)∧Hid (∃v' E' uv,Books ((w2.setCell ⟨B,5,none⟩ (.slice lo N lc)).setCell ⟨B,6,none⟩ (.slice uo N uc)) B dv ⟨v',E',(.slice lo N lc),uv⟩ K2 K3 ll l2 l3∧E'.length=K1.E.length+4∧Kept (bkAll B K1 K2 K3) w ((w2.setCell ⟨B,5,none⟩ (.slice lo N lc)).setCell ⟨B,6,none⟩ (.slice uo N uc))∧∀k,bkAll B ⟨v',E',(.slice lo N lc),uv⟩ K2 K3 k→bkAll B K1 K2 K3 k∨Value.ownBlock (.slice lo N lc)=some k∨w.heap.size≤k)):=by intro w1 w2 uo uc hb ho v' F r1 m1 m2 m3 m4 m5;refine⟨⟨by rw[r1.cell];rfl,by rw[r1.cell];rfl,fun i=>r1.free i⟩,?_⟩;rw[hN] at ho HC HF ⊢;obtain⟨E',q1,q2,q3,q4⟩:=keepN_end HS.out HC.out HL.out HF.out hb ho r1 m1 m2 m3 m4 m5;exact⟨v',E',_,q1,q2,q3,q4⟩
 clear h hc hf hN;cases lo with
 |none=>
  obtain⟨rfl,rfl⟩:=hcn rfl;have HU:Hid (w.ownsRow w.heap.size 76 3 (.slice none 0 0) 0 (Tr.ndCells ll)):=by have:ll=[]:=List.eq_nil_of_length_eq_zero HN.out;subst this;exact World.ownsRow_nil _ _ _ _
  clear hcn;go_enter Tryz.func21,Tryz.ntmps21;go_wp2_with fail;refine(HM.out w (Below.refl _ _)).mono ?_;rintro e w2 ⟨rfl,v',F,r1,r2,r3,r4,r5,r6⟩;obtain⟨⟨b4,b5,fz⟩,HEH⟩:=HE.out w w2 none 0 (Below.refl _ _) HU.out v' F r1 r2 r3 r4 r5 r6;clear r1 r2 r3 r4 r5 r6 HM HE;go_wp2;go_end0;exact⟨rfl,HEH.out⟩
 |some a=>
  have HN3:Hid ((Tr.ndCells ll).length=N*3):=by unfold Hid;rw[Tr.ndCells_length,HN.out]
  have HC3:Hid (∀j v,(Tr.ndCells ll)[j]? =some v→w.cell? (a.add j)=some v):=by
   intro j v hj;rcases HC.out.2 with ⟨hv,_⟩|⟨g,cap,cur,hv,_⟩
   ·simp at hv
   ·simp only[Value.slice.injEq,Option.some.injEq] at hv;rw[hv.1];exact World.ownsRow.cells HC.out (by rw[hv.1];rfl) j v hj
  clear hcn;go_enter Tryz.func21,Tryz.ntmps21;go_wp2_with (at_builtin;refine wpList_append_own_at _ rfl (.tmp 5) (.tmp 6) 28 rfl w.heap.size 76 i0 (.agg #[.int .u8 0,.int .u16 0,.string ⟨#[]⟩]) 3 24 Tryz.underlying28 hi hz0 hz1 hz2 rfl (by decide) _ 0 [] rfl (World.ownsRow_nil _ _ _ _) a N lc (Tr.ndCells ll) rfl HN3.out HC3.out (ndCells_one _) (by unfold maxLen;omega) (by omega) (Nat.le_refl _) ?_);intro v1 w1 ho1 hg1 _ _;have ho1':w1.ownsRow w.heap.size 76 3 v1 N (Tr.ndCells ll):=by simpa using ho1
  have hb1:Below w.heap.size w w1:=(Below.refl _ _).grown hg1 (Nat.le_refl _) (by intro k hk;simp[Value.ownBlock] at hk);obtain⟨uo,uc,rfl⟩:=own_is ho1';have HO1:Hid (w1.ownsRow w.heap.size 76 3 (.slice uo N uc) N (Tr.ndCells ll)):=ho1';have HB1:Hid (Below w.heap.size w w1):=hb1;clear ho1 ho1' hg1 hb1;go_wp2_with fail;refine(HM.out w1 HB1.out).mono ?_;rintro e w2 ⟨rfl,v',F,r1,r2,r3,r4,r5,r6⟩;obtain⟨⟨b4,b5,fz⟩,HEH⟩:=HE.out w1 w2 uo uc HB1.out HO1.out v' F r1 r2 r3 r4 r5 r6;clear r1 r2 r3 r4 r5 r6 HM HE;go_wp2;go_end0;exact⟨rfl,HEH.out⟩
theorem keepEv_end {w w1 w2:World} {B:Nat} {dv:Value} {K1 K2 K3:KV} {l1:List Tr.T.Nd} {l2:List Ev} {l3:List En} (h:Books w B dv K1 K2 K3 l1 l2 l3) {lv:Value} {ll:List Ev} (hc:w.ownsRow 0 78 4 lv ll.length (evCells ll)) (hll:ll.length≤100000) (hf:∀k,lv.ownBlock=some k→¬K2.all k) (hb:Below w.heap.size w w1) {uv:Value} (hu:w1.ownsRow w.heap.size 78 4 uv ll.length (evCells ll))
 {v':Value} {F:List Value} (r1:Blk w2 B #[dv,K1.v,v',K3.v,.bool false,K1.cv,K1.wv,.slice none 0 0,.slice none 0 0,K3.cv,K3.wv] 34) (m1:w2.ownsRow 0 29 1 v' (K2.E.length+4) (K2.E++F)) (m2:F.length=4) (m3:∀u∈F,∃m,m≤l2.length+244∧MarkAt w2 78 ((fun k=>mkEv (IntKind.u16.wrap k)) (200+(K2.E.length:Int))) u m∧∀k,u.ownBlock=some k→some k=K2.cv.ownBlock∨w1.heap.size≤k)
 (m4:Kept (fun k=>k=B∨some k=K2.cv.ownBlock∨some k=K2.v.ownBlock) w1 w2) (m5:∀k,v'.ownBlock=some k→some k=K2.v.ownBlock∨w1.heap.size≤k): ∃E',Books ((w2.setCell ⟨B,7,none⟩ lv).setCell ⟨B,8,none⟩ uv) B dv K1 ⟨v',E',lv,uv⟩ K3 l1 ll l3∧E'.length=K2.E.length+4∧Kept (bkAll B K1 K2 K3) w ((w2.setCell ⟨B,7,none⟩ lv).setCell ⟨B,8,none⟩ uv)∧∀k,bkAll B K1 ⟨v',E',lv,uv⟩ K3 k→bkAll B K1 K2 K3 k∨lv.ownBlock=some k∨w.heap.size≤k:=by
 have hB1:=h.blk.below hb h.blk.lt;obtain⟨z1,z2,z3,z4⟩:=h.n2.next h.s2 h.len.2.1 hb hB1 (by decide) (by decide) (by decide) m1 m2 m3 m4 m5 r1 7 8 lv uv hc hu hf;have kk:∀k cs t',Blk w k cs t'→t'≠34→t'≠29→t'≠78→((w2.setCell ⟨B,7,none⟩ lv).setCell ⟨B,8,none⟩ uv).heap[k]? =w.heap[k]? :=by
  intro k cs t' hk a1 a2 a3;refine(z3.block k hk.lt ?_);rintro(e|e|e)
  ·subst e;exact hk.ne h.blk a1 rfl
  ·obtain⟨c,b⟩:=own_blk h.n2.came e;exact hk.ne b a3 rfl
  ·obtain⟨c,b⟩:=own_blk h.n2.row e;exact hk.ne b a2 rfl
 refine⟨K2.E++F,⟨(r1.set 7 lv).set 8 uv,h.n1.keepT fun k cs t' hk ht' _=>kk k cs t' hk (by rcases ht' with e|e<;>subst e<;>decide) (by rcases ht' with e|e<;>subst e<;>decide) (by rcases ht' with e|e<;>subst e<;>decide),z1,h.n3.keepT fun k cs t' hk ht' _=>kk k cs t' hk (by rcases ht' with e|e<;>subst e<;>decide) (by rcases ht' with e|e<;>subst e<;>decide) (by rcases ht' with e|e<;>subst e<;>decide),h.s1,z2,h.s3,⟨h.len.1,hll,h.len.2.2⟩⟩,by rw[List.length_append,m2],z3.weaken fun k hk=>?_,fun k hk=>?_⟩
 ·rcases hk with e|e|e
  ·exact Or.inl e
  ·exact Or.inr (Or.inr (Or.inl (Or.inr (Or.inr (Or.inl e)))))
  ·exact Or.inr (Or.inr (Or.inl (Or.inl e)))
 rcases hk with e|e|e|e
 ·exact Or.inl (Or.inl e)
 ·exact Or.inl (Or.inr (Or.inl e))
 ·rcases z4 k e with e|e|e
  ·exact Or.inl (Or.inr (Or.inr (Or.inl e)))
  ·exact Or.inr (Or.inl e)
  ·exact Or.inr (Or.inr e)
 ·exact Or.inl (Or.inr (Or.inr (Or.inr e)))
theorem keepEv_mark {w:World} {B:Nat} {dv:Value} {K1 K2 K3:KV} {l1:List Tr.T.Nd} {l2:List Ev} {l3:List En} (h:Books w B dv K1 K2 K3 l1 l2 l3) (he:K2.E.length≤100000000): Calls Tryz.prog 31 #[.pointer (some ⟨B,1,none⟩)] w fun e w'=>e= .returned (.tuple #[])∧∃v' E',Books w' B dv K1 ⟨v',E',.slice none 0 0,.slice none 0 0⟩ K3 l1 [] l3∧E'.length=K2.E.length+4∧Kept (bkAll B K1 K2 K3) w w'∧∀k,bkAll B K1 ⟨v',E',.slice none 0 0,.slice none 0 0⟩ K3 k→bkAll B K1 K2 K3 k∨w.heap.size≤k:=by
 have hbu:=h.blk;have hk:=h.n2;obtain⟨ao,cc,e1⟩:=own_is hk.came;obtain⟨wo,wc,e2⟩:=own_is hk.was;rw[e1,e2] at hbu;rw[e1] at hk;rw[e2] at hk;have q:=markedEv_any 0 B K2.v K2.E ao wo l2.length cc wc l2 dv K1.v K3.v K1.cv K1.wv K3.cv K3.wv w (Nat.zero_le _) hbu hk.row he rfl h.len.2.1 hk.came 0 hk.was (Nat.zero_le _);refine q.mono ?_;rintro e w2 ⟨rfl,v',F,r1,m1,m2,m3,m4,m5⟩;rw[←e1] at m3 m4;obtain⟨z1,z2,z3,z4⟩:=h.n2.next0 h.s2 h.len.2.1 (Below.refl _ _) h.blk (by decide) (by decide) (by decide) m1 m2 m3 m4 m5 (lv:= .slice none 0 0) (uv:= .slice none 0 0) (q:=0) (ys:=[]) (World.ownsRow_nil _ _ _ _) (World.ownsRow_nil _ _ _ _) (fun k hk=>by simp[Value.ownBlock] at hk);have kk:∀k cs t',Blk w k cs t'→t'≠34→t'≠29→t'≠78→w2.heap[k]? =w.heap[k]? :=by
  intro k cs t' hk a1 a2 a3;refine(z3.block k hk.lt ?_);rintro(e|e|e)
  ·subst e;exact hk.ne h.blk a1 rfl
  ·obtain⟨c,b⟩:=own_blk h.n2.came e;exact hk.ne b a3 rfl
  ·obtain⟨c,b⟩:=own_blk h.n2.row e;exact hk.ne b a2 rfl
 refine⟨rfl,v',K2.E++F,⟨r1,h.n1.keepT fun k cs t' hk ht' _=>kk k cs t' hk (by rcases ht' with e|e<;>subst e<;>decide) (by rcases ht' with e|e<;>subst e<;>decide) (by rcases ht' with e|e<;>subst e<;>decide),z1,h.n3.keepT fun k cs t' hk ht' _=>kk k cs t' hk (by rcases ht' with e|e<;>subst e<;>decide) (by rcases ht' with e|e<;>subst e<;>decide) (by rcases ht' with e|e<;>subst e<;>decide),h.s1,z2,h.s3,⟨h.len.1,Nat.zero_le _,h.len.2.2⟩⟩,by rw[List.length_append,m2],z3.weaken fun k hk=>?_,fun k hk=>?_⟩
 ·rcases hk with e|e|e
  ·exact Or.inl e
  ·exact Or.inr (Or.inr (Or.inl (Or.inr (Or.inr (Or.inl e)))))
  ·exact Or.inr (Or.inr (Or.inl (Or.inl e)))
 ·rcases hk with e|e|e|e
  ·exact Or.inl (Or.inl e)
  ·exact Or.inl (Or.inr (Or.inl e))
  ·rcases z4 k e with e|e|e
   ·exact Or.inl (Or.inr (Or.inr (Or.inl e)))
   ·simp[Value.ownBlock] at e
   ·exact Or.inr e
  ·exact Or.inl (Or.inr (Or.inr (Or.inr e)))
set_option maxRecDepth 100000 in
theorem keepEv_any {w:World} {B:Nat} {dv:Value} {K1 K2 K3:KV} {l1:List Tr.T.Nd} {l2:List Ev} {l3:List En} (h:Books w B dv K1 K2 K3 l1 l2 l3) {lv:Value} {ll:List Ev} (hc:w.ownsRow 0 78 4 lv ll.length (evCells ll)) (hll:ll.length≤100000) (hf:∀k,lv.ownBlock=some k→¬K2.all k) (he:K2.E.length≤100000000): Calls Tryz.prog 24 #[.pointer (some ⟨B,1,none⟩),lv] w fun e w'=>e= .returned (.tuple #[])∧∃v' E' uv,Books w' B dv K1 ⟨v',E',lv,uv⟩ K3 l1 ll l3∧E'.length=K2.E.length+4∧Kept (bkAll B K1 K2 K3) w w'∧∀k,bkAll B K1 ⟨v',E',lv,uv⟩ K3 k→bkAll B K1 K2 K3 k∨lv.ownBlock=some k∨w.heap.size≤k:=by
 obtain⟨i0,hi,hz0,hz1,hz2⟩:=info_parts info58;have HS:Hid (Books w B dv K1 K2 K3 l1 l2 l3):=h;have HC:Hid (w.ownsRow 0 78 4 lv ll.length (evCells ll)):=hc;have HF:Hid (∀k,lv.ownBlock=some k→¬K2.all k):=hf;have HM:Hid (∀u:World,Below w.heap.size w u→Calls Tryz.prog 31 #[.pointer (some ⟨B,1,none⟩)] u fun e w'=>e= .returned (.tuple #[])∧∃v' F,Blk w' B #[dv,K1.v,v',K3.v,.bool false,K1.cv,K1.wv,.slice none 0 0,.slice none 0 0,K3.cv,K3.wv] 34∧w'.ownsRow 0 29 1 v' (K2.E.length+4) (K2.E++F)∧F.length=4∧(∀y∈F,∃m,m≤l2.length+244∧MarkAt w' 78 ((fun k=>mkEv (IntKind.u16.wrap k)) (200+(K2.E.length:Int))) y m∧∀k,y.ownBlock=some k→some k=K2.cv.ownBlock∨u.heap.size≤k)∧Kept (fun k=>k=B∨some k=K2.cv.ownBlock∨some k=K2.v.ownBlock) u w'∧∀k,v'.ownBlock=some k→some k=K2.v.ownBlock∨u.heap.size≤k):=by intro u hu;have hbu:=h.blk.below hu h.blk.lt;have hk:=h.n2.keep (w':=u) fun k hk _=>hu.block k hk;obtain⟨ao,cc,e1⟩:=own_is hk.came;obtain⟨wo,wc,e2⟩:=own_is hk.was;rw[e1,e2] at hbu;rw[e1] at hk ⊢;rw[e2] at hk;exact markedEv_any 0 B K2.v K2.E ao wo l2.length cc wc l2 dv K1.v K3.v K1.cv K1.wv K3.cv K3.wv u (Nat.zero_le _) hbu hk.row he rfl h.len.2.1 hk.came 0 hk.was (Nat.zero_le _)
 obtain⟨lo,lc,rfl⟩:=own_is hc;obtain⟨N,hN⟩:∃N,N=ll.length:=⟨_,rfl⟩;have HN:Hid (ll.length=N):=hN.symm;have hcn:lo=none→N=0∧lc=0:=by
  rintro rfl;rcases hc.2 with ⟨hv,h0⟩|⟨g,cap,cur,hv,_⟩
  ·simp only[Value.slice.injEq] at hv;exact⟨hN.trans h0,hv.2.2⟩
  ·simp at hv
 have HL:Hid (ll.length≤100000):=hll;rw[←hN] at HC HF hll ⊢;have HE:Hid (∀w1 w2 uo uc,Below w.heap.size w w1→w1.ownsRow w.heap.size 78 4 (.slice uo N uc) N (evCells ll)→∀v' F,Blk w2 B #[dv,K1.v,v',K3.v,.bool false,K1.cv,K1.wv,.slice none 0 0,.slice none 0 0,K3.cv,K3.wv] 34→w2.ownsRow 0 29 1 v' (K2.E.length+4) (K2.E++F)→F.length=4→(∀y∈F,∃m,m≤l2.length+244∧MarkAt w2 78 ((fun k=>mkEv (IntKind.u16.wrap k)) (200+(K2.E.length:Int))) y m∧∀k,y.ownBlock=some k→some k=K2.cv.ownBlock∨w1.heap.size≤k)→Kept (fun k=>k=B∨some k=K2.cv.ownBlock∨some k=K2.v.ownBlock) w1 w2→(∀k,v'.ownBlock=some k→some k=K2.v.ownBlock∨w1.heap.size≤k)→(w2.cell? ⟨B,7,none⟩=some (.slice none 0 0)∧w2.cell? ⟨B,8,none⟩=some (.slice none 0 0)∧∀i,w2.frozen? ⟨B,i,none⟩=false)∧Hid (∃v' E' uv,Books ((w2.setCell ⟨B,7,none⟩ (.slice lo N lc)).setCell ⟨B,8,none⟩ (.slice uo N uc)) B dv K1 ⟨v',E',(.slice lo N lc),uv⟩ K3 l1 ll l3∧E'.length=K2.E.length+4∧Kept (bkAll B K1 K2 K3) w ((w2.setCell ⟨B,7,none⟩ (.slice lo N lc)).setCell ⟨B,8,none⟩ (.slice uo N uc))∧∀k,bkAll B K1 ⟨v',E',(.slice lo N lc),uv⟩ K3 k→bkAll B K1 K2 K3 k∨Value.ownBlock (.slice lo N lc)=some k∨w.heap.size≤k)):=by intro w1 w2 uo uc hb ho v' F r1 m1 m2 m3 m4 m5;refine⟨⟨by rw[r1.cell];rfl,by rw[r1.cell];rfl,fun i=>r1.free i⟩,?_⟩;rw[hN] at ho HC HF ⊢;obtain⟨E',q1,q2,q3,q4⟩:=keepEv_end HS.out HC.out HL.out HF.out hb ho r1 m1 m2 m3 m4 m5;exact⟨v',E',_,q1,q2,q3,q4⟩
 clear h hc hf hN;cases lo with
 |none=>
  obtain⟨rfl,rfl⟩:=hcn rfl;have HU:Hid (w.ownsRow w.heap.size 78 4 (.slice none 0 0) 0 (evCells ll)):=by have:ll=[]:=List.eq_nil_of_length_eq_zero HN.out;subst this;exact World.ownsRow_nil _ _ _ _
  clear hcn;go_enter Tryz.func24,Tryz.ntmps24;go_wp2_with fail;refine(HM.out w (Below.refl _ _)).mono ?_;rintro e w2 ⟨rfl,v',F,r1,r2,r3,r4,r5,r6⟩;obtain⟨⟨b4,b5,fz⟩,HEH⟩:=HE.out w w2 none 0 (Below.refl _ _) HU.out v' F r1 r2 r3 r4 r5 r6;clear r1 r2 r3 r4 r5 r6 HM HE;go_wp2;go_end0;exact⟨rfl,HEH.out⟩
 |some a=>
  have HN3:Hid ((evCells ll).length=N*4):=by unfold Hid;rw[evCells_length,HN.out]
  have HC3:Hid (∀j v,(evCells ll)[j]? =some v→w.cell? (a.add j)=some v):=by
   intro j v hj;rcases HC.out.2 with ⟨hv,_⟩|⟨g,cap,cur,hv,_⟩
   ·simp at hv
   ·simp only[Value.slice.injEq,Option.some.injEq] at hv;rw[hv.1];exact World.ownsRow.cells HC.out (by rw[hv.1];rfl) j v hj
  clear hcn;go_enter Tryz.func24,Tryz.ntmps24;go_wp2_with (at_builtin;refine wpList_append_own_at _ rfl (.tmp 5) (.tmp 6) 29 rfl w.heap.size 78 i0 (.agg #[.int .u8 0,.int .u8 0,.int .u16 0,.int .u8 0]) 4 6 Tryz.underlying29 hi hz0 hz1 hz2 rfl (by decide) _ 0 [] rfl (World.ownsRow_nil _ _ _ _) a N lc (evCells ll) rfl HN3.out HC3.out (evCells_one _) (by unfold maxLen;omega) (by omega) (Nat.le_refl _) ?_);intro v1 w1 ho1 hg1 _ _;have ho1':w1.ownsRow w.heap.size 78 4 v1 N (evCells ll):=by simpa using ho1
  have hb1:Below w.heap.size w w1:=(Below.refl _ _).grown hg1 (Nat.le_refl _) (by intro k hk;simp[Value.ownBlock] at hk);obtain⟨uo,uc,rfl⟩:=own_is ho1';have HO1:Hid (w1.ownsRow w.heap.size 78 4 (.slice uo N uc) N (evCells ll)):=ho1';have HB1:Hid (Below w.heap.size w w1):=hb1;clear ho1 ho1' hg1 hb1;go_wp2_with fail;refine(HM.out w1 HB1.out).mono ?_;rintro e w2 ⟨rfl,v',F,r1,r2,r3,r4,r5,r6⟩;obtain⟨⟨b4,b5,fz⟩,HEH⟩:=HE.out w1 w2 uo uc HB1.out HO1.out v' F r1 r2 r3 r4 r5 r6;clear r1 r2 r3 r4 r5 r6 HM HE;go_wp2;go_end0;exact⟨rfl,HEH.out⟩
theorem keepEn_end {w w1 w2:World} {B:Nat} {dv:Value} {K1 K2 K3:KV} {l1:List Tr.T.Nd} {l2:List Ev} {l3:List En} (h:Books w B dv K1 K2 K3 l1 l2 l3) {lv:Value} {ll:List En} (hc:w.ownsRow 0 80 4 lv ll.length (enCells ll)) (hll:ll.length≤100000) (hf:∀k,lv.ownBlock=some k→¬K3.all k) (hb:Below w.heap.size w w1) {uv:Value} (hu:w1.ownsRow w.heap.size 80 4 uv ll.length (enCells ll))
 {v':Value} {F:List Value} (r1:Blk w2 B #[dv,K1.v,K2.v,v',.bool false,K1.cv,K1.wv,K2.cv,K2.wv,.slice none 0 0,.slice none 0 0] 34) (m1:w2.ownsRow 0 30 1 v' (K3.E.length+4) (K3.E++F)) (m2:F.length=4) (m3:∀u∈F,∃m,m≤l3.length+244∧MarkAt w2 80 ((fun k=>mkEn (IntKind.i64.wrap k)) (200+(K3.E.length:Int))) u m∧∀k,u.ownBlock=some k→some k=K3.cv.ownBlock∨w1.heap.size≤k)
 (m4:Kept (fun k=>k=B∨some k=K3.cv.ownBlock∨some k=K3.v.ownBlock) w1 w2) (m5:∀k,v'.ownBlock=some k→some k=K3.v.ownBlock∨w1.heap.size≤k): ∃E',Books ((w2.setCell ⟨B,9,none⟩ lv).setCell ⟨B,10,none⟩ uv) B dv K1 K2 ⟨v',E',lv,uv⟩ l1 l2 ll∧E'.length=K3.E.length+4∧Kept (bkAll B K1 K2 K3) w ((w2.setCell ⟨B,9,none⟩ lv).setCell ⟨B,10,none⟩ uv)∧∀k,bkAll B K1 K2 ⟨v',E',lv,uv⟩ k→bkAll B K1 K2 K3 k∨lv.ownBlock=some k∨w.heap.size≤k:=by
 have hB1:=h.blk.below hb h.blk.lt;obtain⟨z1,z2,z3,z4⟩:=h.n3.next h.s3 h.len.2.2 hb hB1 (by decide) (by decide) (by decide) m1 m2 m3 m4 m5 r1 9 10 lv uv hc hu hf;have kk:∀k cs t',Blk w k cs t'→t'≠34→t'≠30→t'≠80→((w2.setCell ⟨B,9,none⟩ lv).setCell ⟨B,10,none⟩ uv).heap[k]? =w.heap[k]? :=by
  intro k cs t' hk a1 a2 a3;refine(z3.block k hk.lt ?_);rintro(e|e|e)
  ·subst e;exact hk.ne h.blk a1 rfl
  ·obtain⟨c,b⟩:=own_blk h.n3.came e;exact hk.ne b a3 rfl
  ·obtain⟨c,b⟩:=own_blk h.n3.row e;exact hk.ne b a2 rfl
 refine⟨K3.E++F,⟨(r1.set 9 lv).set 10 uv,h.n1.keepT fun k cs t' hk ht' _=>kk k cs t' hk (by rcases ht' with e|e<;>subst e<;>decide) (by rcases ht' with e|e<;>subst e<;>decide) (by rcases ht' with e|e<;>subst e<;>decide),h.n2.keepT fun k cs t' hk ht' _=>kk k cs t' hk (by rcases ht' with e|e<;>subst e<;>decide) (by rcases ht' with e|e<;>subst e<;>decide) (by rcases ht' with e|e<;>subst e<;>decide),z1,h.s1,h.s2,z2,⟨h.len.1,h.len.2.1,hll⟩⟩,by rw[List.length_append,m2],z3.weaken fun k hk=>?_,fun k hk=>?_⟩
 ·rcases hk with e|e|e
  ·exact Or.inl e
  ·exact Or.inr (Or.inr (Or.inr (Or.inr (Or.inr (Or.inl e)))))
  ·exact Or.inr (Or.inr (Or.inr (Or.inl e)))
 rcases hk with e|e|e|e
 ·exact Or.inl (Or.inl e)
 ·exact Or.inl (Or.inr (Or.inl e))
 ·exact Or.inl (Or.inr (Or.inr (Or.inl e)))
 ·rcases z4 k e with e|e|e
  ·exact Or.inl (Or.inr (Or.inr (Or.inr e)))
  ·exact Or.inr (Or.inl e)
  ·exact Or.inr (Or.inr e)
theorem keepEn_mark {w:World} {B:Nat} {dv:Value} {K1 K2 K3:KV} {l1:List Tr.T.Nd} {l2:List Ev} {l3:List En} (h:Books w B dv K1 K2 K3 l1 l2 l3) (he:K3.E.length≤100000000): Calls Tryz.prog 32 #[.pointer (some ⟨B,1,none⟩)] w fun e w'=>e= .returned (.tuple #[])∧∃v' E',Books w' B dv K1 K2 ⟨v',E',.slice none 0 0,.slice none 0 0⟩ l1 l2 []∧E'.length=K3.E.length+4∧Kept (bkAll B K1 K2 K3) w w'∧∀k,bkAll B K1 K2 ⟨v',E',.slice none 0 0,.slice none 0 0⟩ k→bkAll B K1 K2 K3 k∨w.heap.size≤k:=by
 have hbu:=h.blk;have hk:=h.n3;obtain⟨ao,cc,e1⟩:=own_is hk.came;obtain⟨wo,wc,e2⟩:=own_is hk.was;rw[e1,e2] at hbu;rw[e1] at hk;rw[e2] at hk;have q:=markedEn_any 0 B K3.v K3.E ao wo l3.length cc wc l3 dv K1.v K2.v K1.cv K1.wv K2.cv K2.wv w (Nat.zero_le _) hbu hk.row he rfl h.len.2.2 hk.came 0 hk.was (Nat.zero_le _);refine q.mono ?_;rintro e w2 ⟨rfl,v',F,r1,m1,m2,m3,m4,m5⟩;rw[←e1] at m3 m4;obtain⟨z1,z2,z3,z4⟩:=h.n3.next0 h.s3 h.len.2.2 (Below.refl _ _) h.blk (by decide) (by decide) (by decide) m1 m2 m3 m4 m5 (lv:= .slice none 0 0) (uv:= .slice none 0 0) (q:=0) (ys:=[]) (World.ownsRow_nil _ _ _ _) (World.ownsRow_nil _ _ _ _) (fun k hk=>by simp[Value.ownBlock] at hk);have kk:∀k cs t',Blk w k cs t'→t'≠34→t'≠30→t'≠80→w2.heap[k]? =w.heap[k]? :=by
  intro k cs t' hk a1 a2 a3;refine(z3.block k hk.lt ?_);rintro(e|e|e)
  ·subst e;exact hk.ne h.blk a1 rfl
  ·obtain⟨c,b⟩:=own_blk h.n3.came e;exact hk.ne b a3 rfl
  ·obtain⟨c,b⟩:=own_blk h.n3.row e;exact hk.ne b a2 rfl
 refine⟨rfl,v',K3.E++F,⟨r1,h.n1.keepT fun k cs t' hk ht' _=>kk k cs t' hk (by rcases ht' with e|e<;>subst e<;>decide) (by rcases ht' with e|e<;>subst e<;>decide) (by rcases ht' with e|e<;>subst e<;>decide),h.n2.keepT fun k cs t' hk ht' _=>kk k cs t' hk (by rcases ht' with e|e<;>subst e<;>decide) (by rcases ht' with e|e<;>subst e<;>decide) (by rcases ht' with e|e<;>subst e<;>decide),z1,h.s1,h.s2,z2,⟨h.len.1,h.len.2.1,Nat.zero_le _⟩⟩,by rw[List.length_append,m2],z3.weaken fun k hk=>?_,fun k hk=>?_⟩
 ·rcases hk with e|e|e
  ·exact Or.inl e
  ·exact Or.inr (Or.inr (Or.inr (Or.inr (Or.inr (Or.inl e)))))
  ·exact Or.inr (Or.inr (Or.inr (Or.inl e)))
 ·rcases hk with e|e|e|e
  ·exact Or.inl (Or.inl e)
  ·exact Or.inl (Or.inr (Or.inl e))
  ·exact Or.inl (Or.inr (Or.inr (Or.inl e)))
  ·rcases z4 k e with e|e|e
   ·exact Or.inl (Or.inr (Or.inr (Or.inr e)))
   ·simp[Value.ownBlock] at e
   ·exact Or.inr e
set_option maxRecDepth 100000 in
theorem keepEn_any {w:World} {B:Nat} {dv:Value} {K1 K2 K3:KV} {l1:List Tr.T.Nd} {l2:List Ev} {l3:List En} (h:Books w B dv K1 K2 K3 l1 l2 l3) {lv:Value} {ll:List En} (hc:w.ownsRow 0 80 4 lv ll.length (enCells ll)) (hll:ll.length≤100000) (hf:∀k,lv.ownBlock=some k→¬K3.all k) (he:K3.E.length≤100000000): Calls Tryz.prog 27 #[.pointer (some ⟨B,1,none⟩),lv] w fun e w'=>e= .returned (.tuple #[])∧∃v' E' uv,Books w' B dv K1 K2 ⟨v',E',lv,uv⟩ l1 l2 ll∧E'.length=K3.E.length+4∧Kept (bkAll B K1 K2 K3) w w'∧∀k,bkAll B K1 K2 ⟨v',E',lv,uv⟩ k→bkAll B K1 K2 K3 k∨lv.ownBlock=some k∨w.heap.size≤k:=by
 obtain⟨i0,hi,hz0,hz1,hz2⟩:=info_parts info56;have HS:Hid (Books w B dv K1 K2 K3 l1 l2 l3):=h;have HC:Hid (w.ownsRow 0 80 4 lv ll.length (enCells ll)):=hc;have HF:Hid (∀k,lv.ownBlock=some k→¬K3.all k):=hf;have HM:Hid (∀u:World,Below w.heap.size w u→Calls Tryz.prog 32 #[.pointer (some ⟨B,1,none⟩)] u fun e w'=>e= .returned (.tuple #[])∧∃v' F,Blk w' B #[dv,K1.v,K2.v,v',.bool false,K1.cv,K1.wv,K2.cv,K2.wv,.slice none 0 0,.slice none 0 0] 34∧w'.ownsRow 0 30 1 v' (K3.E.length+4) (K3.E++F)∧F.length=4∧(∀y∈F,∃m,m≤l3.length+244∧MarkAt w' 80 ((fun k=>mkEn (IntKind.i64.wrap k)) (200+(K3.E.length:Int))) y m∧∀k,y.ownBlock=some k→some k=K3.cv.ownBlock∨u.heap.size≤k)∧Kept (fun k=>k=B∨some k=K3.cv.ownBlock∨some k=K3.v.ownBlock) u w'∧∀k,v'.ownBlock=some k→some k=K3.v.ownBlock∨u.heap.size≤k):=by intro u hu;have hbu:=h.blk.below hu h.blk.lt;have hk:=h.n3.keep (w':=u) fun k hk _=>hu.block k hk;obtain⟨ao,cc,e1⟩:=own_is hk.came;obtain⟨wo,wc,e2⟩:=own_is hk.was;rw[e1,e2] at hbu;rw[e1] at hk ⊢;rw[e2] at hk;exact markedEn_any 0 B K3.v K3.E ao wo l3.length cc wc l3 dv K1.v K2.v K1.cv K1.wv K2.cv K2.wv u (Nat.zero_le _) hbu hk.row he rfl h.len.2.2 hk.came 0 hk.was (Nat.zero_le _)
 obtain⟨lo,lc,rfl⟩:=own_is hc;obtain⟨N,hN⟩:∃N,N=ll.length:=⟨_,rfl⟩;have HN:Hid (ll.length=N):=hN.symm;have hcn:lo=none→N=0∧lc=0:=by
  rintro rfl;rcases hc.2 with ⟨hv,h0⟩|⟨g,cap,cur,hv,_⟩
  ·simp only[Value.slice.injEq] at hv;exact⟨hN.trans h0,hv.2.2⟩
  ·simp at hv
 have HL:Hid (ll.length≤100000):=hll;rw[←hN] at HC HF hll ⊢;have HE:Hid (∀w1 w2 uo uc,Below w.heap.size w w1→w1.ownsRow w.heap.size 80 4 (.slice uo N uc) N (enCells ll)→∀v' F,Blk w2 B #[dv,K1.v,K2.v,v',.bool false,K1.cv,K1.wv,K2.cv,K2.wv,.slice none 0 0,.slice none 0 0] 34→w2.ownsRow 0 30 1 v' (K3.E.length+4) (K3.E++F)→F.length=4→(∀y∈F,∃m,m≤l3.length+244∧MarkAt w2 80 ((fun k=>mkEn (IntKind.i64.wrap k)) (200+(K3.E.length:Int))) y m∧∀k,y.ownBlock=some k→some k=K3.cv.ownBlock∨w1.heap.size≤k)→Kept (fun k=>k=B∨some k=K3.cv.ownBlock∨some k=K3.v.ownBlock) w1 w2→(∀k,v'.ownBlock=some k→some k=K3.v.ownBlock∨w1.heap.size≤k)→(w2.cell? ⟨B,9,none⟩=some (.slice none 0 0)∧w2.cell? ⟨B,10,none⟩=some (.slice none 0 0)∧∀i,w2.frozen? ⟨B,i,none⟩=false)∧Hid (∃v' E' uv,Books ((w2.setCell ⟨B,9,none⟩ (.slice lo N lc)).setCell ⟨B,10,none⟩ (.slice uo N uc)) B dv K1 K2 ⟨v',E',(.slice lo N lc),uv⟩ l1 l2 ll∧E'.length=K3.E.length+4∧Kept (bkAll B K1 K2 K3) w ((w2.setCell ⟨B,9,none⟩ (.slice lo N lc)).setCell ⟨B,10,none⟩ (.slice uo N uc))∧∀k,bkAll B K1 K2 ⟨v',E',(.slice lo N lc),uv⟩ k→bkAll B K1 K2 K3 k∨Value.ownBlock (.slice lo N lc)=some k∨w.heap.size≤k)):=by intro w1 w2 uo uc hb ho v' F r1 m1 m2 m3 m4 m5;refine⟨⟨by rw[r1.cell];rfl,by rw[r1.cell];rfl,fun i=>r1.free i⟩,?_⟩;rw[hN] at ho HC HF ⊢;obtain⟨E',q1,q2,q3,q4⟩:=keepEn_end HS.out HC.out HL.out HF.out hb ho r1 m1 m2 m3 m4 m5;exact⟨v',E',_,q1,q2,q3,q4⟩
 clear h hc hf hN;cases lo with
 |none=>
  obtain⟨rfl,rfl⟩:=hcn rfl;have HU:Hid (w.ownsRow w.heap.size 80 4 (.slice none 0 0) 0 (enCells ll)):=by have:ll=[]:=List.eq_nil_of_length_eq_zero HN.out;subst this;exact World.ownsRow_nil _ _ _ _
  clear hcn;go_enter Tryz.func27,Tryz.ntmps27;go_wp2_with fail;refine(HM.out w (Below.refl _ _)).mono ?_;rintro e w2 ⟨rfl,v',F,r1,r2,r3,r4,r5,r6⟩;obtain⟨⟨b4,b5,fz⟩,HEH⟩:=HE.out w w2 none 0 (Below.refl _ _) HU.out v' F r1 r2 r3 r4 r5 r6;clear r1 r2 r3 r4 r5 r6 HM HE;go_wp2;go_end0;exact⟨rfl,HEH.out⟩
 |some a=>
  have HN3:Hid ((enCells ll).length=N*4):=by unfold Hid;rw[enCells_length,HN.out]
  have HC3:Hid (∀j v,(enCells ll)[j]? =some v→w.cell? (a.add j)=some v):=by
   intro j v hj;rcases HC.out.2 with ⟨hv,_⟩|⟨g,cap,cur,hv,_⟩
   ·simp at hv
   ·simp only[Value.slice.injEq,Option.some.injEq] at hv;rw[hv.1];exact World.ownsRow.cells HC.out (by rw[hv.1];rfl) j v hj
  clear hcn;go_enter Tryz.func27,Tryz.ntmps27;go_wp2_with (at_builtin;refine wpList_append_own_at _ rfl (.tmp 5) (.tmp 6) 30 rfl w.heap.size 80 i0 (.agg #[.int .i64 0,.int .u8 0,.int .u16 0,.int .u16 0]) 4 16 Tryz.underlying30 hi hz0 hz1 hz2 rfl (by decide) _ 0 [] rfl (World.ownsRow_nil _ _ _ _) a N lc (enCells ll) rfl HN3.out HC3.out (enCells_one _) (by unfold maxLen;omega) (by omega) (Nat.le_refl _) ?_);intro v1 w1 ho1 hg1 _ _;have ho1':w1.ownsRow w.heap.size 80 4 v1 N (enCells ll):=by simpa using ho1
  have hb1:Below w.heap.size w w1:=(Below.refl _ _).grown hg1 (Nat.le_refl _) (by intro k hk;simp[Value.ownBlock] at hk);obtain⟨uo,uc,rfl⟩:=own_is ho1';have HO1:Hid (w1.ownsRow w.heap.size 80 4 (.slice uo N uc) N (enCells ll)):=ho1';have HB1:Hid (Below w.heap.size w w1):=hb1;clear ho1 ho1' hg1 hb1;go_wp2_with fail;refine(HM.out w1 HB1.out).mono ?_;rintro e w2 ⟨rfl,v',F,r1,r2,r3,r4,r5,r6⟩;obtain⟨⟨b4,b5,fz⟩,HEH⟩:=HE.out w1 w2 uo uc HB1.out HO1.out v' F r1 r2 r3 r4 r5 r6;clear r1 r2 r3 r4 r5 r6 HM HE;go_wp2;go_end0;exact⟨rfl,HEH.out⟩
end Go.Proofs.YtidaflmmldefcaaGreat
