/- Parts of the proof of Hosts: Heap, Mark, BokB, TreeM, TextA, TreeP. -/
import Derived.WalkKit
import Derived.WalkSpells
import Derived.WalkLawsBesides
import Derived.OwnWalk
import Derived.ArgAppend
import Derived.Test.YtidaflmmldefcaaGreatProg
import Derived.Deep.QuietTactic
import Derived.BigQuiet
set_option maxHeartbeats 1000000
namespace Go.Proofs.YtidaflmmldefcaaGreat
open Go.RowKit
def Blk (w:World) (b:Nat) (cs:Array Value) (t:TypeId):Prop:=w.heap[b]? =some (.cells cs t (0,0))
theorem Blk.lt {w:World} {b:Nat} {cs:Array Value} {t:TypeId} (h:Blk w b cs t):b<w.heap.size:=lt_of_block h
theorem Blk.cell {w:World} {b:Nat} {cs:Array Value} {t:TypeId} (h:Blk w b cs t) (i:Nat):w.cell? ⟨b,i,none⟩=cs[i]? :=by
 unfold Blk at h;simp[World.cell?,h]
theorem Blk.free {w:World} {b:Nat} {cs:Array Value} {t:TypeId} (h:Blk w b cs t) (i:Nat):w.frozen? ⟨b,i,none⟩=false:=by
 unfold Blk at h;simp[World.frozen?,h]
theorem Blk.of_block {w w':World} {b:Nat} {cs:Array Value} {t:TypeId} (h:Blk w b cs t) (e:w'.heap[b]? =w.heap[b]?):Blk w' b cs t:=by
 unfold Blk at*;rw[e,h]
theorem Blk.alloc {w:World} {b:Nat} {cs:Array Value} {t:TypeId} (h:Blk w b cs t) (o:Obj):Blk (w.alloc o) b cs t:=h.of_block (Below.heap_alloc w o b h.lt)
theorem Blk.new (w:World) (cs:Array Value) (t:TypeId):Blk (w.alloc (.cells cs t)) w.heap.size cs t:=by
 show(w.heap.push _)[w.heap.size]? =_;simp
theorem Blk.below {B:Nat} {w w':World} {b:Nat} {cs:Array Value} {t:TypeId} (h:Blk w b cs t) (hb:Below B w w') (hl:b<B):Blk w' b cs t:=h.of_block (hb.block b hl)
theorem Blk.grown {w w':World} {b:Nat} {cs:Array Value} {t:TypeId} {row:Option Nat} (h:Blk w b cs t) (hg:w.grownBy w' row) (hne:some b≠row):Blk w' b cs t:=h.of_block (hg.block b h.lt hne)
theorem Blk.other {w:World} {b:Nat} {cs:Array Value} {t:TypeId} (h:Blk w b cs t) (a:Addr) (u:Value) (hne:b≠a.block):Blk (w.setCell a u) b cs t:=h.of_block (Below.heap_setCell w a u b hne)
theorem Blk.set {w:World} {b:Nat} {cs:Array Value} {t:TypeId} (h:Blk w b cs t) (i:Nat) (u:Value):Blk (w.setCell ⟨b,i,none⟩ u) b (cs.setIfInBounds i u) t:=by
 have hlt:=h.lt;unfold Blk at h;have h':w.heap[b]= .cells cs t (0,0):=by simpa[Array.getElem?_eq_getElem hlt] using h
 show(w.heap.modify b _)[b]? =_;rw[Array.getElem?_modify,if_pos rfl,h];simp
theorem Blk.ne_own {w:World} {b:Nat} {cs:Array Value} {t:TypeId} (h:Blk w b cs t) {base:Nat} {e:TypeId} {size:Nat} {v:Value} {n:Nat} {xs:List Value} (ho:w.ownsRow base e size v n xs) (hte:t≠e):some b≠v.ownBlock:=by
 rcases ho.2 with ⟨hv,_⟩|⟨g,cap,cur,hv,_,hh,_⟩
 ·subst hv;simp[Value.ownBlock]
 ·subst hv;intro hb;simp only[Value.ownBlock,Option.some.injEq] at hb;subst hb;unfold Blk at h;rw[h] at hh;simp at hh;exact hte hh.2
theorem own_ne_new {w:World} {base:Nat} {e:TypeId} {size:Nat} {v:Value} {n:Nat} {xs:List Value} (ho:w.ownsRow base e size v n xs) {b:Nat} (hb:w.heap.size≤b):some b≠v.ownBlock:=by
 intro h;have:=(ho.lt b h.symm).2;omega
theorem own_below' {B:Nat} {w w':World} {base:Nat} {e:TypeId} {size:Nat} {v:Value} {n:Nat} {xs:List Value} (ho:w.ownsRow base e size v n xs) (hb:Below B w w') (hB:w.heap.size≤B):w'.ownsRow base e size v n xs:=by
 obtain⟨h1,h2⟩:=ho;refine⟨h1,?_⟩;rcases h2 with h2|⟨g,cap,cur,hv,hg,hh,r⟩
 ·exact Or.inl h2
 ·exact Or.inr ⟨g,cap,cur,hv,hg,by rw[hb.block g (Nat.lt_of_lt_of_le (lt_of_block hh) hB)];exact hh,r⟩
theorem below_app {B:Nat} {a w w':World} {v:Value} {base:Nat} {e:TypeId} {size n:Nat} {xs:List Value} (h:Below B a w) (hg:w.grownBy w' v.ownBlock) (ho:w.ownsRow base e size v n xs) (hB:B≤base) (hs:B≤w.heap.size):Below B a w':=h.grown hg hs (fun k hk=>Nat.le_trans hB (ho.lt k hk).1)
theorem new_one (w:World) (x:Value) (t:TypeId):∀j u,[x][j]? =some u→(w.alloc (.cells #[x] t)).cell? ((⟨w.heap.size,0,none⟩:Addr).add j)=some u:=by
 intro j u hj;match j,hj with
 |0,hj=>simp at hj;subst hj;simp[Addr.add]
 |(j+1),hj=>simp at hj
theorem new_two (w:World) (x y:Value) (t:TypeId):∀j u,[x,y][j]? =some u→(w.alloc (.cells #[x,y] t)).cell? ((⟨w.heap.size,0,none⟩:Addr).add j)=some u:=by
 intro j u hj;match j,hj with
 |0,hj=>simp at hj;subst hj;simp[Addr.add]
 |1,hj=>simp at hj;subst hj;simp[Addr.add]
 |(j+2),hj=>simp at hj
set_option linter.unusedVariables false
def rep (n:Nat) (ms:List Value):List Value:=(List.replicate n ms).flatten
theorem rep_succ (n:Nat) (ms:List Value):rep (n+1) ms=rep n ms++ms:=by
 unfold rep;rw[List.replicate_succ'];simp
theorem rep_length (n:Nat) (ms:List Value):(rep n ms).length=n*ms.length:=by
 unfold rep;simp
theorem rep_add (m k:Nat) (ms:List Value):rep (m+k) ms=rep m ms++rep k ms:=by
 unfold rep;rw[←List.flatten_append,List.replicate_append_replicate]
theorem rep_take {m n:Nat} (h:m≤n) (ms:List Value):(rep n ms).take (m*ms.length)=rep m ms:=by
 obtain⟨k,rfl⟩:=Nat.exists_eq_add_of_le h;rw[rep_add,List.take_append_of_le_length (by rw[rep_length];exact Nat.le_refl _),List.take_of_length_le (by rw[rep_length];exact Nat.le_refl _)]
theorem rep_get {n k i:Nat} {ms:List Value} (hk:k<n) (hi:i<ms.length):(rep n ms)[k*ms.length+i]? =ms[i]? :=by
 obtain⟨d,rfl⟩:=Nat.exists_eq_add_of_lt hk;rw[show k+d+1=k+(1+d) by omega,rep_add,List.getElem?_append_right (by rw[rep_length];omega),rep_length,rep_add,show k*ms.length+i-k*ms.length=i by omega];have h1:rep 1 ms=ms:=by simp[rep]
 rw[h1,List.getElem?_append_left hi]
def MarkAt (w:World) (t:TypeId) (ms:List Value) (v:Value) (m:Nat):Prop:=∃ao cap,v= .slice ao m cap∧(m=0∨∃g cur,ao=some ⟨g,0,none⟩∧Blk w g cur t∧cur.toList.take (m*ms.length)=rep m ms)
theorem MarkAt.other {w w':World} {t:TypeId} {ms:List Value} {v:Value} {m:Nat} (h:MarkAt w t ms v m) (hk:∀g,v.ownBlock=some g→g<w.heap.size→w'.heap[g]? =w.heap[g]?):MarkAt w' t ms v m:=by
 obtain⟨ao,cap,rfl,h⟩:=h;refine⟨ao,cap,rfl,?_⟩;rcases h with h|⟨g,cur,e,hb,hr⟩
 ·exact Or.inl h
 ·subst e;exact Or.inr ⟨g,cur,rfl,hb.of_block (hk g rfl hb.lt),hr⟩
theorem MarkAt.lt {w:World} {t:TypeId} {ms:List Value} {ao:Option Addr} {m c:Nat} (h:MarkAt w t ms (.slice ao m c) m) (hm:m≠0):∃g cur,ao=some ⟨g,0,none⟩∧Blk w g cur t∧cur.toList.take (m*ms.length)=rep m ms:=by
 obtain⟨ao',cap,e,h⟩:=h;simp only[Value.slice.injEq] at e;obtain⟨rfl,_,rfl⟩:=e;exact h.resolve_left hm
theorem own_mark {w:World} {base n:Nat} {t:TypeId} {ms:List Value} {v:Value} (h:w.ownsRow base t ms.length v n (rep n ms)):MarkAt w t ms v n:=by
 rcases h.2 with ⟨hv,h0⟩|⟨g,cap,cur,hv,hb,hh,h1,h2,h3,h4⟩
 ·subst hv;subst h0;exact⟨none,0,rfl,Or.inl rfl⟩
 ·subst hv;exact⟨_,_,rfl,Or.inr ⟨g,cur,rfl,hh,h4⟩⟩
theorem mark_cell {w:World} {t:TypeId} {ms:List Value} {g m k i:Nat} {cur:Array Value} (hb:Blk w g cur t) (hr:cur.toList.take (m*ms.length)=rep m ms) (hk:k<m) (hi:i<ms.length):w.cell? ⟨g,k*ms.length+i,none⟩=ms[i]? :=by
 rw[hb.cell,←rep_get hk hi,←hr,List.getElem?_take];have:k*ms.length+i<m*ms.length:=by have:(k+1)*ms.length≤m*ms.length:=Nat.mul_le_mul_right _ hk;rw[Nat.add_mul] at this;omega
 rw[if_pos this];simp
theorem MarkAt.fits {w w':World} {base g k cap m:Nat} {t:TypeId} {ms:List Value} {v:Value} (h:MarkAt w t ms v m) (hm:m≤k) (hg:w.grownBy w' (some g)) (ho:w'.ownsRow base t ms.length (.slice (some ⟨g,0,none⟩) k cap) k (rep k ms)):MarkAt w' t ms v m:=by
 obtain⟨ao,cp,rfl,h⟩:=h;refine⟨ao,cp,rfl,?_⟩;rcases h with h|⟨g',cur,e,hb,hr⟩
 ·exact Or.inl h
 ·by_cases hgg:g'=g
  ·subst hgg;rcases ho.2 with ⟨hv,_⟩|⟨g2,cap2,cur2,hv,_,hh,_,_,_,h4⟩
   ·simp at hv
   ·simp only[Value.slice.injEq,Option.some.injEq,Addr.mk.injEq,and_true,true_and] at hv;obtain⟨rfl,rfl⟩:=hv;refine Or.inr ⟨g',cur2,e,hh,?_⟩;rw[←rep_take hm,←h4,List.take_take,Nat.min_eq_left (Nat.mul_le_mul_right _ hm)]
  ·exact Or.inr ⟨g',cur,e,hb.grown hg (by intro h;exact hgg (Option.some.inj h)),hr⟩
theorem wpList_append_mark {P:Program} (w:World) {ops:Array Oper} {rest:List Oper} {o:Oper} {a:Act} {Q:Exit→Act→World→Prop} (hgd:o.guard=none) (s x:Operand) (t:TypeId)
 (ho:o.op= .call {callee:= .builtin .append,args:=#[s,x],argTypes:=#[t,t]})
 (base:Nat) (e:TypeId) (i:TypeInfo) (z:Value) (bytes:Nat) (ms:List Value) (ht:P.underlying t=some (.slice e)) (hi:P.info? e=some i) (hz:i.zero=some z)
 (hsize:i.size=ms.length) (hby:i.bytes=bytes) (hzs:z.cells.size=ms.length) (hsz:0<ms.length)
 (ao:Option Addr) (n cap:Nat) (hs:a.eval s= .slice ao n cap) (hown:w.ownsRow base e ms.length (.slice ao n cap) n (rep n ms))
 (ad:Addr) (c:Nat) (hx:a.eval x= .slice (some ad) 1 c) (hnews:∀j u,ms[j]? =some u→w.cell? (ad.add j)=some u) (h1:∀u∈ms,u.oneCell'=true)
 (h63:n+1≤maxLen) (hbytes:(n+1)*bytes≤140737488355328) (hbase:base≤w.heap.size)
 (h:∀ao' cap' w',w'.ownsRow base e ms.length (.slice ao' (n+1) cap') (n+1) (rep (n+1) ms)→w.grownBy w' (Value.ownBlock (.slice ao n cap))→(Value.ownBlock (.slice ao' (n+1) cap')=Value.ownBlock (.slice ao n cap)∨∀k,Value.ownBlock (.slice ao' (n+1) cap')=some k→w.heap.size≤k)→(∀v m,m≤n+1→MarkAt w e ms v m→MarkAt w' e ms v m)→wpList P ops Q rest (a.put o.dst (.slice ao' (n+1) cap')) w'): wpList P ops Q (o::rest) a w:=by
 by_cases hroom:n+1≤cap
 ·obtain⟨g,rfl⟩:∃g,ao=some ⟨g,0,none⟩:=by
   rcases hown.2 with ⟨h,_⟩|⟨g,cp,cur,hv,_⟩
   ·simp only[Value.slice.injEq] at h;omega
   ·simp only[Value.slice.injEq] at hv;exact⟨g,hv.1⟩
  refine wpList_append_fits w hgd s x t ho base e i ms.length ht hi hsize g n cap _ hs hown ad 1 c ms hx (by simp) hnews h1 hroom ?_;intro w' ho' hg';rw[←rep_succ] at ho';exact h _ _ _ ho' hg' (Or.inl rfl) fun v m hm hv=>hv.fits hm hg' ho'
 ·refine wpList_append_grows w hgd s x t ho e i z ms.length bytes ht hi hz hsize hby hzs hsz ao n cap (rep n ms) hs ?_ (by rw[rep_length]) ?_ ad 1 c ms hx (by simp) hnews h1 (by omega) h63 hbytes ?_
  ·intro hn;rcases hown.2 with ⟨h,h0⟩|⟨g,cp,cur,hv,_⟩
   ·simp only[Value.slice.injEq] at h;exact⟨h0,h.2.2⟩
   ·simp only[Value.slice.injEq] at hv;rw[hn] at hv;cases hv.1
  ·intro b hb jj u hu;subst hb;rcases hown.2 with ⟨h2,_⟩|⟨g,cp,cur,hv,_⟩
   ·simp at h2
   ·simp only[Value.slice.injEq] at hv;rw[Option.some.inj hv.1];exact World.ownsRow.cells hown (by rw[hv.1];rfl) jj u hu
  ·intro v' w' ho' hg';rw[←rep_succ] at ho';obtain⟨g',c',cur',hv',hb',hh',hrest⟩:∃g cap cur,v'= .slice (some ⟨g,0,none⟩) (n+1) cap∧w.heap.size≤g∧w'.heap[g]? =some (.cells cur e (0,0))∧n+1≤cap∧cap≤maxLen∧cur.size=cap*ms.length∧cur.toList.take ((n+1)*ms.length)=rep (n+1) ms:=by
    rcases ho'.2 with ⟨_,h0⟩|h0
    ·omega
    ·exact h0
   subst hv';refine h _ _ _ ⟨ho'.1,Or.inr ⟨g',c',cur',rfl,by omega,hh',hrest⟩⟩ ⟨hg'.os,hg'.tape,hg'.output,hg'.size,fun k hk _=>hg'.block k hk (by simp)⟩ (Or.inr ?_) ?_
   ·intro k hk;simp only[Value.ownBlock,Option.some.injEq] at hk;omega
   ·intro v m _ hv;exact hv.other fun g _ hg=>hg'.block g hg (by simp)
structure Kept (S:Nat→Prop) (w w':World):Prop where
 os:w'.os=w.os
 tape:w'.tape=w.tape
 output:w'.output=w.output
 size:w.heap.size≤w'.heap.size
 block:∀k,k<w.heap.size→¬S k→w'.heap[k]? =w.heap[k]?
theorem Kept.refl (S:Nat→Prop) (w:World):Kept S w w:=⟨rfl,rfl,rfl,Nat.le_refl _,fun _ _ _=>rfl⟩
theorem Kept.trans {S S':Nat→Prop} {a b c:World} (h:Kept S a b) (k:Kept S' b c) (hs:∀i,i<a.heap.size→S' i→S i):Kept S a c:=⟨k.os.trans h.os,k.tape.trans h.tape,k.output.trans h.output,Nat.le_trans h.size k.size,fun i hi hn=>(k.block i (Nat.lt_of_lt_of_le hi h.size) (fun q=>hn (hs i hi q))).trans (h.block i hi hn)⟩
theorem Kept.weaken {S S':Nat→Prop} {w w':World} (h:Kept S w w') (hs:∀k,S k→S' k):Kept S' w w':=⟨h.os,h.tape,h.output,h.size,fun k hk hn=>h.block k hk fun q=>hn (hs k q)⟩
theorem Kept.of_below {S:Nat→Prop} {w w':World} (h:Below w.heap.size w w'):Kept S w w':=⟨h.os,h.tape,h.output,h.size,fun k hk _=>h.block k hk⟩
theorem Kept.below {S:Nat→Prop} {w w':World} {B:Nat} (h:Kept S w w') (hB:B≤w.heap.size) (hs:∀k,S k→B≤k):Below B w w':=⟨h.os,h.tape,h.output,h.size,fun k hk=>h.block k (by omega) (fun q=>by have:=hs k q;omega)⟩
theorem Kept.grown {S:Nat→Prop} {w w1 w':World} {row:Option Nat} (h:Kept S w w1) (hg:w1.grownBy w' row) (hr:∀k,row=some k→S k∨w.heap.size≤k):Kept S w w':=⟨hg.os.trans h.os,hg.tape.trans h.tape,hg.output.trans h.output,Nat.le_trans h.size hg.size,fun k hk hn=>(hg.block k (Nat.lt_of_lt_of_le hk h.size) (fun e=>by
  rcases hr k e.symm with q|q
  ·exact hn q
  ·omega)).trans (h.block k hk hn)⟩
theorem Kept.alloc {S:Nat→Prop} {w w1:World} (h:Kept S w w1) (o:Obj):Kept S w (w1.alloc o):=h.grown (World.grownBy_alloc w1 o none) (by intro k hk;cases hk)
theorem Kept.setCell {S:Nat→Prop} {w w1:World} (h:Kept S w w1) (a:Addr) (v:Value) (ha:S a.block∨w.heap.size≤a.block):Kept S w (w1.setCell a v):=by
 refine⟨h.os,h.tape,h.output,by simpa using h.size,fun k hk hn=>?_⟩;refine(Below.heap_setCell w1 a v k ?_).trans (h.block k hk hn);rintro rfl;rcases ha with q|q
 ·exact hn q
 ·omega
theorem own_block {w w':World} {base:Nat} {e:TypeId} {size:Nat} {v:Value} {n:Nat} {xs:List Value} (ho:w.ownsRow base e size v n xs) (h:∀k,v.ownBlock=some k→w'.heap[k]? =w.heap[k]?):w'.ownsRow base e size v n xs:=by
 obtain⟨h1,h2⟩:=ho;refine⟨h1,?_⟩;rcases h2 with h2|⟨g,cap,cur,hv,hg,hh,r⟩
 ·exact Or.inl h2
 ·exact Or.inr ⟨g,cap,cur,hv,hg,by rw[h g (by rw[hv];rfl)];exact hh,r⟩
theorem Blk.ne {w:World} {a b:Nat} {c d:Array Value} {t u:TypeId} (ha:Blk w a c t) (hb:Blk w b d u) (h:t≠u):a≠b:=by
 rintro rfl;unfold Blk at ha hb;rw[ha] at hb;simp at hb;exact h hb.2
theorem row_cell {w:World} {base:Nat} {tn:TypeId} {ao:Option Addr} {n c:Nat} {E:List Value} (h:w.ownsRow base tn 1 (.slice ao n c) n E) {i:Nat} {u:Value} (hi:E[i]? =some u):∃g,ao=some ⟨g,0,none⟩∧w.cell? ⟨g,i,none⟩=some u:=by
 rcases h.2 with ⟨hv,h0⟩|⟨g,cap,cur,hv,_⟩
 ·have:E=[]:=List.eq_nil_of_length_eq_zero (by have:=h.1;omega);subst this;simp at hi
 ·simp only[Value.slice.injEq] at hv;refine⟨g,hv.1,?_⟩;have h1:=World.ownsRow.cells h (g:=g) (by rw[hv.1];rfl) i u hi;rw[Addr.add_lit,Nat.zero_add] at h1;exact h1
theorem own_pair {w:World} {base:Nat} {e:TypeId} {ao:Option Addr} {n c k:Nat} {xs:List Value} {a b:Value} (h:w.ownsRow base e 2 (.slice ao n c) n xs) (ha:xs[k*2]? =some a) (hb:xs[k*2+1]? =some b):∃g,ao=some ⟨g,0,none⟩∧w.cell? ⟨g,k*2,none⟩=some a∧w.cell? ⟨g,k*2+1,none⟩=some b:=by
 rcases h.2 with ⟨hv,h0⟩|⟨g,cap,cur,hv,_⟩
 ·have:xs=[]:=List.eq_nil_of_length_eq_zero (by have:=h.1;omega);subst this;simp at ha
 ·simp only[Value.slice.injEq] at hv;refine⟨g,hv.1,?_,?_⟩
  ·have h1:=World.ownsRow.cells h (g:=g) (by rw[hv.1];rfl) _ _ ha;rw[Addr.add_lit,Nat.zero_add] at h1;exact h1
  ·have h1:=World.ownsRow.cells h (g:=g) (by rw[hv.1];rfl) _ _ hb;rw[Addr.add_lit,Nat.zero_add] at h1;exact h1
theorem own_cur {w:World} {base g:Nat} {e:TypeId} {n c size:Nat} {xs:List Value} (h:w.ownsRow base e size (.slice (some ⟨g,0,none⟩) n c) n xs):∃cur,Blk w g cur e:=by
 rcases h.2 with ⟨hv,_⟩|⟨g',cp,cur,hv,_,hh,_⟩
 ·simp at hv
 ·simp only[Value.slice.injEq,Option.some.injEq,Addr.mk.injEq] at hv;obtain⟨⟨rfl,_⟩,_⟩:=hv;exact⟨cur,hh⟩
def MarkedTo (xs:List Value) (a b:Value) (q:Nat):Prop:=xs.take (q*2)=rep q [a,b]
theorem MarkedTo.step {xs:List Value} {a b:Value} {q n:Nat} (h:MarkedTo xs a b q) (hx:xs.length=n*2) (hq:q<n):MarkedTo ((xs.set (q*2) a).set (q*2+1) b) a b (q+1):=by
 unfold MarkedTo at*;rw[rep_succ,←h];apply List.ext_getElem?;intro i;rw[List.getElem?_take];by_cases h1:i<(q+1)*2
 ·rw[if_pos h1];by_cases h2:i<q*2
  ·rw[List.getElem?_append_left (by simp;omega),List.getElem?_take,if_pos h2,List.getElem?_set_ne (by omega),List.getElem?_set_ne (by omega)]
  ·rw[List.getElem?_append_right (by simp;omega)];have hl:(xs.take (q*2)).length=q*2:=by simp;omega
   rw[hl];rcases(show i=q*2∨i=q*2+1 by omega) with e|e
   ·subst e;rw[List.getElem?_set_ne (by omega),List.getElem?_set_self (by omega)];simp
   ·subst e;rw[List.getElem?_set_self (by simp;omega)];simp
 ·rw[if_neg h1,List.getElem?_eq_none (by simp;omega)]
theorem MarkedTo.all {xs:List Value} {a b:Value} {n:Nat} (h:MarkedTo xs a b n) (hx:xs.length=n*2):xs=rep n [a,b]:=by
 unfold MarkedTo at h;rw[←h,List.take_of_length_le (by omega)]
theorem below_same {w u:World} {B b i:Nat} {cs:Array Value} {t:TypeId} {v:Value} (h:Below B w u) (hb:Blk u b cs t) (hv:cs[i]? =some v):Below B w (u.setCell ⟨b,i,none⟩ v):=by
 refine⟨h.os,h.tape,h.output,by simpa using h.size,fun k hk=>?_⟩;refine Eq.trans ?_ (h.block k hk);by_cases hkb:k=b
 ·subst hkb;have h1:=hb.set i v;have e:cs.setIfInBounds i v=cs:=by
   apply Array.ext_getElem?;intro j;rw[Array.getElem?_setIfInBounds];split
   ·rename_i hij;subst hij;split
    ·exact hv.symm
    ·rename_i hn;rw[Array.getElem?_eq_none (by omega)]
   ·rfl
  rw[e] at h1;exact h1.trans hb.symm
 ·exact Below.heap_setCell u _ v k hkb
structure LSt (w wr:World) (base B M fi:Nat) (tn t:TypeId) (cs:Array Value) (ms:List Value) (lb nb:Option Nat) (E:List Value) (vj:Value) (Ej:List Value) (aj:Option Addr) (len cj:Nat):Prop where
 bk:Blk wr B (cs.setIfInBounds fi vj) 34
 row:wr.ownsRow base tn 1 vj (E.length+Ej.length) (E++Ej)
 own:wr.ownsRow base t ms.length (.slice aj len cj) len (rep len ms)
 mark:Blk wr M ms.toArray t
 kept:Kept (fun k=>k=B∨some k=lb∨some k=nb) w wr
 lblk:∀k,Value.ownBlock (.slice aj len cj)=some k→(some k=lb∨w.heap.size≤k)∧k≠M
 nblk:∀k,vj.ownBlock=some k→some k=nb∨w.heap.size≤k
 all:∀v∈Ej,∃m,m≤len∧MarkAt wr t ms v m∧∀k,v.ownBlock=some k→some k=lb∨w.heap.size≤k
 hM:w.heap.size≤M
theorem LSt.push {w wr w':World} {base B M fi:Nat} {tn t:TypeId} {cs:Array Value} {ms:List Value} {lb nb:Option Nat} {E:List Value} {vj:Value} {Ej:List Value} {aj a':Option Addr} {len cj c':Nat} (h:LSt w wr base B M fi tn t cs ms lb nb E vj Ej aj len cj) (ht:t≠tn) (htB:(34:TypeId)≠t)
 (ho:w'.ownsRow base t ms.length (.slice a' (len+1) c') (len+1) (rep (len+1) ms)) (hg:(wr.alloc (.cells ms.toArray t)).grownBy w' (Value.ownBlock (.slice aj len cj)))
 (hb:Value.ownBlock (.slice a' (len+1) c')=Value.ownBlock (.slice aj len cj)∨∀k,Value.ownBlock (.slice a' (len+1) c')=some k→(wr.alloc (.cells ms.toArray t)).heap.size≤k)
 (hm:∀v m,m≤len+1→MarkAt (wr.alloc (.cells ms.toArray t)) t ms v m→MarkAt w' t ms v m):LSt w w' base B M fi tn t cs ms lb nb E vj Ej a' (len+1) c':=by
 have hml:=h.mark.lt;have hsz:=h.kept.size;have hal:∀{b:Nat} {c:Array Value} {u:TypeId},Blk wr b c u→Blk (wr.alloc (.cells ms.toArray t)) b c u:=fun q=>q.alloc _;refine⟨?_,?_,ho,?_,?_,?_,h.nblk,?_,h.hM⟩
 ·exact(hal h.bk).grown hg ((hal h.bk).ne_own (h.own.alloc _) htB)
 ·obtain⟨r1,r2⟩:=h.row.alloc (.cells ms.toArray t);refine⟨r1,?_⟩;rcases r2 with r2|⟨g,cap,cur,hv,hg1,hh,r⟩
  ·exact Or.inl r2
  ·have hB:Blk (wr.alloc (.cells ms.toArray t)) g cur tn:=hh;exact Or.inr ⟨g,cap,cur,hv,hg1,hB.grown hg (hB.ne_own (h.own.alloc _) ht.symm),r⟩
 ·refine(hal h.mark).grown hg ?_;intro e;exact(h.lblk M e.symm).2 rfl
 ·refine(h.kept.alloc _).grown hg fun k hk=>?_;rcases(h.lblk k hk).1 with q|q
  ·exact Or.inl (Or.inr (Or.inl q))
  ·exact Or.inr q
 ·intro k hk;rcases hb with hb|hb
  ·rw[hb] at hk;exact h.lblk k hk
  ·have h1:=hb k hk;simp at h1;exact⟨Or.inr (by omega),by omega⟩
 ·intro v hv;obtain⟨m,hm1,hm2,hm3⟩:=h.all v hv;refine⟨m,by omega,hm v m (by omega) (hm2.other fun g _ hg=>?_),hm3⟩;exact Below.heap_alloc wr _ g hg
theorem LSt.join {w wr w7:World} {base B M fi:Nat} {tn t:TypeId} {cs:Array Value} {ms:List Value} {lb nb:Option Nat} {E:List Value} {vj v7:Value} {Ej:List Value} {aj:Option Addr} {len cj:Nat} (h:LSt w wr base B M fi tn t cs ms lb nb E vj Ej aj len cj) (ht:t≠tn) (htB:(34:TypeId)≠t) (htN:(34:TypeId)≠tn)
 (ho:w7.ownsRow base tn 1 v7 (E.length+Ej.length+1) (E++Ej++[.slice aj len cj])) (hg:(wr.alloc (.cells #[.slice aj len cj] tn)).grownBy w7 vj.ownBlock)
 (hb:v7.ownBlock=vj.ownBlock∨v7.ownBlock=some (wr.alloc (.cells #[.slice aj len cj] tn)).heap.size):LSt w (w7.setCell ⟨B,fi,none⟩ v7) base B M fi tn t cs ms lb nb E v7 (Ej++[.slice aj len cj]) aj len cj:=by
 have hml:=h.mark.lt;have hsz:=h.kept.size;have hal:∀{b:Nat} {c:Array Value} {u:TypeId},Blk wr b c u→Blk (wr.alloc (.cells #[.slice aj len cj] tn)) b c u:=fun q=>q.alloc _;have hrow:=h.row.alloc (.cells #[.slice aj len cj] tn);have hgo:∀{b:Nat} {c:Array Value} {u:TypeId},Blk wr b c u→u≠tn→Blk w7 b c u:=fun q hu=>(hal q).grown hg ((hal q).ne_own hrow hu);have hbk7:Blk w7 B (cs.setIfInBounds fi vj) 34:=hgo h.bk htN;have hset:∀{b:Nat} {c:Array Value} {u:TypeId},Blk w7 b c u→u≠34→Blk (w7.setCell ⟨B,fi,none⟩ v7) b c u:=fun {b c u} q hu=>q.other _ _ (by rintro rfl;unfold Blk at q hbk7;rw[q] at hbk7;simp at hbk7;exact hu hbk7.2);have hmk:∀v m,MarkAt wr t ms v m→MarkAt (w7.setCell ⟨B,fi,none⟩ v7) t ms v m:=by
  rintro v m ⟨ao,cap,rfl,q⟩;refine⟨ao,cap,rfl,?_⟩;rcases q with q|⟨g,cur,e,hb,hr⟩
  ·exact Or.inl q
  ·exact Or.inr ⟨g,cur,e,hset (hgo hb ht) htB.symm,hr⟩
 refine⟨?_,?_,?_,?_,?_,h.lblk,?_,?_,h.hM⟩
 ·have:=hbk7.set fi v7;rwa [Array.setIfInBounds_setIfInBounds] at this
 ·obtain⟨r1,r2⟩:=ho;rw[show E.length+(Ej++[Value.slice aj len cj]).length=E.length+Ej.length+1 by simp;omega,←List.append_assoc];refine⟨r1,?_⟩;rcases r2 with r2|⟨g,cap,cur,hv,hg1,hh,r⟩
  ·exact Or.inl r2
  ·have hB:Blk w7 g cur tn:=hh;exact Or.inr ⟨g,cap,cur,hv,hg1,hset hB htN.symm,r⟩
 ·obtain⟨r1,r2⟩:=h.own;refine⟨r1,?_⟩;rcases r2 with r2|⟨g,cap,cur,hv,hg1,hh,r⟩
  ·exact Or.inl r2
  ·have hB:Blk wr g cur t:=hh;exact Or.inr ⟨g,cap,cur,hv,hg1,hset (hgo hB ht) htB.symm,r⟩
 ·exact hset (hgo h.mark ht) htB.symm
 ·refine Kept.setCell ((h.kept.alloc _).grown hg fun k hk=>?_) _ _ (Or.inl (Or.inl rfl));rcases h.nblk k hk with q|q
  ·exact Or.inl (Or.inr (Or.inr q))
  ·exact Or.inr q
 ·intro k hk;rcases hb with hb|hb
  ·rw[hb] at hk;exact h.nblk k hk
  ·rw[hb] at hk;simp at hk;right;omega
 ·intro v hv;rcases List.mem_append.1 hv with hv|hv
  ·obtain⟨m,hm1,hm2,hm3⟩:=h.all v hv;exact⟨m,hm1,hmk v m hm2,hm3⟩
  ·rw[List.mem_singleton] at hv;subst hv;exact⟨len,Nat.le_refl _,hmk _ _ (own_mark h.own),fun k hk=>(h.lblk k hk).1⟩
theorem Blk.keeps {w:World} {b:Nat} {cs:Array Value} {t:TypeId} (h:Blk w b cs t) {i:Nat} {v:Value} (hv:cs[i]? =some v):cs.setIfInBounds i v=cs:=by
 apply Array.ext_getElem?;intro j;rw[Array.getElem?_setIfInBounds];split
 ·rename_i hij;subst hij;split
  ·exact hv.symm
  ·rename_i hn;rw[Array.getElem?_eq_none (by omega)]
 ·rfl
theorem LSt.fin {w wr:World} {base B M fi:Nat} {tn t:TypeId} {cs:Array Value} {ms:List Value} {lb nb:Option Nat} {E:List Value} {vj:Value} {Ej:List Value} {aj:Option Addr} {len cj:Nat} (h:LSt w wr base B M fi tn t cs ms lb nb E vj Ej aj len cj) (htB:(34:TypeId)≠t) (htN:(34:TypeId)≠tn) (c d:Nat) (x y:Value): Blk ((wr.setCell ⟨B,c,none⟩ x).setCell ⟨B,d,none⟩ y) B (((cs.setIfInBounds fi vj).setIfInBounds c x).setIfInBounds d y) 34∧((wr.setCell ⟨B,c,none⟩ x).setCell ⟨B,d,none⟩ y).ownsRow base tn 1 vj (E.length+Ej.length) (E++Ej)∧(∀v∈Ej,∃m,m≤len∧MarkAt ((wr.setCell ⟨B,c,none⟩ x).setCell ⟨B,d,none⟩ y) t ms v m∧∀k,v.ownBlock=some k→some k=lb∨w.heap.size≤k)∧Kept (fun k=>k=B∨some k=lb∨some k=nb) w ((wr.setCell ⟨B,c,none⟩ x).setCell ⟨B,d,none⟩ y)∧∀k,vj.ownBlock=some k→some k=nb∨w.heap.size≤k:=by
 have hset:∀{b:Nat} {c':Array Value} {u:TypeId},Blk wr b c' u→u≠34→Blk ((wr.setCell ⟨B,c,none⟩ x).setCell ⟨B,d,none⟩ y) b c' u:=fun {b c' u} q hu=>(q.other _ _ (q.ne h.bk hu)).other _ _ (q.ne h.bk hu);refine⟨(h.bk.set c x).set d y,?_,?_,(h.kept.setCell _ _ (Or.inl (Or.inl rfl))).setCell _ _ (Or.inl (Or.inl rfl)),h.nblk⟩
 ·refine own_block h.row fun k hk=>?_;rcases h.row.2 with ⟨hv,_⟩|⟨g,cap,cur,hv,_,hh,_⟩
  ·rw[hv] at hk;cases hk
  ·rw[hv] at hk;simp only[Value.ownBlock,Option.some.injEq] at hk;subst hk;have hB:Blk wr g cur tn:=hh;exact(hset hB htN.symm).trans hB.symm
 ·intro v hv;obtain⟨m,hm1,hm2,hm3⟩:=h.all v hv;refine⟨m,hm1,?_,hm3⟩;obtain⟨ao,cap,rfl,q⟩:=hm2;refine⟨ao,cap,rfl,?_⟩;rcases q with q|⟨g,cur,e,hb,hr⟩
  ·exact Or.inl q
  ·exact Or.inr ⟨g,cur,e,hset hb htB.symm,hr⟩
theorem LSt.mid {w wr w7:World} {base B M fi:Nat} {tn t:TypeId} {cs:Array Value} {ms:List Value} {lb nb:Option Nat} {E:List Value} {vj x:Value} {Ej:List Value} {aj:Option Addr} {len cj:Nat} (h:LSt w wr base B M fi tn t cs ms lb nb E vj Ej aj len cj) (ht:t≠tn) (htN:(34:TypeId)≠tn)
 (hg:(wr.alloc (.cells #[x] tn)).grownBy w7 vj.ownBlock):Blk w7 B (cs.setIfInBounds fi vj) 34∧Blk w7 M ms.toArray t:=⟨(h.bk.alloc (.cells #[x] tn)).grown hg ((h.bk.alloc (.cells #[x] tn)).ne_own (h.row.alloc (.cells #[x] tn)) htN),(h.mark.alloc (.cells #[x] tn)).grown hg ((h.mark.alloc (.cells #[x] tn)).ne_own (h.row.alloc (.cells #[x] tn)) ht)⟩
end Go.Proofs.YtidaflmmldefcaaGreat
namespace Go.Proofs.YtidaflmmldefcaaGreat.Tr
namespace T
abbrev Nd:=Int×Int×ByteArray
def bts (s:ByteArray):List Int:=s.data.toList.map fun b=>(b.toNat:Int)
theorem bts_length (s:ByteArray):(bts s).length=s.size:=by simp[bts]
def at0 (L:List Int) (i:Nat):Int:=L.getD i 0
theorem at0_bts (s:ByteArray) (i:Nat) (h:i<s.size):at0 (bts s) i=((s[i]).toNat:Int):=by
 have h2:i<s.data.toList.length:=by simpa using h
 simp only[at0,bts,List.getD,List.getElem?_map,List.getElem?_eq_getElem h2,Option.map_some,Option.getD_some];rfl
theorem at0_bts_range (s:ByteArray) (i:Nat):0≤at0 (bts s) i∧at0 (bts s) i≤255:=by
 by_cases h:i<s.size
 ·rw[at0_bts s i h];have:=(s[i]).toNat_lt;omega
 ·have:(bts s).length≤i:=by rw[bts_length];omega
  simp[at0,List.getD,List.getElem?_eq_none this]
def lead (f:Int):Nat:=if f<128 then 1 else if f<194 then 0 else if f<224 then 2 else if f<240 then 3 else if f<245 then 4 else 0
def pair (f g:Int):Bool:=if f=224 then decide (160≤g) else if f=237 then decide (g<160) else if f=240 then decide (144≤g) else if f=244 then decide (g<144) else true
def cont (x:Int):Bool:=decide (128≤x∧x≤191)
def conts (L:List Int) (p n:Nat):Bool:=(decide (n≤1)||cont (at0 L (p+1)))&&(decide (n≤2)||cont (at0 L (p+2)))&&(decide (n≤3)||cont (at0 L (p+3)))
def size (L:List Int) (p:Nat):Nat:=if L.length<p+lead (at0 L p) then 0
 else if conts L p (lead (at0 L p)) then (if lead (at0 L p)≤1 then lead (at0 L p) else if pair (at0 L p) (at0 L (p+1)) then lead (at0 L p) else 0)
 else 0
theorem lead_le (f:Int):lead f≤4:=by
 unfold lead
 repeat' split
 all_goals omega
theorem conts_of (L:List Int) (p n:Nat) (h:∀j,1≤j→j<n→cont (at0 L (p+j))=true):conts L p n=true:=by
 unfold conts;simp only[Bool.and_eq_true,Bool.or_eq_true,decide_eq_true_eq];refine⟨⟨?_,?_⟩,?_⟩
 ·by_cases h1:n≤1
  ·exact Or.inl h1
  ·exact Or.inr (h 1 (by omega) (by omega))
 ·by_cases h1:n≤2
  ·exact Or.inl h1
  ·exact Or.inr (h 2 (by omega) (by omega))
 ·by_cases h1:n≤3
  ·exact Or.inl h1
  ·exact Or.inr (h 3 (by omega) (by omega))
theorem conts_not (L:List Int) (p n j:Nat) (hn:n≤4) (h1:1≤j) (h2:j<n) (h:cont (at0 L (p+j))=false):conts L p n=false:=by
 rcases(show j=1∨j=2∨j=3 by omega) with rfl|rfl|rfl
 ·simp[conts,h,show¬n≤1 by omega]
 ·simp[conts,h,show¬n≤2 by omega]
 ·simp[conts,h,show¬n≤3 by omega]
theorem size_cut (L:List Int) (p:Nat) (h:L.length<p+lead (at0 L p)):size L p=0:=by
 unfold size;rw[if_pos h]
theorem size_bad (L:List Int) (p j:Nat) (h1:1≤j) (h2:j<lead (at0 L p)) (h:cont (at0 L (p+j))=false):size L p=0:=by
 unfold size;rw[conts_not L p _ j (lead_le _) h1 h2 h];split<;>simp
theorem size_one (L:List Int) (p:Nat) (h0:p+lead (at0 L p)≤L.length) (h:lead (at0 L p)≤1):size L p=lead (at0 L p):=by
 unfold size;rw[if_neg (by omega),conts_of L p _ (by intro j h1 h2;omega),if_pos rfl,if_pos h]
theorem size_pair (L:List Int) (p:Nat) (h0:p+lead (at0 L p)≤L.length) (h1:1<lead (at0 L p)) (h:∀j,1≤j→j<lead (at0 L p)→cont (at0 L (p+j))=true): size L p=if pair (at0 L p) (at0 L (p+1)) then lead (at0 L p) else 0:=by
 unfold size;rw[if_neg (by omega),conts_of L p _ h,if_pos rfl,if_neg (by omega)]
theorem size_le (L:List Int) (p:Nat):p+size L p≤L.length∨size L p=0:=by
 unfold size;by_cases h:L.length<p+lead (at0 L p)
 ·rw[if_pos h];exact Or.inr rfl
 ·rw[if_neg h];by_cases h2:conts L p (lead (at0 L p))=true
  ·rw[if_pos h2];by_cases h3:lead (at0 L p)≤1
   ·rw[if_pos h3];omega
   ·rw[if_neg h3];by_cases h4:pair (at0 L p) (at0 L (p+1))=true
    ·rw[if_pos h4];omega
    ·rw[if_neg h4];omega
  ·rw[if_neg h2];omega
theorem size_le4 (L:List Int) (p:Nat):size L p≤4:=by
 have:=lead_le (at0 L p)
 unfold size
 repeat' split
 all_goals omega
def textFrom (L:List Int):Nat→Nat→Bool
 |0,p=>decide (p=L.length)
 |k+1,p=>if p<L.length then (if size L p=0 then false else textFrom L k (p+size L p)) else decide (p=L.length)
def isText (L:List Int):Bool:=textFrom L 6 0
theorem textFrom_end (L:List Int) (k p:Nat) (h:¬p<L.length):textFrom L k p=decide (p=L.length):=by
 cases k with
 |zero=>rfl
 |succ k=>unfold textFrom;rw[if_neg h]
theorem textFrom_bad (L:List Int) (k p:Nat) (hk:0<k) (h:p<L.length) (hs:size L p=0):textFrom L k p=false:=by
 cases k with
 |zero=>omega
 |succ k=>unfold textFrom;rw[if_pos h,if_pos hs]
theorem textFrom_next (L:List Int) (k p:Nat) (h:p<L.length) (hs:size L p≠0):textFrom L (k+1) p=textFrom L k (p+size L p):=by
 conv=>lhs;unfold textFrom
 rw[if_pos h,if_neg hs]
theorem textFrom_len (L:List Int):∀(k p:Nat),textFrom L k p=true→p≤L.length∧L.length≤p+4*k
 |0,p,h=>by
  have:p=L.length:=by simpa[textFrom] using h
  omega
 |k+1,p,h=>by
  by_cases hp:p<L.length
  ·by_cases hs:size L p=0
   ·rw[textFrom_bad L _ p (by omega) hp hs] at h;cases h
   ·rw[textFrom_next L k p hp hs] at h;have:=textFrom_len L k _ h;have:=size_le4 L p;omega
  ·rw[textFrom_end L _ p hp] at h;have:p=L.length:=by simpa using h
   omega
theorem isText_len {L:List Int} (h:isText L=true):L.length≤24:=by
 have:=textFrom_len L 6 0 h;omega
def okNd (x:Nd):Bool:=decide (1≤x.1∧x.1≤16)&&isText (bts x.2.2)
def clash (l:List Nd) (x:Nd):Bool:=l.any fun y=>decide (y.1=x.1∨y.2.1=x.2.1)
def treeFrom (pre:List Nd):List Nd→Bool
 |[]=>true
 |x::r=>okNd x&&!clash pre x&&treeFrom (pre++[x]) r
def isTree (l:List Nd):Bool:=decide (l.length≤16)&&treeFrom [] l
def inGo (x:Nd):Prop:=0≤x.1∧x.1≤255∧0≤x.2.1∧x.2.1≤65535
theorem treeFrom_snoc (pre:List Nd) (l:List Nd):∀x∈l,treeFrom pre l=true→okNd x=true:=by
 induction l generalizing pre with
 |nil=>intro x hx;simp at hx
 |cons y r ih=>
  intro x hx h;simp only[treeFrom,Bool.and_eq_true] at h;rcases List.mem_cons.1 hx with rfl|hx
  ·exact h.1.1
  ·exact ih _ x hx h.2
theorem isTree_ok {l:List Nd} (h:isTree l=true):∀x∈l,okNd x=true:=by
 simp only[isTree,Bool.and_eq_true] at h;exact fun x hx=>treeFrom_snoc [] l x hx h.2
end T
end Go.Proofs.YtidaflmmldefcaaGreat.Tr
namespace Go.Proofs.YtidaflmmldefcaaGreat.Tr
open Go.RowKit
set_option linter.unusedVariables false
theorem lead_any (f:Int) (w:World): Calls Tryz.prog 108 #[.int .u8 f] w fun e w'=>e= .returned (.int .i64 (T.lead f))∧w=w':=by
 by_cases h1:f<128
 ·have e:T.lead f=1:=by unfold T.lead;rw[if_pos h1]
  rw[e];go_enter Tryz.func108,Tryz.ntmps108;go_wp2;go_ret;exact⟨rfl,rfl⟩
 by_cases h2:f<194
 ·have e:T.lead f=0:=by unfold T.lead;rw[if_neg h1,if_pos h2]
  rw[e];go_enter Tryz.func108,Tryz.ntmps108;go_wp2;go_ret;exact⟨rfl,rfl⟩
 by_cases h3:f<224
 ·have e:T.lead f=2:=by unfold T.lead;rw[if_neg h1,if_neg h2,if_pos h3]
  rw[e];go_enter Tryz.func108,Tryz.ntmps108;go_wp2;go_ret;exact⟨rfl,rfl⟩
 by_cases h4:f<240
 ·have e:T.lead f=3:=by unfold T.lead;rw[if_neg h1,if_neg h2,if_neg h3,if_pos h4]
  rw[e];go_enter Tryz.func108,Tryz.ntmps108;go_wp2;go_ret;exact⟨rfl,rfl⟩
 by_cases h5:f<245
 ·have e:T.lead f=4:=by unfold T.lead;rw[if_neg h1,if_neg h2,if_neg h3,if_neg h4,if_pos h5]
  rw[e];go_enter Tryz.func108,Tryz.ntmps108;go_wp2;go_ret;exact⟨rfl,rfl⟩
 ·have e:T.lead f=0:=by unfold T.lead;rw[if_neg h1,if_neg h2,if_neg h3,if_neg h4,if_neg h5]
  rw[e];go_enter Tryz.func108,Tryz.ntmps108;go_wp2;go_ret;exact⟨rfl,rfl⟩
theorem pair_any (f g:Int) (w:World): Calls Tryz.prog 109 #[.int .u8 f,.int .u8 g] w fun e w'=>e= .returned (.bool (T.pair f g))∧w=w':=by
 by_cases h1:f=224
 ·subst h1;have e:T.pair 224 g=decide (160≤g):=by unfold T.pair;rw[if_pos rfl]
  rw[e];go_enter Tryz.func109,Tryz.ntmps109;go_wp2;go_ret;exact⟨rfl,rfl⟩
 by_cases h2:f=237
 ·subst h2;have e:T.pair 237 g=decide (g<160):=by unfold T.pair;rw[if_neg (by omega),if_pos rfl]
  rw[e];go_enter Tryz.func109,Tryz.ntmps109;go_wp2;go_ret;exact⟨rfl,rfl⟩
 by_cases h3:f=240
 ·subst h3;have e:T.pair 240 g=decide (144≤g):=by unfold T.pair;rw[if_neg (by omega),if_neg (by omega),if_pos rfl]
  rw[e];go_enter Tryz.func109,Tryz.ntmps109;go_wp2;go_ret;exact⟨rfl,rfl⟩
 by_cases h4:f=244
 ·subst h4;have e:T.pair 244 g=decide (g<144):=by unfold T.pair;rw[if_neg (by omega),if_neg (by omega),if_neg (by omega),if_pos rfl]
  rw[e];go_enter Tryz.func109,Tryz.ntmps109;go_wp2;go_ret;exact⟨rfl,rfl⟩
 have e:T.pair f g=true:=by unfold T.pair;rw[if_neg h1,if_neg h2,if_neg h3,if_neg h4]
 rw[e];have b1:(f==224)=false:=by simpa using h1
 have b2:(f==237)=false:=by simpa using h2
 have b3:(f==240)=false:=by simpa using h3
 have b4:(f==244)=false:=by simpa using h4
 clear e h1 h2 h3 h4;go_enter Tryz.func109,Tryz.ntmps109;go_wp2;go_ret;exact⟨rfl,rfl⟩
theorem char_any (s:ByteArray) (p:Nat) (w:World) (hs:s.size≤maxLen) (hp:p<s.size): Calls Tryz.prog 107 #[.string s,.int .i64 p] w fun e w'=>e= .returned (.int .i64 (T.size (T.bts s) p))∧Below w.heap.size w w':=by
 unfold maxLen at hs;have HL:Hid ((T.bts s).length=s.size):=T.bts_length s;have e0:=T.at0_bts s p hp;obtain⟨f,hf⟩:∃f:Int,f=((s[p]).toNat:Int):=⟨_,rfl⟩;rw[←hf] at e0;have He:Hid (T.at0 (T.bts s) p=f):=e0;have hl4:=T.lead_le f;obtain⟨n,hn⟩:∃n:Nat,n=T.lead f:=⟨_,rfl⟩;have Hn:Hid (T.lead f=n):=hn.symm;have hcall:∀u:World,Calls Tryz.prog 108 #[.int .u8 ((s[p]).toNat:Int)] u fun e w'=>e= .returned (.int .i64 n)∧u=w':=by intro u;rw[hn,←hf];exact lead_any f u
 have HC:Hid (∀u:World,Calls Tryz.prog 108 #[.int .u8 ((s[p]).toNat:Int)] u fun e w'=>e= .returned (.int .i64 n)∧u=w'):=hcall;rw[←hn] at hl4;have HF:Hid (f=((s[p]).toNat:Int)):=hf;clear hn e0 hcall hf;by_cases hcut:s.size<p+n
 ·have HS:Hid (T.size (T.bts s) p=0):=T.size_cut _ _ (by rw[He.out,Hn.out,HL.out];exact hcut);have hc:(s.size:Int)-p<(n:Int):=by omega
  go_enter Tryz.func107,Tryz.ntmps107;go_wp2_with (go_at_call 108;refine(HC.out _).mono ?_;rintro e w' ⟨rfl,rfl⟩);go_ret;rw[HS.out];exact⟨rfl,by (repeat (first|exact Below.refl _ _|assumption|refine Below.setCell ?_ (by first|exact Nat.le_refl _|(simp;done)|(simp;omega)) _|refine below_drewN ?_ _|refine Below.drew ?_|refine Below.alloc ?_ (by first|exact Nat.le_refl _|(simp;done)|(simp;omega)) _))⟩
 ·have hc:¬(s.size:Int)-p<(n:Int):=by omega
  go_enter Tryz.func107,Tryz.ntmps107;go_wp2_with (go_at_call 108;refine(HC.out _).mono ?_;rintro e w' ⟨rfl,rfl⟩);go_loopw [6] (fun i wr=>∃(k q:Nat),1≤k∧(k≤n∨k=1)∧i= .int .i64 k∧wr=w.drewN q∧Hid (∀j,1≤j→j<k→T.cont (T.at0 (T.bts s) (p+j))=true))
   (fun i _=>5-(intOf i).toNat)
  case atStart=>exact⟨1,0,by omega,by omega,rfl,rfl,fun j h1 h2=>by omega⟩
  case round=>
   obtain⟨k,q,hk1,hk,rfl,rfl,HK⟩:=hrel;by_cases hlt:k<n
   ·have hpk:p+k<s.size:=by omega
    have e1:=T.at0_bts s (p+k) hpk;have hi1:(p:Int)+k<(s.size:Int):=by omega
    have hi0:(0:Int)≤(p:Int)+k:=by omega
    obtain⟨g,hg⟩:∃g:Nat,g=(s[p+k]).toNat:=⟨_,rfl⟩;rw[←hg] at e1;by_cases hlo:(g:Int)<128
    ·have HS:Hid (T.size (T.bts s) p=0):=T.size_bad _ _ k hk1 (by rw[He.out,Hn.out];exact hlt) (by rw[e1];simp[T.cont];omega);clear e1;subst hg;go_wp2;go_ret;rw[HS.out];exact⟨rfl,by (repeat (first|exact Below.refl _ _|assumption|refine Below.setCell ?_ (by first|exact Nat.le_refl _|(simp;done)|(simp;omega)) _|refine below_drewN ?_ _|refine Below.drew ?_|refine Below.alloc ?_ (by first|exact Nat.le_refl _|(simp;done)|(simp;omega)) _))⟩
    ·by_cases hhi:191<(g:Int)
     ·have HS:Hid (T.size (T.bts s) p=0):=T.size_bad _ _ k hk1 (by rw[He.out,Hn.out];exact hlt) (by rw[e1];simp[T.cont];omega);clear e1;subst hg;go_wp2;go_ret;rw[HS.out];exact⟨rfl,by (repeat (first|exact Below.refl _ _|assumption|refine Below.setCell ?_ (by first|exact Nat.le_refl _|(simp;done)|(simp;omega)) _|refine below_drewN ?_ _|refine Below.drew ?_|refine Below.alloc ?_ (by first|exact Nat.le_refl _|(simp;done)|(simp;omega)) _))⟩
     ·have HK':Hid (∀j,1≤j→j<k+1→T.cont (T.at0 (T.bts s) (p+j))=true):=by
       intro j h1 h2;by_cases hj:j=k
       ·subst hj;rw[e1];simp[T.cont];omega
       ·exact HK.out j h1 (by omega)
      clear e1 HK;subst hg;go_wp2;go_roundw
      case rel=>exact⟨k+1,_,by omega,by omega,by go_num,by first|rfl|simp,HK'⟩
      case measure=>simp[intOf];omega
   ·by_cases h1:n≤1
    ·have HS:Hid (T.size (T.bts s) p=n):=by have:=T.size_one (T.bts s) p (by rw[He.out,Hn.out,HL.out];omega) (by rw[He.out,Hn.out];exact h1);rwa [He.out,Hn.out] at this
     have cb:decide ((1:Int)<(n:Int))=false:=by simp;omega
     go_wp2_with fail;go_quiet (fail);go_wp2;go_ret;rw[HS.out];exact⟨rfl,by (repeat (first|exact Below.refl _ _|assumption|refine Below.setCell ?_ (by first|exact Nat.le_refl _|(simp;done)|(simp;omega)) _|refine below_drewN ?_ _|refine Below.drew ?_|refine Below.alloc ?_ (by first|exact Nat.le_refl _|(simp;done)|(simp;omega)) _))⟩
    ·have hp1:p+1<s.size:=by omega
     have hi1:(p:Int)+1<(s.size:Int):=by omega
     have e1:=T.at0_bts s (p+1) hp1;have HS0:Hid (T.size (T.bts s) p=if T.pair f (T.at0 (T.bts s) (p+1)) then n else 0):=by have:=T.size_pair (T.bts s) p (by rw[He.out,Hn.out,HL.out];omega) (by rw[He.out,Hn.out];omega) (by rw[He.out,Hn.out];intro j j1 j2;exact HK.out j j1 (by omega));rwa [He.out,Hn.out] at this
     rw[e1] at HS0;have hc1:(1:Int)<(n:Int):=by omega
     have hw1:IntKind.i64.wrap ((p:Int)+1)=(p:Int)+1:=by rw[IntKind.wrap_i64];omega
     have h01:(0:Int)≤(p:Int)+1:=by omega
     rw[HF.out] at HS0;clear e1;cases hpr:T.pair ((s[p]).toNat:Int) ((s[p+1]).toNat:Int) with
     |true=>
      have HS:Hid (T.size (T.bts s) p=n):=by have:=HS0.out;rwa [hpr,if_pos rfl] at this
      clear HS0;go_wp2_with fail;go_quiet ((go_at_call 109;exact(pair_any _ _ _).mono fun _ _ h=>⟨h.1,_,h.2.symm⟩));go_wp2;go_ret;rw[HS.out];exact⟨rfl,by (repeat (first|exact Below.refl _ _|assumption|refine Below.setCell ?_ (by first|exact Nat.le_refl _|(simp;done)|(simp;omega)) _|refine below_drewN ?_ _|refine Below.drew ?_|refine Below.alloc ?_ (by first|exact Nat.le_refl _|(simp;done)|(simp;omega)) _))⟩
     |false=>
      have HS:Hid (T.size (T.bts s) p=0):=by have:=HS0.out;rw[hpr] at this;exact this
      clear HS0;go_wp2_with fail;go_quiet ((go_at_call 109;exact(pair_any _ _ _).mono fun _ _ h=>⟨h.1,_,h.2.symm⟩));go_wp2;go_ret;rw[HS.out];exact⟨rfl,by (repeat (first|exact Below.refl _ _|assumption|refine Below.setCell ?_ (by first|exact Nat.le_refl _|(simp;done)|(simp;omega)) _|refine below_drewN ?_ _|refine Below.drew ?_|refine Below.alloc ?_ (by first|exact Nat.le_refl _|(simp;done)|(simp;omega)) _))⟩
end Go.Proofs.YtidaflmmldefcaaGreat.Tr
namespace Go.Proofs.YtidaflmmldefcaaGreat.Tr
namespace T
abbrev Sh:=Int×ByteArray
def apart (x y:Nd):Prop:=x.1≠y.1∧x.2.1≠y.2.1
theorem clash_iff (l:List Nd) (x:Nd):clash l x=false↔∀y∈l,apart y x:=by
 simp only[clash,List.any_eq_false,decide_eq_true_eq,apart];constructor
 ·intro h y hy;have:=h y hy;omega
 ·intro h y hy;have:=h y hy;omega
theorem treeFrom_iff (pre l:List Nd):treeFrom pre l=true↔(∀x∈l,okNd x=true)∧(∀x∈l,∀y∈pre,apart y x)∧l.Pairwise apart:=by
 induction l generalizing pre with
 |nil=>simp[treeFrom]
 |cons a r ih=>
  simp only[treeFrom,Bool.and_eq_true,Bool.not_eq_true',clash_iff,ih,List.mem_cons,List.mem_append,List.not_mem_nil,or_false,List.pairwise_cons];constructor
  ·rintro⟨⟨h1,h2⟩,h3,h4,h5⟩;refine⟨?_,?_,?_,h5⟩
   ·rintro x (rfl|hx)
    ·exact h1
    ·exact h3 x hx
   ·rintro x (rfl|hx) y hy
    ·exact h2 y hy
    ·exact h4 x hx y (Or.inl hy)
   ·intro x hx;exact h4 x hx a (Or.inr rfl)
  ·rintro⟨h1,h2,h3,h4⟩;refine⟨⟨h1 a (Or.inl rfl),h2 a (Or.inl rfl)⟩,fun x hx=>h1 x (Or.inr hx),?_,h4⟩;rintro x hx y (hy|rfl)
   ·exact h2 x (Or.inr hx) y hy
   ·exact h3 x hx
theorem isTree_iff (l:List Nd):isTree l=true↔l.length≤16∧(∀x∈l,okNd x=true)∧l.Pairwise apart:=by
 simp only[isTree,Bool.and_eq_true,decide_eq_true_eq,treeFrom_iff,List.not_mem_nil];constructor
 ·rintro⟨h1,h2,_,h3⟩;exact⟨h1,h2,h3⟩
 ·rintro⟨h1,h2,h3⟩;exact⟨h1,h2,by intro x _ y hy;exact absurd hy (by simp),h3⟩
theorem apart_mem {l:List Nd} (h:l.Pairwise apart) {x y:Nd} (hx:x∈l) (hy:y∈l) (he:x.1=y.1∨x.2.1=y.2.1):x=y:=by
 induction l with
 |nil=>simp at hx
 |cons a r ih=>
  rw[List.pairwise_cons] at h;rcases List.mem_cons.1 hx with rfl|hx'
  ·rcases List.mem_cons.1 hy with rfl|hy'
   ·rfl
   ·have h1:=h.1 y hy';unfold apart at h1;omega
  ·rcases List.mem_cons.1 hy with rfl|hy'
   ·have h1:=h.1 x hx';unfold apart at h1;omega
   ·exact ih h.2 hx' hy'
def has (l:List Nd) (i:Int):Bool:=l.any fun y=>decide (y.1=i)
theorem has_false (l:List Nd) (i:Int):has l i=false↔∀y∈l,y.1≠i:=by
 simp only[has,List.any_eq_false,decide_eq_true_eq]
def leastFrom (old next:List Nd):Nat→Int→Int
 |0,_=>0
 |f+1,i=>if has old i=false∧has next i=false then i else leastFrom old next f (i+1)
def idFor (key:Int) (old next:List Nd):Int:=match old.find? (fun x=>decide (x.2.1=key)) with
 |some x=>x.1
 |none=>leastFrom old next 16 1
def mkN (old next:List Nd) (s:Sh):Nd:=(idFor s.1 old next,s.1,s.2)
def planFrom (old next:List Nd):List Sh→List Nd
 |[]=>next
 |s::r=>planFrom old (next++[mkN old next s]) r
def plan (old:List Nd) (shows:List Sh):List Nd:=planFrom old [] shows
theorem leastFrom_spec (old next:List Nd):∀(f:Nat) (i:Int),(leastFrom old next f i=0∧∀j,i≤j→j<i+f→has old j=true∨has next j=true)∨(i≤leastFrom old next f i∧leastFrom old next f i<i+f∧has old (leastFrom old next f i)=false∧has next (leastFrom old next f i)=false)
 |0,i=>Or.inl ⟨rfl,by intro j h1 h2;omega⟩
 |f+1,i=>by
  unfold leastFrom;by_cases h:has old i=false∧has next i=false
  ·rw[if_pos h];exact Or.inr ⟨by omega,by omega,h.1,h.2⟩
  ·rw[if_neg h];rcases leastFrom_spec old next f (i+1) with ⟨h1,h2⟩|⟨h1,h2,h3⟩
   ·refine Or.inl ⟨h1,?_⟩;intro j j1 j2;by_cases hj:j=i
    ·subst hj;cases ha:has old j with
     |true=>exact Or.inl rfl
     |false=>
      cases hb:has next j with
      |true=>exact Or.inr rfl
      |false=>exact absurd ⟨ha,hb⟩ h
    ·exact h2 j (by omega) (by omega)
   ·exact Or.inr ⟨by omega,by omega,h3⟩
theorem pigeon:∀(n:Nat) (L:List Int),(∀j:Int,1≤j→j<1+n→j∈L)→n≤L.length
 |0,L,_=>Nat.zero_le _
 |n+1,L,h=>by
  have hm:((n:Int)+1)∈L:=h _ (by omega) (by omega);have:=pigeon n (L.erase ((n:Int)+1)) (by intro j j1 j2;exact(List.mem_erase_of_ne (by omega)).2 (h j j1 (by omega)));rw[List.length_erase_of_mem hm] at this;have:=List.length_pos_of_mem hm;omega
theorem leastFrom_free (old next:List Nd) (hl:old.length+next.length<16): 1≤leastFrom old next 16 1∧leastFrom old next 16 1≤16∧has old (leastFrom old next 16 1)=false∧has next (leastFrom old next 16 1)=false:=by
 rcases leastFrom_spec old next 16 1 with ⟨_,h⟩|⟨h1,h2,h3,h4⟩
 ·exfalso;have:=pigeon 16 ((old++next).map (fun x=>x.1)) (by
   intro j j1 j2;have hj:=h j j1 j2;simp only[has,List.any_eq_true,decide_eq_true_eq] at hj;rw[List.mem_map];rcases hj with ⟨x,hx,he⟩|⟨x,hx,he⟩
   ·exact⟨x,by simp[hx],he⟩
   ·exact⟨x,by simp[hx],he⟩)
  simp at this;omega
 ·exact⟨h1,by omega,h3,h4⟩
structure Way (old next:List Nd):Prop where
 far:next.Pairwise apart
 right:∀x∈next,okNd x=true
 same:∀y∈next,∀o∈old,o.1=y.1↔o.2.1=y.2.1
theorem Way.nil (old:List Nd):Way old []:=⟨List.Pairwise.nil,by simp,by simp⟩
theorem Way.step {old next:List Nd} (h:Way old next) (ho:old.Pairwise apart) (hk:∀x∈old,okNd x=true) (s:Sh) (ht:isText (bts s.2)=true) (hn:∀x∈next,x.2.1≠s.1) (hl:old.length+next.length<16): Way old (next++[mkN old next s]):=by
 have key:(1≤(mkN old next s).1∧(mkN old next s).1≤16)∧(∀z∈next,z.1≠(mkN old next s).1)∧(∀o∈old,o.1=(mkN old next s).1↔o.2.1=s.1):=by
  cases hf:old.find? (fun x=>decide (x.2.1=s.1)) with
  |some o=>
   have e:(mkN old next s).1=o.1:=by simp[mkN,idFor,hf]
   have hm:o∈old:=List.mem_of_find?_eq_some hf;have hs:o.2.1=s.1:=by simpa using List.find?_some hf
   rw[e];refine⟨?_,?_,?_⟩
   ·have:=hk o hm;simp only[okNd,Bool.and_eq_true,decide_eq_true_eq] at this;exact this.1
   ·intro z hz he;exact hn z hz (((h.same z hz o hm).1 he.symm)▸hs)
   ·intro o' ho';constructor
    ·intro he;rw[apart_mem ho ho' hm (Or.inl he)];exact hs
    ·intro he;rw[apart_mem ho ho' hm (Or.inr (by omega))]
  |none=>
   have e:(mkN old next s).1=leastFrom old next 16 1:=by simp[mkN,idFor,hf]
   obtain⟨h1,h2,h3,h4⟩:=leastFrom_free old next hl
   rw[e];rw[has_false] at h3 h4;refine⟨⟨h1,h2⟩,h4,?_⟩;intro o ho';have hno:o.2.1≠s.1:=by have:=List.find?_eq_none.1 hf o ho';simpa using this
   constructor
   ·intro he;exact absurd he (h3 o ho')
   ·intro he;exact absurd he hno
 obtain⟨k1,k2,k3⟩:=key;refine⟨?_,?_,?_⟩
 ·rw[List.pairwise_append];refine⟨h.far,by simp,?_⟩;intro z hz y hy;rw[List.mem_singleton] at hy;subst hy;exact⟨k2 z hz,hn z hz⟩
 ·intro x hx;rcases List.mem_append.1 hx with hx|hx
  ·exact h.right x hx
  ·rw[List.mem_singleton] at hx;subst hx;simp only[okNd,Bool.and_eq_true,decide_eq_true_eq];exact⟨k1,ht⟩
 ·intro y hy o ho';rcases List.mem_append.1 hy with hy|hy
  ·exact h.same y hy o ho'
  ·rw[List.mem_singleton] at hy;subst hy;exact k3 o ho'
def okSh (l:List Sh):Prop:=l.length≤8∧(∀s∈l,isText (bts s.2)=true)∧l.Pairwise (fun x y=>x.1≠y.1)
theorem planFrom_map (old:List Nd):∀(l:List Sh) (next:List Nd),(planFrom old next l).map (fun x=>((x.2.1,x.2.2):Sh))=next.map (fun x=>((x.2.1,x.2.2):Sh))++l
 |[],next=>by simp[planFrom]
 |s::r,next=>by
  unfold planFrom;rw[planFrom_map old r];simp[mkN]
theorem planFrom_length (old:List Nd) (l:List Sh) (next:List Nd):(planFrom old next l).length=next.length+l.length:=by
 have:=congrArg List.length (planFrom_map old l next);simpa using this
theorem planFrom_way {old:List Nd} (ho:old.Pairwise apart) (hk:∀x∈old,okNd x=true) (hl:old.length≤8):∀(l:List Sh) (next:List Nd),Way old next→next.length+l.length≤8→(∀s∈l,isText (bts s.2)=true)→l.Pairwise (fun x y=>x.1≠y.1)→(∀x∈next,∀s∈l,x.2.1≠s.1)→Way old (planFrom old next l)
 |[],next,h,_,_,_,_=>h
 |s::r,next,h,h8,ht,hp,hn=>by
  rw[List.pairwise_cons] at hp;simp only[List.length_cons] at h8;unfold planFrom;refine planFrom_way ho hk hl r _ (h.step ho hk s (ht s (by simp)) (fun x hx=>hn x hx s (by simp)) (by omega)) (by simp;omega) (fun z hz=>ht z (by simp[hz])) hp.2 ?_;intro x hx z hz;rcases List.mem_append.1 hx with hx|hx
  ·exact hn x hx z (by simp[hz])
  ·rw[List.mem_singleton] at hx;subst hx;exact hp.1 z hz
theorem plan_way {old:List Nd} {l:List Sh} (ho:isTree old=true) (hl:old.length≤8) (h:okSh l):Way old (plan old l):=by
 rw[isTree_iff] at ho;exact planFrom_way ho.2.2 ho.2.1 hl l [] (Way.nil old) (by simpa using h.1) h.2.1 h.2.2 (by simp)
theorem plan_length (old:List Nd) (l:List Sh):(plan old l).length=l.length:=by
 have:=planFrom_length old l [];simpa[plan] using this
theorem plan_tree {old:List Nd} {l:List Sh} (ho:isTree old=true) (hl:old.length≤8) (h:okSh l):isTree (plan old l)=true:=by
 have hw:=plan_way ho hl h;rw[isTree_iff];have:=plan_length old l;exact⟨by have:=h.1;omega,hw.right,hw.far⟩
end T
end Go.Proofs.YtidaflmmldefcaaGreat.Tr
