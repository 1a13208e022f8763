/- Parts of the proof of Hosts: RefB. -/
import Derived.Test.YtidaflmmldefcaaGreatQ17
set_option maxHeartbeats 4000000
namespace Go.Proofs.YtidaflmmldefcaaGreat
open Go.RowKit
set_option linter.unusedVariables false
theorem step_append_at {P:Program} {ops:Array Oper} {o:Oper} {a:Act} {w:World} {K:Act→World→Prop} {Q:Exit→Act→World→Prop} {E:Prop}
 (hg:o.guard=none) (s x:Operand) (t:TypeId) (hop:o.op=Op.call {callee:=Callee.builtin Builtin.append,args:=#[s,x],argTypes:=#[t,t]})
 (base:Nat) (e:TypeId) (i:TypeInfo) (z:Value) (size bytes:Nat) (h1:P.underlying t=some (.slice e)) (h2:P.info? e=some i) (h3:i.zero=some z) (h4:i.size=size) (h5:i.bytes=bytes) (h6:z.cells.size=size) (h7:0<size)
 (v:Value) (n:Nat) (xs:List Value) (hs:a.eval s=v) (hown:w.ownsRow base e size v n xs)
 (ad:Addr) (m c:Nat) (news:List Value) (hx:a.eval x= .slice (some ad) m c) (hn:news.length=m*size) (hc:∀j u,news[j]? =some u→w.cell? (ad.add j)=some u) (h1c:∀u∈news,u.oneCell'=true)
 (b1:n+m≤maxLen) (b2:(n+m)*bytes≤140737488355328) (hb:base≤w.heap.size)
 (hK:∀v' w',w'.ownsRow base e size v' (n+m) (xs++news)→w.grownBy w' v.ownBlock→(v'.ownBlock=v.ownBlock∨v'.ownBlock=some w.heap.size)→K (a.put o.dst v') w'): if Region.wanted o (yielded ops a.tmps)=true then Oper.wp P o a w K Q else E:=by
 have hw:Region.wanted o (yielded ops a.tmps)=true:=by simp[Region.wanted,hg]
 rw[if_pos hw];obtain⟨v',w',hrun,r1,r2,_,r4⟩:=run_append_own_at (P:=P) w base t o.type e i z size bytes h1 h2 h3 h4 h5 h6 h7 v n xs hown ad m c news hn hc h1c b1 b2 hb;unfold Oper.wp;simp[execOp,hop,resolve,invoke,builtin,hs,hx,hrun,Result.andThen];exact hK v' w' r1 r2 r4
theorem own_cell1 {w:World} {base g n cap i:Nat} {e:TypeId} {xs:List Value} {v:Value} (h:w.ownsRow base e 1 (.slice (some ⟨g,0,none⟩) n cap) n xs) (hx:xs[i]? =some v):w.cell? ⟨g,i,none⟩=some v:=by
 have h1:=World.ownsRow.cells h (g:=g) rfl i v hx;rw[Addr.add_lit,Nat.zero_add] at h1;exact h1
section
variable {w w' : World} {R : RB} {H : Hs} {held : List Int}
theorem RefAt.grown_box (h:RefAt w R H held) {i:Nat} {x:Tn} (hx:H.ts[i]? =some x) {bv:Value} {l:List Ev} {w1:World} (hk1:∀k,k<w.heap.size→(∀v,R.bv[i]? =some v→v.ownBlock≠some k)→w1.heap[k]? =w.heap[k]?) (hn:w1.ownsRow 0 78 4 bv l.length (evCells l)) (hm:∀k,bv.ownBlock=some k→∀(j:Nat) (u:Value),j≠i→R.bv[j]? =some u→u.ownBlock≠some k):RefAt (w1.setCell ⟨R.b,i,none⟩ bv) {R with bv:=R.bv.set i bv} {H with ts:=H.ts.set i {x with box:=l}} held:=by
 have hil:i<R.bv.length:=by rw[h.blen];exact(List.getElem?_eq_some_iff.1 hx).1
 obtain⟨v0,hv0⟩:∃v0,R.bv[i]? =some v0:=⟨_,List.getElem?_eq_getElem hil⟩;have hk0:∀k,k<w.heap.size→v0.ownBlock≠some k→w1.heap[k]? =w.heap[k]? :=fun k hk hn=>hk1 k hk fun v hv=>by rw[hv0] at hv;obtain rfl:=Option.some.inj hv;exact hn
 have k1:∀{base:Nat} {t':TypeId} {size:Nat} {v:Value} {n:Nat} {xs:List Value},w.ownsRow base t' size v n xs→t'≠78→w1.ownsRow base t' size v n xs:=by intro base t' size v n xs ho ht;refine own_block ho fun k hk'=>?_;obtain⟨cur,q⟩:=own_blk ho hk';refine hk0 k q.lt fun e=>?_;obtain⟨cu2,q2⟩:=own_blk (h.box i x v0 hx hv0) e;exact q.ne q2 ht rfl
 have k1b:∀{b:Nat} {t':TypeId} {ds:Array Value},Blk w b ds t'→t'≠78→Blk w1 b ds t':=by intro b t' ds hb ht;refine hb.of_block (hk0 b hb.lt fun e=>?_);obtain⟨cu2,q2⟩:=own_blk (h.box i x v0 hx hv0) e;exact hb.ne q2 ht rfl
 have k2:∀(j:Nat) (y:Tn) (v:Value),j≠i→H.ts[j]? =some y→R.bv[j]? =some v→w1.ownsRow 0 78 4 v y.box.length (evCells y.box):=by intro j y v hji hj hv;refine own_block (h.box j y v hj hv) fun k hk'=>?_;obtain⟨cur,q⟩:=own_blk (h.box j y v hj hv) hk';exact hk0 k q.lt fun e=>h.boxes j i v v0 hv hv0 hji k hk' e
 obtain⟨cg,hg⟩:=own_cur (k1 h.rx (by decide));have hk:=set_keep w1 R.b i bv;have hl:(H.ts.set i {x with box:=l}).length=H.ts.length:=List.length_set;have e1:(H.ts.set i {x with box:=l}).map Tn.mf=H.ts.map Tn.mf:=map_set_same _ hx rfl;have e4:(H.ts.set i {x with box:=l}).map (fun x=>Value.int .i64 x.phase)=H.ts.map (fun x=> .int .i64 x.phase):=map_set_same _ hx rfl;have e2:(H.ts.set i {x with box:=l}).map (fun x=>Value.int .i64 x.until_)=H.ts.map (fun x=> .int .i64 x.until_):=map_set_same _ hx rfl;have e3:cells8 (H.ts.set i {x with box:=l})=cells8 H.ts:=cells8_set hx rfl;constructor;case host=>rw[hl];exact blk_keep_ty hg hk (k1b h.host (by decide)) (by decide)
 case rm=>rw[hl,e1];exact own_keep_ty hg hk (k1 h.rm (by decide)) (by decide)
 case rp=>rw[hl,e4];exact own_keep_ty hg hk (k1 h.rp (by decide)) (by decide)
 case rc=>rw[hl,e3];exact own_keep_ty hg hk (k1 h.rc (by decide)) (by decide)
 case rn=>rw[hl];exact own_keep_ty hg hk (k1 h.rn (by decide)) (by decide)
 case rx=>rw[hl];exact own_set (k1 h.rx (by decide)) i _
 case rl=>rw[hl];exact own_keep_ty hg hk (k1 h.rl (by decide)) (by decide)
 case ru=>rw[hl,e2];exact own_keep_ty hg hk (k1 h.ru (by decide)) (by decide)
 case rh=>rw[hl];exact own_keep_ty hg hk (k1 h.rh (by decide)) (by decide)
 case pu=>exact h.pu
 case ph=>exact h.ph
 case uh=>exact h.uh
 case nodes=>
  intro j y v hj hv;rcases set_cases hj with ⟨rfl,rfl⟩|⟨_,hj⟩
  ·exact own_keep_ty hg hk (k1 (h.nodes j x v hx hv) (by decide)) (by decide)
  ·exact own_keep_ty hg hk (k1 (h.nodes j y v hj hv) (by decide)) (by decide)
 case box=>
  intro j y v hj hv;rcases set_cases hj with ⟨rfl,rfl⟩|⟨hji,hj⟩
  ·have hjl:j<R.bv.length:=by rw[h.blen];exact(List.getElem?_eq_some_iff.1 hx).1
   rw[List.getElem?_set_self hjl] at hv;obtain rfl:=Option.some.inj hv;exact own_keep_ty hg hk hn (by decide)
  ·rw[List.getElem?_set_ne (fun e=>hji e.symm)] at hv;exact own_keep_ty hg hk (k2 j y v hji hj hv) (by decide)
 case log=>
  intro j y v hj hv;rcases set_cases hj with ⟨rfl,rfl⟩|⟨_,hj⟩
  ·exact own_keep_ty hg hk (k1 (h.log j x v hx hv) (by decide)) (by decide)
  ·exact own_keep_ty hg hk (k1 (h.log j y v hj hv) (by decide)) (by decide)
 case boxes=>
  intro a b v u hv hu hab k hk';by_cases ha:a=i
  ·subst ha;have hal:a<R.bv.length:=by have:=(List.getElem?_eq_some_iff.1 hv).1;simpa using this
   rw[List.getElem?_set_self hal] at hv;obtain rfl:=Option.some.inj hv;rw[List.getElem?_set_ne hab] at hu;exact hm k hk' b u (fun e=>hab e.symm) hu
  ·rw[List.getElem?_set_ne (fun e=>ha e.symm)] at hv;by_cases hb:b=i
   ·subst hb;have hbl:b<R.bv.length:=by have:=(List.getElem?_eq_some_iff.1 hu).1;simpa using this
    rw[List.getElem?_set_self hbl] at hu;obtain rfl:=Option.some.inj hu;intro hk2;exact hm k hk2 a v ha hv hk'
   ·rw[List.getElem?_set_ne (fun e=>hb e.symm)] at hu;exact h.boxes a b v u hv hu hab k hk'
 case logs=>exact h.logs
 case held=>
  intro j y k hj hk';rcases set_cases hj with ⟨rfl,rfl⟩|⟨_,hj⟩
  ·exact h.held j x k hx hk'
  ·exact h.held j y k hj hk'
theorem RefAt.grown_log (h:RefAt w R H held) {i:Nat} {x:Tn} (hx:H.ts[i]? =some x) {lv:Value} {l:List En} {w1:World} (hk1:∀k,k<w.heap.size→(∀v,R.lv[i]? =some v→v.ownBlock≠some k)→w1.heap[k]? =w.heap[k]?) (hn:w1.ownsRow 0 80 4 lv l.length (enCells l)) (hm:∀k,lv.ownBlock=some k→∀(j:Nat) (u:Value),j≠i→R.lv[j]? =some u→u.ownBlock≠some k):RefAt (w1.setCell ⟨R.l,i,none⟩ lv) {R with lv:=R.lv.set i lv} {H with ts:=H.ts.set i {x with log:=l}} held:=by
 have hil:i<R.lv.length:=by rw[h.llen];exact(List.getElem?_eq_some_iff.1 hx).1
 obtain⟨v0,hv0⟩:∃v0,R.lv[i]? =some v0:=⟨_,List.getElem?_eq_getElem hil⟩;have hk0:∀k,k<w.heap.size→v0.ownBlock≠some k→w1.heap[k]? =w.heap[k]? :=fun k hk hn=>hk1 k hk fun v hv=>by rw[hv0] at hv;obtain rfl:=Option.some.inj hv;exact hn
 have k1:∀{base:Nat} {t':TypeId} {size:Nat} {v:Value} {n:Nat} {xs:List Value},w.ownsRow base t' size v n xs→t'≠80→w1.ownsRow base t' size v n xs:=by intro base t' size v n xs ho ht;refine own_block ho fun k hk'=>?_;obtain⟨cur,q⟩:=own_blk ho hk';refine hk0 k q.lt fun e=>?_;obtain⟨cu2,q2⟩:=own_blk (h.log i x v0 hx hv0) e;exact q.ne q2 ht rfl
 have k1b:∀{b:Nat} {t':TypeId} {ds:Array Value},Blk w b ds t'→t'≠80→Blk w1 b ds t':=by intro b t' ds hb ht;refine hb.of_block (hk0 b hb.lt fun e=>?_);obtain⟨cu2,q2⟩:=own_blk (h.log i x v0 hx hv0) e;exact hb.ne q2 ht rfl
 have k2:∀(j:Nat) (y:Tn) (v:Value),j≠i→H.ts[j]? =some y→R.lv[j]? =some v→w1.ownsRow 0 80 4 v y.log.length (enCells y.log):=by intro j y v hji hj hv;refine own_block (h.log j y v hj hv) fun k hk'=>?_;obtain⟨cur,q⟩:=own_blk (h.log j y v hj hv) hk';exact hk0 k q.lt fun e=>h.logs j i v v0 hv hv0 hji k hk' e
 obtain⟨cg,hg⟩:=own_cur (k1 h.rl (by decide));have hk:=set_keep w1 R.l i lv;have hl:(H.ts.set i {x with log:=l}).length=H.ts.length:=List.length_set;have e1:(H.ts.set i {x with log:=l}).map Tn.mf=H.ts.map Tn.mf:=map_set_same _ hx rfl;have e4:(H.ts.set i {x with log:=l}).map (fun x=>Value.int .i64 x.phase)=H.ts.map (fun x=> .int .i64 x.phase):=map_set_same _ hx rfl;have e2:(H.ts.set i {x with log:=l}).map (fun x=>Value.int .i64 x.until_)=H.ts.map (fun x=> .int .i64 x.until_):=map_set_same _ hx rfl;have e3:cells8 (H.ts.set i {x with log:=l})=cells8 H.ts:=cells8_set hx rfl;constructor;case host=>rw[hl];exact blk_keep_ty hg hk (k1b h.host (by decide)) (by decide)
 case rm=>rw[hl,e1];exact own_keep_ty hg hk (k1 h.rm (by decide)) (by decide)
 case rp=>rw[hl,e4];exact own_keep_ty hg hk (k1 h.rp (by decide)) (by decide)
 case rc=>rw[hl,e3];exact own_keep_ty hg hk (k1 h.rc (by decide)) (by decide)
 case rn=>rw[hl];exact own_keep_ty hg hk (k1 h.rn (by decide)) (by decide)
 case rx=>rw[hl];exact own_keep_ty hg hk (k1 h.rx (by decide)) (by decide)
 case rl=>rw[hl];exact own_set (k1 h.rl (by decide)) i _
 case ru=>rw[hl,e2];exact own_keep_ty hg hk (k1 h.ru (by decide)) (by decide)
 case rh=>rw[hl];exact own_keep_ty hg hk (k1 h.rh (by decide)) (by decide)
 case pu=>exact h.pu
 case ph=>exact h.ph
 case uh=>exact h.uh
 case nodes=>
  intro j y v hj hv;rcases set_cases hj with ⟨rfl,rfl⟩|⟨_,hj⟩
  ·exact own_keep_ty hg hk (k1 (h.nodes j x v hx hv) (by decide)) (by decide)
  ·exact own_keep_ty hg hk (k1 (h.nodes j y v hj hv) (by decide)) (by decide)
 case box=>
  intro j y v hj hv;rcases set_cases hj with ⟨rfl,rfl⟩|⟨_,hj⟩
  ·exact own_keep_ty hg hk (k1 (h.box j x v hx hv) (by decide)) (by decide)
  ·exact own_keep_ty hg hk (k1 (h.box j y v hj hv) (by decide)) (by decide)
 case log=>
  intro j y v hj hv;rcases set_cases hj with ⟨rfl,rfl⟩|⟨hji,hj⟩
  ·have hjl:j<R.lv.length:=by rw[h.llen];exact(List.getElem?_eq_some_iff.1 hx).1
   rw[List.getElem?_set_self hjl] at hv;obtain rfl:=Option.some.inj hv;exact own_keep_ty hg hk hn (by decide)
  ·rw[List.getElem?_set_ne (fun e=>hji e.symm)] at hv;exact own_keep_ty hg hk (k2 j y v hji hj hv) (by decide)
 case boxes=>exact h.boxes
 case logs=>
  intro a b v u hv hu hab k hk';by_cases ha:a=i
  ·subst ha;have hal:a<R.lv.length:=by have:=(List.getElem?_eq_some_iff.1 hv).1;simpa using this
   rw[List.getElem?_set_self hal] at hv;obtain rfl:=Option.some.inj hv;rw[List.getElem?_set_ne hab] at hu;exact hm k hk' b u (fun e=>hab e.symm) hu
  ·rw[List.getElem?_set_ne (fun e=>ha e.symm)] at hv;by_cases hb:b=i
   ·subst hb;have hbl:b<R.lv.length:=by have:=(List.getElem?_eq_some_iff.1 hu).1;simpa using this
    rw[List.getElem?_set_self hbl] at hu;obtain rfl:=Option.some.inj hu;intro hk2;exact hm k hk2 a v ha hv hk'
   ·rw[List.getElem?_set_ne (fun e=>hb e.symm)] at hu;exact h.logs a b v u hv hu hab k hk'
 case held=>
  intro j y k hj hk';rcases set_cases hj with ⟨rfl,rfl⟩|⟨_,hj⟩
  ·exact h.held j x k hx hk'
  ·exact h.held j y k hj hk'
theorem RAft.trans {w1 w2:World} {R:RB} {H1 H2:Hs} {held1 held2:List Int} {nv bv lv:List Value} (hk:Kept (refOwn R) w w1) (ho:∀k,refOwn {R with nv:=nv,bv:=bv,lv:=lv} k→refOwn R k∨w.heap.size≤k) (h2:RAft w1 {R with nv:=nv,bv:=bv,lv:=lv} H2 held2 w2):RAft w R H2 held2 w2:=by
 obtain⟨nv2,bv2,lv2,r2,k2,o2⟩:=h2;refine⟨nv2,bv2,lv2,r2,hk.trans k2 (fun k hl hk'=>?_),fun k hk'=>?_⟩
 ·rcases ho k hk' with e|e
  ·exact e
  ·omega
 ·rcases o2 k hk' with e|e
  ·exact ho k e
  ·exact Or.inr (Nat.le_trans hk.size e)
theorem refOwn_log {i:Nat} {v:Value} {B:Nat} (hv:∀k,v.ownBlock=some k→(∃u,R.lv[i]? =some u∧u.ownBlock=some k)∨B≤k):∀k,refOwn {R with lv:=R.lv.set i v} k→refOwn R k∨B≤k:=by
 intro k hk;unfold refOwn at hk ⊢;simp only at hk;by_cases h:∃u∈R.lv.set i v,some k=u.ownBlock
 ·obtain⟨u,hu,e⟩:=h;rcases List.mem_or_eq_of_mem_set hu with q|q
  ·have:∃v∈R.lv,some k=v.ownBlock:=⟨u,q,e⟩;simp[this]
  ·subst q;rcases hv k e.symm with ⟨z,hz,hk⟩|q
   ·have:∃v∈R.lv,some k=v.ownBlock:=⟨z,List.mem_of_getElem? hz,hk.symm⟩;simp[this]
   ·exact Or.inr q
 ·rcases hk with e|e|e|e|e|e|e|e|e|e|e;all_goals first
   |exact absurd e h
   |simp[e]
theorem refOwn_box {i:Nat} {v:Value} {B:Nat} (hv:∀k,v.ownBlock=some k→(∃u,R.bv[i]? =some u∧u.ownBlock=some k)∨B≤k):∀k,refOwn {R with bv:=R.bv.set i v} k→refOwn R k∨B≤k:=by
 intro k hk;unfold refOwn at hk ⊢;simp only at hk;by_cases h:∃u∈R.bv.set i v,some k=u.ownBlock
 ·obtain⟨u,hu,e⟩:=h;rcases List.mem_or_eq_of_mem_set hu with q|q
  ·have:∃v∈R.bv,some k=v.ownBlock:=⟨u,q,e⟩;simp[this]
  ·subst q;rcases hv k e.symm with ⟨z,hz,hk⟩|q
   ·have:∃v∈R.bv,some k=v.ownBlock:=⟨z,List.mem_of_getElem? hz,hk.symm⟩;simp[this]
   ·exact Or.inr q
 ·rcases hk with e|e|e|e|e|e|e|e|e|e|e;all_goals first
   |exact absurd e h
   |simp[e]
theorem refOwn_nodes {i:Nat} {v:Value} {B:Nat} (hv:∀k,v.ownBlock=some k→B≤k):∀k,refOwn {R with nv:=R.nv.set i v} k→refOwn R k∨B≤k:=by
 intro k hk;unfold refOwn at hk ⊢;simp only at hk;by_cases h:∃u∈R.nv.set i v,some k=u.ownBlock
 ·obtain⟨u,hu,e⟩:=h;rcases List.mem_or_eq_of_mem_set hu with q|q
  ·have:∃v∈R.nv,some k=v.ownBlock:=⟨u,q,e⟩;simp[this]
  ·subst q;exact Or.inr (hv k e.symm)
 ·rcases hk with e|e|e|e|e|e|e|e|e|e|e;all_goals first
   |exact absurd e h
   |simp[e]
theorem refOwn_lv {i:Nat} {v:Value} (hv:R.lv[i]? =some v) {k:Nat} (hk:v.ownBlock=some k):refOwn R k:=Or.inr (Or.inr (Or.inr (Or.inr (Or.inr (Or.inr (Or.inr (Or.inr (Or.inr (Or.inl ⟨v,List.mem_of_getElem? hv,hk.symm⟩)))))))))
theorem refOwn_bv {i:Nat} {v:Value} (hv:R.bv[i]? =some v) {k:Nat} (hk:v.ownBlock=some k):refOwn R k:=Or.inr (Or.inr (Or.inr (Or.inr (Or.inr (Or.inr (Or.inr (Or.inr (Or.inl ⟨v,List.mem_of_getElem? hv,hk.symm⟩))))))))
theorem refOwn_nv {v:Value} (hv:v∈R.nv) {k:Nat} (hk:v.ownBlock=some k):refOwn R k:=Or.inr (Or.inr (Or.inr (Or.inr (Or.inr (Or.inr (Or.inr (Or.inr (Or.inr (Or.inr ⟨v,hv,hk.symm⟩)))))))))
theorem RefAt.more_log (h:RefAt w R H held) {i:Nat} {x:Tn} (hx:H.ts[i]? =some x) {v v':Value} (hv:R.lv[i]? =some v) {y:En} {W:World} (hW:Below w.heap.size w W) (ho:w'.ownsRow 0 80 4 v' (x.log.length+1) (enCells x.log++y.cells)) (hg:W.grownBy w' v.ownBlock) (hat:v'.ownBlock=v.ownBlock∨v'.ownBlock=some W.heap.size): w'.cell? ⟨R.l,i,none⟩=some v∧w'.frozen? ⟨R.l,i,none⟩=false∧(∀b cs t,t≠80→Blk w b cs t→Blk w' b cs t)∧RAft w R {H with ts:=H.ts.set i {x with log:=x.log++[y]}} held (w'.setCell ⟨R.l,i,none⟩ v'):=by
 have hs:=hW.size;have hk1:∀k,k<w.heap.size→(∀u,R.lv[i]? =some u→u.ownBlock≠some k)→w'.heap[k]? =w.heap[k]? :=by intro k hk hn;rw[hg.block k (by omega) (fun e=>hn v hv e.symm),hW.block k hk]
 have hlt:∀k,v.ownBlock=some k→k<w.heap.size:=fun k hk=>by obtain⟨c,q⟩:=own_blk (h.log i x v hx hv) hk;exact q.lt
 have hm:∀k,v'.ownBlock=some k→∀(j:Nat) (u:Value),j≠i→R.lv[j]? =some u→u.ownBlock≠some k:=by
  intro k hk j u hj hu hk2;have hjl:j<H.ts.length:=by rw[←h.llen];exact(List.getElem?_eq_some_iff.1 hu).1
  rcases hat with e|e
  ·exact h.logs j i u v hu hv hj k hk2 (by rw[←e];exact hk)
  ·rw[e] at hk;obtain⟨c,q⟩:=own_blk (h.log j _ u (List.getElem?_eq_getElem hjl) hu) hk2;have:=q.lt;have:=Option.some.inj hk;omega
 have e1:(x.log++[y]).length=x.log.length+1:=by simp
 have hr:=h.grown_log hx (w1:=w') hk1 (lv:=v') (l:=x.log++[y]) (by rw[e1,enCells_snoc];exact ho) hm;obtain⟨cg,hb⟩:=own_cur h.rl;have hlne:∀u,R.lv[i]? =some u→u.ownBlock≠some R.l:=by intro u hu e;obtain⟨c2,q2⟩:=own_blk (h.log i x u hx hu) e;exact hb.ne q2 (by decide) rfl
 have hb':Blk w' R.l cg 30:=hb.of_block (hk1 R.l hb.lt hlne);refine⟨?_,hb'.free i,fun b cs t ht q=>q.of_block (hk1 b q.lt fun u hu e=>?_),R.nv,R.bv,R.lv.set i v',hr,?_,?_⟩
 ·rw[hb'.cell i,←hb.cell i];exact own_cell1 h.rl hv
 ·obtain⟨c2,q2⟩:=own_blk (h.log i x u hx hu) e;exact q.ne q2 ht rfl
 ·have q:Kept (refOwn R) w w':=(Kept.of_below (S:=refOwn R) hW).grown hg (fun k hk=>Or.inl (refOwn_lv hv hk));exact q.setCell ⟨R.l,i,none⟩ v' (Or.inl (Or.inr (Or.inr (Or.inr (Or.inr (Or.inr (Or.inl rfl)))))))
 ·refine refOwn_log fun k hk=>?_;rcases hat with e|e
  ·exact Or.inl ⟨v,hv,by rw[←e];exact hk⟩
  ·rw[e] at hk;have:=Option.some.inj hk;exact Or.inr (by omega)
theorem RefAt.more_box (h:RefAt w R H held) {i:Nat} {x:Tn} (hx:H.ts[i]? =some x) {v v':Value} (hv:R.bv[i]? =some v) {y:Ev} {W:World} (hW:Below w.heap.size w W) (ho:w'.ownsRow 0 78 4 v' (x.box.length+1) (evCells x.box++y.cells)) (hg:W.grownBy w' v.ownBlock) (hat:v'.ownBlock=v.ownBlock∨v'.ownBlock=some W.heap.size): w'.cell? ⟨R.b,i,none⟩=some v∧w'.frozen? ⟨R.b,i,none⟩=false∧(∀b cs t,t≠78→Blk w b cs t→Blk w' b cs t)∧RAft w R {H with ts:=H.ts.set i {x with box:=x.box++[y]}} held (w'.setCell ⟨R.b,i,none⟩ v'):=by
 have hs:=hW.size;have hk1:∀k,k<w.heap.size→(∀u,R.bv[i]? =some u→u.ownBlock≠some k)→w'.heap[k]? =w.heap[k]? :=by intro k hk hn;rw[hg.block k (by omega) (fun e=>hn v hv e.symm),hW.block k hk]
 have hlt:∀k,v.ownBlock=some k→k<w.heap.size:=fun k hk=>by obtain⟨c,q⟩:=own_blk (h.box i x v hx hv) hk;exact q.lt
 have hm:∀k,v'.ownBlock=some k→∀(j:Nat) (u:Value),j≠i→R.bv[j]? =some u→u.ownBlock≠some k:=by
  intro k hk j u hj hu hk2;have hjl:j<H.ts.length:=by rw[←h.blen];exact(List.getElem?_eq_some_iff.1 hu).1
  rcases hat with e|e
  ·exact h.boxes j i u v hu hv hj k hk2 (by rw[←e];exact hk)
  ·rw[e] at hk;obtain⟨c,q⟩:=own_blk (h.box j _ u (List.getElem?_eq_getElem hjl) hu) hk2;have:=q.lt;have:=Option.some.inj hk;omega
 have e1:(x.box++[y]).length=x.box.length+1:=by simp
 have hr:=h.grown_box hx (w1:=w') hk1 (bv:=v') (l:=x.box++[y]) (by rw[e1,evCells_snoc];exact ho) hm;obtain⟨cg,hb⟩:=own_cur h.rx;have hlne:∀u,R.bv[i]? =some u→u.ownBlock≠some R.b:=by intro u hu e;obtain⟨c2,q2⟩:=own_blk (h.box i x u hx hu) e;exact hb.ne q2 (by decide) rfl
 have hb':Blk w' R.b cg 29:=hb.of_block (hk1 R.b hb.lt hlne);refine⟨?_,hb'.free i,fun b cs t ht q=>q.of_block (hk1 b q.lt fun u hu e=>?_),R.nv,R.bv.set i v',R.lv,hr,?_,?_⟩
 ·rw[hb'.cell i,←hb.cell i];exact own_cell1 h.rx hv
 ·obtain⟨c2,q2⟩:=own_blk (h.box i x u hx hu) e;exact q.ne q2 ht rfl
 ·have q:Kept (refOwn R) w w':=(Kept.of_below (S:=refOwn R) hW).grown hg (fun k hk=>Or.inl (refOwn_bv hv hk));exact q.setCell ⟨R.b,i,none⟩ v' (Or.inl (Or.inr (Or.inr (Or.inr (Or.inr (Or.inl rfl))))))
 ·refine refOwn_box fun k hk=>?_;rcases hat with e|e
  ·exact Or.inl ⟨v,hv,by rw[←e];exact hk⟩
  ·rw[e] at hk;have:=Option.some.inj hk;exact Or.inr (by omega)
theorem tell_any (h:RefAt w R H held) {i:Nat} {x:Tn} (hx:H.ts[i]? =some x) (k a b:Int) (hk0:0≤k) (hk1:k≤255) (ha0:0≤a) (ha1:a≤65535) (hb0:0≤b) (hb1:b≤65535) (hll:x.log.length≤100000) (hn:H.ts.length≤4): Calls Tryz.prog 60 #[.pointer (some ⟨R.rb,0,none⟩),.int .i64 i,.int .i64 k,.int .i64 a,.int .i64 b] w fun e w'=>e= .returned (.tuple #[])∧RAft w R {H with ts:=H.ts.set i (x.note H.frames k a b)} held w':=by
 obtain⟨i0,hi,hz0,hz1,hz2⟩:=info_parts info56;have hil:i<H.ts.length:=(List.getElem?_eq_some_iff.1 hx).1;obtain⟨v,hv⟩:∃v,R.lv[i]? =some v:=⟨_,List.getElem?_eq_getElem (by rw[h.llen];exact hil)⟩;obtain⟨vo,vc,hvs⟩:=own_is (h.log i x v hx hv);subst hvs;have HH:Hid (RefAt w R H held):=h;have c2:w.cell? ⟨R.rb,2,none⟩=some (.int .i64 H.frames):=by rw[h.host.cell 2];rfl
 have c7:w.cell? ⟨R.rb,7,none⟩=some (.slice (some ⟨R.l,0,none⟩) H.ts.length R.lc):=by rw[h.host.cell 7];rfl
 have cl:w.cell? ⟨R.l,i,none⟩=some (.slice vo x.log.length vc):=own_cell1 h.rl hv;have r7:∀ob,(w.alloc ob).cell? ⟨R.rb,7,none⟩=some (.slice (some ⟨R.l,0,none⟩) H.ts.length R.lc):=fun ob=>by rw[(h.host.alloc ob).cell 7];rfl
 have rl:∀ob,(w.alloc ob).cell? ⟨R.l,i,none⟩=some (.slice vo x.log.length vc):=fun ob=>own_cell1 (h.rl.alloc ob) hv;have w1:IntKind.u8.wrap k=k:=by rw[IntKind.wrap_u8];omega
 have w2:IntKind.u16.wrap a=a:=by rw[IntKind.wrap_u16];omega
 have w3:IntKind.u16.wrap b=b:=by rw[IntKind.wrap_u16];omega
 have hii:(i:Int)<(H.ts.length:Int):=by omega
 have hi0:(0:Int)≤(i:Int):=by omega
 have HNw:Hid (∀jj u,(En.mk H.frames k a b).cells[jj]? =some u→((w.alloc (.cells #[.int .i64 H.frames,.int .u8 k,.int .u16 a,.int .u16 b] 80)).drew).cell? ((⟨w.heap.size,0,none⟩:Addr).add jj)=some u):=new_four w _ _ _ _ _;have HOd:Hid (((w.alloc (.cells #[.int .i64 H.frames,.int .u8 k,.int .u16 a,.int .u16 b] 80)).drew).ownsRow 0 80 4 (.slice vo x.log.length vc) x.log.length (enCells x.log)):=(h.log i x _ hx hv).alloc _;have HKEY:Hid (∀v3 w3,w3.ownsRow 0 80 4 v3 (x.log.length+1) (enCells x.log++(En.mk H.frames k a b).cells)→((w.alloc (.cells #[.int .i64 H.frames,.int .u8 k,.int .u16 a,.int .u16 b] 80)).drew).grownBy w3 (Value.ownBlock (.slice vo x.log.length vc))→(v3.ownBlock=Value.ownBlock (.slice vo x.log.length vc)∨v3.ownBlock=some ((w.alloc (.cells #[.int .i64 H.frames,.int .u8 k,.int .u16 a,.int .u16 b] 80)).drew).heap.size)→∃vo3 vc3,v3= .slice vo3 (x.log.length+1) vc3∧w3.cell? ⟨R.rb,7,none⟩=some (.slice (some ⟨R.l,0,none⟩) H.ts.length R.lc)∧w3.cell? ⟨R.l,i,none⟩=some (.slice vo x.log.length vc)∧w3.frozen? ⟨R.l,i,none⟩=false∧Hid (RAft w R {H with ts:=H.ts.set i (x.note H.frames k a b)} held (w3.setCell ⟨R.l,i,none⟩ (.slice vo3 (x.log.length+1) vc3)))):=by intro v3 w3 ho hg hat;obtain⟨vo3,vc3,rfl⟩:=own_is ho;obtain⟨q1,q2,q3,q4⟩:=HH.out.more_log hx hv (((Below.refl _ _).alloc (Nat.le_refl _) _).drew) ho hg hat;refine⟨vo3,vc3,rfl,?_,q1,q2,q4⟩;rw[(q3 _ _ 52 (by decide) HH.out.host).cell 7];rfl
 have hone:Hid (∀u∈(En.mk H.frames k a b).cells,u.oneCell'=true):=by intro u hu;simp[En.cells] at hu;rcases hu with rfl|rfl|rfl|rfl<;>rfl
 clear h hx hv;go_enter Tryz.func60,Tryz.ntmps60;go_wp2_with fail;go_region_law (refine step_append_at rfl (.tmp 21) (.tmp 33) 30 rfl 0 80 i0 (.agg #[.int .i64 0,.int .u8 0,.int .u16 0,.int .u16 0]) 4 16 Tryz.underlying30 hi hz0 hz1 hz2 rfl (by decide) (.slice vo x.log.length vc) x.log.length (enCells x.log) (by simp[Act.eval]) HOd.out ⟨w.heap.size,0,none⟩ 1 1 (En.mk H.frames k a b).cells (by simp[Act.eval]) rfl HNw.out hone.out (by unfold maxLen;omega) (by omega) (by simp) ?_;intro v3 w3 ho3 hg3 ha3;obtain⟨vo3,vc3,hv3,q7,ql,p1,HZ⟩:=HKEY.out v3 w3 ho3 hg3 ha3;rw[hv3];clear ho3 hg3 ha3 hv3)
 all_goals go_wp2
 all_goals go_end0
 all_goals exact⟨rfl,HZ.out⟩
end
end Go.Proofs.YtidaflmmldefcaaGreat
