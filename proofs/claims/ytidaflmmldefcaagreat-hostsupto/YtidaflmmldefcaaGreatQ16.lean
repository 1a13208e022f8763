/- Parts of the proof of Hosts: RefH. -/
import Derived.Test.YtidaflmmldefcaaGreatQ15
namespace Go.Proofs.YtidaflmmldefcaaGreat
open Go.RowKit
set_option linter.unusedVariables false
def mfCells (l:List Mf):List Value:=l.flatMap fun m=>m.arr.toList
def cells8 (l:List Tn):List Value:=l.flatMap fun x=>[.int .u16 (x.cells.getD 0 0),.int .u16 (x.cells.getD 1 0),.int .u16 (x.cells.getD 2 0),.int .u16 (x.cells.getD 3 0),.int .u16 (x.cells.getD 4 0),.int .u16 (x.cells.getD 5 0),.int .u16 (x.cells.getD 6 0),.int .u16 (x.cells.getD 7 0)]
structure RB where
 rb:Nat
 m:Nat
 p:Nat
 c:Nat
 n:Nat
 b:Nat
 l:Nat
 u:Nat
 h:Nat
 mc:Nat
 pc:Nat
 cc:Nat
 nc:Nat
 bc:Nat
 lc:Nat
 uc:Nat
 hc:Nat
 nv:List Value
 bv:List Value
 lv:List Value
structure RefAt (w:World) (R:RB) (H:Hs) (held:List Int):Prop where
 host:Blk w R.rb #[.slice (some ⟨R.m,0,none⟩) H.ts.length R.mc,.int .i64 H.route,.int .i64 H.frames,.slice (some ⟨R.p,0,none⟩) H.ts.length R.pc,.slice (some ⟨R.c,0,none⟩) H.ts.length R.cc,.slice (some ⟨R.n,0,none⟩) H.ts.length R.nc,.slice (some ⟨R.b,0,none⟩) H.ts.length R.bc,.slice (some ⟨R.l,0,none⟩) H.ts.length R.lc,.slice (some ⟨R.u,0,none⟩) H.ts.length R.uc,.slice (some ⟨R.h,0,none⟩) H.ts.length R.hc] 52
 rm:w.ownsRow 0 37 7 (.slice (some ⟨R.m,0,none⟩) H.ts.length R.mc) H.ts.length (mfCells (H.ts.map Tn.mf))
 rp:w.ownsRow 0 3 1 (.slice (some ⟨R.p,0,none⟩) H.ts.length R.pc) H.ts.length (H.ts.map fun x=> .int .i64 x.phase)
 rc:w.ownsRow 0 82 8 (.slice (some ⟨R.c,0,none⟩) H.ts.length R.cc) H.ts.length (cells8 H.ts)
 rn:w.ownsRow 0 28 1 (.slice (some ⟨R.n,0,none⟩) H.ts.length R.nc) H.ts.length R.nv
 rx:w.ownsRow 0 29 1 (.slice (some ⟨R.b,0,none⟩) H.ts.length R.bc) H.ts.length R.bv
 rl:w.ownsRow 0 30 1 (.slice (some ⟨R.l,0,none⟩) H.ts.length R.lc) H.ts.length R.lv
 ru:w.ownsRow 0 3 1 (.slice (some ⟨R.u,0,none⟩) H.ts.length R.uc) H.ts.length (H.ts.map fun x=> .int .i64 x.until_)
 rh:w.ownsRow 0 3 1 (.slice (some ⟨R.h,0,none⟩) H.ts.length R.hc) H.ts.length (held.map fun k=> .int .i64 k)
 pu:R.p≠R.u
 ph:R.p≠R.h
 uh:R.u≠R.h
 nodes:∀(i:Nat) (x:Tn) (v:Value),H.ts[i]? =some x→R.nv[i]? =some v→w.ownsRow 0 76 3 v x.nodes.length (Tr.ndCells x.nodes)
 box:∀(i:Nat) (x:Tn) (v:Value),H.ts[i]? =some x→R.bv[i]? =some v→w.ownsRow 0 78 4 v x.box.length (evCells x.box)
 log:∀(i:Nat) (x:Tn) (v:Value),H.ts[i]? =some x→R.lv[i]? =some v→w.ownsRow 0 80 4 v x.log.length (enCells x.log)
 boxes:∀(i j:Nat) (v u:Value),R.bv[i]? =some v→R.bv[j]? =some u→i≠j→∀k,v.ownBlock=some k→u.ownBlock≠some k
 logs:∀(i j:Nat) (v u:Value),R.lv[i]? =some v→R.lv[j]? =some u→i≠j→∀k,v.ownBlock=some k→u.ownBlock≠some k
 held:∀(i:Nat) (x:Tn) (k:Int),H.ts[i]? =some x→held[i]? =some k→0≤k∧x.dbl=(if k<4 then k else 4)
def refOwn (R:RB) (k:Nat):Prop:=k=R.rb∨k=R.p∨k=R.c∨k=R.n∨k=R.b∨k=R.l∨k=R.u∨k=R.h∨(∃v∈R.bv,some k=v.ownBlock)∨(∃v∈R.lv,some k=v.ownBlock)∨(∃v∈R.nv,some k=v.ownBlock)
section
variable {w w' : World} {R : RB} {H : Hs} {held : List Int}
theorem RefAt.nlen (h:RefAt w R H held):R.nv.length=H.ts.length:=by have:=h.rn.1;omega
theorem RefAt.blen (h:RefAt w R H held):R.bv.length=H.ts.length:=by have:=h.rx.1;omega
theorem RefAt.llen (h:RefAt w R H held):R.lv.length=H.ts.length:=by have:=h.rl.1;omega
theorem RefAt.hlen (h:RefAt w R H held):held.length=H.ts.length:=by have:=h.rh.1;simp at this;omega
theorem own_set {base g n cap size:Nat} {e:TypeId} {xs:List Value} (h:w.ownsRow base e size (.slice (some ⟨g,0,none⟩) n cap) n xs) (k:Nat) (v:Value): (w.setCell ⟨g,k,none⟩ v).ownsRow base e size (.slice (some ⟨g,0,none⟩) n cap) n (xs.set k v):=by
 obtain⟨h1,h2⟩:=h;refine⟨by simpa using h1,?_⟩;rcases h2 with ⟨hv,_⟩|⟨g',cap',cur,hv,hb,hh,h3,h4,h5,h6⟩
 ·simp at hv
 ·simp only[Value.slice.injEq,Option.some.injEq,Addr.mk.injEq,and_true,true_and] at hv;obtain⟨rfl,rfl⟩:=hv;have hB:Blk w g cur e:=hh;refine Or.inr ⟨g,cap,_,rfl,hb,hB.set k v,h3,h4,by simpa using h5,?_⟩;rw[Array.toList_setIfInBounds,List.take_set,h6]
theorem own_keep_ty {g:Nat} {cs:Array Value} {t:TypeId} (hg:Blk w g cs t) (hk:∀k,k≠g→k<w.heap.size→w'.heap[k]? =w.heap[k]?) {base:Nat} {t':TypeId} {size:Nat} {v:Value} {n:Nat} {xs:List Value} (ho:w.ownsRow base t' size v n xs) (ht:t'≠t):w'.ownsRow base t' size v n xs:=by
 refine own_block ho fun k hk'=>?_;obtain⟨cur,q⟩:=own_blk ho hk';exact hk k (q.ne hg ht) q.lt
theorem blk_keep_ty {g:Nat} {cs:Array Value} {t:TypeId} (hg:Blk w g cs t) (hk:∀k,k≠g→k<w.heap.size→w'.heap[k]? =w.heap[k]?) {b:Nat} {t':TypeId} {ds:Array Value} (hb:Blk w b ds t') (ht:t'≠t):Blk w' b ds t':=hb.of_block (hk b (hb.ne hg ht) hb.lt)
theorem own_keep_ne {g:Nat} (hk:∀k,k≠g→k<w.heap.size→w'.heap[k]? =w.heap[k]?) {base:Nat} {t':TypeId} {size:Nat} {v:Value} {n:Nat} {xs:List Value} (ho:w.ownsRow base t' size v n xs) (hv:v.ownBlock≠some g):w'.ownsRow base t' size v n xs:=by
 refine own_block ho fun k hk'=>?_;obtain⟨cur,q⟩:=own_blk ho hk';exact hk k (fun e=>hv (by rw[hk',e])) q.lt
theorem set_keep (w:World) (g i:Nat) (v:Value):∀k,k≠g→k<w.heap.size→(w.setCell ⟨g,i,none⟩ v).heap[k]? =w.heap[k]? :=fun k hk _=>Below.heap_setCell _ _ _ _ hk
theorem set_kept (w:World) (g i:Nat) (v:Value) (hg:refOwn R g):Kept (refOwn R) w (w.setCell ⟨g,i,none⟩ v):=(Kept.refl _ _).setCell ⟨g,i,none⟩ v (Or.inl hg)
theorem RefAt.below (h:RefAt w R H held) (hb:Below w.heap.size w w'):RefAt w' R H held:=⟨h.host.below hb h.host.lt,own_below' h.rm hb (Nat.le_refl _),own_below' h.rp hb (Nat.le_refl _),own_below' h.rc hb (Nat.le_refl _),own_below' h.rn hb (Nat.le_refl _),own_below' h.rx hb (Nat.le_refl _),own_below' h.rl hb (Nat.le_refl _),own_below' h.ru hb (Nat.le_refl _),own_below' h.rh hb (Nat.le_refl _),h.pu,h.ph,h.uh,fun i x v a b=>own_below' (h.nodes i x v a b) hb (Nat.le_refl _),fun i x v a b=>own_below' (h.box i x v a b) hb (Nat.le_refl _),fun i x v a b=>own_below' (h.log i x v a b) hb (Nat.le_refl _),h.boxes,h.logs,h.held⟩
theorem map_set_same {α:Type} (f:Tn→α) {l:List Tn} {i:Nat} {x x':Tn} (hx:l[i]? =some x) (he:f x'=f x):(l.set i x').map f=l.map f:=by
 rw[List.map_set,he];apply List.ext_getElem?;intro j;by_cases hj:j=i
 ·subst hj;have hl:=(List.getElem?_eq_some_iff.1 hx).1;rw[List.getElem?_set_self (by simpa using hl),List.getElem?_map,hx];rfl
 ·rw[List.getElem?_set_ne (fun e=>hj e.symm)]
theorem cells8_set {l:List Tn} {i:Nat} {x x':Tn} (hx:l[i]? =some x) (he:x'.cells=x.cells):cells8 (l.set i x')=cells8 l:=by
 unfold cells8;rw[List.flatMap_def,List.flatMap_def,map_set_same _ hx (by rw[he])]
theorem set_cases {l:List Tn} {i j:Nat} {x' y:Tn} (hj:(l.set i x')[j]? =some y):(j=i∧y=x')∨(j≠i∧l[j]? =some y):=by
 by_cases e:j=i
 ·subst e;have hl:j<l.length:=by have:=(List.getElem?_eq_some_iff.1 hj).1;simpa using this
  rw[List.getElem?_set_self hl] at hj;exact Or.inl ⟨rfl,(Option.some.inj hj).symm⟩
 ·rw[List.getElem?_set_ne (fun h=>e h.symm)] at hj;exact Or.inr ⟨e,hj⟩
theorem RefAt.set_phase (h:RefAt w R H held) {i:Nat} {x:Tn} (hx:H.ts[i]? =some x) (p:Int):RefAt (w.setCell ⟨R.p,i,none⟩ (.int .i64 p)) R {H with ts:=H.ts.set i {x with phase:=p}} held:=by
 obtain⟨cg,hg⟩:=own_cur h.rp;have hk:=set_keep w R.p i (.int .i64 p);have hl:(H.ts.set i {x with phase:=p}).length=H.ts.length:=List.length_set;have e1:(H.ts.set i {x with phase:=p}).map Tn.mf=H.ts.map Tn.mf:=map_set_same _ hx rfl;have e4:(H.ts.set i {x with phase:=p}).map (fun x=>Value.int .i64 x.phase)=(H.ts.map (fun x=>Value.int .i64 x.phase)).set i (.int .i64 p):=List.map_set;have e2:(H.ts.set i {x with phase:=p}).map (fun x=>Value.int .i64 x.until_)=H.ts.map (fun x=> .int .i64 x.until_):=map_set_same _ hx rfl;have e3:cells8 (H.ts.set i {x with phase:=p})=cells8 H.ts:=cells8_set hx rfl;constructor;case host=>rw[hl];exact blk_keep_ty hg hk h.host (by decide)
 case rm=>rw[hl,e1];exact own_keep_ty hg hk h.rm (by decide)
 case rp=>rw[hl,e4];exact own_set h.rp i _
 case rc=>rw[hl,e3];exact own_keep_ty hg hk h.rc (by decide)
 case rn=>rw[hl];exact own_keep_ty hg hk h.rn (by decide)
 case rx=>rw[hl];exact own_keep_ty hg hk h.rx (by decide)
 case rl=>rw[hl];exact own_keep_ty hg hk h.rl (by decide)
 case ru=>rw[hl,e2];exact own_keep_ne hk h.ru (by simp[Value.ownBlock];exact fun e=>h.pu e.symm)
 case rh=>rw[hl];exact own_keep_ne hk h.rh (by simp[Value.ownBlock];exact fun e=>h.ph e.symm)
 case pu=>exact h.pu
 case ph=>exact h.ph
 case uh=>exact h.uh
 case nodes=>
  intro j y v hj hv;rcases set_cases hj with ⟨rfl,rfl⟩|⟨_,hj⟩
  ·exact own_keep_ty hg hk (h.nodes j x v hx hv) (by decide)
  ·exact own_keep_ty hg hk (h.nodes j y v hj hv) (by decide)
 case box=>
  intro j y v hj hv;rcases set_cases hj with ⟨rfl,rfl⟩|⟨_,hj⟩
  ·exact own_keep_ty hg hk (h.box j x v hx hv) (by decide)
  ·exact own_keep_ty hg hk (h.box j y v hj hv) (by decide)
 case log=>
  intro j y v hj hv;rcases set_cases hj with ⟨rfl,rfl⟩|⟨_,hj⟩
  ·exact own_keep_ty hg hk (h.log j x v hx hv) (by decide)
  ·exact own_keep_ty hg hk (h.log j y v hj hv) (by decide)
 case boxes=>exact h.boxes
 case logs=>exact h.logs
 case held=>
  intro j y k hj hk';rcases set_cases hj with ⟨rfl,rfl⟩|⟨_,hj⟩
  ·exact h.held j x k hx hk'
  ·exact h.held j y k hj hk'
theorem RefAt.set_until (h:RefAt w R H held) {i:Nat} {x:Tn} (hx:H.ts[i]? =some x) (p:Int):RefAt (w.setCell ⟨R.u,i,none⟩ (.int .i64 p)) R {H with ts:=H.ts.set i {x with until_:=p}} held:=by
 obtain⟨cg,hg⟩:=own_cur h.ru;have hk:=set_keep w R.u i (.int .i64 p);have hl:(H.ts.set i {x with until_:=p}).length=H.ts.length:=List.length_set;have e1:(H.ts.set i {x with until_:=p}).map Tn.mf=H.ts.map Tn.mf:=map_set_same _ hx rfl;have e4:(H.ts.set i {x with until_:=p}).map (fun x=>Value.int .i64 x.phase)=H.ts.map (fun x=> .int .i64 x.phase):=map_set_same _ hx rfl;have e2:(H.ts.set i {x with until_:=p}).map (fun x=>Value.int .i64 x.until_)=(H.ts.map (fun x=>Value.int .i64 x.until_)).set i (.int .i64 p):=List.map_set;have e3:cells8 (H.ts.set i {x with until_:=p})=cells8 H.ts:=cells8_set hx rfl;constructor;case host=>rw[hl];exact blk_keep_ty hg hk h.host (by decide)
 case rm=>rw[hl,e1];exact own_keep_ty hg hk h.rm (by decide)
 case rp=>rw[hl,e4];exact own_keep_ne hk h.rp (by simp[Value.ownBlock];exact fun e=>h.pu e)
 case rc=>rw[hl,e3];exact own_keep_ty hg hk h.rc (by decide)
 case rn=>rw[hl];exact own_keep_ty hg hk h.rn (by decide)
 case rx=>rw[hl];exact own_keep_ty hg hk h.rx (by decide)
 case rl=>rw[hl];exact own_keep_ty hg hk h.rl (by decide)
 case ru=>rw[hl,e2];exact own_set h.ru i _
 case rh=>rw[hl];exact own_keep_ne hk h.rh (by simp[Value.ownBlock];exact fun e=>h.uh e.symm)
 case pu=>exact h.pu
 case ph=>exact h.ph
 case uh=>exact h.uh
 case nodes=>
  intro j y v hj hv;rcases set_cases hj with ⟨rfl,rfl⟩|⟨_,hj⟩
  ·exact own_keep_ty hg hk (h.nodes j x v hx hv) (by decide)
  ·exact own_keep_ty hg hk (h.nodes j y v hj hv) (by decide)
 case box=>
  intro j y v hj hv;rcases set_cases hj with ⟨rfl,rfl⟩|⟨_,hj⟩
  ·exact own_keep_ty hg hk (h.box j x v hx hv) (by decide)
  ·exact own_keep_ty hg hk (h.box j y v hj hv) (by decide)
 case log=>
  intro j y v hj hv;rcases set_cases hj with ⟨rfl,rfl⟩|⟨_,hj⟩
  ·exact own_keep_ty hg hk (h.log j x v hx hv) (by decide)
  ·exact own_keep_ty hg hk (h.log j y v hj hv) (by decide)
 case boxes=>exact h.boxes
 case logs=>exact h.logs
 case held=>
  intro j y k hj hk';rcases set_cases hj with ⟨rfl,rfl⟩|⟨_,hj⟩
  ·exact h.held j x k hx hk'
  ·exact h.held j y k hj hk'
theorem RefAt.set_held (h:RefAt w R H held) {i:Nat} {x:Tn} (hx:H.ts[i]? =some x) (q d:Int) (hq0:0≤q) (hd:d=if q<4 then q else 4):RefAt (w.setCell ⟨R.h,i,none⟩ (.int .i64 q)) R {H with ts:=H.ts.set i {x with dbl:=d}} (held.set i q):=by
 obtain⟨cg,hg⟩:=own_cur h.rh;have hk:=set_keep w R.h i (.int .i64 q);have hl:(H.ts.set i {x with dbl:=d}).length=H.ts.length:=List.length_set;have e1:(H.ts.set i {x with dbl:=d}).map Tn.mf=H.ts.map Tn.mf:=map_set_same _ hx rfl;have e4:(H.ts.set i {x with dbl:=d}).map (fun x=>Value.int .i64 x.phase)=H.ts.map (fun x=> .int .i64 x.phase):=map_set_same _ hx rfl;have e2:(H.ts.set i {x with dbl:=d}).map (fun x=>Value.int .i64 x.until_)=H.ts.map (fun x=> .int .i64 x.until_):=map_set_same _ hx rfl;have e3:cells8 (H.ts.set i {x with dbl:=d})=cells8 H.ts:=cells8_set hx rfl;constructor;case host=>rw[hl];exact blk_keep_ty hg hk h.host (by decide)
 case rm=>rw[hl,e1];exact own_keep_ty hg hk h.rm (by decide)
 case rp=>rw[hl,e4];exact own_keep_ne hk h.rp (by simp[Value.ownBlock];exact fun e=>h.ph e)
 case rc=>rw[hl,e3];exact own_keep_ty hg hk h.rc (by decide)
 case rn=>rw[hl];exact own_keep_ty hg hk h.rn (by decide)
 case rx=>rw[hl];exact own_keep_ty hg hk h.rx (by decide)
 case rl=>rw[hl];exact own_keep_ty hg hk h.rl (by decide)
 case ru=>rw[hl,e2];exact own_keep_ne hk h.ru (by simp[Value.ownBlock];exact fun e=>h.uh e)
 case rh=>rw[hl,List.map_set];exact own_set h.rh i _
 case pu=>exact h.pu
 case ph=>exact h.ph
 case uh=>exact h.uh
 case nodes=>
  intro j y v hj hv;rcases set_cases hj with ⟨rfl,rfl⟩|⟨_,hj⟩
  ·exact own_keep_ty hg hk (h.nodes j x v hx hv) (by decide)
  ·exact own_keep_ty hg hk (h.nodes j y v hj hv) (by decide)
 case box=>
  intro j y v hj hv;rcases set_cases hj with ⟨rfl,rfl⟩|⟨_,hj⟩
  ·exact own_keep_ty hg hk (h.box j x v hx hv) (by decide)
  ·exact own_keep_ty hg hk (h.box j y v hj hv) (by decide)
 case log=>
  intro j y v hj hv;rcases set_cases hj with ⟨rfl,rfl⟩|⟨_,hj⟩
  ·exact own_keep_ty hg hk (h.log j x v hx hv) (by decide)
  ·exact own_keep_ty hg hk (h.log j y v hj hv) (by decide)
 case boxes=>exact h.boxes
 case logs=>exact h.logs
 case held=>
  intro j y k hj hk';rcases set_cases hj with ⟨rfl,rfl⟩|⟨hji,hj⟩
  ·have hjl:j<held.length:=by rw[h.hlen];exact(List.getElem?_eq_some_iff.1 hx).1
   rw[List.getElem?_set_self hjl] at hk';obtain rfl:=Option.some.inj hk';exact⟨hq0,hd⟩
  ·rw[List.getElem?_set_ne (fun e=>hji e.symm)] at hk';exact h.held j y k hj hk'
theorem RefAt.set_nodes (h:RefAt w R H held) {i:Nat} {x:Tn} (hx:H.ts[i]? =some x) {nv:Value} {l:List Tr.T.Nd} (hn:w.ownsRow 0 76 3 nv l.length (Tr.ndCells l)):RefAt (w.setCell ⟨R.n,i,none⟩ nv) {R with nv:=R.nv.set i nv} {H with ts:=H.ts.set i {x with nodes:=l}} held:=by
 obtain⟨cg,hg⟩:=own_cur h.rn;have hk:=set_keep w R.n i nv;have hl:(H.ts.set i {x with nodes:=l}).length=H.ts.length:=List.length_set;have e1:(H.ts.set i {x with nodes:=l}).map Tn.mf=H.ts.map Tn.mf:=map_set_same _ hx rfl;have e4:(H.ts.set i {x with nodes:=l}).map (fun x=>Value.int .i64 x.phase)=H.ts.map (fun x=> .int .i64 x.phase):=map_set_same _ hx rfl;have e2:(H.ts.set i {x with nodes:=l}).map (fun x=>Value.int .i64 x.until_)=H.ts.map (fun x=> .int .i64 x.until_):=map_set_same _ hx rfl;have e3:cells8 (H.ts.set i {x with nodes:=l})=cells8 H.ts:=cells8_set hx rfl;constructor;case host=>rw[hl];exact blk_keep_ty hg hk h.host (by decide)
 case rm=>rw[hl,e1];exact own_keep_ty hg hk h.rm (by decide)
 case rp=>rw[hl,e4];exact own_keep_ty hg hk h.rp (by decide)
 case rc=>rw[hl,e3];exact own_keep_ty hg hk h.rc (by decide)
 case rn=>rw[hl];exact own_set h.rn i _
 case rx=>rw[hl];exact own_keep_ty hg hk h.rx (by decide)
 case rl=>rw[hl];exact own_keep_ty hg hk h.rl (by decide)
 case ru=>rw[hl,e2];exact own_keep_ty hg hk h.ru (by decide)
 case rh=>rw[hl];exact own_keep_ty hg hk h.rh (by decide)
 case pu=>exact h.pu
 case ph=>exact h.ph
 case uh=>exact h.uh
 case nodes=>
  intro j y v hj hv;rcases set_cases hj with ⟨rfl,rfl⟩|⟨hji,hj⟩
  ·have hjl:j<R.nv.length:=by rw[h.nlen];exact(List.getElem?_eq_some_iff.1 hx).1
   rw[List.getElem?_set_self hjl] at hv;obtain rfl:=Option.some.inj hv;exact own_keep_ty hg hk hn (by decide)
  ·rw[List.getElem?_set_ne (fun e=>hji e.symm)] at hv;exact own_keep_ty hg hk (h.nodes j y v hj hv) (by decide)
 case box=>
  intro j y v hj hv;rcases set_cases hj with ⟨rfl,rfl⟩|⟨_,hj⟩
  ·exact own_keep_ty hg hk (h.box j x v hx hv) (by decide)
  ·exact own_keep_ty hg hk (h.box j y v hj hv) (by decide)
 case log=>
  intro j y v hj hv;rcases set_cases hj with ⟨rfl,rfl⟩|⟨_,hj⟩
  ·exact own_keep_ty hg hk (h.log j x v hx hv) (by decide)
  ·exact own_keep_ty hg hk (h.log j y v hj hv) (by decide)
 case boxes=>exact h.boxes
 case logs=>exact h.logs
 case held=>
  intro j y k hj hk';rcases set_cases hj with ⟨rfl,rfl⟩|⟨_,hj⟩
  ·exact h.held j x k hx hk'
  ·exact h.held j y k hj hk'
theorem RefAt.set_box (h:RefAt w R H held) {i:Nat} {x:Tn} (hx:H.ts[i]? =some x) {bv:Value} {l:List Ev} (hn:w.ownsRow 0 78 4 bv l.length (evCells l)) (hm:∀k,bv.ownBlock=some k→∀(j:Nat) (u:Value),j≠i→R.bv[j]? =some u→u.ownBlock≠some k):RefAt (w.setCell ⟨R.b,i,none⟩ bv) {R with bv:=R.bv.set i bv} {H with ts:=H.ts.set i {x with box:=l}} held:=by
 obtain⟨cg,hg⟩:=own_cur h.rx;have hk:=set_keep w R.b i bv;have hl:(H.ts.set i {x with box:=l}).length=H.ts.length:=List.length_set;have e1:(H.ts.set i {x with box:=l}).map Tn.mf=H.ts.map Tn.mf:=map_set_same _ hx rfl;have e4:(H.ts.set i {x with box:=l}).map (fun x=>Value.int .i64 x.phase)=H.ts.map (fun x=> .int .i64 x.phase):=map_set_same _ hx rfl;have e2:(H.ts.set i {x with box:=l}).map (fun x=>Value.int .i64 x.until_)=H.ts.map (fun x=> .int .i64 x.until_):=map_set_same _ hx rfl;have e3:cells8 (H.ts.set i {x with box:=l})=cells8 H.ts:=cells8_set hx rfl;constructor;case host=>rw[hl];exact blk_keep_ty hg hk h.host (by decide)
 case rm=>rw[hl,e1];exact own_keep_ty hg hk h.rm (by decide)
 case rp=>rw[hl,e4];exact own_keep_ty hg hk h.rp (by decide)
 case rc=>rw[hl,e3];exact own_keep_ty hg hk h.rc (by decide)
 case rn=>rw[hl];exact own_keep_ty hg hk h.rn (by decide)
 case rx=>rw[hl];exact own_set h.rx i _
 case rl=>rw[hl];exact own_keep_ty hg hk h.rl (by decide)
 case ru=>rw[hl,e2];exact own_keep_ty hg hk h.ru (by decide)
 case rh=>rw[hl];exact own_keep_ty hg hk h.rh (by decide)
 case pu=>exact h.pu
 case ph=>exact h.ph
 case uh=>exact h.uh
 case nodes=>
  intro j y v hj hv;rcases set_cases hj with ⟨rfl,rfl⟩|⟨_,hj⟩
  ·exact own_keep_ty hg hk (h.nodes j x v hx hv) (by decide)
  ·exact own_keep_ty hg hk (h.nodes j y v hj hv) (by decide)
 case box=>
  intro j y v hj hv;rcases set_cases hj with ⟨rfl,rfl⟩|⟨hji,hj⟩
  ·have hjl:j<R.bv.length:=by rw[h.blen];exact(List.getElem?_eq_some_iff.1 hx).1
   rw[List.getElem?_set_self hjl] at hv;obtain rfl:=Option.some.inj hv;exact own_keep_ty hg hk hn (by decide)
  ·rw[List.getElem?_set_ne (fun e=>hji e.symm)] at hv;exact own_keep_ty hg hk (h.box j y v hj hv) (by decide)
 case log=>
  intro j y v hj hv;rcases set_cases hj with ⟨rfl,rfl⟩|⟨_,hj⟩
  ·exact own_keep_ty hg hk (h.log j x v hx hv) (by decide)
  ·exact own_keep_ty hg hk (h.log j y v hj hv) (by decide)
 case boxes=>
  intro a b v u hv hu hab k hk';by_cases ha:a=i
  ·subst ha;have hal:a<R.bv.length:=by have:=(List.getElem?_eq_some_iff.1 hv).1;simpa using this
   rw[List.getElem?_set_self hal] at hv;obtain rfl:=Option.some.inj hv;rw[List.getElem?_set_ne hab] at hu;exact hm k hk' b u (fun e=>hab e.symm) hu
  ·rw[List.getElem?_set_ne (fun e=>ha e.symm)] at hv;by_cases hb:b=i
   ·subst hb;have hbl:b<R.bv.length:=by have:=(List.getElem?_eq_some_iff.1 hu).1;simpa using this
    rw[List.getElem?_set_self hbl] at hu;obtain rfl:=Option.some.inj hu;intro hk2;exact hm k hk2 a v ha hv hk'
   ·rw[List.getElem?_set_ne (fun e=>hb e.symm)] at hu;exact h.boxes a b v u hv hu hab k hk'
 case logs=>exact h.logs
 case held=>
  intro j y k hj hk';rcases set_cases hj with ⟨rfl,rfl⟩|⟨_,hj⟩
  ·exact h.held j x k hx hk'
  ·exact h.held j y k hj hk'
theorem cells8_at:∀(l:List Tn) (i:Nat) (x:Tn),l[i]? =some x→∀a0 a1 a2 a3 a4 a5 a6 a7:Int,cells8 (l.set i {x with cells:=[a0,a1,a2,a3,a4,a5,a6,a7]})=((((((((cells8 l).set (i*8) (.int .u16 a0)).set (i*8+1) (.int .u16 a1)).set (i*8+2) (.int .u16 a2)).set (i*8+3) (.int .u16 a3)).set (i*8+4) (.int .u16 a4)).set (i*8+5) (.int .u16 a5)).set (i*8+6) (.int .u16 a6)).set (i*8+7) (.int .u16 a7)
 |[],i,x,h=>by simp at h
 |y::r,0,x,h=>by
  intro a0 a1 a2 a3 a4 a5 a6 a7;rfl
 |y::r,i+1,x,h=>by
  intro a0 a1 a2 a3 a4 a5 a6 a7;have ih:=cells8_at r i x (by simpa using h) a0 a1 a2 a3 a4 a5 a6 a7;have e:∀q:List Tn,cells8 (y::q)=[.int .u16 (y.cells.getD 0 0),.int .u16 (y.cells.getD 1 0),.int .u16 (y.cells.getD 2 0),.int .u16 (y.cells.getD 3 0),.int .u16 (y.cells.getD 4 0),.int .u16 (y.cells.getD 5 0),.int .u16 (y.cells.getD 6 0),.int .u16 (y.cells.getD 7 0)]++cells8 q:=fun q=>rfl;rw[List.set_cons_succ,e,e,ih];have g:∀(a z:List Value) (k:Nat) (v:Value),a.length=8→(a++z).set ((i+1)*8+k) v=a++z.set (i*8+k) v:=by intro a z k v ha;rw[List.set_append_right _ _ (by omega),ha,show(i+1)*8+k-8=i*8+k by omega]
  have g0:∀(a z:List Value) (v:Value),a.length=8→(a++z).set ((i+1)*8) v=a++z.set (i*8) v:=fun a z v ha=>g a z 0 v ha;rw[g0 _ _ _ rfl,g _ _ 1 _ rfl,g _ _ 2 _ rfl,g _ _ 3 _ rfl,g _ _ 4 _ rfl,g _ _ 5 _ rfl,g _ _ 6 _ rfl,g _ _ 7 _ rfl]
theorem RefAt.set_cells (h:RefAt w R H held) {i:Nat} {x:Tn} (hx:H.ts[i]? =some x) (a0 a1 a2 a3 a4 a5 a6 a7:Int):RefAt ((((((((w.setCell ⟨R.c,i*8,none⟩ (.int .u16 a0)).setCell ⟨R.c,i*8+1,none⟩ (.int .u16 a1)).setCell ⟨R.c,i*8+2,none⟩ (.int .u16 a2)).setCell ⟨R.c,i*8+3,none⟩ (.int .u16 a3)).setCell ⟨R.c,i*8+4,none⟩ (.int .u16 a4)).setCell ⟨R.c,i*8+5,none⟩ (.int .u16 a5)).setCell ⟨R.c,i*8+6,none⟩ (.int .u16 a6)).setCell ⟨R.c,i*8+7,none⟩ (.int .u16 a7)) R {H with ts:=H.ts.set i {x with cells:=[a0,a1,a2,a3,a4,a5,a6,a7]}} held:=by
 obtain⟨cg,hg⟩:=own_cur h.rc;have hk:∀k,k≠R.c→k<w.heap.size→((((((((w.setCell ⟨R.c,i*8,none⟩ (.int .u16 a0)).setCell ⟨R.c,i*8+1,none⟩ (.int .u16 a1)).setCell ⟨R.c,i*8+2,none⟩ (.int .u16 a2)).setCell ⟨R.c,i*8+3,none⟩ (.int .u16 a3)).setCell ⟨R.c,i*8+4,none⟩ (.int .u16 a4)).setCell ⟨R.c,i*8+5,none⟩ (.int .u16 a5)).setCell ⟨R.c,i*8+6,none⟩ (.int .u16 a6)).setCell ⟨R.c,i*8+7,none⟩ (.int .u16 a7)).heap[k]? =w.heap[k]? :=fun k hk _=>by rw[Below.heap_setCell _ _ _ _ hk,Below.heap_setCell _ _ _ _ hk,Below.heap_setCell _ _ _ _ hk,Below.heap_setCell _ _ _ _ hk,Below.heap_setCell _ _ _ _ hk,Below.heap_setCell _ _ _ _ hk,Below.heap_setCell _ _ _ _ hk,Below.heap_setCell _ _ _ _ hk]
 have hl:(H.ts.set i {x with cells:=[a0,a1,a2,a3,a4,a5,a6,a7]}).length=H.ts.length:=List.length_set;have e1:(H.ts.set i {x with cells:=[a0,a1,a2,a3,a4,a5,a6,a7]}).map Tn.mf=H.ts.map Tn.mf:=map_set_same _ hx rfl;have e4:(H.ts.set i {x with cells:=[a0,a1,a2,a3,a4,a5,a6,a7]}).map (fun x=>Value.int .i64 x.phase)=H.ts.map (fun x=> .int .i64 x.phase):=map_set_same _ hx rfl;have e2:(H.ts.set i {x with cells:=[a0,a1,a2,a3,a4,a5,a6,a7]}).map (fun x=>Value.int .i64 x.until_)=H.ts.map (fun x=> .int .i64 x.until_):=map_set_same _ hx rfl;have e3:cells8 (H.ts.set i {x with cells:=[a0,a1,a2,a3,a4,a5,a6,a7]})=((((((((cells8 H.ts).set (i*8) (.int .u16 a0)).set (i*8+1) (.int .u16 a1)).set (i*8+2) (.int .u16 a2)).set (i*8+3) (.int .u16 a3)).set (i*8+4) (.int .u16 a4)).set (i*8+5) (.int .u16 a5)).set (i*8+6) (.int .u16 a6)).set (i*8+7) (.int .u16 a7):=cells8_at H.ts i x hx a0 a1 a2 a3 a4 a5 a6 a7;constructor;case host=>rw[hl];exact blk_keep_ty hg hk h.host (by decide)
 case rm=>rw[hl,e1];exact own_keep_ty hg hk h.rm (by decide)
 case rp=>rw[hl,e4];exact own_keep_ty hg hk h.rp (by decide)
 case rc=>rw[hl,e3];exact own_set (own_set (own_set (own_set (own_set (own_set (own_set (own_set h.rc (i*8) _) (i*8+1) _) (i*8+2) _) (i*8+3) _) (i*8+4) _) (i*8+5) _) (i*8+6) _) (i*8+7) _
 case rn=>rw[hl];exact own_keep_ty hg hk h.rn (by decide)
 case rx=>rw[hl];exact own_keep_ty hg hk h.rx (by decide)
 case rl=>rw[hl];exact own_keep_ty hg hk h.rl (by decide)
 case ru=>rw[hl,e2];exact own_keep_ty hg hk h.ru (by decide)
 case rh=>rw[hl];exact own_keep_ty hg hk h.rh (by decide)
 case pu=>exact h.pu
 case ph=>exact h.ph
 case uh=>exact h.uh
 case nodes=>
  intro j y v hj hv;rcases set_cases hj with ⟨rfl,rfl⟩|⟨_,hj⟩
  ·exact own_keep_ty hg hk (h.nodes j x v hx hv) (by decide)
  ·exact own_keep_ty hg hk (h.nodes j y v hj hv) (by decide)
 case box=>
  intro j y v hj hv;rcases set_cases hj with ⟨rfl,rfl⟩|⟨_,hj⟩
  ·exact own_keep_ty hg hk (h.box j x v hx hv) (by decide)
  ·exact own_keep_ty hg hk (h.box j y v hj hv) (by decide)
 case log=>
  intro j y v hj hv;rcases set_cases hj with ⟨rfl,rfl⟩|⟨_,hj⟩
  ·exact own_keep_ty hg hk (h.log j x v hx hv) (by decide)
  ·exact own_keep_ty hg hk (h.log j y v hj hv) (by decide)
 case boxes=>exact h.boxes
 case logs=>exact h.logs
 case held=>
  intro j y k hj hk';rcases set_cases hj with ⟨rfl,rfl⟩|⟨_,hj⟩
  ·exact h.held j x k hx hk'
  ·exact h.held j y k hj hk'
theorem RefAt.set_route (h:RefAt w R H held) (q:Int):RefAt (w.setCell ⟨R.rb,1,none⟩ (.int .i64 q)) R {H with route:=q} held:=by
 have hg:=h.host;have hk:=set_keep w R.rb 1 (.int .i64 q);exact⟨h.host.set 1 _,own_keep_ty hg hk h.rm (by decide),own_keep_ty hg hk h.rp (by decide),own_keep_ty hg hk h.rc (by decide),own_keep_ty hg hk h.rn (by decide),own_keep_ty hg hk h.rx (by decide),own_keep_ty hg hk h.rl (by decide),own_keep_ty hg hk h.ru (by decide),own_keep_ty hg hk h.rh (by decide),h.pu,h.ph,h.uh,fun i x v a b=>own_keep_ty hg hk (h.nodes i x v a b) (by decide),fun i x v a b=>own_keep_ty hg hk (h.box i x v a b) (by decide),fun i x v a b=>own_keep_ty hg hk (h.log i x v a b) (by decide),h.boxes,h.logs,h.held⟩
theorem RefAt.set_now (h:RefAt w R H held) (q:Int):RefAt (w.setCell ⟨R.rb,2,none⟩ (.int .i64 q)) R {H with frames:=q} held:=by
 have hg:=h.host;have hk:=set_keep w R.rb 2 (.int .i64 q);exact⟨h.host.set 2 _,own_keep_ty hg hk h.rm (by decide),own_keep_ty hg hk h.rp (by decide),own_keep_ty hg hk h.rc (by decide),own_keep_ty hg hk h.rn (by decide),own_keep_ty hg hk h.rx (by decide),own_keep_ty hg hk h.rl (by decide),own_keep_ty hg hk h.ru (by decide),own_keep_ty hg hk h.rh (by decide),h.pu,h.ph,h.uh,fun i x v a b=>own_keep_ty hg hk (h.nodes i x v a b) (by decide),fun i x v a b=>own_keep_ty hg hk (h.box i x v a b) (by decide),fun i x v a b=>own_keep_ty hg hk (h.log i x v a b) (by decide),h.boxes,h.logs,h.held⟩
end
end Go.Proofs.YtidaflmmldefcaaGreat
