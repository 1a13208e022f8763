/- Parts of the proof of Hosts: RefC, RefK, RefL. -/
import Derived.Test.YtidaflmmldefcaaGreatQ18
set_option maxHeartbeats 4000000
namespace Go.Proofs.YtidaflmmldefcaaGreat
open Go.RowKit
set_option linter.unusedVariables false
theorem cells8_get:∀(l:List Tn) (i:Nat) (x:Tn),l[i]? =some x→∀j,j<8→(cells8 l)[i*8+j]? =some (.int .u16 (x.cells.getD j 0))
 |[],i,x,h=>by simp at h
 |y::r,0,x,h=>by
  intro j hj;simp at h;subst h;match j,hj with
  |0,_=>rfl
  |1,_=>rfl
  |2,_=>rfl
  |3,_=>rfl
  |4,_=>rfl
  |5,_=>rfl
  |6,_=>rfl
  |7,_=>rfl
 |y::r,i+1,x,h=>by intro j hj;have ih:=cells8_get r i x (by simpa using h) j hj;have e:cells8 (y::r)=[.int .u16 (y.cells.getD 0 0),.int .u16 (y.cells.getD 1 0),.int .u16 (y.cells.getD 2 0),.int .u16 (y.cells.getD 3 0),.int .u16 (y.cells.getD 4 0),.int .u16 (y.cells.getD 5 0),.int .u16 (y.cells.getD 6 0),.int .u16 (y.cells.getD 7 0)]++cells8 r:=rfl;rw[e,List.getElem?_append_right (by simp;omega)];simp only[List.length_cons,List.length_nil];rw[show(i+1)*8+j-(0+1+1+1+1+1+1+1+1)=i*8+j by omega];exact ih
section
variable {w w' : World} {R : RB} {H : Hs} {held : List Int}
theorem own_cellN {base g n cap i size:Nat} {e:TypeId} {xs:List Value} {v:Value} (h:w.ownsRow base e size (.slice (some ⟨g,0,none⟩) n cap) n xs) (hx:xs[i]? =some v):w.cell? ⟨g,i,none⟩=some v:=by
 have h1:=World.ownsRow.cells h (g:=g) rfl i v hx;rw[Addr.add_lit,Nat.zero_add] at h1;exact h1
theorem own_freeN {base g n cap size:Nat} {e:TypeId} {xs:List Value} (h:w.ownsRow base e size (.slice (some ⟨g,0,none⟩) n cap) n xs) (i:Nat):w.frozen? ⟨g,i,none⟩=false:=by
 obtain⟨c,q⟩:=own_cur h;exact q.free i
theorem own_neN {base base' g n cap size g' n' cap' size':Nat} {e e':TypeId} {xs xs':List Value} (h:w.ownsRow base e size (.slice (some ⟨g,0,none⟩) n cap) n xs) (h':w.ownsRow base' e' size' (.slice (some ⟨g',0,none⟩) n' cap') n' xs') (he:e≠e'):¬g=g':=by
 obtain⟨c,q⟩:=own_cur h;obtain⟨c',q'⟩:=own_cur h';exact q.ne q' he
theorem own_neH {base g n cap size b:Nat} {e t:TypeId} {cs:Array Value} {xs:List Value} (hb:Blk w b cs t) (h:w.ownsRow base e size (.slice (some ⟨g,0,none⟩) n cap) n xs) (he:t≠e):¬b=g:=by
 obtain⟨c,q⟩:=own_cur h;exact hb.ne q he
theorem RefAt.goOut (h:RefAt w R H held) {i:Nat} {x:Tn} (hx:H.ts[i]? =some x): RAft w R {H with ts:=H.ts.set i x.goOut} held (((((((((((w.setCell ⟨R.p,i,none⟩ (.int .i64 0)).setCell ⟨R.c,i*8,none⟩ (.int .u16 0)).setCell ⟨R.c,i*8+1,none⟩ (.int .u16 0)).setCell ⟨R.c,i*8+2,none⟩ (.int .u16 0)).setCell ⟨R.c,i*8+3,none⟩ (.int .u16 0)).setCell ⟨R.c,i*8+4,none⟩ (.int .u16 0)).setCell ⟨R.c,i*8+5,none⟩ (.int .u16 0)).setCell ⟨R.c,i*8+6,none⟩ (.int .u16 0)).setCell ⟨R.c,i*8+7,none⟩ (.int .u16 0)).setCell ⟨R.n,i,none⟩ (.slice none 0 0)).setCell ⟨R.b,i,none⟩ (.slice none 0 0)):=by
 have hil:i<H.ts.length:=(List.getElem?_eq_some_iff.1 hx).1;have h1:=h.set_phase hx 0;have h2:=h1.set_cells (i:=i) (List.getElem?_set_self hil) 0 0 0 0 0 0 0 0;have h3:=h2.set_nodes (i:=i) (List.getElem?_set_self (by simpa using hil)) (nv:= .slice none 0 0) (l:=[]) (World.ownsRow_nil _ _ _ _);have h4:=h3.set_box (i:=i) (List.getElem?_set_self (by simpa using hil)) (bv:= .slice none 0 0) (l:=[]) (World.ownsRow_nil _ _ _ _) (fun k hk=>by simp[Value.ownBlock] at hk);simp only[List.set_set] at h4;refine⟨R.nv.set i (.slice none 0 0),R.bv.set i (.slice none 0 0),R.lv,h4,?_,fun k hk=>?_⟩
 ·have hc:refOwn R R.c:=Or.inr (Or.inr (Or.inl rfl));exact(((((((((((Kept.refl (refOwn R) w).setCell _ _ (Or.inl (Or.inr (Or.inl rfl)))).setCell _ _ (Or.inl hc)).setCell _ _ (Or.inl hc)).setCell _ _ (Or.inl hc)).setCell _ _ (Or.inl hc)).setCell _ _ (Or.inl hc)).setCell _ _ (Or.inl hc)).setCell _ _ (Or.inl hc)).setCell _ _ (Or.inl hc)).setCell _ _ (Or.inl (Or.inr (Or.inr (Or.inr (Or.inl rfl)))))).setCell _ _ (Or.inl (Or.inr (Or.inr (Or.inr (Or.inr (Or.inl rfl))))))
 ·rcases refOwn_box (R:={R with nv:=R.nv.set i (.slice none 0 0)}) (i:=i) (v:= .slice none 0 0) (B:=w.heap.size) (fun k hk=>by simp[Value.ownBlock] at hk) k hk with q|q
  ·exact refOwn_nodes (R:=R) (i:=i) (v:= .slice none 0 0) (B:=w.heap.size) (fun k hk=>by simp[Value.ownBlock] at hk) k q
  ·exact Or.inr q
theorem rout_any (h:RefAt w R H held) {i:Nat} {x:Tn} (hx:H.ts[i]? =some x) (hn:H.ts.length≤4): Calls Tryz.prog 49 #[.pointer (some ⟨R.rb,0,none⟩),.int .i64 i] w fun e w'=>e= .returned (.tuple #[])∧RAft w R {H with ts:=H.ts.set i x.goOut} held w':=by
 have hil:i<H.ts.length:=(List.getElem?_eq_some_iff.1 hx).1;have HG:=show Hid _ from h.goOut hx;have c3:w.cell? ⟨R.rb,3,none⟩=some (.slice (some ⟨R.p,0,none⟩) H.ts.length R.pc):=by rw[h.host.cell 3];rfl
 have c4:w.cell? ⟨R.rb,4,none⟩=some (.slice (some ⟨R.c,0,none⟩) H.ts.length R.cc):=by rw[h.host.cell 4];rfl
 have c5:w.cell? ⟨R.rb,5,none⟩=some (.slice (some ⟨R.n,0,none⟩) H.ts.length R.nc):=by rw[h.host.cell 5];rfl
 have c6:w.cell? ⟨R.rb,6,none⟩=some (.slice (some ⟨R.b,0,none⟩) H.ts.length R.bc):=by rw[h.host.cell 6];rfl
 have p0:w.cell? ⟨R.p,i,none⟩=some (.int .i64 x.phase):=own_cellN h.rp (by rw[List.getElem?_map,hx];rfl);have g0:w.cell? ⟨R.c,i*8,none⟩=some (.int .u16 (x.cells.getD 0 0)):=own_cellN h.rc (cells8_get _ i x hx 0 (by decide));have g1:w.cell? ⟨R.c,i*8+1,none⟩=some (.int .u16 (x.cells.getD 1 0)):=own_cellN h.rc (cells8_get _ i x hx 1 (by decide));have g2:w.cell? ⟨R.c,i*8+2,none⟩=some (.int .u16 (x.cells.getD 2 0)):=own_cellN h.rc (cells8_get _ i x hx 2 (by decide));have g3:w.cell? ⟨R.c,i*8+3,none⟩=some (.int .u16 (x.cells.getD 3 0)):=own_cellN h.rc (cells8_get _ i x hx 3 (by decide));have g4:w.cell? ⟨R.c,i*8+4,none⟩=some (.int .u16 (x.cells.getD 4 0)):=own_cellN h.rc (cells8_get _ i x hx 4 (by decide));have g5:w.cell? ⟨R.c,i*8+5,none⟩=some (.int .u16 (x.cells.getD 5 0)):=own_cellN h.rc (cells8_get _ i x hx 5 (by decide));have g6:w.cell? ⟨R.c,i*8+6,none⟩=some (.int .u16 (x.cells.getD 6 0)):=own_cellN h.rc (cells8_get _ i x hx 6 (by decide));have g7:w.cell? ⟨R.c,i*8+7,none⟩=some (.int .u16 (x.cells.getD 7 0)):=own_cellN h.rc (cells8_get _ i x hx 7 (by decide));obtain⟨nv,hnv⟩:∃v,R.nv[i]? =some v:=⟨_,List.getElem?_eq_getElem (by rw[h.nlen];exact hil)⟩;obtain⟨bv,hbv⟩:∃v,R.bv[i]? =some v:=⟨_,List.getElem?_eq_getElem (by rw[h.blen];exact hil)⟩;have n0:w.cell? ⟨R.n,i,none⟩=some nv:=own_cellN h.rn hnv;have b0:w.cell? ⟨R.b,i,none⟩=some bv:=own_cellN h.rx hbv;have fp:∀k,w.frozen? ⟨R.p,k,none⟩=false:=own_freeN h.rp;have fc:∀k,w.frozen? ⟨R.c,k,none⟩=false:=own_freeN h.rc;have fn:∀k,w.frozen? ⟨R.n,k,none⟩=false:=own_freeN h.rn;have fb:∀k,w.frozen? ⟨R.b,k,none⟩=false:=own_freeN h.rx;have a1:¬R.rb=R.p:=own_neH h.host h.rp (by decide);have a2:¬R.rb=R.c:=own_neH h.host h.rc (by decide);have a3:¬R.rb=R.n:=own_neH h.host h.rn (by decide);have a4:¬R.rb=R.b:=own_neH h.host h.rx (by decide);have a5:¬R.c=R.p:=own_neN h.rc h.rp (by decide);have a6:¬R.n=R.p:=own_neN h.rn h.rp (by decide);have a7:¬R.n=R.c:=own_neN h.rn h.rc (by decide);have a8:¬R.b=R.p:=own_neN h.rx h.rp (by decide);have a9:¬R.b=R.c:=own_neN h.rx h.rc (by decide);have a10:¬R.b=R.n:=own_neN h.rx h.rn (by decide);have hii:(i:Int)<(H.ts.length:Int):=by omega
 have hi0:(0:Int)≤(i:Int):=by omega
 clear h hx hnv hbv;go_enter Tryz.func49,Tryz.ntmps49;go_wp2;go_end0;exact⟨rfl,HG.out⟩
end
section
variable {w w' : World} {R : RB} {H : Hs} {held : List Int}
theorem RAft.go {w1 w2:World} {H1 H2:Hs} {held1 held2:List Int} (h:RAft w R H1 held1 w1) (k:∀nv bv lv,RefAt w1 {R with nv:=nv,bv:=bv,lv:=lv} H1 held1→RAft w1 {R with nv:=nv,bv:=bv,lv:=lv} H2 held2 w2):RAft w R H2 held2 w2:=by
 obtain⟨nv,bv,lv,r1,k1,o1⟩:=h;exact RAft.trans (H1:=H1) (held1:=held1) k1 o1 (k nv bv lv r1)
theorem RAft.below {w1 w2:World} {H1:Hs} {held1:List Int} (h:RAft w R H1 held1 w1) (hb:Below w1.heap.size w1 w2):RAft w R H1 held1 w2:=h.go fun nv bv lv r=>⟨nv,bv,lv,r.below hb,Kept.of_below hb,fun k q=>Or.inl q⟩
theorem RAft.of_below {w1:World} {H1:Hs} {held1:List Int} {w2:World} (hb:Below w.heap.size w w1) (h:RAft w1 R H1 held1 w2):RAft w R H1 held1 w2:=by
 obtain⟨nv,bv,lv,r1,k1,o1⟩:=h;refine⟨nv,bv,lv,r1,(Kept.of_below (S:=refOwn R) hb).trans k1 (fun k _ q=>q),fun k q=>?_⟩;rcases o1 k q with e|e
 ·exact Or.inl e
 ·exact Or.inr (Nat.le_trans hb.size e)
theorem RAft.drewN (h:RAft w R H held w') (q:Nat):RAft w R H held (w'.drewN q):=h.below ⟨rfl,rfl,rfl,Nat.le_refl _,fun _ _=>rfl⟩
theorem RefAt.own_ty (h:RefAt w R H held) {k:Nat} (hk:refOwn R k) {cs:Array Value} {t:TypeId} (hb:Blk w k cs t):t=52∨t=3∨t=82∨t=28∨t=29∨t=30∨t=78∨t=80∨t=76:=by
 have row:∀{base g n cap size:Nat} {e:TypeId} {xs:List Value},w.ownsRow base e size (.slice (some ⟨g,0,none⟩) n cap) n xs→k=g→t=e:=by
  intro base g n cap size e xs ho hkg;subst hkg;obtain⟨c,q⟩:=own_cur ho;by_cases e1:t=e
  ·exact e1
  ·exact absurd rfl (hb.ne q e1)
 rcases hk with e|e|e|e|e|e|e|e|⟨v,hv,e⟩|⟨v,hv,e⟩|⟨v,hv,e⟩
 ·subst e;by_cases e1:t=52
  ·exact Or.inl e1
  ·exact absurd rfl (hb.ne h.host e1)
 ·exact Or.inr (Or.inl (row h.rp e))
 ·exact Or.inr (Or.inr (Or.inl (row h.rc e)))
 ·exact Or.inr (Or.inr (Or.inr (Or.inl (row h.rn e))))
 ·exact Or.inr (Or.inr (Or.inr (Or.inr (Or.inl (row h.rx e)))))
 ·exact Or.inr (Or.inr (Or.inr (Or.inr (Or.inr (Or.inl (row h.rl e))))))
 ·exact Or.inr (Or.inl (row h.ru e))
 ·exact Or.inr (Or.inl (row h.rh e))
 ·obtain⟨i,hi⟩:=List.mem_iff_getElem?.1 hv;have hil:i<H.ts.length:=by rw[←h.blen];exact(List.getElem?_eq_some_iff.1 hi).1
  obtain⟨c,q⟩:=own_blk (h.box i _ v (List.getElem?_eq_getElem hil) hi) e.symm;by_cases e1:t=78
  ·exact Or.inr (Or.inr (Or.inr (Or.inr (Or.inr (Or.inr (Or.inl e1))))))
  ·exact absurd rfl (hb.ne q e1)
 ·obtain⟨i,hi⟩:=List.mem_iff_getElem?.1 hv;have hil:i<H.ts.length:=by rw[←h.llen];exact(List.getElem?_eq_some_iff.1 hi).1
  obtain⟨c,q⟩:=own_blk (h.log i _ v (List.getElem?_eq_getElem hil) hi) e.symm;by_cases e1:t=80
  ·exact Or.inr (Or.inr (Or.inr (Or.inr (Or.inr (Or.inr (Or.inr (Or.inl e1)))))))
  ·exact absurd rfl (hb.ne q e1)
 ·obtain⟨i,hi⟩:=List.mem_iff_getElem?.1 hv;have hil:i<H.ts.length:=by rw[←h.nlen];exact(List.getElem?_eq_some_iff.1 hi).1
  obtain⟨c,q⟩:=own_blk (h.nodes i _ v (List.getElem?_eq_getElem hil) hi) e.symm;by_cases e1:t=76
  ·exact Or.inr (Or.inr (Or.inr (Or.inr (Or.inr (Or.inr (Or.inr (Or.inr e1)))))))
  ·exact absurd rfl (hb.ne q e1)
abbrev apartTy (t:TypeId):Prop:=t≠52∧t≠3∧t≠82∧t≠28∧t≠29∧t≠30∧t≠78∧t≠80∧t≠76
theorem RefAt.keep_blk (h:RefAt w R H held) (hk:Kept (refOwn R) w w') {b:Nat} {cs:Array Value} {t:TypeId} (hb:Blk w b cs t) (ht:apartTy t):Blk w' b cs t:=by
 refine hb.of_block (hk.block b hb.lt fun q=>?_);obtain⟨a1,a2,a3,a4,a5,a6,a7,a8,a9⟩:=ht;rcases h.own_ty q hb with e|e|e|e|e|e|e|e|e
 ·exact a1 e
 ·exact a2 e
 ·exact a3 e
 ·exact a4 e
 ·exact a5 e
 ·exact a6 e
 ·exact a7 e
 ·exact a8 e
 ·exact a9 e
theorem RefAt.keep_own (h:RefAt w R H held) (hk:Kept (refOwn R) w w') {base:Nat} {t:TypeId} {size:Nat} {v:Value} {n:Nat} {xs:List Value} (ho:w.ownsRow base t size v n xs) (ht:apartTy t):w'.ownsRow base t size v n xs:=by
 refine own_block ho fun k hk'=>?_;obtain⟨cur,q⟩:=own_blk ho hk';have q':=h.keep_blk hk q ht;exact q'.trans q.symm
theorem RAft.keep_blk {H1:Hs} {held1:List Int} (h0:RefAt w R H held) (h:RAft w R H1 held1 w') {b:Nat} {cs:Array Value} {t:TypeId} (hb:Blk w b cs t) (ht:apartTy t):Blk w' b cs t:=by
 obtain⟨nv,bv,lv,r1,k1,o1⟩:=h;exact h0.keep_blk k1 hb ht
theorem mfCells_get:∀(l:List Mf) (i:Nat) (m:Mf),l[i]? =some m→∀j,j<7→(mfCells l)[i*7+j]? =m.arr[j]?
 |[],i,x,h=>by simp at h
 |y::r,0,x,h=>by
  intro j hj;simp at h;subst h;have e:mfCells (y::r)=y.arr.toList++mfCells r:=rfl;rw[e,List.getElem?_append_left (by simp[Mf.arr];omega)];simp
 |y::r,i+1,x,h=>by intro j hj;have ih:=mfCells_get r i x (by simpa using h) j hj;have e:mfCells (y::r)=y.arr.toList++mfCells r:=rfl;have hl:y.arr.toList.length=7:=rfl;rw[e,List.getElem?_append_right (by rw[hl];omega),hl,show(i+1)*7+j-7=i*7+j by omega];exact ih
theorem RefAt.mf (h:RefAt w R H held) {i:Nat} {x:Tn} (hx:H.ts[i]? =some x) (j:Nat) (hj:j<7):w.cell? ⟨R.m,i*7+j,none⟩=x.mf.arr[j]? :=by
 have e:(H.ts.map Tn.mf)[i]? =some x.mf:=by rw[List.getElem?_map,hx];rfl
 have q:=mfCells_get _ i _ e j hj;obtain⟨v,hv⟩:∃v,x.mf.arr[j]? =some v:=by have:x.mf.arr.size=7:=rfl;exact⟨_,Array.getElem?_eq_getElem (by omega)⟩
 rw[hv] at q ⊢;exact own_cellN h.rm q
end
section
variable {w w1 : World} {R : RB} {H : Hs} {held : List Int} {i : Nat} {x : Tn}
theorem own_ge {base n size k:Nat} {e:TypeId} {v:Value} {xs:List Value} (h:w.ownsRow base e size v n xs) (hk:v.ownBlock=some k):base≤k:=by
 obtain⟨_,h2⟩:=h;rcases h2 with ⟨hv,_⟩|⟨g,cap,cur,hv,hb,_⟩
 ·rw[hv] at hk;simp[Value.ownBlock] at hk
 ·rw[hv] at hk;simp[Value.ownBlock] at hk;omega
theorem RefAt.lay_box (h:RefAt w R H held) (hx:H.ts[i]? =some x) {rv:Value} {l:List Ev} (hb:Below w.heap.size w w1) (ho:w1.ownsRow w.heap.size 78 4 rv l.length (evCells l)): RAft w R {H with ts:=H.ts.set i {x with box:=l}} held (w1.setCell ⟨R.b,i,none⟩ rv):=by
 have hn:∀k,rv.ownBlock=some k→w.heap.size≤k:=fun k hk=>own_ge ho hk;refine⟨R.nv,R.bv.set i rv,R.lv,(h.below hb).set_box hx (own_weak ho (Nat.zero_le _)) (fun k hk j u hj hu hk2=>?_),(Kept.of_below hb).setCell _ _ (Or.inl (Or.inr (Or.inr (Or.inr (Or.inr (Or.inl rfl)))))),fun k hk=>?_⟩
 ·have hjl:j<H.ts.length:=by rw[←h.blen];exact(List.getElem?_eq_some_iff.1 hu).1
  obtain⟨c,q⟩:=own_blk (h.box j _ u (List.getElem?_eq_getElem hjl) hu) hk2;have:=q.lt;have:=hn k hk;omega
 ·exact refOwn_box (R:=R) (i:=i) (v:=rv) (B:=w.heap.size) (fun k hk=>Or.inr (hn k hk)) k hk
theorem RefAt.lay_nodes (h:RefAt w R H held) (hx:H.ts[i]? =some x) {rv:Value} {l:List Tr.T.Nd} (hb:Below w.heap.size w w1) (ho:w1.ownsRow w.heap.size 76 3 rv l.length (Tr.ndCells l)): RAft w R {H with ts:=H.ts.set i {x with nodes:=l}} held (w1.setCell ⟨R.n,i,none⟩ rv):=⟨R.nv.set i rv,R.bv,R.lv,(h.below hb).set_nodes hx (own_weak ho (Nat.zero_le _)),(Kept.of_below hb).setCell _ _ (Or.inl (Or.inr (Or.inr (Or.inr (Or.inl rfl))))),refOwn_nodes (R:=R) (i:=i) (v:=rv) (B:=w.heap.size) (fun k hk=>own_ge ho hk)⟩
theorem RefAt.lay_phase (h:RefAt w R H held) (hx:H.ts[i]? =some x) (p:Int):RAft w R {H with ts:=H.ts.set i {x with phase:=p}} held (w.setCell ⟨R.p,i,none⟩ (.int .i64 p)):=⟨R.nv,R.bv,R.lv,h.set_phase hx p,set_kept w R.p i _ (Or.inr (Or.inl rfl)),fun k hk=>Or.inl hk⟩
theorem RefAt.lay_now (h:RefAt w R H held) (q:Int):RAft w R {H with frames:=q} held (w.setCell ⟨R.rb,2,none⟩ (.int .i64 q)):=⟨R.nv,R.bv,R.lv,h.set_now q,set_kept w R.rb 2 _ (Or.inl rfl),fun k hk=>Or.inl hk⟩
theorem RefAt.lay_until (h:RefAt w R H held) (hx:H.ts[i]? =some x) (u:Int):RAft w R {H with ts:=H.ts.set i {x with until_:=u}} held (w.setCell ⟨R.u,i,none⟩ (.int .i64 u)):=⟨R.nv,R.bv,R.lv,h.set_until hx u,set_kept w R.u i _ (Or.inr (Or.inr (Or.inr (Or.inr (Or.inr (Or.inr (Or.inl rfl))))))),fun k hk=>Or.inl hk⟩
theorem RefAt.lay_dbl (h:RefAt w R H held) (hx:H.ts[i]? =some x) (q d:Int) (hq0:0≤q) (hd:d=if q<4 then q else 4): RAft w R {H with ts:=H.ts.set i {x with dbl:=d}} (held.set i q) (w.setCell ⟨R.h,i,none⟩ (.int .i64 q)):=⟨R.nv,R.bv,R.lv,h.set_held hx q d hq0 hd,set_kept w R.h i _ (Or.inr (Or.inr (Or.inr (Or.inr (Or.inr (Or.inr (Or.inr (Or.inl rfl)))))))),fun k hk=>Or.inl hk⟩
theorem RefAt.lay_cells (h:RefAt w R H held) (hx:H.ts[i]? =some x) (a0 a1 a2 a3 a4 a5 a6 a7:Int):RAft w R {H with ts:=H.ts.set i {x with cells:=[a0,a1,a2,a3,a4,a5,a6,a7]}} held ((((((((w.setCell ⟨R.c,i*8,none⟩ (.int .u16 a0)).setCell ⟨R.c,i*8+1,none⟩ (.int .u16 a1)).setCell ⟨R.c,i*8+2,none⟩ (.int .u16 a2)).setCell ⟨R.c,i*8+3,none⟩ (.int .u16 a3)).setCell ⟨R.c,i*8+4,none⟩ (.int .u16 a4)).setCell ⟨R.c,i*8+5,none⟩ (.int .u16 a5)).setCell ⟨R.c,i*8+6,none⟩ (.int .u16 a6)).setCell ⟨R.c,i*8+7,none⟩ (.int .u16 a7)):=by
 have hc:refOwn R R.c:=Or.inr (Or.inr (Or.inl rfl));exact⟨R.nv,R.bv,R.lv,h.set_cells hx a0 a1 a2 a3 a4 a5 a6 a7,((((((((Kept.refl (refOwn R) w).setCell _ _ (Or.inl hc)).setCell _ _ (Or.inl hc)).setCell _ _ (Or.inl hc)).setCell _ _ (Or.inl hc)).setCell _ _ (Or.inl hc)).setCell _ _ (Or.inl hc)).setCell _ _ (Or.inl hc)).setCell _ _ (Or.inl hc),fun k hk=>Or.inl hk⟩
def refAll (R:RB) (k:Nat):Prop:=refOwn R k∨k=R.m∨∃v∈R.nv,some k=v.ownBlock
theorem RefAt.keep (h:RefAt w R H held) (hk:∀k,refAll R k→w1.heap[k]? =w.heap[k]?):RefAt w1 R H held:=by
 have row:∀{g n cap size:Nat} {e:TypeId} {xs:List Value},w.ownsRow 0 e size (.slice (some ⟨g,0,none⟩) n cap) n xs→refAll R g→w1.ownsRow 0 e size (.slice (some ⟨g,0,none⟩) n cap) n xs:=by
  intro g n cap size e xs ho hg;refine own_block ho fun k hk'=>?_;obtain rfl:g=k:=by simpa[Value.ownBlock] using hk'
  exact hk _ hg
 refine⟨h.host.of_block (hk _ (Or.inl (Or.inl rfl))),row h.rm (Or.inr (Or.inl rfl)),row h.rp (Or.inl (Or.inr (Or.inl rfl))),row h.rc (Or.inl (Or.inr (Or.inr (Or.inl rfl)))),row h.rn (Or.inl (Or.inr (Or.inr (Or.inr (Or.inl rfl))))),row h.rx (Or.inl (Or.inr (Or.inr (Or.inr (Or.inr (Or.inl rfl)))))),row h.rl (Or.inl (Or.inr (Or.inr (Or.inr (Or.inr (Or.inr (Or.inl rfl))))))),row h.ru (Or.inl (Or.inr (Or.inr (Or.inr (Or.inr (Or.inr (Or.inr (Or.inl rfl)))))))),row h.rh (Or.inl (Or.inr (Or.inr (Or.inr (Or.inr (Or.inr (Or.inr (Or.inr (Or.inl rfl))))))))),h.pu,h.ph,h.uh,?_,?_,?_,h.boxes,h.logs,h.held⟩
 ·exact fun i x v a b=>own_block (h.nodes i x v a b) fun k hk'=>hk k (Or.inr (Or.inr ⟨v,List.mem_of_getElem? b,hk'.symm⟩))
 ·exact fun i x v a b=>own_block (h.box i x v a b) fun k hk'=>hk k (Or.inl (refOwn_bv b hk'))
 ·exact fun i x v a b=>own_block (h.log i x v a b) fun k hk'=>hk k (Or.inl (refOwn_lv b hk'))
abbrev inTy (t:TypeId):Prop:=t=52∨t=3∨t=82∨t=28∨t=29∨t=30∨t=78∨t=80∨t=37∨t=76
theorem RefAt.all_ty (h:RefAt w R H held) {k:Nat} (hk:refAll R k):∃cs t,Blk w k cs t∧inTy t:=by
 have row:∀{base g n cap size:Nat} {e:TypeId} {xs:List Value},w.ownsRow base e size (.slice (some ⟨g,0,none⟩) n cap) n xs→k=g→inTy e→∃cs t,Blk w k cs t∧inTy t:=by intro base g n cap size e xs ho hkg he;subst hkg;obtain⟨c,q⟩:=own_cur ho;exact⟨c,e,q,he⟩
 have at_:∀{l:List Value} {v:Value},v∈l→l.length=H.ts.length→∃(i:Nat) (y:Tn),H.ts[i]? =some y∧l[i]? =some v:=by intro l v hv hl;obtain⟨i,hi⟩:=List.mem_iff_getElem?.1 hv;exact⟨i,_,List.getElem?_eq_getElem (by rw[←hl];exact(List.getElem?_eq_some_iff.1 hi).1),hi⟩
 rcases hk with (e|e|e|e|e|e|e|e|⟨v,hv,e⟩|⟨v,hv,e⟩|⟨v,hv,e⟩)|e|⟨v,hv,e⟩
 ·subst e;exact⟨_,_,h.host,by decide⟩
 ·exact row h.rp e (by decide)
 ·exact row h.rc e (by decide)
 ·exact row h.rn e (by decide)
 ·exact row h.rx e (by decide)
 ·exact row h.rl e (by decide)
 ·exact row h.ru e (by decide)
 ·exact row h.rh e (by decide)
 ·obtain⟨i,y,hy,hi⟩:=at_ hv h.blen;obtain⟨c,q⟩:=own_blk (h.box i y v hy hi) e.symm;exact⟨_,_,q,by decide⟩
 ·obtain⟨i,y,hy,hi⟩:=at_ hv h.llen;obtain⟨c,q⟩:=own_blk (h.log i y v hy hi) e.symm;exact⟨_,_,q,by decide⟩
 ·obtain⟨i,y,hy,hi⟩:=at_ hv h.nlen;obtain⟨c,q⟩:=own_blk (h.nodes i y v hy hi) e.symm;exact⟨_,_,q,by decide⟩
 ·exact row h.rm e (by decide)
 ·obtain⟨i,y,hy,hi⟩:=at_ hv h.nlen;obtain⟨c,q⟩:=own_blk (h.nodes i y v hy hi) e.symm;exact⟨_,_,q,by decide⟩
theorem RefAt.all_lt (h:RefAt w R H held) {k:Nat} (hk:refAll R k):k<w.heap.size:=by
 obtain⟨_,_,q,_⟩:=h.all_ty hk;exact q.lt
theorem RAft.grown {w2:World} {H1:Hs} {held1:List Int} (h:RAft w R H1 held1 w1) {base:Nat} {t:TypeId} {size:Nat} {v:Value} {n:Nat} {xs:List Value} (ho:w1.ownsRow base t size v n xs) (hb:w.heap.size≤base) (hg:w1.grownBy w2 v.ownBlock) (ht:¬inTy t):RAft w R H1 held1 w2:=by
 obtain⟨nv,bv,lv,r1,k1,o1⟩:=h;refine⟨nv,bv,lv,r1.keep fun k hk=>?_,k1.grown hg (fun k hk=>Or.inr (Nat.le_trans hb (own_ge ho hk))),o1⟩;obtain⟨c,t',q,h'⟩:=r1.all_ty hk;refine hg.block k q.lt fun e=>?_;obtain⟨c2,q2⟩:=own_blk ho e.symm;exact q.ne q2 (fun e'=>ht (e'▸h')) rfl
theorem RAft.keep_new {W:World} {H1:Hs} {held1:List Int} (h0:RefAt w R H held) (h:RAft W R H1 held1 w1) {b:Nat} {cs:Array Value} {t:TypeId} (hb:Blk W b cs t) (hw:w.heap.size≤b):Blk w1 b cs t:=by
 obtain⟨nv,bv,lv,r1,k1,o1⟩:=h;refine hb.of_block (k1.block b hb.lt fun q=>?_);have:=h0.all_lt (Or.inl q);omega
theorem RAft.keep_own {W:World} {H1:Hs} {held1:List Int} (h0:RefAt w R H held) (h:RAft W R H1 held1 w1) {base:Nat} {t:TypeId} {size:Nat} {v:Value} {n:Nat} {xs:List Value} (ho:W.ownsRow base t size v n xs) (hw:w.heap.size≤base):w1.ownsRow base t size v n xs:=by
 refine own_block ho fun k hk'=>?_;obtain⟨cur,q⟩:=own_blk ho hk';exact(h.keep_new h0 q (Nat.le_trans hw (own_ge ho hk'))).trans q.symm
def RC (w:World) (R:RB) (n:Nat):Prop:=w.cell? ⟨R.rb,0,none⟩=some (.slice (some ⟨R.m,0,none⟩) n R.mc)∧w.cell? ⟨R.rb,3,none⟩=some (.slice (some ⟨R.p,0,none⟩) n R.pc)∧w.cell? ⟨R.rb,4,none⟩=some (.slice (some ⟨R.c,0,none⟩) n R.cc)∧w.cell? ⟨R.rb,5,none⟩=some (.slice (some ⟨R.n,0,none⟩) n R.nc)∧w.cell? ⟨R.rb,6,none⟩=some (.slice (some ⟨R.b,0,none⟩) n R.bc)∧w.cell? ⟨R.rb,8,none⟩=some (.slice (some ⟨R.u,0,none⟩) n R.uc)∧w.cell? ⟨R.rb,9,none⟩=some (.slice (some ⟨R.h,0,none⟩) n R.hc)
theorem RefAt.cells (h:RefAt w R H held) {n:Nat} (hn:H.ts.length=n):RC w R n:=by
 subst hn;refine⟨?_,?_,?_,?_,?_,?_,?_⟩;all_goals (rw[h.host.cell];rfl)
end
end Go.Proofs.YtidaflmmldefcaaGreat
