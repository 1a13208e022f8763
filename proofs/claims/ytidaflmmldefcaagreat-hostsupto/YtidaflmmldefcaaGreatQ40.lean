/- Parts of the proof of Hosts: WlL. -/
import Derived.Test.YtidaflmmldefcaaGreatQ22
import Derived.Test.YtidaflmmldefcaaGreatQ10
import Derived.Test.YtidaflmmldefcaaGreatQ39
import Derived.Deep.CutRange
set_option maxHeartbeats 16000000
namespace Go.Proofs.YtidaflmmldefcaaGreat
open Go.RowKit
set_option linter.unusedVariables false
theorem Kn.noT {w:World} {tn t:TypeId} {size:Nat} {mk:Int→List Value} {v cv wv:Value} {E:List Value} {n:Nat} {xs:List Value} (h:Kn w tn t size mk v E cv wv n xs) {b:Nat} {cs:Array Value} {t0:TypeId} (hB:Blk w b cs t0) (h1:tn≠t0) (h2:t≠t0):¬knAll v E cv wv b:=by
 intro hk;rcases hk with e|⟨u,hu,hp,e⟩|e|e
 ·obtain⟨c,q⟩:=own_blk h.row e;exact q.ne hB h1 rfl
 ·obtain⟨i,hi⟩:=List.mem_iff_getElem?.1 hu;obtain⟨m,_,ao,cap,rfl,q⟩:=h.marks i u hi;by_cases h0:m=0
  ·subst h0;exact absurd rfl (hp ao cap)
  ·obtain⟨g,cur,rfl,hb,_⟩:=q.resolve_left h0;obtain rfl:g=b:=by simpa[Value.ownBlock] using e
   exact hb.ne hB h2 rfl
 ·obtain⟨c,q⟩:=own_blk h.came e;exact q.ne hB h2 rfl
 ·obtain⟨c,q⟩:=own_blk h.was e;exact q.ne hB h2 rfl
theorem Books.noT {w:World} {B:Nat} {dv:Value} {K1 K2 K3:KV} {l1:List Tr.T.Nd} {l2:List Ev} {l3:List En} (h:Books w B dv K1 K2 K3 l1 l2 l3) {b:Nat} {cs:Array Value} {t0:TypeId} (hB:Blk w b cs t0) (ht:t0≠34∧t0≠28∧t0≠76∧t0≠29∧t0≠78∧t0≠30∧t0≠80):¬bkAll B K1 K2 K3 b:=by
 rintro(e|e|e|e)
 ·subst e;exact hB.ne h.blk ht.1 rfl
 ·exact h.n1.noT hB ht.2.1.symm ht.2.2.1.symm e
 ·exact h.n2.noT hB ht.2.2.2.1.symm ht.2.2.2.2.1.symm e
 ·exact h.n3.noT hB ht.2.2.2.2.2.1.symm ht.2.2.2.2.2.2.symm e
def Hs.at (H:Hs) (t:Int):Option Tn:=if 0≤t∧t<(H.ts.length:Int) then H.ts[t.toNat]? else none
theorem Hs.at_yes {H:Hs} {t:Int} (h:0≤t∧t<(H.ts.length:Int)):∃(i:Nat) (x:Tn),(i:Int)=t∧H.ts[i]? =some x∧H.at t=some x:=by
 refine⟨t.toNat,H.ts[t.toNat]'(by omega),by omega,List.getElem?_eq_getElem (by omega),?_⟩;unfold Hs.at;rw[if_pos h];exact List.getElem?_eq_getElem (by omega)
theorem Hs.at_no {H:Hs} {t:Int} (h:¬(0≤t∧t<(H.ts.length:Int))):H.at t=none:=by
 unfold Hs.at;rw[if_neg h]
def Hs.treeOf (H:Hs) (t:Int):List Tr.T.Nd:=match H.at t with|some x=>x.nodes|none=>[]
theorem tree_len {w:World} {D:Dk} (h:DkAt w D) (t:Int):(D.H.treeOf t).length≤100000:=by
 unfold Hs.treeOf;by_cases ht:0≤t∧t<(D.H.ts.length:Int)
 ·obtain⟨i,x,rfl,hx,e⟩:=Hs.at_yes ht;rw[e];have hx2:=h.inv.ten i x hx;exact Nat.le_trans hx2.nlen (by decide)
 ·rw[Hs.at_no ht];exact Nat.zero_le _
theorem tree_both {w:World} {D:Dk} (h:DkAt w D) (t:Int):Calls Tryz.prog 19 #[.pointer (some ⟨D.hb,0,none⟩),.int .i64 t] w fun e w'=>∃ro rc,e= .returned (.slice ro (D.H.treeOf t).length rc)∧w'.ownsRow w.heap.size 76 3 (.slice ro (D.H.treeOf t).length rc) (D.H.treeOf t).length (Tr.ndCells (D.H.treeOf t))∧Below w.heap.size w w':=by
 by_cases ht:0≤t∧t<(D.H.ts.length:Int)
 ·have hlen:=tree_len h t;obtain⟨i,x,rfl,hx,e⟩:=Hs.at_yes ht;have el:D.H.treeOf (i:Int)=x.nodes:=by unfold Hs.treeOf;rw[e]
  rw[el] at hlen ⊢;refine(htree_any h.host i hx (by have:=h.n4;omega) hlen).mono ?_;rintro e w' ⟨rv,rfl,ho,hb⟩;obtain⟨ro,rc,rfl⟩:=own_is ho;exact⟨ro,rc,rfl,ho,hb⟩
 ·have el:D.H.treeOf t=[]:=by unfold Hs.treeOf;rw[Hs.at_no ht]
  rw[el];refine(htree_no h.host ht).mono ?_;rintro e w' ⟨rfl,rfl⟩;exact⟨none,0,rfl,World.ownsRow_nil _ _ _ _,Below.refl _ _⟩
theorem WSt.keepN {w0 w:World} {B:Nat} {dv:Value} {Ds:List Dk} {K1 K2 K3:KV} {l1:List Tr.T.Nd} {l2:List Ev} {l3:List En} (h:WSt w0 w B dv Ds K1 K2 K3 l1 l2 l3) {lv:Value} {ll:List Tr.T.Nd} (hc:w.ownsRow 0 76 3 lv ll.length (Tr.ndCells ll)) (hll:ll.length≤100000) (hf:∀k,lv.ownBlock=some k→Free w0 B dv Ds K1 K2 K3 k) (he:K1.E.length≤100000000): Calls Tryz.prog 21 #[.pointer (some ⟨B,1,none⟩),lv] w fun e w'=>e= .returned (.tuple #[])∧∃K1',WSt w0 w' B dv Ds K1' K2 K3 ll l2 l3∧K1'.E.length=K1.E.length+4∧(∀k,k<w.heap.size→¬bkAll B K1 K2 K3 k→w'.heap[k]? =w.heap[k]?)∧∀k,bkAll B K1' K2 K3 k→bkAll B K1 K2 K3 k∨lv.ownBlock=some k∨w.heap.size≤k:=by
 refine(keepN_any h.books hc hll (fun k hk q=>(hf k hk).2.2.2 (Or.inr (Or.inl q))) he).mono ?_;rintro e w' ⟨rfl,v',E',uv,b1,b2,b3,b4⟩;refine⟨rfl,_,h.book b1 b3 (fun k q=>?_),b2,fun k hl hn=>b3.block k hl hn,b4⟩;rcases b4 k q with e|e|e
 ·exact Or.inl e
 ·exact Or.inr (hf k e)
 ·exact Or.inr (h.free e)
def Hs.boxOf (H:Hs) (t:Int):List Ev:=match H.at t with|some x=>x.box|none=>[]
theorem box_len {w:World} {D:Dk} (h:DkAt w D) (t:Int):(D.H.boxOf t).length≤100000:=by
 unfold Hs.boxOf;by_cases ht:0≤t∧t<(D.H.ts.length:Int)
 ·obtain⟨i,x,rfl,hx,e⟩:=Hs.at_yes ht;rw[e];have hx2:=h.inv.ten i x hx;exact Nat.le_trans (hx2.blen h.len.2) (by decide)
 ·rw[Hs.at_no ht];exact Nat.zero_le _
theorem box_both {w:World} {D:Dk} (h:DkAt w D) (t:Int):Calls Tryz.prog 22 #[.pointer (some ⟨D.hb,0,none⟩),.int .i64 t] w fun e w'=>∃ro rc,e= .returned (.slice ro (D.H.boxOf t).length rc)∧w'.ownsRow w.heap.size 78 4 (.slice ro (D.H.boxOf t).length rc) (D.H.boxOf t).length (evCells (D.H.boxOf t))∧Below w.heap.size w w':=by
 by_cases ht:0≤t∧t<(D.H.ts.length:Int)
 ·have hlen:=box_len h t;obtain⟨i,x,rfl,hx,e⟩:=Hs.at_yes ht;have el:D.H.boxOf (i:Int)=x.box:=by unfold Hs.boxOf;rw[e]
  rw[el] at hlen ⊢;refine(hbox_any h.host i hx (by have:=h.n4;omega) hlen).mono ?_;rintro e w' ⟨rv,rfl,ho,hb⟩;obtain⟨ro,rc,rfl⟩:=own_is ho;exact⟨ro,rc,rfl,ho,hb⟩
 ·have el:D.H.boxOf t=[]:=by unfold Hs.boxOf;rw[Hs.at_no ht]
  rw[el];refine(hbox_no h.host ht).mono ?_;rintro e w' ⟨rfl,rfl⟩;exact⟨none,0,rfl,World.ownsRow_nil _ _ _ _,Below.refl _ _⟩
theorem WSt.keepEv {w0 w:World} {B:Nat} {dv:Value} {Ds:List Dk} {K1 K2 K3:KV} {l1:List Tr.T.Nd} {l2:List Ev} {l3:List En} (h:WSt w0 w B dv Ds K1 K2 K3 l1 l2 l3) {lv:Value} {ll:List Ev} (hc:w.ownsRow 0 78 4 lv ll.length (evCells ll)) (hll:ll.length≤100000) (hf:∀k,lv.ownBlock=some k→Free w0 B dv Ds K1 K2 K3 k) (he:K2.E.length≤100000000): Calls Tryz.prog 24 #[.pointer (some ⟨B,1,none⟩),lv] w fun e w'=>e= .returned (.tuple #[])∧∃K2',WSt w0 w' B dv Ds K1 K2' K3 l1 ll l3∧K2'.E.length=K2.E.length+4∧(∀k,k<w.heap.size→¬bkAll B K1 K2 K3 k→w'.heap[k]? =w.heap[k]?)∧∀k,bkAll B K1 K2' K3 k→bkAll B K1 K2 K3 k∨lv.ownBlock=some k∨w.heap.size≤k:=by
 refine(keepEv_any h.books hc hll (fun k hk q=>(hf k hk).2.2.2 (Or.inr (Or.inr (Or.inl q)))) he).mono ?_;rintro e w' ⟨rfl,v',E',uv,b1,b2,b3,b4⟩;refine⟨rfl,_,h.book b1 b3 (fun k q=>?_),b2,fun k hl hn=>b3.block k hl hn,b4⟩;rcases b4 k q with e|e|e
 ·exact Or.inl e
 ·exact Or.inr (hf k e)
 ·exact Or.inr (h.free e)
def Hs.logOf (H:Hs) (t:Int):List En:=match H.at t with|some x=>x.log|none=>[]
theorem log_len {w:World} {D:Dk} (h:DkAt w D) (t:Int):(D.H.logOf t).length≤100000:=by
 unfold Hs.logOf;by_cases ht:0≤t∧t<(D.H.ts.length:Int)
 ·obtain⟨i,x,rfl,hx,e⟩:=Hs.at_yes ht;rw[e];have hx2:=h.inv.ten i x hx;exact Nat.le_trans hx2.llen (by have:=h.inv.frames;omega)
 ·rw[Hs.at_no ht];exact Nat.zero_le _
theorem log_both {w:World} {D:Dk} (h:DkAt w D) (t:Int):Calls Tryz.prog 25 #[.pointer (some ⟨D.hb,0,none⟩),.int .i64 t] w fun e w'=>∃ro rc,e= .returned (.slice ro (D.H.logOf t).length rc)∧w'.ownsRow w.heap.size 80 4 (.slice ro (D.H.logOf t).length rc) (D.H.logOf t).length (enCells (D.H.logOf t))∧Below w.heap.size w w':=by
 by_cases ht:0≤t∧t<(D.H.ts.length:Int)
 ·have hlen:=log_len h t;obtain⟨i,x,rfl,hx,e⟩:=Hs.at_yes ht;have el:D.H.logOf (i:Int)=x.log:=by unfold Hs.logOf;rw[e]
  rw[el] at hlen ⊢;refine(hlog_any h.host i hx (by have:=h.n4;omega) hlen).mono ?_;rintro e w' ⟨rv,rfl,ho,hb⟩;obtain⟨ro,rc,rfl⟩:=own_is ho;exact⟨ro,rc,rfl,ho,hb⟩
 ·have el:D.H.logOf t=[]:=by unfold Hs.logOf;rw[Hs.at_no ht]
  rw[el];refine(hlog_no h.host ht).mono ?_;rintro e w' ⟨rfl,rfl⟩;exact⟨none,0,rfl,World.ownsRow_nil _ _ _ _,Below.refl _ _⟩
theorem WSt.keepEn {w0 w:World} {B:Nat} {dv:Value} {Ds:List Dk} {K1 K2 K3:KV} {l1:List Tr.T.Nd} {l2:List Ev} {l3:List En} (h:WSt w0 w B dv Ds K1 K2 K3 l1 l2 l3) {lv:Value} {ll:List En} (hc:w.ownsRow 0 80 4 lv ll.length (enCells ll)) (hll:ll.length≤100000) (hf:∀k,lv.ownBlock=some k→Free w0 B dv Ds K1 K2 K3 k) (he:K3.E.length≤100000000): Calls Tryz.prog 27 #[.pointer (some ⟨B,1,none⟩),lv] w fun e w'=>e= .returned (.tuple #[])∧∃K3',WSt w0 w' B dv Ds K1 K2 K3' l1 l2 ll∧K3'.E.length=K3.E.length+4∧(∀k,k<w.heap.size→¬bkAll B K1 K2 K3 k→w'.heap[k]? =w.heap[k]?)∧∀k,bkAll B K1 K2 K3' k→bkAll B K1 K2 K3 k∨lv.ownBlock=some k∨w.heap.size≤k:=by
 refine(keepEn_any h.books hc hll (fun k hk q=>(hf k hk).2.2.2 (Or.inr (Or.inr (Or.inr q)))) he).mono ?_;rintro e w' ⟨rfl,v',E',uv,b1,b2,b3,b4⟩;refine⟨rfl,_,h.book b1 b3 (fun k q=>?_),b2,fun k hl hn=>b3.block k hl hn,b4⟩;rcases b4 k q with e|e|e
 ·exact Or.inl e
 ·exact Or.inr (hf k e)
 ·exact Or.inr (h.free e)
set_option maxRecDepth 100000 in
theorem lists_any {w0 w:World} {B:Nat} {Ds:List Dk} {e i:Nat} {D:Dk} (h:WS w0 w B Ds e) (hi:Ds[i]? =some D) (he:e+8≤90000000) (kind t:Int): Calls Tryz.prog 6 #[.pointer (some ⟨B,0,none⟩),.agg #[.pointer (some ⟨D.hb,0,none⟩),.pointer (some ⟨D.R.rb,0,none⟩)],.int .i64 kind,.int .i64 t] w fun r w'=>r= .returned (.bool true)∧WS w0 w' B Ds (e+8)∧∀b cs,Blk w b cs 47→Blk w' b cs 47:=by
 have HD0:=hid_in (h.dk hi);have HW0:Hid (WS w0 w B Ds e):=h;have HI:Hid (Ds[i]? =some D):=hi;obtain⟨L1,hL1⟩:∃L,L=D.H.treeOf t:=⟨_,rfl⟩;obtain⟨L2,hL2⟩:∃L,L=D.H.boxOf t:=⟨_,rfl⟩;obtain⟨L3,hL3⟩:∃L,L=D.H.logOf t:=⟨_,rfl⟩;obtain⟨n1,hn1⟩:∃n,n=L1.length:=⟨_,rfl⟩;obtain⟨n2,hn2⟩:∃n,n=L2.length:=⟨_,rfl⟩;obtain⟨n3,hn3⟩:∃n,n=L3.length:=⟨_,rfl⟩;have HN:Hid (L1.length=n1∧L2.length=n2∧L3.length=n3):=⟨hn1.symm,hn2.symm,hn3.symm⟩;have hl1:n1≤100000:=by rw[hn1,hL1];exact tree_len HD0.out t
 have hl2:n2≤100000:=by rw[hn2,hL2];exact box_len HD0.out t
 have hl3:n3≤100000:=by rw[hn3,hL3];exact log_len HD0.out t
 obtain⟨W,hW⟩:∃W,W=w.alloc (.cells #[.pointer (some ⟨D.hb,0,none⟩),.pointer (some ⟨D.R.rb,0,none⟩)] 47):=⟨_,rfl⟩;have hbW:Below w.heap.size w W:=by rw[hW];exact(Below.refl _ _).alloc (Nat.le_refl _) _
 have HWW:Hid (WS w0 W B Ds e):=h.below hbW;have HAW:Hid (∀b cs,Blk w b cs 47→Blk W b cs 47):=fun b cs hb=>hb.below hbW hb.lt;have HDW:=hid_in (HD0.out.below hbW);have HEW:Hid (Blk W w.heap.size #[.pointer (some ⟨D.hb,0,none⟩),.pointer (some ⟨D.R.rb,0,none⟩)] 47):=by unfold Hid;rw[hW];exact Blk.new w _ 47
 have e0:W.cell? ⟨w.heap.size,0,none⟩=some (.pointer (some ⟨D.hb,0,none⟩)):=by rw[HEW.out.cell 0];rfl
 have e1:W.cell? ⟨w.heap.size,1,none⟩=some (.pointer (some ⟨D.R.rb,0,none⟩)):=by rw[HEW.out.cell 1];rfl
 obtain⟨kn,hkn⟩:∃kn,kn=decide (0≤t∧t<(D.H.ts.length:Int)):=⟨_,rfl⟩;have HKb:Hid (kn=decide (0≤t∧t<(D.H.ts.length:Int))):=hkn;have HKn:Hid (Calls Tryz.prog 18 #[.agg #[.pointer (some ⟨D.hb,0,none⟩),.pointer (some ⟨D.R.rb,0,none⟩)],.int .i64 t] W fun r w1=>r= .returned (.bool kn)∧Below W.heap.size W w1):=by rw[hkn];exact known_any HDW.out.ref t D.hb
 have HT1:Hid (∀u,DkAt u D→Calls Tryz.prog 19 #[.pointer (some ⟨D.hb,0,none⟩),.int .i64 t] u fun r w'=>∃ro rc,r= .returned (.slice ro n1 rc)∧u.heap.size≤w'.heap.size∧Hid (w'.ownsRow u.heap.size 76 3 (.slice ro n1 rc) n1 (Tr.ndCells L1)∧Below u.heap.size u w')):=by intro u hu;rw[hn1,hL1];refine(tree_both hu t).mono ?_;rintro r w' ⟨ro,rc,rfl,ho,hb⟩;exact⟨ro,rc,rfl,hb.size,ho,hb⟩
 have HT2:Hid (∀u,DkAt u D→Calls Tryz.prog 22 #[.pointer (some ⟨D.hb,0,none⟩),.int .i64 t] u fun r w'=>∃ro rc,r= .returned (.slice ro n2 rc)∧u.heap.size≤w'.heap.size∧Hid (w'.ownsRow u.heap.size 78 4 (.slice ro n2 rc) n2 (evCells L2)∧Below u.heap.size u w')):=by intro u hu;rw[hn2,hL2];refine(box_both hu t).mono ?_;rintro r w' ⟨ro,rc,rfl,ho,hb⟩;exact⟨ro,rc,rfl,hb.size,ho,hb⟩
 have HT3:Hid (∀u,DkAt u D→Calls Tryz.prog 25 #[.pointer (some ⟨D.hb,0,none⟩),.int .i64 t] u fun r w'=>∃ro rc,r= .returned (.slice ro n3 rc)∧u.heap.size≤w'.heap.size∧Hid (w'.ownsRow u.heap.size 80 4 (.slice ro n3 rc) n3 (enCells L3)∧Below u.heap.size u w')):=by intro u hu;rw[hn3,hL3];refine(log_both hu t).mono ?_;rintro r w' ⟨ro,rc,rfl,ho,hb⟩;exact⟨ro,rc,rfl,hb.size,ho,hb⟩
 have HS1:Hid (∀(u:World) (b1 b2:Nat) (ao bo:Option Addr) (ca cb:Nat),u.ownsRow b1 76 3 (.slice ao n1 ca) n1 (Tr.ndCells L1)→u.ownsRow b2 76 3 (.slice bo n1 cb) n1 (Tr.ndCells L1)→Calls Tryz.prog 20 #[.slice ao n1 ca,.slice bo n1 cb] u fun r w'=>r= .returned (.bool true)∧Below u.heap.size u w'):=by intro u b1 b2 ao bo ca cb h1 h2;rw[hn1] at h1 h2 ⊢;have z:=Tr.sameN_any ao bo ca cb L1 L1 u (by unfold maxLen;omega) (by unfold maxLen;omega) (was_node (own_weak h1 (Nat.zero_le _))) (was_node (own_weak h2 (Nat.zero_le _)));rw[decide_eq_true rfl] at z;exact z
 have HS2:Hid (∀(u:World) (b1 b2:Nat) (ao bo:Option Addr) (ca cb:Nat),u.ownsRow b1 78 4 (.slice ao n2 ca) n2 (evCells L2)→u.ownsRow b2 78 4 (.slice bo n2 cb) n2 (evCells L2)→Calls Tryz.prog 23 #[.slice ao n2 ca,.slice bo n2 cb] u fun r w'=>r= .returned (.bool true)∧Below u.heap.size u w'):=by intro u b1 b2 ao bo ca cb h1 h2;rw[hn2] at h1 h2 ⊢;refine(sameEv_any h1 h2 (by omega)).mono ?_;rintro r w' ⟨rfl,q,rfl⟩;exact⟨rfl,⟨rfl,rfl,rfl,Nat.le_refl _,fun _ _=>rfl⟩⟩
 have HS3:Hid (∀(u:World) (b1 b2:Nat) (ao bo:Option Addr) (ca cb:Nat),u.ownsRow b1 80 4 (.slice ao n3 ca) n3 (enCells L3)→u.ownsRow b2 80 4 (.slice bo n3 cb) n3 (enCells L3)→Calls Tryz.prog 26 #[.slice ao n3 ca,.slice bo n3 cb] u fun r w'=>r= .returned (.bool true)∧Below u.heap.size u w'):=by intro u b1 b2 ao bo ca cb h1 h2;rw[hn3] at h1 h2 ⊢;refine(sameEn_any h1 h2 (by omega)).mono ?_;rintro r w' ⟨rfl,q,rfl⟩;exact⟨rfl,⟨rfl,rfl,rfl,Nat.le_refl _,fun _ _=>rfl⟩⟩
 have HFl:Hid (L1=D.H.treeOf t∧L2=D.H.boxOf t∧L3=D.H.logOf t):=⟨hL1,hL2,hL3⟩;clear h hi hL1 hL2 hL3 hn1 hn2 hn3 hbW hkn;go_enter Tryz.func6,Tryz.ntmps6;go_upto_region 4 with fail
 rw[←hW];clear hW;go_wp2_with fail;refine HKn.out.mono ?_;rintro r w1 ⟨rfl,hb1⟩;have HB1:Hid (Below W.heap.size W w1):=hb1;have HA:Hid (∀b cs,Blk w b cs 47→Blk w1 b cs 47):=fun b cs hb=>((HAW.out b cs hb).below hb1 (HAW.out b cs hb).lt);have HW1:Hid (WS w0 w1 B Ds e):=HWW.out.below hb1;have HD1:=hid_in (HDW.out.below hb1);have HE1:Hid (Blk w1 w.heap.size #[.pointer (some ⟨D.hb,0,none⟩),.pointer (some ⟨D.R.rb,0,none⟩)] 47):=HEW.out.below hb1 HEW.out.lt;clear hb1 HKn e0 e1 HWW HDW HEW HW0 HD0;have e1:w1.cell? ⟨w.heap.size,1,none⟩=some (.pointer (some ⟨D.R.rb,0,none⟩)):=by rw[HE1.out.cell 1];rfl
 go_upto_if 28 with fail
 go_cut [9,10,11] from 29 to 52 (fun a b c wx=>∃no nc bo bc lo lc,a= .slice no n1 nc∧b= .slice bo n2 bc∧c= .slice lo n3 lc∧wx=w1∧Hid (w1.ownsRow 0 76 3 (.slice no n1 nc) n1 (Tr.ndCells L1)∧w1.ownsRow 0 78 4 (.slice bo n2 bc) n2 (evCells L2)∧w1.ownsRow 0 80 4 (.slice lo n3 lc) n3 (enCells L3)))
 case first=>
  by_cases hk:0≤t∧t<(D.H.ts.length:Int)
  ·obtain⟨j,x,hj,hx,ea⟩:=Hs.at_yes hk;have hjl:=(List.getElem?_eq_some_iff.1 hx).1;have hr:=HD1.out.ref;obtain⟨no,nc,e2⟩:=own_is (hr.nodes j x _ hx (List.getElem?_eq_getElem (by rw[hr.nlen];exact hjl)));obtain⟨bo,bc,e3⟩:=own_is (hr.box j x _ hx (List.getElem?_eq_getElem (by rw[hr.blen];exact hjl)));obtain⟨lo,lc,e4⟩:=own_is (hr.log j x _ hx (List.getElem?_eq_getElem (by rw[hr.llen];exact hjl)));have el1:L1=x.nodes:=by rw[HFl.out.1];unfold Hs.treeOf;rw[ea]
   have el2:L2=x.box:=by rw[HFl.out.2.1];unfold Hs.boxOf;rw[ea]
   have el3:L3=x.log:=by rw[HFl.out.2.2];unfold Hs.logOf;rw[ea]
   rw[←el1,HN.out.1] at e2;rw[←el2,HN.out.2.1] at e3;rw[←el3,HN.out.2.2] at e4;have c5:w1.cell? ⟨D.R.rb,5,none⟩=some (.slice (some ⟨D.R.n,0,none⟩) D.H.ts.length D.R.nc):=by rw[hr.host.cell 5];rfl
   have c6:w1.cell? ⟨D.R.rb,6,none⟩=some (.slice (some ⟨D.R.b,0,none⟩) D.H.ts.length D.R.bc):=by rw[hr.host.cell 6];rfl
   have c7:w1.cell? ⟨D.R.rb,7,none⟩=some (.slice (some ⟨D.R.l,0,none⟩) D.H.ts.length D.R.lc):=by rw[hr.host.cell 7];rfl
   have d5:w1.cell? ⟨D.R.n,j,none⟩=some (.slice no n1 nc):=by rw[←e2];exact own_cellN hr.rn (List.getElem?_eq_getElem _)
   have d6:w1.cell? ⟨D.R.b,j,none⟩=some (.slice bo n2 bc):=by rw[←e3];exact own_cellN hr.rx (List.getElem?_eq_getElem _)
   have d7:w1.cell? ⟨D.R.l,j,none⟩=some (.slice lo n3 lc):=by rw[←e4];exact own_cellN hr.rl (List.getElem?_eq_getElem _)
   have HRw:Hid (w1.ownsRow 0 76 3 (.slice no n1 nc) n1 (Tr.ndCells L1)∧w1.ownsRow 0 78 4 (.slice bo n2 bc) n2 (evCells L2)∧w1.ownsRow 0 80 4 (.slice lo n3 lc) n3 (enCells L3)):=by have z1:=hr.nodes j x _ hx (List.getElem?_eq_getElem (by rw[hr.nlen];exact hjl));have z2:=hr.box j x _ hx (List.getElem?_eq_getElem (by rw[hr.blen];exact hjl));have z3:=hr.log j x _ hx (List.getElem?_eq_getElem (by rw[hr.llen];exact hjl));rw[e2,←el1,HN.out.1] at z1;rw[e3,←el2,HN.out.2.1] at z2;rw[e4,←el3,HN.out.2.2] at z3;exact⟨z1,z2,z3⟩
   have hkb:kn=true:=by rw[HKb.out];exact decide_eq_true hk
   have hti:(j:Int)<(D.H.ts.length:Int):=by omega
   have ht0:(0:Int)≤(j:Int):=by omega
   subst hj;clear HKb;subst hkb;clear hr hx ea e2 e3 e4 el1 el2 el3 hk;go_wp2_with fail;go_meet
   exact⟨no,nc,bo,bc,lo,lc,rfl,rfl,rfl,rfl,HRw.out⟩
  ·have hkb:kn=false:=by rw[HKb.out];exact decide_eq_false hk
   have z1:L1=[]:=by rw[HFl.out.1];unfold Hs.treeOf;rw[Hs.at_no hk]
   have z2:L2=[]:=by rw[HFl.out.2.1];unfold Hs.boxOf;rw[Hs.at_no hk]
   have z3:L3=[]:=by rw[HFl.out.2.2];unfold Hs.logOf;rw[Hs.at_no hk]
   have y1:n1=0:=by rw[←HN.out.1,z1];rfl
   have y2:n2=0:=by rw[←HN.out.2.1,z2];rfl
   have y3:n3=0:=by rw[←HN.out.2.2,z3];rfl
   have HZ:Hid (L1=[]∧L2=[]∧L3=[]):=⟨z1,z2,z3⟩;subst y1 y2 y3;clear HKb;subst hkb;clear hk z1 z2 z3;go_wp2_with fail;go_meet
   exact⟨none,0,none,0,none,0,rfl,rfl,rfl,rfl,by rw[HZ.out.1];exact World.ownsRow_nil _ _ _ _,by rw[HZ.out.2.1];exact World.ownsRow_nil _ _ _ _,by rw[HZ.out.2.2];exact World.ownsRow_nil _ _ _ _⟩
 case rest=>
  obtain⟨no,nc,bo,bc,lo,lc,rfl,rfl,rfl,rfl,HRw⟩:=hcut;rename World=>w1
  have e0:w1.cell? ⟨w.heap.size,0,none⟩=some (.pointer (some ⟨D.hb,0,none⟩)):=by rw[HE1.out.cell 0];rfl
  by_cases k6:kind=6
  ·subst k6;have HC1:=hid_in (HT1.out w1 HD1.out);go_wp2_with fail;refine HC1.out.mono ?_;rintro r w2 ⟨ro,rc,rfl,hs2,HP2⟩;have HD2:=hid_in (HD1.out.below HP2.out.2);have HE2:Hid (Blk w2 w.heap.size #[.pointer (some ⟨D.hb,0,none⟩),.pointer (some ⟨D.R.rb,0,none⟩)] 47):=HE1.out.below HP2.out.2 HE1.out.lt;have e02:w2.cell? ⟨w.heap.size,0,none⟩=some (.pointer (some ⟨D.hb,0,none⟩)):=by rw[HE2.out.cell 0];rfl
   have HC2:=hid_in (HT1.out w2 HD2.out);clear HC1 e0;go_wp2_with fail;refine HC2.out.mono ?_;rintro r w3 ⟨qo,qc,rfl,hs3,HP3⟩;have HC3:=hid_in (HS1.out w3 _ _ ro no rc nc (own_below' HP2.out.1 HP3.out.2 (Nat.le_refl _)) (own_below' (own_below' HRw.out.1 HP2.out.2 (Nat.le_refl _)) HP3.out.2 (Nat.le_refl _)));clear HC2 e02;go_wp2_with fail;refine HC3.out.mono ?_;rintro r w4 ⟨rfl,hb4⟩;have HB4:Hid (Below w3.heap.size w3 w4):=hb4;have HC4:=hid_in (HS1.out w4 _ _ qo no qc nc (own_below' HP3.out.1 hb4 (Nat.le_refl _)) (own_below' (own_below' (own_below' HRw.out.1 HP2.out.2 (Nat.le_refl _)) HP3.out.2 (Nat.le_refl _)) hb4 (Nat.le_refl _)));clear HC3 hb4;go_wp2_with fail;refine HC4.out.mono ?_;rintro r w5 ⟨rfl,hb5⟩;have HB5:Hid (Below w4.heap.size w4 w5):=hb5;clear HC4 hb5;obtain⟨dv,K1,K2,K3,l1,l2,l3,hst,hq1,hq2,hq3⟩:=HW1.out;have s4:=HB4.out.size;have s5:=HB5.out.size;have HF5:Hid (Below w1.heap.size w1 w5):=((HP2.out.2.trans (HP3.out.2.mono hs2)).trans (HB4.out.mono (by omega))).trans (HB5.out.mono (by omega));have HF2:Hid (Below w2.heap.size w2 w5):=((HP3.out.2.trans (HB4.out.mono (by omega)))).trans (HB5.out.mono (by omega));have HF3:Hid (Below w3.heap.size w3 w5):=HB4.out.trans (HB5.out.mono (by omega));have HK1:Hid (Calls Tryz.prog 21 #[.pointer (some ⟨B,1,none⟩),.slice ro n1 rc] w5 fun r w6=>r= .returned (.tuple #[])∧Hid (Calls Tryz.prog 21 #[.pointer (some ⟨B,1,none⟩),.slice qo n1 qc] w6 fun r w7=>r= .returned (.tuple #[])∧WS w0 w7 B Ds (e+8)∧∀b cs,Blk w5 b cs 47→Blk w7 b cs 47)):=by
    have a1:=own_below' HP2.out.1 HF2.out (Nat.le_refl _);have a2:=own_below' HP3.out.1 HF3.out (Nat.le_refl _);have hst5:=hst.below HF5.out;refine(hst5.keepN (ll:=L1) (by rw[HN.out.1];exact own_weak a1 (Nat.zero_le _)) (by rw[HN.out.1];omega) (fun k hk=>hst.free (own_ge a1 hk)) (by omega)).mono ?_;rintro r w6 ⟨rfl,K1',g1,g2,hfr6,g3⟩;refine⟨rfl,?_⟩;have a3:w6.ownsRow w2.heap.size 76 3 (.slice qo n1 qc) n1 (Tr.ndCells L1):=by refine own_block a2 fun k hk=>?_;have hk5:=(a2.lt k hk).2;have hfr:=(hst.below (HP2.out.2)).free (own_ge a2 hk);exact hfr6 k hk5 hfr.2.2.2
    have hfq:∀k,Value.ownBlock (.slice qo n1 qc)=some k→Free w0 B dv Ds K1' K2 K3 k:=by
     intro k hk;have hfr:=(hst.below (HP2.out.2)).free (own_ge a2 hk);refine⟨hfr.1,hfr.2.1,hfr.2.2.1,fun z=>?_⟩;rcases g3 k z with y|y|y
     ·exact hfr.2.2.2 y
     ·have x1:=(HP2.out.1.lt k y).2;have x2:=own_ge a2 hk;omega
     ·have:=(a2.lt k hk).2;omega
    refine(g1.keepN (ll:=L1) (by rw[HN.out.1];exact own_weak a3 (Nat.zero_le _)) (by rw[HN.out.1];omega) hfq (by omega)).mono ?_;rintro r w7 ⟨rfl,K1'',f1,f2,hfr7,f3⟩;refine⟨rfl,⟨dv,_,_,_,_,_,_,f1,by omega,by omega,by omega⟩,fun b cs hb=>?_⟩;have hb6:Blk w6 b cs 47:=hb.of_block (hfr6 b hb.lt (hst5.books.noT hb (by decide)));exact hb6.of_block (hfr7 b hb6.lt (g1.books.noT hb6 (by decide)))
   clear hst hq1 hq2 hq3;go_wp2_with fail;refine HK1.out.mono ?_;rintro r w6 ⟨rfl,HK2⟩;clear HK1;go_wp2_with fail;refine HK2.out.mono ?_;rintro r w7 ⟨rfl,hw7⟩;have HW7:Hid (WS w0 w7 B Ds (e+8)∧∀b cs,Blk w b cs 47→Blk w7 b cs 47):=⟨hw7.1,fun b cs hb=>hw7.2 b cs ((HA.out b cs hb).below HF5.out (HA.out b cs hb).lt)⟩;clear HK2 hw7;go_wp2;go_ret;exact⟨rfl,HW7.out.1,HW7.out.2⟩
  ·have k6b:(kind==6)=false:=by rw[beq_eq_false_iff_ne];exact k6
   by_cases k7:kind=7
   ·subst k7;have HC1:=hid_in (HT2.out w1 HD1.out);go_wp2_with fail;refine HC1.out.mono ?_;rintro r w2 ⟨ro,rc,rfl,hs2,HP2⟩;have HD2:=hid_in (HD1.out.below HP2.out.2);have HE2:Hid (Blk w2 w.heap.size #[.pointer (some ⟨D.hb,0,none⟩),.pointer (some ⟨D.R.rb,0,none⟩)] 47):=HE1.out.below HP2.out.2 HE1.out.lt;have e02:w2.cell? ⟨w.heap.size,0,none⟩=some (.pointer (some ⟨D.hb,0,none⟩)):=by rw[HE2.out.cell 0];rfl
    have HC2:=hid_in (HT2.out w2 HD2.out);clear HC1 e0;go_wp2_with fail;refine HC2.out.mono ?_;rintro r w3 ⟨qo,qc,rfl,hs3,HP3⟩;have HC3:=hid_in (HS2.out w3 _ _ ro bo rc bc (own_below' HP2.out.1 HP3.out.2 (Nat.le_refl _)) (own_below' (own_below' HRw.out.2.1 HP2.out.2 (Nat.le_refl _)) HP3.out.2 (Nat.le_refl _)));clear HC2 e02;go_wp2_with fail;refine HC3.out.mono ?_;rintro r w4 ⟨rfl,hb4⟩;have HB4:Hid (Below w3.heap.size w3 w4):=hb4;have HC4:=hid_in (HS2.out w4 _ _ qo bo qc bc (own_below' HP3.out.1 hb4 (Nat.le_refl _)) (own_below' (own_below' (own_below' HRw.out.2.1 HP2.out.2 (Nat.le_refl _)) HP3.out.2 (Nat.le_refl _)) hb4 (Nat.le_refl _)));clear HC3 hb4;go_wp2_with fail;refine HC4.out.mono ?_;rintro r w5 ⟨rfl,hb5⟩;have HB5:Hid (Below w4.heap.size w4 w5):=hb5;clear HC4 hb5;obtain⟨dv,K1,K2,K3,l1,l2,l3,hst,hq1,hq2,hq3⟩:=HW1.out;have s4:=HB4.out.size;have s5:=HB5.out.size;have HF5:Hid (Below w1.heap.size w1 w5):=((HP2.out.2.trans (HP3.out.2.mono hs2)).trans (HB4.out.mono (by omega))).trans (HB5.out.mono (by omega));have HF2:Hid (Below w2.heap.size w2 w5):=((HP3.out.2.trans (HB4.out.mono (by omega)))).trans (HB5.out.mono (by omega));have HF3:Hid (Below w3.heap.size w3 w5):=HB4.out.trans (HB5.out.mono (by omega));have HK1:Hid (Calls Tryz.prog 24 #[.pointer (some ⟨B,1,none⟩),.slice ro n2 rc] w5 fun r w6=>r= .returned (.tuple #[])∧Hid (Calls Tryz.prog 24 #[.pointer (some ⟨B,1,none⟩),.slice qo n2 qc] w6 fun r w7=>r= .returned (.tuple #[])∧WS w0 w7 B Ds (e+8)∧∀b cs,Blk w5 b cs 47→Blk w7 b cs 47)):=by
     have a1:=own_below' HP2.out.1 HF2.out (Nat.le_refl _);have a2:=own_below' HP3.out.1 HF3.out (Nat.le_refl _);have hst5:=hst.below HF5.out;refine(hst5.keepEv (ll:=L2) (by rw[HN.out.2.1];exact own_weak a1 (Nat.zero_le _)) (by rw[HN.out.2.1];omega) (fun k hk=>hst.free (own_ge a1 hk)) (by omega)).mono ?_;rintro r w6 ⟨rfl,K2',g1,g2,hfr6,g3⟩;refine⟨rfl,?_⟩;have a3:w6.ownsRow w2.heap.size 78 4 (.slice qo n2 qc) n2 (evCells L2):=by refine own_block a2 fun k hk=>?_;have hk5:=(a2.lt k hk).2;have hfr:=(hst.below (HP2.out.2)).free (own_ge a2 hk);exact hfr6 k hk5 hfr.2.2.2
     have hfq:∀k,Value.ownBlock (.slice qo n2 qc)=some k→Free w0 B dv Ds K1 K2' K3 k:=by
      intro k hk;have hfr:=(hst.below (HP2.out.2)).free (own_ge a2 hk);refine⟨hfr.1,hfr.2.1,hfr.2.2.1,fun z=>?_⟩;rcases g3 k z with y|y|y
      ·exact hfr.2.2.2 y
      ·have x1:=(HP2.out.1.lt k y).2;have x2:=own_ge a2 hk;omega
      ·have:=(a2.lt k hk).2;omega
     refine(g1.keepEv (ll:=L2) (by rw[HN.out.2.1];exact own_weak a3 (Nat.zero_le _)) (by rw[HN.out.2.1];omega) hfq (by omega)).mono ?_;rintro r w7 ⟨rfl,K2'',f1,f2,hfr7,f3⟩;refine⟨rfl,⟨dv,_,_,_,_,_,_,f1,by omega,by omega,by omega⟩,fun b cs hb=>?_⟩;have hb6:Blk w6 b cs 47:=hb.of_block (hfr6 b hb.lt (hst5.books.noT hb (by decide)));exact hb6.of_block (hfr7 b hb6.lt (g1.books.noT hb6 (by decide)))
    clear hst hq1 hq2 hq3;go_wp2_with fail;refine HK1.out.mono ?_;rintro r w6 ⟨rfl,HK2⟩;clear HK1;go_wp2_with fail;refine HK2.out.mono ?_;rintro r w7 ⟨rfl,hw7⟩;have HW7:Hid (WS w0 w7 B Ds (e+8)∧∀b cs,Blk w b cs 47→Blk w7 b cs 47):=⟨hw7.1,fun b cs hb=>hw7.2 b cs ((HA.out b cs hb).below HF5.out (HA.out b cs hb).lt)⟩;clear HK2 hw7;go_wp2;go_ret;exact⟨rfl,HW7.out.1,HW7.out.2⟩
   ·have k7b:(kind==7)=false:=by rw[beq_eq_false_iff_ne];exact k7
    have HC1:=hid_in (HT3.out w1 HD1.out);go_wp2_with fail;refine HC1.out.mono ?_;rintro r w2 ⟨ro,rc,rfl,hs2,HP2⟩;have HD2:=hid_in (HD1.out.below HP2.out.2);have HE2:Hid (Blk w2 w.heap.size #[.pointer (some ⟨D.hb,0,none⟩),.pointer (some ⟨D.R.rb,0,none⟩)] 47):=HE1.out.below HP2.out.2 HE1.out.lt;have e02:w2.cell? ⟨w.heap.size,0,none⟩=some (.pointer (some ⟨D.hb,0,none⟩)):=by rw[HE2.out.cell 0];rfl
    have HC2:=hid_in (HT3.out w2 HD2.out);clear HC1 e0;go_wp2_with fail;refine HC2.out.mono ?_;rintro r w3 ⟨qo,qc,rfl,hs3,HP3⟩;have HC3:=hid_in (HS3.out w3 _ _ ro lo rc lc (own_below' HP2.out.1 HP3.out.2 (Nat.le_refl _)) (own_below' (own_below' HRw.out.2.2 HP2.out.2 (Nat.le_refl _)) HP3.out.2 (Nat.le_refl _)));clear HC2 e02;go_wp2_with fail;refine HC3.out.mono ?_;rintro r w4 ⟨rfl,hb4⟩;have HB4:Hid (Below w3.heap.size w3 w4):=hb4;have HC4:=hid_in (HS3.out w4 _ _ qo lo qc lc (own_below' HP3.out.1 hb4 (Nat.le_refl _)) (own_below' (own_below' (own_below' HRw.out.2.2 HP2.out.2 (Nat.le_refl _)) HP3.out.2 (Nat.le_refl _)) hb4 (Nat.le_refl _)));clear HC3 hb4;go_wp2_with fail;refine HC4.out.mono ?_;rintro r w5 ⟨rfl,hb5⟩;have HB5:Hid (Below w4.heap.size w4 w5):=hb5;clear HC4 hb5;obtain⟨dv,K1,K2,K3,l1,l2,l3,hst,hq1,hq2,hq3⟩:=HW1.out;have s4:=HB4.out.size;have s5:=HB5.out.size;have HF5:Hid (Below w1.heap.size w1 w5):=((HP2.out.2.trans (HP3.out.2.mono hs2)).trans (HB4.out.mono (by omega))).trans (HB5.out.mono (by omega));have HF2:Hid (Below w2.heap.size w2 w5):=((HP3.out.2.trans (HB4.out.mono (by omega)))).trans (HB5.out.mono (by omega));have HF3:Hid (Below w3.heap.size w3 w5):=HB4.out.trans (HB5.out.mono (by omega));have HK1:Hid (Calls Tryz.prog 27 #[.pointer (some ⟨B,1,none⟩),.slice ro n3 rc] w5 fun r w6=>r= .returned (.tuple #[])∧Hid (Calls Tryz.prog 27 #[.pointer (some ⟨B,1,none⟩),.slice qo n3 qc] w6 fun r w7=>r= .returned (.tuple #[])∧WS w0 w7 B Ds (e+8)∧∀b cs,Blk w5 b cs 47→Blk w7 b cs 47)):=by
     have a1:=own_below' HP2.out.1 HF2.out (Nat.le_refl _);have a2:=own_below' HP3.out.1 HF3.out (Nat.le_refl _);have hst5:=hst.below HF5.out;refine(hst5.keepEn (ll:=L3) (by rw[HN.out.2.2];exact own_weak a1 (Nat.zero_le _)) (by rw[HN.out.2.2];omega) (fun k hk=>hst.free (own_ge a1 hk)) (by omega)).mono ?_;rintro r w6 ⟨rfl,K3',g1,g2,hfr6,g3⟩;refine⟨rfl,?_⟩;have a3:w6.ownsRow w2.heap.size 80 4 (.slice qo n3 qc) n3 (enCells L3):=by refine own_block a2 fun k hk=>?_;have hk5:=(a2.lt k hk).2;have hfr:=(hst.below (HP2.out.2)).free (own_ge a2 hk);exact hfr6 k hk5 hfr.2.2.2
     have hfq:∀k,Value.ownBlock (.slice qo n3 qc)=some k→Free w0 B dv Ds K1 K2 K3' k:=by
      intro k hk;have hfr:=(hst.below (HP2.out.2)).free (own_ge a2 hk);refine⟨hfr.1,hfr.2.1,hfr.2.2.1,fun z=>?_⟩;rcases g3 k z with y|y|y
      ·exact hfr.2.2.2 y
      ·have x1:=(HP2.out.1.lt k y).2;have x2:=own_ge a2 hk;omega
      ·have:=(a2.lt k hk).2;omega
     refine(g1.keepEn (ll:=L3) (by rw[HN.out.2.2];exact own_weak a3 (Nat.zero_le _)) (by rw[HN.out.2.2];omega) hfq (by omega)).mono ?_;rintro r w7 ⟨rfl,K3'',f1,f2,hfr7,f3⟩;refine⟨rfl,⟨dv,_,_,_,_,_,_,f1,by omega,by omega,by omega⟩,fun b cs hb=>?_⟩;have hb6:Blk w6 b cs 47:=hb.of_block (hfr6 b hb.lt (hst5.books.noT hb (by decide)));exact hb6.of_block (hfr7 b hb6.lt (g1.books.noT hb6 (by decide)))
    clear hst hq1 hq2 hq3;go_wp2_with fail;refine HK1.out.mono ?_;rintro r w6 ⟨rfl,HK2⟩;clear HK1;go_wp2_with fail;refine HK2.out.mono ?_;rintro r w7 ⟨rfl,hw7⟩;have HW7:Hid (WS w0 w7 B Ds (e+8)∧∀b cs,Blk w b cs 47→Blk w7 b cs 47):=⟨hw7.1,fun b cs hb=>hw7.2 b cs ((HA.out b cs hb).below HF5.out (HA.out b cs hb).lt)⟩;clear HK2 hw7;go_wp2;go_ret;exact⟨rfl,HW7.out.1,HW7.out.2⟩
end Go.Proofs.YtidaflmmldefcaaGreat
