/- Parts of the proof of Hosts: TenA, TenB, TenC, TenD, TenE. -/
import Derived.Test.YtidaflmmldefcaaGreatQ02
import Derived.BigRegion
import Derived.Laws.ShiftsVar
import Derived.Laws.BitsLemmas
import Derived.Deep.RegionLaw
import Derived.BigQuiet
set_option maxHeartbeats 4000000
namespace Go.Proofs.YtidaflmmldefcaaGreat
open Go.RowKit
set_option linter.unusedVariables false
def tnCells (x:Tn) (nv bv lv:Value):List Value:=[.string x.prog,.int .i64 x.fuel,.int .u8 x.routes,.int .u8 x.pub,.int .u8 x.sub,.int .i64 x.share,.int .i64 x.back,.int .u8 x.phase,.int .u16 (x.cells.getD 0 0),.int .u16 (x.cells.getD 1 0),.int .u16 (x.cells.getD 2 0),.int .u16 (x.cells.getD 3 0),.int .u16 (x.cells.getD 4 0),.int .u16 (x.cells.getD 5 0),.int .u16 (x.cells.getD 6 0),.int .u16 (x.cells.getD 7 0),nv,bv,lv,.int .i64 x.until_,.int .u8 x.dbl]
structure TenAt (w:World) (tb o:Nat) (x:Tn) (nv bv lv:Value):Prop where
 slot:SlotAt w tb o (tnCells x nv bv lv)
 nodes:w.ownsRow 0 76 3 nv x.nodes.length (Tr.ndCells x.nodes)
 box:BoxAt w bv x.box
 log:w.ownsRow 0 80 4 lv x.log.length (enCells x.log)
structure TFr (w w':World) (tb o:Nat) (bv lv:Value):Prop where
 kept:Kept (fun k=>k=tb∨some k=bv.ownBlock∨some k=lv.ownBlock) w w'
 slots:∀o' cs',(o'+21≤o∨o+21≤o')→SlotAt w tb o' cs'→SlotAt w' tb o' cs'
 nod:∀k v',w'.cell? ⟨tb,o+16,none⟩=some v'→v'.ownBlock=some k→(∃v,w.cell? ⟨tb,o+16,none⟩=some v∧v.ownBlock=some k)∨w.heap.size≤k
def Moved (w:World) (v v':Value):Prop:=∀k,v'.ownBlock=some k→some k=v.ownBlock∨w.heap.size≤k
theorem Moved.refl (w:World) (v:Value):Moved w v v:=fun k hk=>Or.inl hk.symm
theorem Moved.nil (w:World) (v:Value):Moved w v (.slice none 0 0):=fun k hk=>by simp[Value.ownBlock] at hk
theorem Moved.trans {w w1:World} {v v1 v2:Value} (h:Moved w v v1) (k:Moved w1 v1 v2) (hs:w.heap.size≤w1.heap.size):Moved w v v2:=by
 intro i hi;rcases k i hi with q|q
 ·exact h i q.symm
 ·exact Or.inr (by omega)
def TAft (w:World) (tb o:Nat) (bv lv:Value) (x':Tn) (w':World):Prop:=∃nv' bv' lv',TenAt w' tb o x' nv' bv' lv'∧TFr w w' tb o bv lv∧Moved w bv bv'∧Moved w lv lv'
section
variable {w w1 w' : World} {tb o : Nat} {x : Tn} {nv bv lv : Value}
theorem TFr.refl (w:World) (tb o:Nat) (bv lv:Value):TFr w w tb o bv lv:=⟨Kept.refl _ _,fun _ _ _ h=>h,fun _ v' h1 h2=>Or.inl ⟨v',h1,h2⟩⟩
theorem TFr.nod_of {w1 w2:World} (h:TFr w w1 tb o bv lv) (he:w2.heap[tb]? =w1.heap[tb]?):∀k v',w2.cell? ⟨tb,o+16,none⟩=some v'→v'.ownBlock=some k→(∃v,w.cell? ⟨tb,o+16,none⟩=some v∧v.ownBlock=some k)∨w.heap.size≤k:=fun k v' h1 h2=>h.nod k v' (by rw[←h1];exact(World.cell?_of_block (a:=⟨tb,o+16,none⟩) he).symm) h2
theorem TFr.of_below (h:Below w.heap.size w w') (hs:tb<w.heap.size):TFr w w' tb o bv lv:=⟨Kept.of_below h,fun o' cs' _ q=>q.keep (h.block tb hs),(TFr.refl w tb o bv lv).nod_of (h.block tb hs)⟩
theorem TFr.trans {bv1 lv1:Value} (h:TFr w w1 tb o bv lv) (k:TFr w1 w' tb o bv1 lv1) (hb:Moved w bv bv1) (hl:Moved w lv lv1):TFr w w' tb o bv lv:=by
 refine⟨h.kept.trans k.kept ?_,fun o' cs' ho q=>k.slots o' cs' ho (h.slots o' cs' ho q),fun i v' h1 h2=>?_⟩;rotate_left
 ·rcases k.nod i v' h1 h2 with ⟨v,e1,e2⟩|e
  ·exact h.nod i v e1 e2
  ·exact Or.inr (Nat.le_trans h.kept.size e)
 intro i hi q;rcases q with q|q|q
 ·exact Or.inl q
 ·rcases hb i q.symm with e|e
  ·exact Or.inr (Or.inl e)
  ·omega
 ·rcases hl i q.symm with e|e
  ·exact Or.inr (Or.inr e)
  ·omega
theorem TAft.trans {bv1 lv1:Value} {y:Tn} (h:TFr w w1 tb o bv lv) (hb:Moved w bv bv1) (hl:Moved w lv lv1) (k:TAft w1 tb o bv1 lv1 y w'):TAft w tb o bv lv y w':=by
 obtain⟨nv',bv',lv',h1,h2,h3,h4⟩:=k;exact⟨nv',bv',lv',h1,h.trans h2 hb hl,hb.trans h3 h.kept.size,hl.trans h4 h.kept.size⟩
theorem TenAt.below (h:TenAt w tb o x nv bv lv) (hb:Below w.heap.size w w'):TenAt w' tb o x nv bv lv:=⟨h.slot.keep (hb.block tb h.slot.lt),own_below' h.nodes hb (Nat.le_refl _),h.box.keep (fun k hk=>by obtain⟨cur,q⟩:=h.box.blk hk;exact hb.block k q.lt),own_below' h.log hb (Nat.le_refl _)⟩
theorem TenAt.alloc (h:TenAt w tb o x nv bv lv) (ob:Obj):TenAt (w.alloc ob) tb o x nv bv lv:=h.below ((Below.refl _ _).alloc (Nat.le_refl _) _)
theorem TenAt.drewN (h:TenAt w tb o x nv bv lv) (n:Nat):TenAt (w.drewN n) tb o x nv bv lv:=⟨h.slot,h.nodes,h.box,h.log⟩
theorem TenAt.drew (h:TenAt w tb o x nv bv lv):TenAt w.drew tb o x nv bv lv:=⟨h.slot,h.nodes,h.box,h.log⟩
theorem TFr.alloc (h:TFr w w1 tb o bv lv) (ht:tb<w1.heap.size) (ob:Obj):TFr w (w1.alloc ob) tb o bv lv:=⟨h.kept.alloc ob,fun o' cs' ho q=>(h.slots o' cs' ho q).keep (Below.heap_alloc _ _ _ ht),h.nod_of (Below.heap_alloc _ _ _ ht)⟩
theorem TFr.drewN (h:TFr w w1 tb o bv lv) (n:Nat):TFr w (w1.drewN n) tb o bv lv:=⟨⟨h.kept.os,h.kept.tape,h.kept.output,h.kept.size,h.kept.block⟩,h.slots,h.nod⟩
theorem TFr.drew (h:TFr w w1 tb o bv lv):TFr w w1.drew tb o bv lv:=⟨⟨h.kept.os,h.kept.tape,h.kept.output,h.kept.size,h.kept.block⟩,h.slots,h.nod⟩
theorem TFr.set (h:TFr w w1 tb o bv lv) (k:Nat) (hk:k<21∧k≠16) (v:Value):TFr w (w1.setCell ⟨tb,o+k,none⟩ v) tb o bv lv:=⟨h.kept.setCell ⟨tb,o+k,none⟩ v (Or.inl (Or.inl rfl)),fun o' cs' ho q=>(h.slots o' cs' ho q).apart k hk.1 ho v,fun i v' h1 h2=>h.nod i v' ((World.cell?_setCell_other (w:=w1) (a:=⟨tb,o+k,none⟩) (b:=⟨tb,o+16,none⟩) (v:=v) (fun e=>hk.2 (by have:=congrArg Addr.off e;simp at this;exact this))).symm.trans h1) h2⟩
theorem TFr.set16 (h:TFr w w1 tb o bv lv) {u:Value} (hc:w1.cell? ⟨tb,o+16,none⟩=some u) (v:Value) (hv:∀k,v.ownBlock=some k→w.heap.size≤k):TFr w (w1.setCell ⟨tb,o+16,none⟩ v) tb o bv lv:=⟨h.kept.setCell ⟨tb,o+16,none⟩ v (Or.inl (Or.inl rfl)),fun o' cs' ho q=>(h.slots o' cs' ho q).apart 16 (by decide) ho v,fun i v' h1 h2=>by
  rw[World.cell?_setCell_same (w:=w1) (a:=⟨tb,o+16,none⟩) (v:=v) hc] at h1;obtain rfl:=Option.some.inj h1;exact Or.inr (hv i h2)⟩
theorem TenAt.lists_set (h:TenAt w tb o x nv bv lv) (k:Nat) (v:Value): (w.setCell ⟨tb,k,none⟩ v).ownsRow 0 76 3 nv x.nodes.length (Tr.ndCells x.nodes)∧BoxAt (w.setCell ⟨tb,k,none⟩ v) bv x.box∧(w.setCell ⟨tb,k,none⟩ v).ownsRow 0 80 4 lv x.log.length (enCells x.log):=by
 obtain⟨cur,hb,_⟩:=h.slot;refine⟨ownsRow_setCell_other h.nodes (fun e=>hb.ne_own h.nodes (by decide) e.symm) v,h.box.keep fun q hq=>?_,ownsRow_setCell_other h.log (fun e=>hb.ne_own h.log (by decide) e.symm) v⟩;obtain⟨c2,hb2⟩:=h.box.blk hq;exact Below.heap_setCell _ _ _ _ (fun e=>hb2.ne hb (by decide) e)
theorem TenAt.set (h:TenAt w tb o x nv bv lv) (k:Nat) (hk:k<21) (v:Value) (y:Tn) (hc:(tnCells x nv bv lv).set k v=tnCells y nv bv lv) (hn:y.nodes=x.nodes) (hb:y.box=x.box) (hl:y.log=x.log):TenAt (w.setCell ⟨tb,o+k,none⟩ v) tb o y nv bv lv:=by
 obtain⟨h1,h2,h3⟩:=h.lists_set (o+k) v;refine⟨?_,by rw[hn];exact h1,by rw[hb];exact h2,by rw[hl];exact h3⟩;rw[←hc];exact h.slot.set k hk v
theorem TenAt.set_phase (h:TenAt w tb o x nv bv lv) (p:Int):TenAt (w.setCell ⟨tb,o+7,none⟩ (.int .u8 p)) tb o {x with phase:=p} nv bv lv:=h.set 7 (by decide) _ _ rfl rfl rfl rfl
theorem TenAt.set_until (h:TenAt w tb o x nv bv lv) (p:Int):TenAt (w.setCell ⟨tb,o+19,none⟩ (.int .i64 p)) tb o {x with until_:=p} nv bv lv:=h.set 19 (by decide) _ _ rfl rfl rfl rfl
theorem TenAt.set_dbl (h:TenAt w tb o x nv bv lv) (p:Int):TenAt (w.setCell ⟨tb,o+20,none⟩ (.int .u8 p)) tb o {x with dbl:=p} nv bv lv:=h.set 20 (by decide) _ _ rfl rfl rfl rfl
theorem TenAt.set_nodes (h:TenAt w tb o x nv bv lv) {v:Value} {l:List Tr.T.Nd} (hv:w.ownsRow 0 76 3 v l.length (Tr.ndCells l)):TenAt (w.setCell ⟨tb,o+16,none⟩ v) tb o {x with nodes:=l} v bv lv:=by
 obtain⟨h1,h2,h3⟩:=h.lists_set (o+16) v;obtain⟨cur,hb,_⟩:=h.slot;exact⟨h.slot.set 16 (by decide) v,ownsRow_setCell_other hv (fun e=>hb.ne_own hv (by decide) e.symm) v,h2,h3⟩
theorem TenAt.set_box (h:TenAt w tb o x nv bv lv) {v:Value} {l:List Ev} (hv:BoxAt w v l):TenAt (w.setCell ⟨tb,o+17,none⟩ v) tb o {x with box:=l} nv v lv:=by
 obtain⟨h1,h2,h3⟩:=h.lists_set (o+17) v;obtain⟨cur,hb,_⟩:=h.slot;refine⟨h.slot.set 17 (by decide) v,h1,hv.keep fun q hq=>?_,h3⟩;obtain⟨c2,hb2⟩:=hv.blk hq;exact Below.heap_setCell _ _ _ _ (fun e=>hb2.ne hb (by decide) e)
theorem TenAt.grow_log (h:TenAt w tb o x nv bv lv) (hg:w.grownBy w' lv.ownBlock):SlotAt w' tb o (tnCells x nv bv lv)∧w'.ownsRow 0 76 3 nv x.nodes.length (Tr.ndCells x.nodes)∧BoxAt w' bv x.box:=by
 have hk:∀{t:TypeId} {b:Nat} {cs:Array Value},Blk w b cs t→t≠80→w'.heap[b]? =w.heap[b]? :=fun hb ht=>hg.block _ hb.lt (fun e=>hb.ne_own h.log ht e);refine⟨?_,own_block h.nodes fun k hk'=>?_,h.box.keep fun k hk'=>?_⟩
 ·obtain⟨cur,hb,r⟩:=h.slot;exact⟨cur,hb.of_block (hk hb (by decide)),r⟩
 ·rcases h.nodes.2 with ⟨hv,_⟩|⟨g,cap,cur,hv,_,hh,_⟩
  ·subst hv;simp[Value.ownBlock] at hk'
  ·subst hv;simp only[Value.ownBlock,Option.some.injEq] at hk';subst hk';exact hk (show Blk w g cur 76 from hh) (by decide)
 ·obtain⟨c2,hb2⟩:=h.box.blk hk';exact hk hb2 (by decide)
theorem TenAt.grow_box (h:TenAt w tb o x nv bv lv) (hg:w.grownBy w' bv.ownBlock):SlotAt w' tb o (tnCells x nv bv lv)∧w'.ownsRow 0 76 3 nv x.nodes.length (Tr.ndCells x.nodes)∧w'.ownsRow 0 80 4 lv x.log.length (enCells x.log):=by
 have hk:∀{t:TypeId} {b:Nat} {cs:Array Value},Blk w b cs t→t≠78→w'.heap[b]? =w.heap[b]? :=fun hb ht=>hg.block _ hb.lt (fun e=>by obtain⟨c2,hb2⟩:=h.box.blk e.symm;exact hb.ne hb2 ht rfl);have own:∀{t:TypeId} {size:Nat} {v:Value} {n:Nat} {xs:List Value},w.ownsRow 0 t size v n xs→t≠78→w'.ownsRow 0 t size v n xs:=by
  intro t size v n xs ho ht;refine own_block ho fun k hk'=>?_;rcases ho.2 with ⟨hv,_⟩|⟨g,cap,cur,hv,_,hh,_⟩
  ·subst hv;simp[Value.ownBlock] at hk'
  ·subst hv;simp only[Value.ownBlock,Option.some.injEq] at hk';subst hk';exact hk (show Blk w g cur t from hh) ht
 refine⟨?_,own h.nodes (by decide),own h.log (by decide)⟩;obtain⟨cur,hb,r⟩:=h.slot;exact⟨cur,hb.of_block (hk hb (by decide)),r⟩
theorem TFr.grow (h:TFr w w1 tb o bv lv) {r:Option Nat} (hg:w1.grownBy w' r) (hr:∀k,r=some k→(some k=bv.ownBlock∨some k=lv.ownBlock)∨w.heap.size≤k) (ht:r≠some tb) (hs:tb<w1.heap.size):TFr w w' tb o bv lv:=by
 refine⟨h.kept.grown hg fun k hk=>?_,fun o' cs' ho q=>(h.slots o' cs' ho q).keep (hg.block tb hs (fun e=>ht e.symm)),h.nod_of (hg.block tb hs (fun e=>ht e.symm))⟩;rcases hr k hk with q|q
 ·exact Or.inl (Or.inr q)
 ·exact Or.inr q
theorem TenAt.box_tb (h:TenAt w tb o x nv bv lv):bv.ownBlock≠some tb:=by
 intro e;obtain⟨c2,hb2⟩:=h.box.blk e;obtain⟨cur,hb,_⟩:=h.slot;exact hb2.ne hb (by decide) rfl
theorem TenAt.log_tb (h:TenAt w tb o x nv bv lv):lv.ownBlock≠some tb:=by
 intro e;obtain⟨cur,hb,_⟩:=h.slot;exact hb.ne_own h.log (by decide) e.symm
end
def Tn.goOut (x:Tn):Tn:={x with phase:=0,cells:=[0,0,0,0,0,0,0,0],nodes:=[],box:=[]}
def Tn.note (x:Tn) (n k a b:Int):Tn:={x with log:=x.log++[⟨n,k,a,b⟩]}
theorem TenAt.set_cells {w:World} {tb o:Nat} {x:Tn} {nv bv lv:Value} (h:TenAt w tb o x nv bv lv) (a0 a1 a2 a3 a4 a5 a6 a7:Int):TenAt ((((((((w.setCell ⟨tb,o+8,none⟩ (.int .u16 a0)).setCell ⟨tb,o+8+1,none⟩ (.int .u16 a1)).setCell ⟨tb,o+8+2,none⟩ (.int .u16 a2)).setCell ⟨tb,o+8+3,none⟩ (.int .u16 a3)).setCell ⟨tb,o+8+4,none⟩ (.int .u16 a4)).setCell ⟨tb,o+8+5,none⟩ (.int .u16 a5)).setCell ⟨tb,o+8+6,none⟩ (.int .u16 a6)).setCell ⟨tb,o+8+7,none⟩ (.int .u16 a7)) tb o {x with cells:=[a0,a1,a2,a3,a4,a5,a6,a7]} nv bv lv:=by
 have h0:TenAt (w.setCell ⟨tb,o+8,none⟩ (.int .u16 a0)) tb o {x with cells:=[a0,x.cells.getD 1 0,x.cells.getD 2 0,x.cells.getD 3 0,x.cells.getD 4 0,x.cells.getD 5 0,x.cells.getD 6 0,x.cells.getD 7 0]} nv bv lv:=h.set 8 (by decide) _ _ rfl rfl rfl rfl;have h1:TenAt ((w.setCell ⟨tb,o+8,none⟩ (.int .u16 a0)).setCell ⟨tb,o+8+1,none⟩ (.int .u16 a1)) tb o {x with cells:=[a0,a1,x.cells.getD 2 0,x.cells.getD 3 0,x.cells.getD 4 0,x.cells.getD 5 0,x.cells.getD 6 0,x.cells.getD 7 0]} nv bv lv:=h0.set 9 (by decide) _ _ rfl rfl rfl rfl;have h2:TenAt (((w.setCell ⟨tb,o+8,none⟩ (.int .u16 a0)).setCell ⟨tb,o+8+1,none⟩ (.int .u16 a1)).setCell ⟨tb,o+8+2,none⟩ (.int .u16 a2)) tb o {x with cells:=[a0,a1,a2,x.cells.getD 3 0,x.cells.getD 4 0,x.cells.getD 5 0,x.cells.getD 6 0,x.cells.getD 7 0]} nv bv lv:=h1.set 10 (by decide) _ _ rfl rfl rfl rfl;have h3:TenAt ((((w.setCell ⟨tb,o+8,none⟩ (.int .u16 a0)).setCell ⟨tb,o+8+1,none⟩ (.int .u16 a1)).setCell ⟨tb,o+8+2,none⟩ (.int .u16 a2)).setCell ⟨tb,o+8+3,none⟩ (.int .u16 a3)) tb o {x with cells:=[a0,a1,a2,a3,x.cells.getD 4 0,x.cells.getD 5 0,x.cells.getD 6 0,x.cells.getD 7 0]} nv bv lv:=h2.set 11 (by decide) _ _ rfl rfl rfl rfl;have h4:TenAt (((((w.setCell ⟨tb,o+8,none⟩ (.int .u16 a0)).setCell ⟨tb,o+8+1,none⟩ (.int .u16 a1)).setCell ⟨tb,o+8+2,none⟩ (.int .u16 a2)).setCell ⟨tb,o+8+3,none⟩ (.int .u16 a3)).setCell ⟨tb,o+8+4,none⟩ (.int .u16 a4)) tb o {x with cells:=[a0,a1,a2,a3,a4,x.cells.getD 5 0,x.cells.getD 6 0,x.cells.getD 7 0]} nv bv lv:=h3.set 12 (by decide) _ _ rfl rfl rfl rfl;have h5:TenAt ((((((w.setCell ⟨tb,o+8,none⟩ (.int .u16 a0)).setCell ⟨tb,o+8+1,none⟩ (.int .u16 a1)).setCell ⟨tb,o+8+2,none⟩ (.int .u16 a2)).setCell ⟨tb,o+8+3,none⟩ (.int .u16 a3)).setCell ⟨tb,o+8+4,none⟩ (.int .u16 a4)).setCell ⟨tb,o+8+5,none⟩ (.int .u16 a5)) tb o {x with cells:=[a0,a1,a2,a3,a4,a5,x.cells.getD 6 0,x.cells.getD 7 0]} nv bv lv:=h4.set 13 (by decide) _ _ rfl rfl rfl rfl;have h6:TenAt (((((((w.setCell ⟨tb,o+8,none⟩ (.int .u16 a0)).setCell ⟨tb,o+8+1,none⟩ (.int .u16 a1)).setCell ⟨tb,o+8+2,none⟩ (.int .u16 a2)).setCell ⟨tb,o+8+3,none⟩ (.int .u16 a3)).setCell ⟨tb,o+8+4,none⟩ (.int .u16 a4)).setCell ⟨tb,o+8+5,none⟩ (.int .u16 a5)).setCell ⟨tb,o+8+6,none⟩ (.int .u16 a6)) tb o {x with cells:=[a0,a1,a2,a3,a4,a5,a6,x.cells.getD 7 0]} nv bv lv:=h5.set 14 (by decide) _ _ rfl rfl rfl rfl;have h7:TenAt ((((((((w.setCell ⟨tb,o+8,none⟩ (.int .u16 a0)).setCell ⟨tb,o+8+1,none⟩ (.int .u16 a1)).setCell ⟨tb,o+8+2,none⟩ (.int .u16 a2)).setCell ⟨tb,o+8+3,none⟩ (.int .u16 a3)).setCell ⟨tb,o+8+4,none⟩ (.int .u16 a4)).setCell ⟨tb,o+8+5,none⟩ (.int .u16 a5)).setCell ⟨tb,o+8+6,none⟩ (.int .u16 a6)).setCell ⟨tb,o+8+7,none⟩ (.int .u16 a7)) tb o {x with cells:=[a0,a1,a2,a3,a4,a5,a6,a7]} nv bv lv:=h6.set 15 (by decide) _ _ rfl rfl rfl rfl;exact h7
theorem TFr.set_cells {w w1:World} {tb o:Nat} {bv lv:Value} (h:TFr w w1 tb o bv lv) (a0 a1 a2 a3 a4 a5 a6 a7:Int):TFr w ((((((((w1.setCell ⟨tb,o+8,none⟩ (.int .u16 a0)).setCell ⟨tb,o+8+1,none⟩ (.int .u16 a1)).setCell ⟨tb,o+8+2,none⟩ (.int .u16 a2)).setCell ⟨tb,o+8+3,none⟩ (.int .u16 a3)).setCell ⟨tb,o+8+4,none⟩ (.int .u16 a4)).setCell ⟨tb,o+8+5,none⟩ (.int .u16 a5)).setCell ⟨tb,o+8+6,none⟩ (.int .u16 a6)).setCell ⟨tb,o+8+7,none⟩ (.int .u16 a7)) tb o bv lv:=by
 have h0:TFr w (w1.setCell ⟨tb,o+8,none⟩ (.int .u16 a0)) tb o bv lv:=h.set 8 (by decide) _;have h1:TFr w ((w1.setCell ⟨tb,o+8,none⟩ (.int .u16 a0)).setCell ⟨tb,o+8+1,none⟩ (.int .u16 a1)) tb o bv lv:=h0.set 9 (by decide) _;have h2:TFr w (((w1.setCell ⟨tb,o+8,none⟩ (.int .u16 a0)).setCell ⟨tb,o+8+1,none⟩ (.int .u16 a1)).setCell ⟨tb,o+8+2,none⟩ (.int .u16 a2)) tb o bv lv:=h1.set 10 (by decide) _;have h3:TFr w ((((w1.setCell ⟨tb,o+8,none⟩ (.int .u16 a0)).setCell ⟨tb,o+8+1,none⟩ (.int .u16 a1)).setCell ⟨tb,o+8+2,none⟩ (.int .u16 a2)).setCell ⟨tb,o+8+3,none⟩ (.int .u16 a3)) tb o bv lv:=h2.set 11 (by decide) _;have h4:TFr w (((((w1.setCell ⟨tb,o+8,none⟩ (.int .u16 a0)).setCell ⟨tb,o+8+1,none⟩ (.int .u16 a1)).setCell ⟨tb,o+8+2,none⟩ (.int .u16 a2)).setCell ⟨tb,o+8+3,none⟩ (.int .u16 a3)).setCell ⟨tb,o+8+4,none⟩ (.int .u16 a4)) tb o bv lv:=h3.set 12 (by decide) _;have h5:TFr w ((((((w1.setCell ⟨tb,o+8,none⟩ (.int .u16 a0)).setCell ⟨tb,o+8+1,none⟩ (.int .u16 a1)).setCell ⟨tb,o+8+2,none⟩ (.int .u16 a2)).setCell ⟨tb,o+8+3,none⟩ (.int .u16 a3)).setCell ⟨tb,o+8+4,none⟩ (.int .u16 a4)).setCell ⟨tb,o+8+5,none⟩ (.int .u16 a5)) tb o bv lv:=h4.set 13 (by decide) _;have h6:TFr w (((((((w1.setCell ⟨tb,o+8,none⟩ (.int .u16 a0)).setCell ⟨tb,o+8+1,none⟩ (.int .u16 a1)).setCell ⟨tb,o+8+2,none⟩ (.int .u16 a2)).setCell ⟨tb,o+8+3,none⟩ (.int .u16 a3)).setCell ⟨tb,o+8+4,none⟩ (.int .u16 a4)).setCell ⟨tb,o+8+5,none⟩ (.int .u16 a5)).setCell ⟨tb,o+8+6,none⟩ (.int .u16 a6)) tb o bv lv:=h5.set 14 (by decide) _;have h7:TFr w ((((((((w1.setCell ⟨tb,o+8,none⟩ (.int .u16 a0)).setCell ⟨tb,o+8+1,none⟩ (.int .u16 a1)).setCell ⟨tb,o+8+2,none⟩ (.int .u16 a2)).setCell ⟨tb,o+8+3,none⟩ (.int .u16 a3)).setCell ⟨tb,o+8+4,none⟩ (.int .u16 a4)).setCell ⟨tb,o+8+5,none⟩ (.int .u16 a5)).setCell ⟨tb,o+8+6,none⟩ (.int .u16 a6)).setCell ⟨tb,o+8+7,none⟩ (.int .u16 a7)) tb o bv lv:=h6.set 15 (by decide) _;exact h7
theorem own_is {w:World} {base:Nat} {e:TypeId} {size:Nat} {v:Value} {n:Nat} {xs:List Value} (h:w.ownsRow base e size v n xs):∃ao cap,v= .slice ao n cap:=by
 rcases h.2 with ⟨h,h0⟩|⟨g,cp,cur,hv,_⟩
 ·exact⟨none,0,by rw[h0];exact h⟩
 ·exact⟨_,_,hv⟩
theorem goOut_any {w:World} {tb o:Nat} {x:Tn} {nv bv lv:Value} (h:TenAt w tb o x nv bv lv): Calls Tryz.prog 54 #[.pointer (some ⟨tb,o,none⟩)] w fun e w'=>e= .returned (.tuple #[])∧TAft w tb o bv lv x.goOut w':=by
 have HT:Hid (TenAt w tb o x nv bv lv):=h;have c7:=h.slot.cell 7 rfl;have c8:=h.slot.cell 8 rfl;have c9:=h.slot.cell 9 rfl;have c10:=h.slot.cell 10 rfl;have c11:=h.slot.cell 11 rfl;have c12:=h.slot.cell 12 rfl;have c13:=h.slot.cell 13 rfl;have c14:=h.slot.cell 14 rfl;have c15:=h.slot.cell 15 rfl;have c16:=h.slot.cell 16 rfl;have c17:=h.slot.cell 17 rfl;have fz:∀i,w.frozen? ⟨tb,i,none⟩=false:=fun i=>h.slot.free i;clear h;go_enter Tryz.func54,Tryz.ntmps54;go_wp2;go_end0;refine⟨rfl,.slice none 0 0,.slice none 0 0,lv,?_,?_,Moved.nil _ _,Moved.refl _ _⟩
 ·exact(((HT.out.set_phase 0).set_cells 0 0 0 0 0 0 0 0).set_nodes (l:=[]) (World.ownsRow_nil _ _ _ _)).set_box (BoxAt.nil _)
 ·exact((((TFr.refl w tb o bv lv).set 7 (by decide) _).set_cells 0 0 0 0 0 0 0 0).set16 (((HT.out.set_phase 0).set_cells 0 0 0 0 0 0 0 0).slot.cell 16 rfl) _ (fun k hk=>by simp[Value.ownBlock] at hk)).set 17 (by decide) _
theorem note_any {w:World} {tb o:Nat} {x:Tn} {nv bv lv:Value} (h:TenAt w tb o x nv bv lv) (n k a b:Int) (hl:x.log.length≤100000): Calls Tryz.prog 70 #[.pointer (some ⟨tb,o,none⟩),.int .i64 n,.int .u8 k,.int .u16 a,.int .u16 b] w fun e w'=>e= .returned (.tuple #[])∧TAft w tb o bv lv (x.note n k a b) w':=by
 obtain⟨i0,hi,hz0,hz1,hz2⟩:=info_parts info56;have HT:Hid (TenAt w tb o x nv bv lv):=h;have c18:=h.slot.cell 18 rfl;have fz:∀i,w.frozen? ⟨tb,i,none⟩=false:=fun i=>h.slot.free i;have HNw:Hid (∀jj u,(En.mk n k a b).cells[jj]? =some u→(w.alloc (.cells #[.int .i64 n,.int .u8 k,.int .u16 a,.int .u16 b] 80)).cell? ((⟨w.heap.size,0,none⟩:Addr).add jj)=some u):=by intro jj u hj;rw[Addr.add_lit,Nat.zero_add,(Blk.new w _ 80).cell jj,←hj];simp[En.cells]
 clear h;go_enter Tryz.func70,Tryz.ntmps70;go_wp2_with (at_builtin;refine wpList_append_own_at _ rfl (.tmp 14) (.tmp 20) 30 rfl 0 80 i0 (.agg #[.int .i64 0,.int .u8 0,.int .u16 0,.int .u16 0]) 4 16 Tryz.underlying30 hi hz0 hz1 hz2 rfl (by decide) _ x.log.length _ rfl (HT.out.log.alloc _) ⟨w.heap.size,0,none⟩ 1 1 (En.mk n k a b).cells rfl rfl HNw.out (by intro u hu;simp[En.cells] at hu;rcases hu with rfl|rfl|rfl|rfl<;>rfl) (by unfold maxLen;omega) (by omega) (by simp) ?_);intro v1 w1 ho1 hg1 _ hb1;obtain⟨vo,vc,rfl⟩:∃vo vc,v1= .slice vo (x.log.length+1) vc:=own_is ho1;obtain⟨hs1,hn1,hbx1⟩:=(HT.out.alloc (.cells #[.int .i64 n,.int .u8 k,.int .u16 a,.int .u16 b] 80)).grow_log hg1;have d18:=hs1.cell 18 rfl;have gz:=hs1.free (o+18);have HS1:Hid (SlotAt w1 tb o (tnCells x nv bv lv)):=hs1;have HF1:Hid (TFr w w1 tb o bv lv):=((TFr.refl w tb o bv lv).alloc HT.out.slot.lt _).grow hg1 (fun q hq=>Or.inl (Or.inr hq.symm)) HT.out.log_tb (by simp;have:=HT.out.slot.lt;omega);have HL1:Hid (w1.ownsRow 0 80 4 (.slice vo (x.log.length+1) vc) (x.note n k a b).log.length (enCells (x.note n k a b).log)):=by unfold Hid Tn.note;simp only[List.length_append,List.length_singleton,enCells_snoc];exact ho1
 have HN1:Hid (w1.ownsRow 0 76 3 nv x.nodes.length (Tr.ndCells x.nodes)):=hn1;have HX1:Hid (BoxAt w1 bv x.box):=hbx1;have HM1:Hid (Moved w lv (.slice vo (x.log.length+1) vc)):=by
  intro q hq;rcases hb1 with e|e
  ·exact Or.inl (by rw[←e];exact hq.symm)
  ·rw[e] at hq;simp at hq;exact Or.inr (by omega)
 clear ho1 hg1 hb1 hs1 hn1 hbx1;go_wp2;go_end0;refine⟨rfl,nv,bv,_,?_,HF1.out.set 18 (by decide) _,Moved.refl _ _,HM1.out⟩;obtain⟨cur,hbk,_⟩:=HS1.out;refine⟨HS1.out.set 18 (by decide) _,ownsRow_setCell_other HN1.out (fun e=>hbk.ne_own HN1.out (by decide) e.symm) _,HX1.out.keep fun q hq=>?_,ownsRow_setCell_other HL1.out (fun e=>hbk.ne_own HL1.out (by decide) e.symm) _⟩;obtain⟨c2,hb2⟩:=HX1.out.blk hq;exact Below.heap_setCell _ _ _ _ (fun e=>hb2.ne hbk (by decide) e)
theorem and_one_u8 (x:Int) (h0:0≤x) (h1:x<256):bits BinOp.and IntKind.u8 x 1=x%2:=bits_mask .u8 8 (by decide) wraps_u8 1 (by decide) x h0 h1
theorem shift_min (b:Int) (k:Nat) (hb:0≤b) (hb2:b≤255):b/2^min k 8=b/2^k:=by
 by_cases h:k≤8
 ·rw[Nat.min_eq_left h]
 ·rw[Nat.min_eq_right (by omega)];have h1:b/2^8=0:=Int.ediv_eq_zero_of_lt hb (by omega);have h2:b/2^k=0:=by refine Int.ediv_eq_zero_of_lt hb ?_;have h:=Nat.pow_le_pow_right (n:=2) (by decide) (show 8≤k by omega);have h3:((2^8:Nat):Int)≤((2^k:Nat):Int):=Int.ofNat_le.2 h;rw[Int.natCast_pow] at h3;rw[Int.natCast_pow] at h3;have h4:((2:Nat):Int)=2:=rfl;rw[h4] at h3;omega
  rw[h1,h2]
def bitOf (b k:Int):Bool:=b/2^k.toNat%2==1
theorem hasBit_any (b k:Int) (w:World) (hb:0≤b) (hb2:b≤255) (hk:0≤k) (hk2:k≤255): Calls Tryz.prog 53 #[.int .u8 b,.int .u8 k] w fun e w'=>e= .returned (.bool (bitOf b k))∧w=w':=by
 have hd0:0≤b/2^k.toNat:=Int.ediv_nonneg hb (by exact Int.pow_nonneg (by decide));have hd1:b/2^k.toNat≤b:=Int.ediv_le_self _ hb;have HE:Hid (bits BinOp.and IntKind.u8 (b/2^min k.toNat 8) 1=b/2^k.toNat%2):=by unfold Hid;rw[shift_min b k.toNat hb hb2];exact and_one_u8 _ hd0 (by omega)
 clear hd0 hd1;go_enter Tryz.func53,Tryz.ntmps53;go_wp2;go_ret;refine⟨?_,rfl⟩;show Ending.returned (Value.bool (bits BinOp.and IntKind.u8 (b/2^min k.toNat 8) 1==1))=_;rw[HE.out];rfl
def Tn.nextEv (x:Tn) (n:Int):Ev:=match x.box with
 |[]=>⟨3,0,n%65536,0⟩
 |y::_=>y
def Tn.popBox (x:Tn):Tn:={x with box:=x.box.tail}
theorem BoxAt.last {w:World} {g o:Nat} {x:Ev} (h:BoxAt w (.slice (some ⟨g,o,none⟩) 1 1) [x]):BoxAt w (.slice (some ⟨g,o,none⟩) 0 0) []:=by
 rcases h with ⟨h,_⟩|⟨g',o',cap',cur,e,hb,h1,h2,h3,h4⟩
 ·simp at h
 ·simp only[Value.slice.injEq,Option.some.injEq,Addr.mk.injEq,and_true,List.length_cons] at e;obtain⟨⟨rfl,rfl⟩,_,rfl⟩:=e;exact Or.inr ⟨g,o,0,cur,rfl,hb,Nat.le_refl _,by omega,by omega,rfl⟩
theorem nextEv_any {w:World} {tb o:Nat} {x:Tn} {nv bv lv:Value} (h:TenAt w tb o x nv bv lv) (n:Int) (hl:x.box.length≤100000): Calls Tryz.prog 65 #[.pointer (some ⟨tb,o,none⟩),.int .i64 n] w fun e w'=>e= .returned (.agg (x.nextEv n).cells.toArray)∧TAft w tb o bv lv x.popBox w':=by
 have HT:Hid (TenAt w tb o x nv bv lv):=h;have c17:=h.slot.cell 17 rfl;have htb:=h.slot.lt;have fz:∀i,w.frozen? ⟨tb,i,none⟩=false:=fun i=>h.slot.free i;have hne:¬tb=w.heap.size:=by omega
 have hne1:¬tb=w.heap.size+1:=by omega
 have hbx:=h.box;cases hbo:x.box with
 |nil=>
  rw[hbo] at hbx;obtain⟨ao,cap,hv,_⟩:=hbx.shape;simp only[List.length_nil] at hv;subst hv;have HBo:Hid (x.box=[]):=hbo;have hw:IntKind.u16.wrap n=n%65536:=by simp[IntKind.wrap,IntKind.signed,IntKind.bits]
  clear h hbx hbo;go_enter Tryz.func65,Tryz.ntmps65;go_wp2;refine bodyPost_ret (v:= .agg #[.int .u8 3,.int .u8 0,.int .u16 (n%65536),.int .u8 0]) (by simp[results,Tryz.results65,go_sem]) rfl ⟨?_,?_⟩
  ·unfold Tn.nextEv;rw[HBo.out];rfl
  ·have e:x.popBox=x:=by have hbo:=HBo.out;obtain⟨p1,p2,p3,p4,p5,p6,p7,p8,p9,p10,p11,p12,p13,p14⟩:=x;simp only at hbo;subst hbo;rfl
   rw[e];exact⟨nv,_,lv,HT.out.alloc _,(TFr.refl _ _ _ _ _).alloc HT.out.slot.lt _,Moved.refl _ _,Moved.refl _ _⟩
 |cons y r=>
  rw[hbo] at hbx;obtain⟨g,of,cap,hv,hc⟩:=hbx.at (i:=0) (x:=y) rfl;have e0:=hc 0 (by decide);have e1:=hc 1 (by decide);have e2:=hc 2 (by decide);have e3:=hc 3 (by decide);simp[Ev.cells] at e0 e1 e2 e3;subst hv;have HBx:Hid (BoxAt w (.slice (some ⟨g,of,none⟩) (r.length+1) cap) (y::r)):=hbx;have HBo:Hid (x.box=y::r):=hbo;have hgl:g<w.heap.size:=by obtain⟨cur,q⟩:=hbx.blk rfl;exact q.lt
  have hne2:¬g=w.heap.size:=by omega
  have hne3:¬g=w.heap.size+1:=by omega
  have hcp:r.length+1≤cap:=by obtain⟨_,c2,e,q⟩:=hbx.shape;simp only[Value.slice.injEq] at e;obtain⟨_,_,rfl⟩:=e;simpa using q
  simp only[List.length_cons] at c17;rw[hbo] at hl;simp only[List.length_cons] at hl;clear h hbx hbo hc;have HEv:Hid (x.nextEv n=y):=by unfold Hid Tn.nextEv;rw[HBo.out]
  have HPb:Hid (x.popBox={x with box:=r}):=by unfold Hid Tn.popBox;rw[HBo.out];rfl
  by_cases hc1:cap=1
  ·subst hc1;have hr0:r=[]:=List.eq_nil_of_length_eq_zero (by omega);subst hr0;simp only[List.length_nil,Nat.zero_add] at c17 hl hcp HBx;go_enter Tryz.func65,Tryz.ntmps65;go_wp2;refine bodyPost_ret (v:= .agg #[.int .u8 y.what,.int .u8 y.by_,.int .u16 y.arg,.int .u8 y.src]) (by simp[results,Tryz.results65,go_sem]) rfl ⟨?_,?_⟩
   ·rw[HEv.out];rfl
   ·rw[HPb.out];exact⟨nv,_,lv,((HT.out.set_box HBx.out.last).alloc _).alloc _,(((TFr.refl _ _ _ _ _).set 17 (by decide) _).alloc (by simpa using HT.out.slot.lt) _).alloc (by simp;have:=HT.out.slot.lt;omega) _,fun k hk=>Or.inl hk.symm,Moved.refl _ _⟩
  ·have hc2:¬cap-1=0:=by omega
   go_enter Tryz.func65,Tryz.ntmps65;go_wp2;refine bodyPost_ret (v:= .agg #[.int .u8 y.what,.int .u8 y.by_,.int .u16 y.arg,.int .u8 y.src]) (by simp[results,Tryz.results65,go_sem]) rfl ⟨?_,?_⟩
   ·rw[HEv.out];rfl
   ·rw[HPb.out];exact⟨nv,_,lv,((HT.out.set_box HBx.out.tail).alloc _).alloc _,(((TFr.refl _ _ _ _ _).set 17 (by decide) _).alloc (by simpa using HT.out.slot.lt) _).alloc (by simp;have:=HT.out.slot.lt;omega) _,fun k hk=>Or.inl hk.symm,Moved.refl _ _⟩
def isMsg (by_:Int) (e:Ev):Bool:=e.what==2&&e.by_==by_
def isClick (e:Ev):Bool:=e.what==1
def Tn.waiting (x:Tn) (by_:Int):Nat:=x.box.countP (isMsg by_)
def Tn.clicks (x:Tn):Nat:=x.box.countP isClick
theorem countP_step {p:Ev→Bool} {l:List Ev} {k:Nat} {x:Ev} (hx:l[k]? =some x):(l.take (k+1)).countP p=(l.take k).countP p+(if p x then 1 else 0):=by
 have hk:=(List.getElem?_eq_some_iff.1 hx).1;rw[List.take_add_one,hx,List.countP_append];simp[List.countP_cons]
theorem waiting_any {w:World} {tb o:Nat} {x:Tn} {nv bv lv:Value} (h:TenAt w tb o x nv bv lv) (by_:Int) (hl:x.box.length≤100000): Calls Tryz.prog 69 #[.pointer (some ⟨tb,o,none⟩),.int .u8 by_] w fun e w'=>e= .returned (.int .i64 (x.waiting by_:Int))∧Below w.heap.size w w':=by
 have HBx:Hid (∀u,Below w.heap.size w u→BoxAt u bv x.box):=fun u hu=>(h.below hu).box;have c17:=h.slot.cell 17 rfl;obtain⟨ao,cap,hv,hcp⟩:=h.box.shape;subst hv;obtain⟨l,hle⟩:∃l,l=x.box:=⟨_,rfl⟩;have HWt:Hid (x.waiting by_=l.countP (isMsg by_)):=by unfold Hid Tn.waiting;rw[hle]
 rw[←hle] at HBx c17 hcp hl;obtain⟨n,hn⟩:∃n,n=l.length:=⟨_,rfl⟩;have Hn:Hid (l.length=n):=hn.symm;rw[←hn] at HBx c17 hcp hl;clear h hle hn;go_enter Tryz.func69,Tryz.ntmps69;go_wp2_with fail;go_loopw [5,13] (fun c i wr=>∃k:Nat,k≤n∧i= .int .i64 k∧c= .int .i64 ((l.take k).countP (isMsg by_):Int)∧Hid (Below w.heap.size w wr))
  (fun _ i _=>n-(intOf i).toNat)
 case atStart=>exact⟨0,Nat.zero_le _,rfl,rfl,Below.refl _ _⟩
 case round=>
  obtain⟨k,hk,rfl,rfl,HB⟩:=hrel;have hsz:=HB.out.size;by_cases hlt:k<n
  ·obtain⟨y,hy⟩:∃y,l[k]? =some y:=⟨l[k]'(by have:=Hn.out;omega),List.getElem?_eq_getElem (by have:=Hn.out;omega)⟩;obtain⟨g,of,c2,hv,hc⟩:=(HBx.out wr HB.out).at hy;simp only[Value.slice.injEq] at hv;obtain⟨rfl,_,rfl⟩:=hv;have e0:=hc 0 (by decide);have e1:=hc 1 (by decide);have e2:=hc 2 (by decide);have e3:=hc 3 (by decide);simp[Ev.cells] at e0 e1 e2 e3;have hki:(k:Int)<(n:Int):=by omega
   have hk0:(0:Int)≤(k:Int):=by omega
   have HC:Hid ((l.take (k+1)).countP (isMsg by_)=(l.take k).countP (isMsg by_)+(if isMsg by_ y then 1 else 0)):=countP_step hy;have hcl:(l.take k).countP (isMsg by_)≤k:=Nat.le_trans List.countP_le_length (by simp;omega);generalize (l.take k).countP (isMsg by_)=q at*;obtain⟨y0,y1,y2,y3⟩:=y;simp only at e0 e1 e2 e3;clear hy hc;by_cases h2:y0=2
   ·subst h2;by_cases h3:y1=by_
    ·subst h3;have hm:isMsg y1 ⟨2,y1,y2,y3⟩=true:=by simp[isMsg]
     go_wp2;go_roundw
     case rel=>exact⟨k+1,by omega,by go_num,by rw[HC.out,hm];rfl,HB.out.alloc hsz _⟩
     case measure=>simp[intOf];omega
    ·have hm:isMsg by_ ⟨2,y1,y2,y3⟩=false:=by simp[isMsg,h3]
     have hb3:(y1==by_)=false:=by rw[beq_eq_false_iff_ne];exact h3
     go_wp2;go_roundw
     case rel=>exact⟨k+1,by omega,by go_num,by rw[HC.out,hm];rfl,HB.out.alloc hsz _⟩
     case measure=>simp[intOf];omega
   ·have hm:isMsg by_ ⟨y0,y1,y2,y3⟩=false:=by simp[isMsg,h2]
    have hb2:(y0==2)=false:=by rw[beq_eq_false_iff_ne];exact h2
    go_wp2;go_roundw
    case rel=>exact⟨k+1,by omega,by go_num,by rw[HC.out,hm];rfl,HB.out.alloc hsz _⟩
    case measure=>simp[intOf];omega
  ·have hkn:k=n:=by omega
   subst hkn;have hki:¬(k:Int)<(k:Int):=by omega
   have HAll:Hid ((l.take k).countP (isMsg by_)=x.waiting by_):=by unfold Hid;rw[HWt.out,List.take_of_length_le (by have:=Hn.out;omega)]
   go_wp2;go_ret;refine⟨?_,HB.out⟩;rw[←HAll.out];rfl
theorem run_append_box (w:World) (ty:TypeId) (v:Value) (l:List Ev) (y:Ev) (hb:BoxAt w v l) (hl:l.length≤100000) (ad:Addr) (c:Nat) (hnews:∀j u,y.cells[j]? =some u→w.cell? (ad.add j)=some u): ∃ao' cap' w',(Builtin.append_ #[29,29] ty #[v,.slice (some ad) 1 c]).run Tryz.prog w= .ok (.slice ao' (l.length+1) cap') w'∧BoxAt w' (.slice ao' (l.length+1) cap') (l++[y])∧w.grownBy w' v.ownBlock∧Moved w v (.slice ao' (l.length+1) cap'):=by
 obtain⟨i0,hi,hz0,hz1,hz2⟩:=info_parts info58;have h1c:∀u∈y.cells,u.oneCell'=true:=by intro u hu;exact evCells_one [y] u (by simpa[evCells] using hu)
 have grow:∀v' w',(Builtin.append_ #[29,29] ty #[v,.slice (some ad) 1 c]).run Tryz.prog w= .ok v' w'→w'.ownsRow w.heap.size 78 4 v' (l.length+1) (evCells l++y.cells)→w.grownBy w' none→∃ao' cap' w',(Builtin.append_ #[29,29] ty #[v,.slice (some ad) 1 c]).run Tryz.prog w= .ok (.slice ao' (l.length+1) cap') w'∧BoxAt w' (.slice ao' (l.length+1) cap') (l++[y])∧w.grownBy w' v.ownBlock∧Moved w v (.slice ao' (l.length+1) cap'):=by
  intro v' w' hr ho' hg';obtain⟨g,cap,rfl,hbg⟩:∃g cap,v'= .slice (some ⟨g,0,none⟩) (l.length+1) cap∧w.heap.size≤g:=by
   rcases ho'.2 with ⟨_,h0⟩|⟨g,cap,cur,hv,hb,_⟩
   ·omega
   ·exact⟨g,cap,hv,hb⟩
  refine⟨_,_,w',hr,?_,⟨hg'.os,hg'.tape,hg'.output,hg'.size,fun k hk _=>hg'.block k hk (by simp)⟩,?_⟩
  ·rw[←evCells_snoc] at ho';have:l.length+1=(l++[y]).length:=by simp
   rw[this] at ho' ⊢;exact own_box ho'
  ·intro k hk;simp only[Value.ownBlock,Option.some.injEq] at hk;subst hk;exact Or.inr hbg
 by_cases hroom:∃g of cap,v= .slice (some ⟨g,of,none⟩) l.length cap∧l.length+1≤cap
 ·obtain⟨g,of,cap,rfl,hr⟩:=hroom;have hb0:=hb;rcases hb with ⟨h,_⟩|⟨g',of',cap',cur,e,hb,h1,h2,h3,h4⟩
  ·simp at h
  ·simp only[Value.slice.injEq,Option.some.injEq,Addr.mk.injEq,and_true,true_and] at e;obtain⟨⟨rfl,rfl⟩,rfl⟩:=e;have hrun:=run_append_room_cells (P:=Tryz.prog) w 29 ty 78 i0 Tryz.underlying29 hi g of l.length cap ad 1 c y.cells (by rw[hz1];rfl) hnews h1c hr
    (by intro j hj;have hj4:j<4:=hj;rw[hb.cell,Array.getElem?_eq_getElem (by rw[hz1];omega)];rfl) (fun j hj=>hb.free _)
   rw[hz1] at hrun;refine⟨_,_,_,hrun,?_,?_,fun k hk=>Or.inl hk.symm⟩
   ·refine Or.inr ⟨g,of,cap,_,by simp,(((hb.set (of+l.length*4) (.int .u8 y.what)).set (of+l.length*4+1) (.int .u8 y.by_)).set (of+l.length*4+1+1) (.int .u16 y.arg)).set (of+l.length*4+1+1+1) (.int .u8 y.src),by simpa using hr,h2,by simpa using h3,?_⟩;simp only[Array.toList_setIfInBounds,List.length_append,List.length_singleton,List.drop_set];rw[if_neg (by omega),if_neg (by omega),if_neg (by omega),if_neg (by omega),evCells_snoc,←h4];apply List.ext_getElem?;intro i;rw[List.getElem?_take];have hsz:of+cap*4≤cur.toList.length:=by simpa using h3
    have hlen:((cur.toList.drop of).take (l.length*4)).length=l.length*4:=by simp;omega
    by_cases hi1:i<(l.length+1)*4
    ·rw[if_pos hi1];by_cases hi2:i<l.length*4
     ·rw[List.getElem?_append_left (by omega),List.getElem?_take,if_pos hi2,List.getElem?_set_ne (by omega),List.getElem?_set_ne (by omega),List.getElem?_set_ne (by omega),List.getElem?_set_ne (by omega)]
     ·rw[List.getElem?_append_right (by omega),hlen];rcases(show i=l.length*4∨i=l.length*4+1∨i=l.length*4+2∨i=l.length*4+3 by omega) with e|e|e|e
      ·subst e;rw[List.getElem?_set_ne (by omega),List.getElem?_set_ne (by omega),List.getElem?_set_ne (by omega),show of+l.length*4-of=l.length*4 by omega,List.getElem?_set_self (by simp;omega)];simp[Ev.cells]
      ·subst e;rw[List.getElem?_set_ne (by omega),List.getElem?_set_ne (by omega),show of+l.length*4+1-of=l.length*4+1 by omega,List.getElem?_set_self (by simp;omega)];simp[Ev.cells]
      ·subst e;rw[List.getElem?_set_ne (by omega),show of+l.length*4+1+1-of=l.length*4+2 by omega,List.getElem?_set_self (by simp;omega)];simp[Ev.cells]
      ·subst e;rw[show of+l.length*4+1+1+1-of=l.length*4+3 by omega,List.getElem?_set_self (by simp;omega)];simp[Ev.cells]
    ·rw[if_neg hi1,List.getElem?_eq_none (by rw[List.length_append,hlen];simp[Ev.cells];omega)]
   ·refine⟨rfl,rfl,rfl,by simp[World.setCells,Ev.cells,World.setCell],fun k hk hne=>?_⟩;have hkg:k≠g:=by rintro rfl;exact hne rfl
    simp only[World.setCells,Ev.cells];rw[Below.heap_setCell _ _ _ _ hkg,Below.heap_setCell _ _ _ _ hkg,Below.heap_setCell _ _ _ _ hkg,Below.heap_setCell _ _ _ _ hkg]
 ·rcases hb with ⟨rfl,rfl⟩|⟨g,of,cap,cur,rfl,hb,h1,h2,h3,h4⟩
  ·obtain⟨v',w',hrun,r1,r2,_⟩:=run_append_own (P:=Tryz.prog) w w.heap.size 29 ty 78 i0 (.agg #[.int .u8 0,.int .u8 0,.int .u16 0,.int .u8 0]) 4 6 Tryz.underlying29 hi hz0 hz1 hz2 rfl (by decide) (.slice none 0 0) 0 [] (World.ownsRow_nil w _ 78 4) ad 1 c y.cells rfl hnews h1c (by unfold maxLen;omega) (by omega) (Nat.le_refl _);exact grow v' w' hrun (by simpa[evCells] using r1) r2
  ·have hcap:cap<l.length+1:=by
    by_cases h:l.length+1≤cap
    ·exact absurd ⟨g,of,cap,rfl,h⟩ hroom
    ·omega
   obtain⟨v',w',hrun,r1,r2⟩:=run_append_arg_grows (P:=Tryz.prog) w 29 ty 78 i0 (.agg #[.int .u8 0,.int .u8 0,.int .u16 0,.int .u8 0]) 4 6 Tryz.underlying29 hi hz0 hz1 hz2 rfl (by decide) ⟨g,of,none⟩ l.length cap (evCells l) (evCells_length l) (by
    intro j u hj;have hjl:j<l.length*4:=by rw[←evCells_length];exact(List.getElem?_eq_some_iff.1 hj).1
    rw[Addr.add_lit,hb.cell,←hj,←h4,List.getElem?_take,if_pos hjl,List.getElem?_drop];simp) ad 1 c y.cells rfl hnews hcap (by unfold maxLen;omega) (by omega)
   exact grow v' w' hrun r1 r2
theorem step_append_box {ops:Array Oper} {o:Oper} {a:Act} {w:World} {K:Act→World→Prop} {Q:Exit→Act→World→Prop} {E:Prop} (hg:o.guard=none) (s x:Operand)
 (ho:o.op= .call {callee:= .builtin .append,args:=#[s,x],argTypes:=#[29,29]}) (v:Value) (l:List Ev) (y:Ev) (hs:a.eval s=v) (hb:BoxAt w v l) (hl:l.length≤100000)
 (ad:Addr) (c:Nat) (hx:a.eval x= .slice (some ad) 1 c) (hnews:∀j u,y.cells[j]? =some u→w.cell? (ad.add j)=some u)
 (h:∀ao' cap' w',BoxAt w' (.slice ao' (l.length+1) cap') (l++[y])→w.grownBy w' v.ownBlock→Moved w v (.slice ao' (l.length+1) cap')→K (a.put o.dst (.slice ao' (l.length+1) cap')) w'): if Region.wanted o (yielded ops a.tmps)=true then Oper.wp Tryz.prog o a w K Q else E:=by
 have hw:Region.wanted o (yielded ops a.tmps)=true:=by simp[Region.wanted,hg]
 rw[if_pos hw];obtain⟨ao',cap',w',hrun,h1,h2,h3⟩:=run_append_box w o.type v l y hb hl ad c hnews;unfold Oper.wp;simp[execOp,ho,resolve,invoke,builtin,hs,hx,hrun,Result.andThen];exact h ao' cap' w' h1 h2 h3
theorem new_four (w:World) (x y z u:Value) (t:TypeId):∀j q,[x,y,z,u][j]? =some q→(w.alloc (.cells #[x,y,z,u] t)).cell? ((⟨w.heap.size,0,none⟩:Addr).add j)=some q:=by
 intro j q hj;rw[Addr.add_lit,Nat.zero_add,(Blk.new w _ t).cell j,←hj];simp
theorem TenAt.joined {w w1:World} {tb o:Nat} {x:Tn} {nv bv lv v:Value} {y:Ev} (h:TenAt w tb o x nv bv lv) (hb:BoxAt w1 v (x.box++[y])) (hg:w.grownBy w1 bv.ownBlock):TenAt (w1.setCell ⟨tb,o+17,none⟩ v) tb o {x with box:=x.box++[y]} nv v lv:=by
 obtain⟨h1,h2,h3⟩:=h.grow_box hg;have h0:=h1;obtain⟨cur,hbk,_⟩:=h1;refine⟨h0.set 17 (by decide) v,ownsRow_setCell_other h2 (fun e=>hbk.ne_own h2 (by decide) e.symm) v,hb.keep fun q hq=>?_,ownsRow_setCell_other h3 (fun e=>hbk.ne_own h3 (by decide) e.symm) v⟩;obtain⟨c2,hb2⟩:=hb.blk hq;exact Below.heap_setCell _ _ _ _ (fun e=>hb2.ne hbk (by decide) e)
def Tn.takeClick (x:Tn) (key:Int):Tn:=if 6≤x.clicks then x else {x with box:=x.box++[⟨1,0,key,0⟩]}
def Tn.takeClickE (x:Tn):Int:=if 6≤x.clicks then 8 else 0
theorem takeClick_any {w:World} {tb o:Nat} {x:Tn} {nv bv lv:Value} (h:TenAt w tb o x nv bv lv) (key:Int) (hl:x.box.length≤100000): Calls Tryz.prog 44 #[.pointer (some ⟨tb,o,none⟩),.int .u16 key] w fun e w'=>e= .returned (.int .i64 x.takeClickE)∧TAft w tb o bv lv (x.takeClick key) w':=by
 have HT:Hid (TenAt w tb o x nv bv lv):=h;have HBx:Hid (∀u,Below w.heap.size w u→BoxAt u bv x.box):=fun u hu=>(h.below hu).box;have c17:=h.slot.cell 17 rfl;have HMv:Hid (bv=bv):=rfl;obtain⟨ao,cap,hv,hcp⟩:=h.box.shape;subst hv;obtain⟨l,hle⟩:∃l,l=x.box:=⟨_,rfl⟩;have HLe:Hid (x.box=l):=hle.symm;have HWt:Hid (x.clicks=l.countP isClick):=by unfold Hid Tn.clicks;rw[hle]
 obtain⟨n,hn⟩:∃n,n=l.length:=⟨_,rfl⟩;have Hn:Hid (l.length=n):=hn.symm;rw[←hle] at c17 hcp hl;rw[←hn] at c17 hcp hl;clear h hle hn;go_enter Tryz.func44,Tryz.ntmps44;go_wp2_with fail;go_loopw [5,13] (fun c i wr=>∃k:Nat,k≤n∧i= .int .i64 k∧c= .int .i64 ((l.take k).countP isClick:Int)∧Hid (Below w.heap.size w wr))
  (fun _ i _=>n-(intOf i).toNat)
 case atStart=>exact⟨0,Nat.zero_le _,rfl,rfl,Below.refl _ _⟩
 case round=>
  obtain⟨k,hk,rfl,rfl,HB⟩:=hrel;have hsz:=HB.out.size;have hbw:=HBx.out wr HB.out;rw[HLe.out] at hbw;by_cases hlt:k<n
  ·obtain⟨y,hy⟩:∃y,l[k]? =some y:=⟨l[k]'(by have:=Hn.out;omega),List.getElem?_eq_getElem (by have:=Hn.out;omega)⟩;obtain⟨g,of,c2,hv,hc⟩:=hbw.at hy;rw[Hn.out] at hv;simp only[Value.slice.injEq] at hv;obtain⟨rfl,_,rfl⟩:=hv;have e0:=hc 0 (by decide);have e1:=hc 1 (by decide);have e2:=hc 2 (by decide);have e3:=hc 3 (by decide);simp[Ev.cells] at e0 e1 e2 e3;have hki:(k:Int)<(n:Int):=by omega
   have hk0:(0:Int)≤(k:Int):=by omega
   have HC:Hid ((l.take (k+1)).countP isClick=(l.take k).countP isClick+(if isClick y then 1 else 0)):=countP_step hy;have hcl:(l.take k).countP isClick≤k:=Nat.le_trans List.countP_le_length (by simp;omega);generalize (l.take k).countP isClick=q at*;obtain⟨y0,y1,y2,y3⟩:=y;simp only at e0 e1 e2 e3;clear hy hc hbw;by_cases h2:y0=1
   ·subst h2;have hm:isClick ⟨1,y1,y2,y3⟩=true:=by simp[isClick]
    go_wp2;go_roundw
    case rel=>exact⟨k+1,by omega,by go_num,by rw[HC.out,hm];rfl,HB.out.alloc hsz _⟩
    case measure=>simp[intOf];omega
   ·have hm:isClick ⟨y0,y1,y2,y3⟩=false:=by simp[isClick,h2]
    have hb2:(y0==1)=false:=by rw[beq_eq_false_iff_ne];exact h2
    go_wp2;go_roundw
    case rel=>exact⟨k+1,by omega,by go_num,by rw[HC.out,hm];rfl,HB.out.alloc hsz _⟩
    case measure=>simp[intOf];omega
  ·have hkn:k=n:=by omega
   subst hkn;have hki:¬(k:Int)<(k:Int):=by omega
   have HAll:Hid ((l.take k).countP isClick=x.clicks):=by unfold Hid;rw[HWt.out,List.take_of_length_le (by have:=Hn.out;omega)]
   have HTw:Hid (TenAt wr tb o x nv (.slice ao x.box.length cap) lv):=HT.out.below HB.out;have d17:=HTw.out.slot.cell 17 rfl;have fz:=HTw.out.slot.free (o+17);rw[HLe.out,Hn.out] at d17;rw[HAll.out];obtain⟨q,hq⟩:∃q,q=x.clicks:=⟨_,rfl⟩;have Hq:Hid (x.clicks=q):=hq.symm;rw[←hq];clear hbw hq HAll;by_cases h6:6≤q
   ·have h6i:(6:Int)≤(q:Int):=by omega
    have HE:Hid (x.takeClickE=8∧x.takeClick key=x):=by unfold Hid Tn.takeClickE Tn.takeClick;rw[Hq.out,if_pos h6,if_pos h6];exact⟨rfl,rfl⟩
    go_wp2;go_ret;refine⟨by rw[HE.out.1];rfl,?_⟩;rw[HE.out.2];exact⟨nv,_,lv,HTw.out,TFr.of_below HB.out HT.out.slot.lt,Moved.refl _ _,Moved.refl _ _⟩
   ·have h6i:¬(6:Int)≤(q:Int):=by omega
    have HE:Hid (x.takeClickE=0∧x.takeClick key={x with box:=x.box++[⟨1,0,key,0⟩]}):=by unfold Hid Tn.takeClickE Tn.takeClick;rw[Hq.out,if_neg h6,if_neg h6];exact⟨rfl,rfl⟩
    have HBw:Hid (BoxAt (wr.alloc (.cells #[.int .u8 1,.int .u8 0,.int .u16 key,.int .u8 0] 78)) (.slice ao k cap) x.box):=by have hb:=(HTw.out.alloc (.cells #[.int .u8 1,.int .u8 0,.int .u16 key,.int .u8 0] 78)).box;rw[HLe.out,Hn.out] at hb;rw[HLe.out];exact hb
    have hxl:x.box.length=k:=by rw[HLe.out,Hn.out]
    have HXl:Hid (x.box.length=k):=hxl;go_wp2_with (at_builtin;refine wpList_append_box _ rfl (.tmp 29) (.tmp 32) rfl (.slice ao k cap) x.box ⟨1,0,key,0⟩ rfl HBw.out (by omega) ⟨wr.heap.size,0,none⟩ 1 rfl (new_four _ _ _ _ _ _) ?_);intro a1 c1 w1 hb1 hg1 hm1;have HJ:Hid (TenAt (w1.setCell ⟨tb,o+17,none⟩ (.slice a1 (k+1) c1)) tb o {x with box:=x.box++[⟨1,0,key,0⟩]} nv (.slice a1 (k+1) c1) lv):=by have hg2:=hg1;rw[←hxl] at hg2;exact(HTw.out.alloc (.cells #[.int .u8 1,.int .u8 0,.int .u16 key,.int .u8 0] 78)).joined hb1 hg2
    have HF:Hid (TFr w w1 tb o (.slice ao k cap) lv):=by refine((TFr.of_below HB.out HT.out.slot.lt).alloc HTw.out.slot.lt _).grow hg1 (fun z hz=>Or.inl (Or.inl hz.symm)) ?_ (by simp;have:=HTw.out.slot.lt;omega);have:=HTw.out.box_tb;rw[hxl] at this;exact this
    have HMo:Hid (Moved w (.slice ao k cap) (.slice a1 (k+1) c1)):=by
     intro z hz;rcases hm1 z hz with e|e
     ·exact Or.inl e
     ·refine Or.inr ?_;try simp at e
      omega
    have hs1:w1.cell? ⟨tb,o+17,none⟩=some (.slice ao k cap):=by have h1:=((HTw.out.alloc (.cells #[.int .u8 1,.int .u8 0,.int .u16 key,.int .u8 0] 78)).grow_box (by rw[hxl];exact hg1)).1.cell 17 rfl;rw[hxl] at h1;exact h1
    have fz1:w1.frozen? ⟨tb,o+17,none⟩=false:=((HTw.out.alloc (.cells #[.int .u8 1,.int .u8 0,.int .u16 key,.int .u8 0] 78)).grow_box (by rw[hxl];exact hg1)).1.free _;clear hb1 hg1 hm1 hxl d17 fz;go_wp2;go_ret;refine⟨by rw[HE.out.1];rfl,?_⟩;rw[HE.out.2,HXl.out];exact⟨nv,_,lv,HJ.out,HF.out.set 17 (by decide) _,HMo.out,Moved.refl _ _⟩
theorem find_none_step {α:Type} {p:α→Bool} {l:List α} {k:Nat} {y:α} (h:(l.take k).find? p=none) (hy:l[k]? =some y) (hp:p y=false):(l.take (k+1)).find? p=none:=by
 rw[List.take_add_one,hy,List.find?_append,h];simp[hp]
theorem find_here {α:Type} {p:α→Bool} {l:List α} {k:Nat} {y:α} (h:(l.take k).find? p=none) (hy:l[k]? =some y) (hp:p y=true):l.find? p=some y:=by
 have hk:=(List.getElem?_eq_some_iff.1 hy).1;have e:l=l.take k++l.drop k:=(List.take_append_drop k l).symm;rw[e,List.find?_append,h,List.drop_eq_getElem_cons hk];have:l[k]=y:=(List.getElem?_eq_some_iff.1 hy).2;simp[this,hp]
def hasId (id:Int) (nd:Tr.T.Nd):Bool:=nd.1==id
def Tn.click (x:Tn) (id:Int):Tn:=if x.phase=1 then (match x.nodes.find? (hasId id) with
 |some nd=>x.takeClick nd.2.1
 |none=>x) else x
def Tn.clickE (x:Tn) (id:Int):Int:=if x.phase=1 then (match x.nodes.find? (hasId id) with
 |some nd=>x.takeClickE
 |none=>7) else 7
theorem click_any {w:World} {tb o:Nat} {x:Tn} {nv bv lv:Value} (h:TenAt w tb o x nv bv lv) (id:Int) (hl:x.box.length≤100000) (hnl:x.nodes.length≤100000) (hid:∀nd∈x.nodes,0≤nd.1∧nd.1≤255): Calls Tryz.prog 36 #[.pointer (some ⟨tb,o,none⟩),.int .i64 id] w fun e w'=>e= .returned (.int .i64 (x.clickE id))∧TAft w tb o bv lv (x.click id) w':=by
 have HT:Hid (TenAt w tb o x nv bv lv):=h;have c7:=h.slot.cell 7 rfl;have c16:=h.slot.cell 16 rfl;by_cases hp:x.phase=1
 ·obtain⟨ao,cap,hv⟩:=own_is h.nodes;subst hv;obtain⟨l,hle⟩:∃l,l=x.nodes:=⟨_,rfl⟩;have HLe:Hid (x.nodes=l):=hle.symm;obtain⟨n,hn⟩:∃n,n=l.length:=⟨_,rfl⟩;have Hn:Hid (l.length=n):=hn.symm;have HN:Hid (∀u,Below w.heap.size w u→u.ownsRow 0 76 3 (.slice ao n cap) n (Tr.ndCells l)):=by intro u hu;have:=(h.below hu).nodes;rw[←hle,←hn] at this;exact this
  have HId:Hid (∀nd∈l,0≤nd.1∧nd.1≤255):=by rw[hle];exact hid
  rw[hp] at c7;rw[←hle,←hn] at c16;rw[←hle,←hn] at hnl;have HE:Hid (x.clickE id=(match l.find? (hasId id) with|some nd=>x.takeClickE|none=>7)∧x.click id=(match l.find? (hasId id) with|some nd=>x.takeClick nd.2.1|none=>x)):=by unfold Hid Tn.clickE Tn.click;rw[if_pos hp,if_pos hp,hle];exact⟨rfl,rfl⟩
  have HP:Hid (x.phase=1):=hp;have HL:Hid (x.box.length≤100000):=hl;clear h hle hn hid hp hl;go_enter Tryz.func36,Tryz.ntmps36;go_wp2_with fail;go_loopw [17] (fun i wr=>∃k:Nat,k≤n∧i= .int .i64 k∧Hid (Below w.heap.size w wr)∧Hid ((l.take k).find? (hasId id)=none))
   (fun i _=>n-(intOf i).toNat)
  case atStart=>exact⟨0,Nat.zero_le _,rfl,Below.refl _ _,rfl⟩
  case round=>
   obtain⟨k,hk,rfl,HB,HF⟩:=hrel;have hsz:=HB.out.size;by_cases hlt:k<n
   ·obtain⟨y,hy⟩:∃y,l[k]? =some y:=⟨l[k]'(by have:=Hn.out;omega),List.getElem?_eq_getElem (by have:=Hn.out;omega)⟩;obtain⟨g,rfl⟩:∃g,ao=some ⟨g,0,none⟩:=by
     rcases(HN.out wr HB.out).2 with ⟨_,h0⟩|⟨g,cp,cur,hv,_⟩
     ·omega
     ·simp only[Value.slice.injEq] at hv;exact⟨g,hv.1⟩
    obtain⟨e0,e1,e2⟩:=(Tr.own_nodeRow (HN.out wr HB.out) Hn.out) k _ hy;rw[Nat.zero_add] at e0 e1 e2;have hr:=HId.out y (List.mem_of_getElem? hy);obtain⟨y0,y1,y2⟩:=y;simp only at e0 e1 e2 hr;have hki:(k:Int)<(n:Int):=by omega
    have hk0:(0:Int)≤(k:Int):=by omega
    have hw:IntKind.i64.wrap y0=y0:=by rw[IntKind.wrap_i64];omega
    by_cases hq:y0=id
    ·subst hq;have HFd:Hid (l.find? (hasId y0)=some (y0,y1,y2)):=find_here HF.out hy (by simp[hasId]);have hTw:=(HT.out.below HB.out).alloc (.cells #[.int .u8 y0,.int .u16 y1,.string y2] 76);have HTw:Hid (TenAt (wr.alloc (.cells #[.int .u8 y0,.int .u16 y1,.string y2] 76)) tb o x (.slice (some ⟨g,0,none⟩) x.nodes.length cap) bv lv):=hTw;have HBw:Hid (Below w.heap.size w (wr.alloc (.cells #[.int .u8 y0,.int .u16 y1,.string y2] 76))):=HB.out.alloc hsz _;clear hy hTw;go_wp2_with fail;refine(takeClick_any HTw.out y1 HL.out).mono ?_;rintro e w2 ⟨rfl,ha⟩;have HA:Hid (TAft w tb o bv lv (x.takeClick y1) w2):=TAft.trans (TFr.of_below HBw.out HT.out.slot.lt) (Moved.refl _ _) (Moved.refl _ _) ha;clear ha;go_wp2;go_ret;refine⟨by rw[HE.out.1,HFd.out];rfl,?_⟩;rw[HE.out.2,HFd.out];exact HA.out
    ·have hqb:(y0==id)=false:=by rw[beq_eq_false_iff_ne];exact hq
     have HF2:Hid ((l.take (k+1)).find? (hasId id)=none):=find_none_step HF.out hy (by simp[hasId,hq]);clear hy;go_wp2;go_roundw
     case rel=>exact⟨k+1,by omega,by go_num,HB.out.alloc hsz _,HF2.out⟩
     case measure=>simp[intOf];omega
   ·have hkn:k=n:=by omega
    subst hkn;have hki:¬(k:Int)<(k:Int):=by omega
    have HNo:Hid (l.find? (hasId id)=none):=by have hf:=HF.out;rw[List.take_of_length_le (by have:=Hn.out;omega)] at hf;exact hf
    go_wp2;go_ret;refine⟨by rw[HE.out.1,HNo.out];rfl,?_⟩;rw[HE.out.2,HNo.out];exact⟨_,bv,lv,HT.out.below HB.out,TFr.of_below HB.out HT.out.slot.lt,Moved.refl _ _,Moved.refl _ _⟩
 ·have hpb:(x.phase !=1)=true:=by simpa using hp
  have HE:Hid (x.clickE id=7∧x.click id=x):=by unfold Hid Tn.clickE Tn.click;rw[if_neg hp,if_neg hp];exact⟨rfl,rfl⟩
  clear h;go_enter Tryz.func36,Tryz.ntmps36;go_wp2;go_ret;refine⟨by rw[HE.out.1];rfl,?_⟩;rw[HE.out.2];exact⟨nv,bv,lv,HT.out,TFr.refl _ _ _ _ _,Moved.refl _ _,Moved.refl _ _⟩
theorem own_zero {w:World} {b:Nat} {e:TypeId} {size:Nat} {v:Value} {n:Nat} {xs:List Value} (h:w.ownsRow b e size v n xs):w.ownsRow 0 e size v n xs:=by
 obtain⟨h1,h2⟩:=h;refine⟨h1,?_⟩;rcases h2 with h2|⟨g,cap,cur,hv,hg,r⟩
 ·exact Or.inl h2
 ·exact Or.inr ⟨g,cap,cur,hv,Nat.zero_le _,r⟩
def Tn.show (x:Tn) (shows:List Tr.T.Sh):Tn:={x with nodes:=Tr.T.planO x.nodes shows}
theorem tshow_any {w:World} {tb o:Nat} {x:Tn} {nv bv lv:Value} (h:TenAt w tb o x nv bv lv) (so:Option Addr) (sc:Nat) (shows:List Tr.T.Sh) (hls:shows.length≤maxLen) (has:Tr.ShAt w so shows) (hks:Tr.shOk shows) (hko:Tr.ndOk x.nodes): Calls Tryz.prog 76 #[.pointer (some ⟨tb,o,none⟩),.slice so shows.length sc] w fun e w'=>e= .returned (.tuple #[])∧TAft w tb o bv lv (x.show shows) w':=by
 have HT:Hid (TenAt w tb o x nv bv lv):=h;have c16:=h.slot.cell 16 rfl;obtain⟨ao,cap,hv,h1,h2,h3⟩:=Tr.own_node h.nodes;subst hv;have HP:Hid (Calls Tryz.prog 83 #[.slice ao x.nodes.length cap,.slice so shows.length sc] w fun e w'=>Tr.planEnd x.nodes shows w e w'):=Tr.plan_any ao so cap sc x.nodes shows w h2 h1 hls h3 hko has hks;clear h h1 h2 h3 hls has hks hko;go_enter Tryz.func76,Tryz.ntmps76;go_wp2_with fail;refine HP.out.mono ?_;rintro e w1 ⟨v,rfl,ho,hb⟩;have HT1:Hid (TenAt w1 tb o x (.slice ao x.nodes.length cap) bv lv):=HT.out.below hb;have HO:Hid (w1.ownsRow 0 76 3 v (Tr.T.planO x.nodes shows).length (Tr.ndCells (Tr.T.planO x.nodes shows))):=own_zero ho;have HB:Hid (Below w.heap.size w w1):=hb;have HNw:Hid (∀k,v.ownBlock=some k→w.heap.size≤k):=fun k hk=>(ho.lt k hk).1;obtain⟨vo,vc,rfl⟩:=own_is ho;have d16:=HT1.out.slot.cell 16 rfl;have fz:=HT1.out.slot.free (o+16);clear ho hb HP;go_wp2;go_end0;exact⟨rfl,_,bv,lv,HT1.out.set_nodes HO.out,(TFr.of_below HB.out HT.out.slot.lt).set16 (HT1.out.slot.cell 16 rfl) _ HNw.out,Moved.refl _ _,Moved.refl _ _⟩
end Go.Proofs.YtidaflmmldefcaaGreat
