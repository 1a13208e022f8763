/- Parts of the proof of Hosts: HstB, HstC, HstD, HstE, HstF, BokC, SameE. -/
import Derived.Test.YtidaflmmldefcaaGreatQ09
import Derived.Deep.Upon
import Derived.Test.YtidaflmmldefcaaGreatQ01
import Derived.BigRegion
import Derived.Maps.AppendAt
set_option maxHeartbeats 8000000
namespace Go.Proofs.YtidaflmmldefcaaGreat
open Go.RowKit
set_option linter.unusedVariables false
section
variable {w w' : World} {hb tb cap : Nat} {H : Hs} {vs : List Vs}
theorem HostAt.upd (h:HostAt w hb tb cap H vs) {i:Nat} {x x':Tn} {v:Vs} {nv' bv' lv':Value} (hx:H.ts[i]? =some x) (hv:vs[i]? =some v) (ht':TenAt w' tb (i*21) x' nv' bv' lv') (hf:TFr w w' tb (i*21) v.2.1 v.2.2) (hm:Moved w v.2.1 bv') (hm2:Moved w v.2.2 lv'): HostAt w' hb tb cap {H with ts:=H.ts.set i x'} (vs.set i (nv',bv',lv'))∧Kept (ownOf hb tb vs) w w'∧∀k,ownOf hb tb (vs.set i (nv',bv',lv')) k→ownOf hb tb vs k∨w.heap.size≤k:=by
 have ht:=h.ten i x v hx hv;have hi:=(List.getElem?_eq_some_iff.1 hv).1;have hi2:=(List.getElem?_eq_some_iff.1 hx).1;have hmem:v∈vs:=List.mem_of_getElem? hv;have other:∀j u,(vs.set i (nv',bv',lv'))[j]? =some u→j≠i→vs[j]? =some u:=by intro j u hu hj;rw[List.getElem?_set_ne (fun e=>hj e.symm)] at hu;exact hu
 have same:∀u,(vs.set i (nv',bv',lv'))[i]? =some u→u=(nv',bv',lv'):=by intro u hu;rw[List.getElem?_set_self hi] at hu;exact(Option.some.inj hu).symm
 have tenj:∀j u,vs[j]? =some u→∃y,H.ts[j]? =some y∧TenAt w tb (j*21) y u.1 u.2.1 u.2.2:=by intro j u hu;have hj:=(List.getElem?_eq_some_iff.1 hu).1;have e:H.ts[j]? =some (H.ts[j]'(by rw[←h.len];exact hj)):=List.getElem?_eq_getElem _;exact⟨_,e,h.ten j _ u e hu⟩
 refine⟨⟨?_,?_,?_,?_,?_⟩,?_,?_⟩
 ·have q:=hf.blk ht h.host (by decide) (by decide) (by decide);simpa using q
 ·simpa using h.len
 ·intro j y u hy hu;by_cases hj:j=i
  ·subst hj;have e:=same u hu;subst e;simp only at hy;rw[List.getElem?_set_self hi2] at hy;have e2:x'=y:=Option.some.inj hy;subst e2;exact ht'
  ·have hu':=other j u hu hj;simp only at hy;rw[List.getElem?_set_ne (fun e=>hj e.symm)] at hy;have hq:=h.ten j y u hy hu';refine⟨hf.slots _ _ (by omega) hq.slot,hf.own ht hq.nodes (by decide) (by decide) (by decide),hq.box.keep fun k hk=>?_,own_block hq.log fun k hk=>?_⟩
   ·obtain⟨cur,hb2⟩:=hq.box.blk hk;refine hf.kept.block k hb2.lt ?_;intro q;rcases q with q|q|q
    ·exact hq.box_tb (by rw[←q];exact hk)
    ·exact h.boxes j i u v hu' hv hj k hk q.symm
    ·exact hb2.ne_own ht.log (by decide) q
   ·obtain⟨cur,hb2⟩:=own_blk hq.log hk;refine hf.kept.block k hb2.lt ?_;intro q;rcases q with q|q|q
    ·exact hq.log_tb (by rw[←q];exact hk)
    ·obtain⟨c2,hb3⟩:=ht.box.blk q.symm;exact hb2.ne hb3 (by decide) rfl
    ·exact h.logs j i u v hu' hv hj k hk q.symm
 ·intro a b u z hu hz hab k hk;by_cases ha:a=i
  ·subst ha;have e:=same u hu;subst e;have hz':=other b z hz (fun e=>hab e.symm);obtain⟨y,_,hq⟩:=tenj b z hz';intro hk2;rcases hm k hk with q|q
   ·exact h.boxes a b v z hv hz' hab k q.symm hk2
   ·obtain⟨c2,hb2⟩:=hq.box.blk hk2;have:=hb2.lt;omega
  ·have hu':=other a u hu ha;by_cases hb':b=i
   ·subst hb';have e:=same z hz;subst e;intro hk2;rcases hm k hk2 with q|q
    ·exact h.boxes a b u v hu' hv hab k hk q.symm
    ·obtain⟨y,_,hq⟩:=tenj a u hu';obtain⟨c2,hb2⟩:=hq.box.blk hk;have:=hb2.lt;omega
   ·exact h.boxes a b u z hu' (other b z hz hb') hab k hk
 ·intro a b u z hu hz hab k hk;by_cases ha:a=i
  ·subst ha;have e:=same u hu;subst e;have hz':=other b z hz (fun e=>hab e.symm);obtain⟨y,_,hq⟩:=tenj b z hz';intro hk2;rcases hm2 k hk with q|q
   ·exact h.logs a b v z hv hz' hab k q.symm hk2
   ·obtain⟨c2,hb2⟩:=own_blk hq.log hk2;have:=hb2.lt;omega
  ·have hu':=other a u hu ha;by_cases hb':b=i
   ·subst hb';have e:=same z hz;subst e;intro hk2;rcases hm2 k hk2 with q|q
    ·exact h.logs a b u v hu' hv hab k hk q.symm
    ·obtain⟨y,_,hq⟩:=tenj a u hu';obtain⟨c2,hb2⟩:=own_blk hq.log hk;have:=hb2.lt;omega
   ·exact h.logs a b u z hu' (other b z hz hb') hab k hk
 ·refine hf.kept.weaken ?_;intro k q;rcases q with q|q|q
  ·exact Or.inr (Or.inl q)
  ·exact Or.inr (Or.inr ⟨v,hmem,Or.inl q⟩)
  ·exact Or.inr (Or.inr ⟨v,hmem,Or.inr (Or.inl q)⟩)
 ·intro k q;rcases q with q|q|⟨u,hu,q⟩
  ·exact Or.inl (Or.inl q)
  ·exact Or.inl (Or.inr (Or.inl q))
  ·rcases List.mem_or_eq_of_mem_set hu with hu'|rfl
   ·exact Or.inl (Or.inr (Or.inr ⟨u,hu',q⟩))
   ·rcases q with q|q|q
    ·rcases hm k q.symm with e|e
     ·exact Or.inl (Or.inr (Or.inr ⟨v,hmem,Or.inl e⟩))
     ·exact Or.inr e
    ·rcases hm2 k q.symm with e|e
     ·exact Or.inl (Or.inr (Or.inr ⟨v,hmem,Or.inr (Or.inl e)⟩))
     ·exact Or.inr e
    ·rcases hf.nod k nv' (ht'.slot.cell 16 rfl) q.symm with ⟨u,e1,e2⟩|e
     ·have e3:=ht.slot.cell 16 rfl;rw[e3] at e1;obtain rfl:=Option.some.inj e1;exact Or.inl (Or.inr (Or.inr ⟨v,hmem,Or.inr (Or.inr e2.symm)⟩))
     ·exact Or.inr e
def HAft (w:World) (hb tb cap:Nat) (vs:List Vs) (H':Hs) (w':World):Prop:=∃vs',HostAt w' hb tb cap H' vs'∧Kept (ownOf hb tb vs) w w'∧∀k,ownOf hb tb vs' k→ownOf hb tb vs k∨w.heap.size≤k
theorem HAft.trans {w1:World} {vs1:List Vs} {H':Hs} (hk:Kept (ownOf hb tb vs) w w1) (ho:∀k,ownOf hb tb vs1 k→ownOf hb tb vs k∨w.heap.size≤k) (h:HAft w1 hb tb cap vs1 H' w'):HAft w hb tb cap vs H' w':=by
 obtain⟨vs',h1,h2,h3⟩:=h;refine⟨vs',h1,hk.trans h2 ?_,?_⟩
 ·intro i hi q;rcases ho i q with e|e
  ·exact e
  ·omega
 ·intro k q;rcases h3 k q with e|e
  ·exact ho k e
  ·exact Or.inr (Nat.le_trans hk.size e)
theorem HAft.refl (h:HostAt w hb tb cap H vs):HAft w hb tb cap vs H w:=⟨vs,h,Kept.refl _ _,fun k q=>Or.inl q⟩
def Hs.click (H:Hs) (id:Int):Hs:=if id<0 then H else match H.ts[(id/100).toNat]? with
 |some x=>{H with ts:=H.ts.set (id/100).toNat (x.click (id%100))}
 |none=>H
def Hs.clickE (H:Hs) (id:Int):Int:=if id<0 then 7 else match H.ts[(id/100).toNat]? with
 |some x=>x.clickE (id%100)
 |none=>7
end
section
variable {w w' : World} {hb tb cap : Nat} {H : Hs} {vs : List Vs}
theorem hclick_any (h:HostAt w hb tb cap H vs) (id:Int) (hi0: -9223372036854775808≤id) (hi1:id≤9223372036854775807) (hl:H.ts.length≤100000) (hok:∀x∈H.ts,x.box.length≤100000∧x.nodes.length≤100000∧∀nd∈x.nodes,0≤nd.1∧nd.1≤255): Calls Tryz.prog 15 #[.pointer (some ⟨hb,0,none⟩),.int .i64 id] w fun e w'=>e= .returned (.int .i64 (H.clickE id))∧HAft w hb tb cap vs (H.click id) w':=by
 have HH:Hid (HostAt w hb tb cap H vs):=h;by_cases hneg:id<0
 ·have HE:Hid (H.clickE id=7∧H.click id=H):=by unfold Hid Hs.clickE Hs.click;rw[if_pos hneg,if_pos hneg];exact⟨rfl,rfl⟩
  have hd:id.tdiv 100= -((-id)/100):=by rw[←Int.tdiv_eq_ediv_of_nonneg (by omega),Int.neg_tdiv,Int.neg_neg]
  have hw:IntKind.i64.wrap (id.tdiv 100)=id.tdiv 100:=by rw[IntKind.wrap_i64,hd];omega
  clear h hok hd;go_enter Tryz.func15,Tryz.ntmps15;go_wp2;go_ret;refine⟨by rw[HE.out.1];rfl,?_⟩;rw[HE.out.2];exact HAft.refl HH.out
 ·obtain⟨t,ht⟩:∃t:Nat,(t:Int)=id/100:=⟨(id/100).toNat,by omega⟩;have hq:id.tdiv 100=(t:Int):=by rw[Int.tdiv_eq_ediv_of_nonneg (by omega)];exact ht.symm
  have hw:IntKind.i64.wrap (t:Int)=(t:Int):=by rw[IntKind.wrap_i64];omega
  have hm:id.tmod 100=id%100:=Int.tmod_eq_emod_of_nonneg (by omega);have hwm:IntKind.i64.wrap (id%100)=id%100:=by rw[IntKind.wrap_i64];omega
  have htn:(id/100).toNat=t:=by omega
  have HE:Hid (H.clickE id=(match H.ts[t]? with|some x=>x.clickE (id%100)|none=>7)∧H.click id=(match H.ts[t]? with|some x=>{H with ts:=H.ts.set t (x.click (id%100))}|none=>H)):=by unfold Hid Hs.clickE Hs.click;rw[if_neg hneg,if_neg hneg,htn];exact⟨rfl,rfl⟩
  have c2:w.cell? ⟨hb,2,none⟩=some (.slice (some ⟨tb,0,none⟩) H.ts.length cap):=by rw[h.host.cell 2];rfl
  have HC:Hid (Calls Tryz.prog 35 #[.pointer (some ⟨hb,0,none⟩),.int .i64 (t:Int)] w fun e w'=>e= .returned (.bool (decide (0≤(t:Int)∧(t:Int)<(H.ts.length:Int))))∧w=w'):=has_any h (t:Int);by_cases hlt:t<H.ts.length
  ·obtain⟨x,hx⟩:∃x,H.ts[t]? =some x:=⟨H.ts[t],List.getElem?_eq_getElem hlt⟩;obtain⟨v,hv,htn'⟩:=h.at hx;have HV:Hid (H.ts[t]? =some x∧vs[t]? =some v):=⟨hx,hv⟩;have HK:Hid (Calls Tryz.prog 36 #[.pointer (some ⟨tb,t*21,none⟩),.int .i64 (id%100)] w fun e w'=>e= .returned (.int .i64 (x.clickE (id%100)))∧TAft w tb (t*21) v.2.1 v.2.2 (x.click (id%100)) w'):=by obtain⟨q1,q2,q3⟩:=hok x (List.mem_of_getElem? hx);exact click_any htn' (id%100) q1 q2 q3
   rw[show decide (0≤(t:Int)∧(t:Int)<(H.ts.length:Int))=true by simp;omega] at HC;have hti:(t:Int)<(H.ts.length:Int):=by omega
   have ht0:(0:Int)≤(t:Int):=by omega
   clear h hok hx hv htn' ht htn hlt;go_enter Tryz.func15,Tryz.ntmps15;go_wp2_with fail;refine HC.out.mono ?_;rintro e w' ⟨rfl,rfl⟩;go_wp2_with fail;refine HK.out.mono ?_;rintro e w2 ⟨rfl,nv',bv',lv',a1,a2,a3,a4⟩;have HZ:Hid (HAft w hb tb cap vs {H with ts:=H.ts.set t (x.click (id%100))} w2):=by obtain⟨q1,q2,q3⟩:=HH.out.upd HV.out.1 HV.out.2 a1 a2 a3 a4;exact⟨_,q1,q2,q3⟩
   clear a1 a2 a3 a4;go_wp2;go_ret;refine⟨by rw[HE.out.1,HV.out.1];rfl,?_⟩;rw[HE.out.2,HV.out.1];exact HZ.out
  ·have HN:Hid (H.ts[t]? =none):=List.getElem?_eq_none (by omega);rw[show decide (0≤(t:Int)∧(t:Int)<(H.ts.length:Int))=false by simp;omega] at HC;clear h hok ht htn hlt;go_enter Tryz.func15,Tryz.ntmps15;go_wp2_with fail;refine HC.out.mono ?_;rintro e w' ⟨rfl,rfl⟩;go_wp2;go_ret;refine⟨by rw[HE.out.1,HN.out];rfl,?_⟩;rw[HE.out.2,HN.out];exact HAft.refl HH.out
end
section
variable {w w' : World} {hb tb cap : Nat} {H : Hs} {vs : List Vs}
theorem has_yes (h:HostAt w hb tb cap H vs) {t:Nat} {x:Tn} (hx:H.ts[t]? =some x):Calls Tryz.prog 35 #[.pointer (some ⟨hb,0,none⟩),.int .i64 (t:Int)] w fun e w'=>e= .returned (.bool true)∧w=w':=by
 have q:=has_any h (t:Int);have hi:=(List.getElem?_eq_some_iff.1 hx).1;rw[show decide (0≤(t:Int)∧(t:Int)<(H.ts.length:Int))=true by simp;omega] at q;exact q
theorem cells_any (h:HostAt w hb tb cap H vs) (t:Nat) {x:Tn} (hx:H.ts[t]? =some x) (hl:H.ts.length≤100000) (htb:tb<w.heap.size): Calls Tryz.prog 29 #[.pointer (some ⟨hb,0,none⟩),.int .i64 t] w fun e w'=>e= .returned (.agg #[.int .u16 (x.cells.getD 0 0),.int .u16 (x.cells.getD 1 0),.int .u16 (x.cells.getD 2 0),.int .u16 (x.cells.getD 3 0),.int .u16 (x.cells.getD 4 0),.int .u16 (x.cells.getD 5 0),.int .u16 (x.cells.getD 6 0),.int .u16 (x.cells.getD 7 0)])∧Below w.heap.size w w':=by
 have HC:Hid (∀ob,Calls Tryz.prog 35 #[.pointer (some ⟨hb,0,none⟩),.int .i64 (t:Int)] (w.alloc ob) fun e w'=>e= .returned (.bool true)∧w.alloc ob=w'):=fun ob=>has_yes (h.below ((Below.refl _ _).alloc (Nat.le_refl _) _) htb) hx;have c2:w.cell? ⟨hb,2,none⟩=some (.slice (some ⟨tb,0,none⟩) H.ts.length cap):=by rw[h.host.cell 2];rfl
 obtain⟨v,hv,ht⟩:=h.at hx;obtain⟨a0,ha0⟩:∃a,a=x.cells.getD 0 0:=⟨_,rfl⟩;have c8:w.cell? ⟨tb,t*21+8,none⟩=some (.int .u16 a0):=by rw[ha0];exact ht.slot.cell 8 rfl
 obtain⟨a1,ha1⟩:∃a,a=x.cells.getD 1 0:=⟨_,rfl⟩;have c9:w.cell? ⟨tb,t*21+8+1,none⟩=some (.int .u16 a1):=by rw[ha1];exact ht.slot.cell 9 rfl
 obtain⟨a2,ha2⟩:∃a,a=x.cells.getD 2 0:=⟨_,rfl⟩;have c10:w.cell? ⟨tb,t*21+8+2,none⟩=some (.int .u16 a2):=by rw[ha2];exact ht.slot.cell 10 rfl
 obtain⟨a3,ha3⟩:∃a,a=x.cells.getD 3 0:=⟨_,rfl⟩;have c11:w.cell? ⟨tb,t*21+8+3,none⟩=some (.int .u16 a3):=by rw[ha3];exact ht.slot.cell 11 rfl
 obtain⟨a4,ha4⟩:∃a,a=x.cells.getD 4 0:=⟨_,rfl⟩;have c12:w.cell? ⟨tb,t*21+8+4,none⟩=some (.int .u16 a4):=by rw[ha4];exact ht.slot.cell 12 rfl
 obtain⟨a5,ha5⟩:∃a,a=x.cells.getD 5 0:=⟨_,rfl⟩;have c13:w.cell? ⟨tb,t*21+8+5,none⟩=some (.int .u16 a5):=by rw[ha5];exact ht.slot.cell 13 rfl
 obtain⟨a6,ha6⟩:∃a,a=x.cells.getD 6 0:=⟨_,rfl⟩;have c14:w.cell? ⟨tb,t*21+8+6,none⟩=some (.int .u16 a6):=by rw[ha6];exact ht.slot.cell 14 rfl
 obtain⟨a7,ha7⟩:∃a,a=x.cells.getD 7 0:=⟨_,rfl⟩;have c15:w.cell? ⟨tb,t*21+8+7,none⟩=some (.int .u16 a7):=by rw[ha7];exact ht.slot.cell 15 rfl
 have hi:=(List.getElem?_eq_some_iff.1 hx).1;have hti:(t:Int)<(H.ts.length:Int):=by omega
 have ht0:(0:Int)≤(t:Int):=by omega
 have hhb:=h.host.lt;have n1:¬hb=w.heap.size:=by omega
 have n2:¬tb=w.heap.size:=by omega
 rw[←ha0,←ha1,←ha2,←ha3,←ha4,←ha5,←ha6,←ha7];clear h hx hv ht ha0 ha1 ha2 ha3 ha4 ha5 ha6 ha7;go_enter Tryz.func29,Tryz.ntmps29;go_wp2_with fail;refine(HC.out _).mono ?_;rintro e w' ⟨rfl,rfl⟩;go_wp2;refine bodyPost_ret (v:= .agg #[.int .u16 a0,.int .u16 a1,.int .u16 a2,.int .u16 a3,.int .u16 a4,.int .u16 a5,.int .u16 a6,.int .u16 a7]) (by simp[results,Tryz.results29,go_sem]) rfl ⟨rfl,(Below.refl _ _).alloc (Nat.le_refl _) _⟩
end
section
variable {w w' : World} {hb tb cap : Nat} {H : Hs} {vs : List Vs}
theorem own_empty (w:World) (t:TypeId) (size:Nat):(w.alloc (.cells #[] t)).ownsRow w.heap.size t size (.slice (some ⟨w.heap.size,0,none⟩) 0 0) 0 []:=⟨by simp,Or.inr ⟨w.heap.size,0,#[],rfl,Nat.le_refl _,Blk.new w #[] t,Nat.le_refl _,Nat.zero_le _,by simp,by simp⟩⟩
theorem ndCells_one (l:List Tr.T.Nd):∀v∈Tr.ndCells l,v.oneCell'=true:=by
 intro v hv;unfold Tr.ndCells at hv;obtain⟨x,_,hx⟩:=List.mem_flatMap.1 hv;simp at hx;rcases hx with rfl|rfl|rfl<;>rfl
theorem htree_any (h:HostAt w hb tb cap H vs) (t:Nat) {x:Tn} (hx:H.ts[t]? =some x) (hl:H.ts.length≤100000) (hnl:x.nodes.length≤100000): Calls Tryz.prog 19 #[.pointer (some ⟨hb,0,none⟩),.int .i64 t] w fun e w'=>∃rv,e= .returned rv∧w'.ownsRow w.heap.size 76 3 rv x.nodes.length (Tr.ndCells x.nodes)∧Below w.heap.size w w':=by
 obtain⟨i0,hi0,hz0,hz1,hz2⟩:=info_parts Tr.info60;have HC:Hid (Calls Tryz.prog 35 #[.pointer (some ⟨hb,0,none⟩),.int .i64 (t:Int)] w fun e w'=>e= .returned (.bool true)∧w=w'):=has_yes h hx;have c2:w.cell? ⟨hb,2,none⟩=some (.slice (some ⟨tb,0,none⟩) H.ts.length cap):=by rw[h.host.cell 2];rfl
 obtain⟨v,hv,ht⟩:=h.at hx;have c16:=ht.slot.cell 16 rfl;have HN:Hid (w.ownsRow 0 76 3 v.1 x.nodes.length (Tr.ndCells x.nodes)):=ht.nodes;obtain⟨ao,nc,hvv⟩:=own_is ht.nodes;rw[hvv] at c16 HN;have hi:=(List.getElem?_eq_some_iff.1 hx).1;have hti:(t:Int)<(H.ts.length:Int):=by omega
 have ht0:(0:Int)≤(t:Int):=by omega
 have hhb:=h.host.lt;have htb:=ht.slot.lt;have n1:¬hb=w.heap.size:=by omega
 have n2:¬tb=w.heap.size:=by omega
 clear h hx hv ht hvv;go_enter Tryz.func19,Tryz.ntmps19;go_wp2_with fail;refine HC.out.mono ?_;rintro e w' ⟨rfl,rfl⟩;have HE0:Hid ((w.alloc (.cells #[] 76)).ownsRow w.heap.size 76 3 (.slice (some ⟨w.heap.size,0,none⟩) 0 0) 0 []):=own_empty w 76 3;have HNa:Hid ((w.alloc (.cells #[] 76)).ownsRow 0 76 3 (.slice ao x.nodes.length nc) x.nodes.length (Tr.ndCells x.nodes)):=HN.out.alloc _;have HBa:Hid (Below w.heap.size w (w.alloc (.cells #[] 76))):=(Below.refl _ _).alloc (Nat.le_refl _) _;cases ao with
 |none=>
  have h0:x.nodes=[]:=by
   rcases HN.out.2 with ⟨_,h⟩|⟨g,c,cur,h,_⟩
   ·exact List.eq_nil_of_length_eq_zero h
   ·simp at h
  have hn0:x.nodes.length=0:=by rw[h0];rfl
  have hc0:nc=0:=by
   rcases HN.out.2 with ⟨h,_⟩|⟨g,c,cur,h,_⟩
   ·simp only[Value.slice.injEq] at h;exact h.2.2
   ·simp at h
  subst hc0;rw[hn0] at c16;have HX0:Hid (x.nodes=[]):=h0;clear HN HNa h0 hn0;go_wp2;go_ret;refine⟨_,rfl,?_,HBa.out⟩;rw[HX0.out];exact HE0.out
 |some ad=>
  obtain⟨g,hg⟩:∃g,ad=⟨g,0,none⟩:=by
   rcases HN.out.2 with ⟨h,_⟩|⟨g,c,cur,h,_⟩
   ·simp at h
   ·simp only[Value.slice.injEq,Option.some.injEq] at h;exact⟨g,h.1⟩
  subst hg;have HNw:Hid (∀j u,(Tr.ndCells x.nodes)[j]? =some u→(w.alloc (.cells #[] 76)).cell? ((⟨g,0,none⟩:Addr).add j)=some u):=fun j u hj=>World.ownsRow.cells HNa.out rfl j u hj;go_wp2_with (at_builtin;refine wpList_append_own_at _ rfl (.tmp 9) (.tmp 17) 28 rfl w.heap.size 76 i0 (.agg #[.int .u8 0,.int .u16 0,.string ⟨#[]⟩]) 3 24 Tryz.underlying28 hi0 hz0 hz1 hz2 rfl (by decide) _ 0 _ rfl HE0.out ⟨g,0,none⟩ x.nodes.length nc (Tr.ndCells x.nodes) rfl (Tr.ndCells_length _) HNw.out (ndCells_one _) (by unfold maxLen;omega) (by omega) (by simp) ?_);intro v1 w1 ho1 hg1 _ _;have HO1:Hid (w1.ownsRow w.heap.size 76 3 v1 x.nodes.length (Tr.ndCells x.nodes)):=by
   first
    |exact ho1
    |simpa using ho1
  have HB1:Hid (Below w.heap.size w w1):=HBa.out.grown hg1 (by simp) (fun k hk=>by simp[Value.ownBlock] at hk;omega);obtain⟨vo,vc,rfl⟩:=own_is ho1;clear ho1 hg1;go_wp2;go_ret;exact⟨_,rfl,HO1.out,HB1.out⟩
theorem enCells_one (l:List En):∀v∈enCells l,v.oneCell'=true:=by
 intro v hv;obtain⟨x,_,hx⟩:=List.mem_flatMap.1 hv;simp[En.cells] at hx;rcases hx with rfl|rfl|rfl|rfl<;>rfl
theorem box_cells {w:World} {g of c:Nat} {l:List Ev} (h:BoxAt w (.slice (some ⟨g,of,none⟩) l.length c) l):∀j u,(evCells l)[j]? =some u→w.cell? ((⟨g,of,none⟩:Addr).add j)=some u:=by
 rcases h with ⟨h,_⟩|⟨g',o',cap,cur,e,hb,h1,h2,h3,h4⟩
 ·simp at h
 ·simp only[Value.slice.injEq,Option.some.injEq,Addr.mk.injEq,and_true,true_and] at e;obtain⟨⟨rfl,rfl⟩,rfl⟩:=e;intro j u hj;have hjl:j<l.length*4:=by rw[←evCells_length];exact(List.getElem?_eq_some_iff.1 hj).1
  rw[Addr.add_lit,hb.cell,←hj,←h4,List.getElem?_take,if_pos hjl,List.getElem?_drop];simp
theorem hlog_any (h:HostAt w hb tb cap H vs) (t:Nat) {x:Tn} (hx:H.ts[t]? =some x) (hl:H.ts.length≤100000) (hnl:x.log.length≤100000): Calls Tryz.prog 25 #[.pointer (some ⟨hb,0,none⟩),.int .i64 t] w fun e w'=>∃rv,e= .returned rv∧w'.ownsRow w.heap.size 80 4 rv x.log.length (enCells x.log)∧Below w.heap.size w w':=by
 obtain⟨i0,hi0,hz0,hz1,hz2⟩:=info_parts info56;have HC:Hid (Calls Tryz.prog 35 #[.pointer (some ⟨hb,0,none⟩),.int .i64 (t:Int)] w fun e w'=>e= .returned (.bool true)∧w=w'):=has_yes h hx;have c2:w.cell? ⟨hb,2,none⟩=some (.slice (some ⟨tb,0,none⟩) H.ts.length cap):=by rw[h.host.cell 2];rfl
 obtain⟨v,hv,ht⟩:=h.at hx;have c18:=ht.slot.cell 18 rfl;have HN:Hid (w.ownsRow 0 80 4 v.2.2 x.log.length (enCells x.log)):=ht.log;obtain⟨ao,nc,hvv⟩:=own_is ht.log;rw[hvv] at c18 HN;have hi:=(List.getElem?_eq_some_iff.1 hx).1;have hti:(t:Int)<(H.ts.length:Int):=by omega
 have ht0:(0:Int)≤(t:Int):=by omega
 have hhb:=h.host.lt;have htb:=ht.slot.lt;have n1:¬hb=w.heap.size:=by omega
 have n2:¬tb=w.heap.size:=by omega
 clear h hx hv ht hvv;go_enter Tryz.func25,Tryz.ntmps25;go_wp2_with fail;refine HC.out.mono ?_;rintro e w' ⟨rfl,rfl⟩;have HE0:Hid ((w.alloc (.cells #[] 80)).ownsRow w.heap.size 80 4 (.slice (some ⟨w.heap.size,0,none⟩) 0 0) 0 []):=own_empty w 80 4;have HNa:Hid ((w.alloc (.cells #[] 80)).ownsRow 0 80 4 (.slice ao x.log.length nc) x.log.length (enCells x.log)):=HN.out.alloc _;have HBa:Hid (Below w.heap.size w (w.alloc (.cells #[] 80))):=(Below.refl _ _).alloc (Nat.le_refl _) _;cases ao with
 |none=>
  have h0:x.log=[]:=by
   rcases HN.out.2 with ⟨_,h⟩|⟨g,c,cur,h,_⟩
   ·exact List.eq_nil_of_length_eq_zero h
   ·simp at h
  have hn0:x.log.length=0:=by rw[h0];rfl
  have hc0:nc=0:=by
   rcases HN.out.2 with ⟨h,_⟩|⟨g,c,cur,h,_⟩
   ·simp only[Value.slice.injEq] at h;exact h.2.2
   ·simp at h
  subst hc0;rw[hn0] at c18;have HX0:Hid (x.log=[]):=h0;clear HN HNa h0 hn0;go_wp2;go_ret;refine⟨_,rfl,?_,HBa.out⟩;rw[HX0.out];exact HE0.out
 |some ad=>
  obtain⟨g,hg⟩:∃g,ad=⟨g,0,none⟩:=by
   rcases HN.out.2 with ⟨h,_⟩|⟨g,c,cur,h,_⟩
   ·simp at h
   ·simp only[Value.slice.injEq,Option.some.injEq] at h;exact⟨g,h.1⟩
  subst hg;have HNw:Hid (∀j u,(enCells x.log)[j]? =some u→(w.alloc (.cells #[] 80)).cell? ((⟨g,0,none⟩:Addr).add j)=some u):=fun j u hj=>World.ownsRow.cells HNa.out rfl j u hj;go_wp2_with (at_builtin;refine wpList_append_own_at _ rfl (.tmp 9) (.tmp 17) 30 rfl w.heap.size 80 i0 (.agg #[.int .i64 0,.int .u8 0,.int .u16 0,.int .u16 0]) 4 16 Tryz.underlying30 hi0 hz0 hz1 hz2 rfl (by decide) _ 0 _ rfl HE0.out ⟨g,0,none⟩ x.log.length nc (enCells x.log) rfl (enCells_length _) HNw.out (enCells_one _) (by unfold maxLen;omega) (by omega) (by simp) ?_);intro v1 w1 ho1 hg1 _ _;have HO1:Hid (w1.ownsRow w.heap.size 80 4 v1 x.log.length (enCells x.log)):=by
   first
    |exact ho1
    |simpa using ho1
  have HB1:Hid (Below w.heap.size w w1):=HBa.out.grown hg1 (by simp) (fun k hk=>by simp[Value.ownBlock] at hk;omega);obtain⟨vo,vc,rfl⟩:=own_is ho1;clear ho1 hg1;go_wp2;go_ret;exact⟨_,rfl,HO1.out,HB1.out⟩
theorem hbox_any (h:HostAt w hb tb cap H vs) (t:Nat) {x:Tn} (hx:H.ts[t]? =some x) (hl:H.ts.length≤100000) (hnl:x.box.length≤100000): Calls Tryz.prog 22 #[.pointer (some ⟨hb,0,none⟩),.int .i64 t] w fun e w'=>∃rv,e= .returned rv∧w'.ownsRow w.heap.size 78 4 rv x.box.length (evCells x.box)∧Below w.heap.size w w':=by
 obtain⟨i0,hi0,hz0,hz1,hz2⟩:=info_parts info58;have HC:Hid (Calls Tryz.prog 35 #[.pointer (some ⟨hb,0,none⟩),.int .i64 (t:Int)] w fun e w'=>e= .returned (.bool true)∧w=w'):=has_yes h hx;have c2:w.cell? ⟨hb,2,none⟩=some (.slice (some ⟨tb,0,none⟩) H.ts.length cap):=by rw[h.host.cell 2];rfl
 obtain⟨v,hv,ht⟩:=h.at hx;have c17:=ht.slot.cell 17 rfl;have HN:Hid (BoxAt w v.2.1 x.box):=ht.box;obtain⟨ao,nc,hvv,_⟩:=ht.box.shape;rw[hvv] at c17 HN;have hi:=(List.getElem?_eq_some_iff.1 hx).1;have hti:(t:Int)<(H.ts.length:Int):=by omega
 have ht0:(0:Int)≤(t:Int):=by omega
 have hhb:=h.host.lt;have htb:=ht.slot.lt;have n1:¬hb=w.heap.size:=by omega
 have n2:¬tb=w.heap.size:=by omega
 clear h hx hv ht hvv;go_enter Tryz.func22,Tryz.ntmps22;go_wp2_with fail;refine HC.out.mono ?_;rintro e w' ⟨rfl,rfl⟩;have HE0:Hid ((w.alloc (.cells #[] 78)).ownsRow w.heap.size 78 4 (.slice (some ⟨w.heap.size,0,none⟩) 0 0) 0 []):=own_empty w 78 4;have HNa:Hid (BoxAt (w.alloc (.cells #[] 78)) (.slice ao x.box.length nc) x.box):=HN.out.keep fun k hk=>by obtain⟨cur,q⟩:=HN.out.blk hk;exact Below.heap_alloc _ _ _ q.lt
 have HBa:Hid (Below w.heap.size w (w.alloc (.cells #[] 78))):=(Below.refl _ _).alloc (Nat.le_refl _) _;cases ao with
 |none=>
  have h0:x.box=[]:=by
   rcases HN.out with ⟨_,h⟩|⟨g,o,c,cur,h,_⟩
   ·exact h
   ·simp at h
  have hn0:x.box.length=0:=by rw[h0];rfl
  have hc0:nc=0:=by
   rcases HN.out with ⟨h,_⟩|⟨g,o,c,cur,h,_⟩
   ·simp only[Value.slice.injEq] at h;exact h.2.2
   ·simp at h
  subst hc0;rw[hn0] at c17;have HX0:Hid (x.box=[]):=h0;clear HN HNa h0 hn0;go_wp2;go_ret;refine⟨_,rfl,?_,HBa.out⟩;rw[HX0.out];exact HE0.out
 |some ad=>
  obtain⟨g,of,hg⟩:∃g of,ad=⟨g,of,none⟩:=by
   rcases HN.out with ⟨h,_⟩|⟨g,of,c,cur,h,_⟩
   ·simp at h
   ·simp only[Value.slice.injEq,Option.some.injEq] at h;exact⟨g,of,h.1⟩
  subst hg;have HNw:Hid (∀j u,(evCells x.box)[j]? =some u→(w.alloc (.cells #[] 78)).cell? ((⟨g,of,none⟩:Addr).add j)=some u):=fun j u hj=>box_cells HNa.out j u hj;go_wp2_with (at_builtin;refine wpList_append_own_at _ rfl (.tmp 9) (.tmp 17) 29 rfl w.heap.size 78 i0 (.agg #[.int .u8 0,.int .u8 0,.int .u16 0,.int .u8 0]) 4 6 Tryz.underlying29 hi0 hz0 hz1 hz2 rfl (by decide) _ 0 _ rfl HE0.out ⟨g,of,none⟩ x.box.length nc (evCells x.box) rfl (evCells_length _) HNw.out (evCells_one _) (by unfold maxLen;omega) (by omega) (by simp) ?_);intro v1 w1 ho1 hg1 _ _;have HO1:Hid (w1.ownsRow w.heap.size 78 4 v1 x.box.length (evCells x.box)):=by
   first
    |exact ho1
    |simpa using ho1
  have HB1:Hid (Below w.heap.size w w1):=HBa.out.grown hg1 (by simp) (fun k hk=>by simp[Value.ownBlock] at hk;omega);obtain⟨vo,vc,rfl⟩:=own_is ho1;clear ho1 hg1;go_wp2;go_ret;exact⟨_,rfl,HO1.out,HB1.out⟩
end
section
variable {w w' : World} {hb tb cap : Nat} {H : Hs} {vs : List Vs}
theorem has_no (h:HostAt w hb tb cap H vs) {t:Int} (ht:¬(0≤t∧t<(H.ts.length:Int))): Calls Tryz.prog 35 #[.pointer (some ⟨hb,0,none⟩),.int .i64 t] w fun e w'=>e= .returned (.bool false)∧w=w':=by
 have q:=has_any h t;rw[decide_eq_false ht] at q;exact q
theorem phase_no (h:HostAt w hb tb cap H vs) {t:Int} (ht:¬(0≤t∧t<(H.ts.length:Int))): Calls Tryz.prog 28 #[.pointer (some ⟨hb,0,none⟩),.int .i64 t] w fun e w'=>e= .returned (.int .u8 0)∧w=w':=by
 have HC:Hid (Calls Tryz.prog 35 #[.pointer (some ⟨hb,0,none⟩),.int .i64 t] w fun e w'=>e= .returned (.bool false)∧w=w'):=has_no h ht;clear h ht;go_enter Tryz.func28,Tryz.ntmps28;go_wp2_with fail;refine HC.out.mono ?_;rintro e w1 ⟨rfl,rfl⟩;go_wp2;go_ret;exact⟨rfl,rfl⟩
theorem cells_no (h:HostAt w hb tb cap H vs) {t:Int} (ht:¬(0≤t∧t<(H.ts.length:Int))) (htb:tb<w.heap.size): Calls Tryz.prog 29 #[.pointer (some ⟨hb,0,none⟩),.int .i64 t] w fun e w'=>e= .returned (.agg #[.int .u16 0,.int .u16 0,.int .u16 0,.int .u16 0,.int .u16 0,.int .u16 0,.int .u16 0,.int .u16 0])∧Below w.heap.size w w':=by
 have HC:Hid (∀ob,Calls Tryz.prog 35 #[.pointer (some ⟨hb,0,none⟩),.int .i64 t] (w.alloc ob) fun e w'=>e= .returned (.bool false)∧w.alloc ob=w'):=fun ob=>has_no (h.below ((Below.refl _ _).alloc (Nat.le_refl _) _) htb) ht;clear h ht;go_enter Tryz.func29,Tryz.ntmps29;go_wp2_with fail;refine(HC.out _).mono ?_;rintro e w1 ⟨rfl,rfl⟩;go_wp2;refine bodyPost_ret (v:= .agg #[.int .u16 0,.int .u16 0,.int .u16 0,.int .u16 0,.int .u16 0,.int .u16 0,.int .u16 0,.int .u16 0]) (by simp[results,Tryz.results29,go_sem]) rfl ⟨rfl,(Below.refl _ _).alloc (Nat.le_refl _) _⟩
theorem htree_no (h:HostAt w hb tb cap H vs) {t:Int} (ht:¬(0≤t∧t<(H.ts.length:Int))): Calls Tryz.prog 19 #[.pointer (some ⟨hb,0,none⟩),.int .i64 t] w fun e w'=>e= .returned (.slice none 0 0)∧w=w':=by
 have HC:Hid (Calls Tryz.prog 35 #[.pointer (some ⟨hb,0,none⟩),.int .i64 t] w fun e w'=>e= .returned (.bool false)∧w=w'):=has_no h ht;clear h ht;go_enter Tryz.func19,Tryz.ntmps19;go_wp2_with fail;refine HC.out.mono ?_;rintro e w1 ⟨rfl,rfl⟩;go_wp2;go_ret;exact⟨rfl,rfl⟩
theorem hlog_no (h:HostAt w hb tb cap H vs) {t:Int} (ht:¬(0≤t∧t<(H.ts.length:Int))): Calls Tryz.prog 25 #[.pointer (some ⟨hb,0,none⟩),.int .i64 t] w fun e w'=>e= .returned (.slice none 0 0)∧w=w':=by
 have HC:Hid (Calls Tryz.prog 35 #[.pointer (some ⟨hb,0,none⟩),.int .i64 t] w fun e w'=>e= .returned (.bool false)∧w=w'):=has_no h ht;clear h ht;go_enter Tryz.func25,Tryz.ntmps25;go_wp2_with fail;refine HC.out.mono ?_;rintro e w1 ⟨rfl,rfl⟩;go_wp2;go_ret;exact⟨rfl,rfl⟩
theorem hbox_no (h:HostAt w hb tb cap H vs) {t:Int} (ht:¬(0≤t∧t<(H.ts.length:Int))): Calls Tryz.prog 22 #[.pointer (some ⟨hb,0,none⟩),.int .i64 t] w fun e w'=>e= .returned (.slice none 0 0)∧w=w':=by
 have HC:Hid (Calls Tryz.prog 35 #[.pointer (some ⟨hb,0,none⟩),.int .i64 t] w fun e w'=>e= .returned (.bool false)∧w=w'):=has_no h ht;clear h ht;go_enter Tryz.func22,Tryz.ntmps22;go_wp2_with fail;refine HC.out.mono ?_;rintro e w1 ⟨rfl,rfl⟩;go_wp2;go_ret;exact⟨rfl,rfl⟩
end
theorem info28n:(Tryz.prog.info? 28).map (fun i=>(i.zero,i.size,i.bytes))=some (some (.slice none 0 0),1,24):=by kernel_rfl
theorem ndCells_set:∀(l:List Tr.T.Nd) (k:Nat) (x:Tr.T.Nd),(((Tr.ndCells l).set (k*3) (.int .u8 x.1)).set (k*3+1) (.int .u16 x.2.1)).set (k*3+2) (.string x.2.2)=Tr.ndCells (l.set k x)
 |[],k,x=>by simp[Tr.ndCells]
 |y::r,0,x=>by
  have e:Tr.ndCells (y::r)= .int .u8 y.1:: .int .u16 y.2.1:: .string y.2.2::Tr.ndCells r:=rfl;have e2:Tr.ndCells ((y::r).set 0 x)= .int .u8 x.1:: .int .u16 x.2.1:: .string x.2.2::Tr.ndCells r:=rfl;rw[e,e2];rfl
 |y::r,k+1,x=>by have e:Tr.ndCells (y::r)= .int .u8 y.1:: .int .u16 y.2.1:: .string y.2.2::Tr.ndCells r:=rfl;have e2:Tr.ndCells ((y::r).set (k+1) x)= .int .u8 y.1:: .int .u16 y.2.1:: .string y.2.2::Tr.ndCells (r.set k x):=rfl;rw[e,e2,←ndCells_set r k x,show(k+1)*3=k*3+1+1+1 by omega,show k*3+1+1+1+1=(k*3+1)+1+1+1 by omega,show k*3+1+1+1+2=(k*3+2)+1+1+1 by omega];rfl
def mkNd (key:Int):List Value:=[.int .u8 0,.int .u16 key,.string ⟨#[]⟩]
theorem ndCells_rep (key:Int):∀n,Tr.ndCells (List.replicate n (0,key,⟨#[]⟩))=rep n (mkNd key)
 |0=>rfl
 |n+1=>by rw[List.replicate_succ',Tr.ndCells_snoc,rep_succ,ndCells_rep key n];rfl
theorem own_set3 {w:World} {base g n cap:Nat} {l:List Tr.T.Nd} (h:w.ownsRow base 76 3 (.slice (some ⟨g,0,none⟩) n cap) n (Tr.ndCells l)) (k:Nat) (x:Tr.T.Nd): (((w.setCell ⟨g,k*3,none⟩ (.int .u8 x.1)).setCell ⟨g,k*3+1,none⟩ (.int .u16 x.2.1)).setCell ⟨g,k*3+2,none⟩ (.string x.2.2)).ownsRow base 76 3 (.slice (some ⟨g,0,none⟩) n cap) n (Tr.ndCells (l.set k x)):=by
 obtain⟨h1,h2⟩:=h;refine⟨by rw[←ndCells_set];simpa using h1,?_⟩;rcases h2 with ⟨hv,_⟩|⟨g',cap',cur,hv,hb,hh,h3,h4,h5,h6⟩
 ·simp at hv
 ·simp only[Value.slice.injEq,Option.some.injEq,Addr.mk.injEq,and_true,true_and] at hv;obtain⟨rfl,rfl⟩:=hv;have hB:Blk w g cur 76:=hh;refine Or.inr ⟨g,cap,_,rfl,hb,((hB.set (k*3) (.int .u8 x.1)).set (k*3+1) (.int .u16 x.2.1)).set (k*3+2) (.string x.2.2),h3,h4,by simpa using h5,?_⟩;rw[Array.toList_setIfInBounds,Array.toList_setIfInBounds,Array.toList_setIfInBounds,List.take_set,List.take_set,List.take_set,h6,ndCells_set]
theorem kept_set3 {S:Nat→Prop} {w w1:World} (h:Kept S w w1) (g a b c:Nat) (x y z:Value) (hs:S g):Kept S w (((w1.setCell ⟨g,a,none⟩ x).setCell ⟨g,b,none⟩ y).setCell ⟨g,c,none⟩ z):=((h.setCell ⟨g,a,none⟩ x (Or.inl hs)).setCell ⟨g,b,none⟩ y (Or.inl hs)).setCell ⟨g,c,none⟩ z (Or.inl hs)
def markedEnd (base B n:Nat) (vn:Value) (E:List Value) (lb:Option Nat) (d0 o1 o2 o6 o7 o8 o9:Value) (w:World) (e:Ending) (w':World):Prop:=e= .returned (.tuple #[])∧∃vn' E',Blk w' B #[d0,vn',o1,o2,.bool false,.slice none 0 0,.slice none 0 0,o6,o7,o8,o9] 34∧w'.ownsRow base 28 1 vn' (E.length+4) (E++E')∧E'.length=4∧(∀v∈E',∃m,m≤n+244∧MarkAt w' 76 (mkNd (IntKind.u16.wrap (200+(E.length:Int)))) v m∧∀k,v.ownBlock=some k→some k=lb∨w.heap.size≤k)∧Kept (fun k=>k=B∨some k=lb∨some k=vn.ownBlock) w w'∧(∀k,vn'.ownBlock=some k→some k=vn.ownBlock∨w.heap.size≤k)
set_option maxRecDepth 100000 in
theorem marked_any (base B:Nat) (vn:Value) (E:List Value) (ao wo:Option Addr) (n cc wc:Nat) (l:List Tr.T.Nd) (d0 o1 o2 o6 o7 o8 o9:Value) (w:World) (hB:base≤B)
 (hbk:Blk w B #[d0,vn,o1,o2,.bool false,.slice ao n cc,.slice wo n wc,o6,o7,o8,o9] 34) (hE:w.ownsRow base 28 1 vn E.length E) (hEl:E.length≤100000000) (hl:l.length=n) (hn:n≤100000)
 (hown:w.ownsRow base 76 3 (.slice ao n cc) n (Tr.ndCells l)) (hw:Tr.NodeAt w wo l) (hs:base≤w.heap.size): Calls Tryz.prog 30 #[.pointer (some ⟨B,1,none⟩)] w fun e w'=>markedEnd base B n vn E (Value.ownBlock (.slice ao n cc)) d0 o1 o2 o6 o7 o8 o9 w e w':=by
 obtain⟨i0,hi,hz0,hz1,hz2⟩:=info_parts Tr.info60;obtain⟨j0,hj,hy0,hy1,hy2⟩:=info_parts info28n;have HBk:Hid (Blk w B #[d0,vn,o1,o2,.bool false,.slice ao n cc,.slice wo n wc,o6,o7,o8,o9] 34):=hbk;have HE:Hid (w.ownsRow base 28 1 vn E.length E):=hE;have HOwn:Hid (w.ownsRow base 76 3 (.slice ao n cc) n (Tr.ndCells l)):=hown;have HW:Hid (Tr.NodeAt w wo l):=hw;have Hn:Hid (l.length=n):=hl;have b4:=hbk.cell 5;simp at b4;obtain⟨no,nc,hvn⟩:∃no nc,vn= .slice no E.length nc:=own_is hE;clear hbk hE hown hw hl;go_enter Tryz.func30,Tryz.ntmps30;go_wp2_with fail;clear b4;go_loopw [3] (fun i wr=>∃(k:Nat),k≤n∧i= .int .i64 k∧Below w.heap.size w wr)
  (fun i _=>n-(intOf i).toNat)
 case atStart=>exact⟨0,Nat.zero_le _,rfl,Below.refl _ _⟩
 case round=>
  obtain⟨k,hk,rfl,hbel⟩:=hrel;have HB1:Hid (Below w.heap.size w wr):=hbel;have hbw:Blk wr B #[d0,vn,o1,o2,.bool false,.slice ao n cc,.slice wo n wc,o6,o7,o8,o9] 34:=HBk.out.below hbel HBk.out.lt;have HBw:Hid (Blk wr B #[d0,vn,o1,o2,.bool false,.slice ao n cc,.slice wo n wc,o6,o7,o8,o9] 34):=hbw;by_cases hlt:k<n
  ·obtain⟨g,rfl⟩:∃g,ao=some ⟨g,0,none⟩:=by
    rcases HOwn.out.2 with ⟨h,h0⟩|⟨g,cp,cur,hv,hb,hh,_⟩
    ·omega
    ·simp only[Value.slice.injEq] at hv;exact⟨g,hv.1⟩
   obtain⟨x,hx⟩:∃x,l[k]? =some x:=⟨l[k]'(by have:=Hn.out;omega),List.getElem?_eq_getElem (by have:=Hn.out;omega)⟩;obtain⟨b,off,rfl,hbl,hr⟩:∃b off,wo=some ⟨b,off,none⟩∧b<w.heap.size∧Tr.NodeRow w b off l:=HW.out.resolve_left (by rintro rfl;simp at hx);obtain⟨c0,c1,c2⟩:=(Tr.own_nodeRow (own_below' HOwn.out hbel (Nat.le_refl _)) Hn.out) k _ hx;obtain⟨d0,d1,d2⟩:=(hr.below hbel hbl) k _ hx;rw[Nat.zero_add] at c0 c1 c2;obtain⟨x1,x2,x3⟩:=x;simp only at c0 c1 c2 d0 d1 d2;have b3:=hbw.cell 4;have b5:=hbw.cell 6;simp at b3 b5;have f3:=hbw.free 4;have hki:(k:Int)<(n:Int):=by omega
   have t1:(x1==x1)=true:=by simp
   have t2:(x2==x2)=true:=by simp
   have t3:(x3.toList==x3.toList)=true:=by simp
   clear hbel hbw hx hr;go_wp2_with fail;go_region
   all_goals
    go_wp2;go_roundw
    case rel=>exact⟨k+1,by omega,by go_num,(below_same HB1.out HBw.out (by simp)).drew⟩
    case measure=>simp[intOf];omega
  ·have hkn:k=n:=by omega
   subst hkn;have HE1:Hid (wr.ownsRow base 28 1 vn E.length E):=own_below' HE.out hbel (Nat.le_refl _);have HO1:Hid (wr.ownsRow base 76 3 (.slice ao k cc) k (Tr.ndCells l)):=own_below' HOwn.out hbel (Nat.le_refl _);have hsz1:=hbel.size;have hlb:∀q,Value.ownBlock (.slice ao k cc)=some q→q<w.heap.size:=fun q h=>(HOwn.out.lt q h).2;have HLb:Hid (∀q,Value.ownBlock (.slice ao k cc)=some q→base≤q∧q<w.heap.size):=fun q h=>HOwn.out.lt q h;have HNb:Hid (∀q,vn.ownBlock=some q→base≤q∧q<w.heap.size):=fun q h=>HE.out.lt q h;have hBl:=HBk.out.lt;obtain⟨cs,hcs⟩:∃cs,cs=#[d0,vn,o1,o2,.bool false,.slice ao k cc,.slice wo k wc,o6,o7,o8,o9]:=⟨_,rfl⟩;have HCs:Hid (cs=#[d0,vn,o1,o2,.bool false,.slice ao k cc,.slice wo k wc,o6,o7,o8,o9]):=hcs;have HBc:Hid (Blk wr B cs 34):=by unfold Hid;rw[hcs];exact hbw
   have b0:=hbw.cell 1;simp at b0;obtain⟨e,he⟩:∃e,e=E.length:=⟨_,rfl⟩;have He:Hid (E.length=e):=he.symm;rw[hvn,←he] at b0;rw[←he] at hEl;obtain⟨K,hw16⟩:∃K,IntKind.u16.wrap ((200:Int)+(e:Int))=K:=⟨_,rfl⟩;have HKe:Hid (IntKind.u16.wrap ((200:Int)+(e:Int))=K):=hw16;clear hbel hbw hlb hcs hlt he HBw HOwn HW HBk HE;go_wp2_with fail;have hM:Blk (wr.alloc (.cells #[.int .u8 0,.int .u16 K,.string ⟨#[]⟩] 76)) wr.heap.size #[.int .u8 0,.int .u16 K,.string ⟨#[]⟩] 76:=Blk.new wr _ 76;have HM:Hid (Blk (wr.alloc (.cells #[.int .u8 0,.int .u16 K,.string ⟨#[]⟩] 76)) wr.heap.size (mkNd K).toArray 76):=hM;have HK1:Hid (Kept (fun q=>q=B∨some q=Value.ownBlock (.slice ao k cc)∨some q=vn.ownBlock) w (wr.alloc (.cells #[.int .u8 0,.int .u16 K,.string ⟨#[]⟩] 76))):=(Kept.of_below HB1.out).alloc _;have HBc2:Hid (Blk (wr.alloc (.cells #[.int .u8 0,.int .u16 K,.string ⟨#[]⟩] 76)) B cs 34):=HBc.out.alloc _;have HE2:Hid ((wr.alloc (.cells #[.int .u8 0,.int .u16 K,.string ⟨#[]⟩] 76)).ownsRow base 28 1 vn E.length E):=HE1.out.alloc _;have HO2:Hid ((wr.alloc (.cells #[.int .u8 0,.int .u16 K,.string ⟨#[]⟩] 76)).ownsRow base 76 3 (.slice ao k cc) k (Tr.ndCells l)):=HO1.out.alloc _;obtain⟨M,hMe⟩:∃M,M=wr.heap.size:=⟨_,rfl⟩;rw[←hMe] at HM hsz1 ⊢;clear hM HB1 HBc HE1 HO1 b0;clear hMe;go_loopw [5] (fun i wr=>∃(q:Nat) (la:List Tr.T.Nd),q≤k∧i= .int .i64 q∧Hid (wr.ownsRow base 76 3 (.slice ao k cc) k (Tr.ndCells la)∧la.length=k∧∀i,i<q→la[i]? =some (0,K,⟨#[]⟩))∧Hid (Blk wr B cs 34∧wr.ownsRow base 28 1 vn E.length E∧Blk wr M (mkNd K).toArray 76∧Kept (fun q=>q=B∨some q=Value.ownBlock (.slice ao k cc)∨some q=vn.ownBlock) w wr))
    (fun i _=>k-(intOf i).toNat)
   case atStart=>exact⟨0,l,Nat.zero_le _,rfl,⟨HO2.out,Hn.out,by intro i hi;omega⟩,HBc2.out,HE2.out,HM.out,HK1.out⟩
   case round=>
    obtain⟨q,la,hq,rfl,HLa,HX⟩:=hrel;clear HO2 HBc2 HE2 HM HK1;have hMb:=HX.out.2.2.1;have m0:=hMb.cell 0;have m1:=hMb.cell 1;have m2:=hMb.cell 2;simp[mkNd] at m0 m1 m2;clear hMb;by_cases hlt:q<k
    ·obtain⟨g,rfl⟩:∃g,ao=some ⟨g,0,none⟩:=by
      rcases HLa.out.1.2 with ⟨h,h0⟩|⟨g,cp,cur,hv,hb,hh,_⟩
      ·omega
      ·simp only[Value.slice.injEq] at hv;exact⟨g,hv.1⟩
     obtain⟨y,hy⟩:∃x,la[q]? =some x:=⟨la[q]'(by have:=HLa.out.2.1;omega),List.getElem?_eq_getElem (by have:=HLa.out.2.1;omega)⟩;obtain⟨c0,c1,c2⟩:=(Tr.own_nodeRow HLa.out.1 HLa.out.2.1) q _ hy;rw[Nat.zero_add] at c0 c1 c2;obtain⟨cur,hcur⟩:∃cur,Blk wr g cur 76:=by
      rcases HLa.out.1.2 with ⟨h,_⟩|⟨g',cp,cur,hv,_,hh,_⟩
      ·simp at h
      ·simp only[Value.slice.injEq,Option.some.injEq,Addr.mk.injEq] at hv;obtain⟨⟨rfl,_⟩,_⟩:=hv;exact⟨cur,hh⟩
     have f0:=hcur.free (q*3);have f1:=hcur.free (q*3+1);have f2:=hcur.free (q*3+2);have hgM:¬g=M:=by have:=HLb.out g rfl;omega
     have hMg:¬M=g:=by omega
     have hBg:B≠g:=HX.out.1.ne hcur (by decide);have hqi:(q:Int)<(k:Int):=by omega
     have HCur:Hid (Blk wr g cur 76):=hcur;have HSg:Hid (g=B∨some g=Value.ownBlock (.slice (some ⟨g,0,none⟩) k cc)∨some g=vn.ownBlock):=Or.inr (Or.inl rfl);clear hcur hy;clear hw16 hEl hk;go_wp2;go_roundw
     case rel=>
      refine⟨q+1,la.set q (0,K,⟨#[]⟩),by omega,by go_num,⟨own_set3 HLa.out.1 q (0,K,⟨#[]⟩),by simpa using HLa.out.2.1,?_⟩,?_,?_,?_,?_⟩
      ·intro i hi';rw[List.getElem?_set];by_cases hik:q=i
       ·rw[if_pos hik,if_pos (by have:=HLa.out.2.1;omega)]
       ·rw[if_neg hik];exact HLa.out.2.2 i (by omega)
      ·exact((HX.out.1.other _ _ hBg).other _ _ hBg).other _ _ hBg
      ·refine own_block HX.out.2.1 fun x hx=>?_;have hne:x≠g:=by rintro rfl;exact(HCur.out.ne_own HX.out.2.1 (by decide)) hx.symm
       exact(Below.heap_setCell _ _ _ _ hne).trans ((Below.heap_setCell _ _ _ _ hne).trans (Below.heap_setCell _ _ _ _ hne))
      ·exact((HX.out.2.2.1.other _ _ hMg).other _ _ hMg).other _ _ hMg
      ·exact kept_set3 HX.out.2.2.2 g _ _ _ _ _ _ HSg.out
     case measure=>simp[intOf];omega
    ·have hqn:q=k:=by omega
     subst hqn;have HL3:Hid (LSt w wr base B M 1 28 76 cs (mkNd K) (Value.ownBlock (.slice ao q cc)) vn.ownBlock E vn [] ao q cc):=by
      have hla:la=List.replicate q (0,K,⟨#[]⟩):=by
       apply List.ext_getElem?;intro i;by_cases hik:i<q
       ·rw[HLa.out.2.2 i hik,List.getElem?_replicate,if_pos hik]
       ·rw[List.getElem?_eq_none (by have:=HLa.out.2.1;omega),List.getElem?_eq_none (by simp;omega)]
      have ho:=HLa.out.1;rw[hla,ndCells_rep] at ho;have hc0:cs[1]? =some vn:=by rw[HCs.out];rfl
      refine⟨by rw[HX.out.1.keeps hc0];exact HX.out.1,by simpa using HX.out.2.1,ho,HX.out.2.2.1,HX.out.2.2.2,?_,fun x hx=>Or.inl hx.symm,by simp,hsz1⟩;intro x hx;have:=HLb.out x hx;exact⟨Or.inl hx.symm,by omega⟩
     clear HLa HX m0 m1 m2;go_wp2_with fail;have hms:(mkNd K).length=3:=rfl;go_loopw [2,6] (fun vl i wr=>∃(j len cj:Nat) (aj:Option Addr) (vj:Value) (Ej:List Value),vl= .slice aj len cj∧j≤4∧i= .int .i64 j∧len≤q+61*j∧Ej.length=j∧Hid (LSt w wr base B M 1 28 76 cs (mkNd K) (Value.ownBlock (.slice ao q cc)) vn.ownBlock E vj Ej aj len cj))
      (fun _ i _=>4-(intOf i).toNat)
     case atStart=>exact⟨0,q,cc,ao,vn,[],rfl,by omega,rfl,by omega,rfl,HL3⟩
     case round=>
      obtain⟨j,len,cj,aj,vj,Ej,rfl,hj4,rfl,hlen,hEj,HL⟩:=hrel;clear HL3;have hszr:=HL.out.kept.size;have HRow:Hid (wr.ownsRow base 28 1 vj (e+j) (E++Ej)):=by have h:=HL.out.row;rw[He.out,hEj] at h;exact h
      have HNo:Hid (vn.ownBlock=vn.ownBlock):=rfl;by_cases hjj:j<4
      ·have b0:=HL.out.bk.cell 1;rw[HCs.out] at b0;simp at b0;have hji:(j:Int)<4:=by omega
       go_wp2_with (at_builtin;refine wpList_append_own_at _ rfl (.tmp 65) (.tmp 67) 25 rfl base 28 j0 (.slice none 0 0) 1 24 Tryz.underlying25 hj hy0 hy1 hy2 rfl (by decide) _ (e+j) _ rfl (HRow.out.alloc _) ⟨wr.heap.size,0,none⟩ 1 1 [.slice aj len cj] rfl rfl (new_one _ _ _) (by intro u hu;simp at hu;subst hu;rfl) (by unfold maxLen;omega) (by omega) (by simp;omega) ?_);intro v7 w7 ho7 hg7 _ hb7;obtain⟨vo7,vc7,rfl⟩:∃vo7 vc7,v7= .slice vo7 (e+j+1) vc7:=own_is ho7;have HL8:Hid (LSt w (w7.setCell ⟨B,1,none⟩ (.slice vo7 (e+j+1) vc7)) base B M 1 28 76 cs (mkNd K) (Value.ownBlock (.slice ao q cc)) vn.ownBlock E (.slice vo7 (e+j+1) vc7) (Ej++[.slice aj len cj]) aj len cj):=by refine HL.out.join (by decide) (by decide) (by decide) ?_ hg7 (by simpa using hb7);rw[He.out,hEj,List.append_assoc];exact ho7
       obtain⟨hb8,hm8⟩:=HL.out.mid (by decide) (by decide) hg7;have c7:=hb8.cell 1;rw[HCs.out] at c7;simp at c7;have f7:=hb8.free 1;have hBM:¬B=M:=by have:=HL.out.hM;omega
       have hMB:¬M=B:=by omega
       have m0:=hm8.cell 0;have m1:=hm8.cell 1;have m2:=hm8.cell 2;simp[mkNd] at m0 m1 m2;have hs7:base≤w7.heap.size:=by have:=hg7.size;simp at this;omega
       have hnw:∀jj u,(mkNd K)[jj]? =some u→((w7.setCell ⟨B,1,none⟩ (.slice vo7 (e+j+1) vc7)).alloc (.cells #[.int .u8 0,.int .u16 K,.string ⟨#[]⟩] 76)).cell? ((⟨w7.heap.size,0,none⟩:Addr).add jj)=some u:=by rw[show w7.heap.size=(w7.setCell ⟨B,1,none⟩ (.slice vo7 (e+j+1) vc7)).heap.size by simp];exact Tr.new_three _ _ _ _ _
       have HNw:Hid (∀jj u,(mkNd K)[jj]? =some u→((w7.setCell ⟨B,1,none⟩ (.slice vo7 (e+j+1) vc7)).alloc (.cells #[.int .u8 0,.int .u16 K,.string ⟨#[]⟩] 76)).cell? ((⟨w7.heap.size,0,none⟩:Addr).add jj)=some u):=hnw;clear ho7 hg7 hb7 hb8 hm8 hnw HL HRow b0;go_wp2_with (at_builtin;refine wpList_append_mark _ rfl (.tmp 71) (.tmp 73) 28 rfl base 76 i0 (.agg #[.int .u8 0,.int .u16 0,.string ⟨#[]⟩]) 24 (mkNd K) Tryz.underlying28 hi hz0 hz1 hz2 rfl (Nat.succ_pos 2) aj len cj rfl (HL8.out.own.alloc _) ⟨w7.heap.size,0,none⟩ 1 rfl HNw.out (by intro u hu;simp[mkNd] at hu;rcases hu with rfl|rfl|rfl<;>rfl) (by unfold maxLen;omega) (by omega) (by simp;omega) ?_);intro a9 c9 w9 ho9 hg9 hb9 hm9;have HL9:Hid (LSt w w9 base B M 1 28 76 cs (mkNd K) (Value.ownBlock (.slice ao q cc)) vn.ownBlock E (.slice vo7 (e+j+1) vc7) (Ej++[.slice aj len cj]) a9 (len+1) c9):=HL8.out.push (by decide) (by decide) ho9 hg9 (by simpa using hb9) hm9;clear ho9 hg9 hb9 hm9 HL8 HNw c7 f7 m0 m1 m2 hs7;go_wp2_with fail;go_loopw [2,7] (fun vl i wr=>∃(p len' c':Nat) (a':Option Addr),vl= .slice a' len' c'∧p≤60∧i= .int .i64 p∧len'≤len+1+p∧Hid (LSt w wr base B M 1 28 76 cs (mkNd K) (Value.ownBlock (.slice ao q cc)) vn.ownBlock E (.slice vo7 (e+j+1) vc7) (Ej++[.slice aj len cj]) a' len' c'))
        (fun _ i _=>60-(intOf i).toNat)
       case atStart=>exact⟨0,len+1,c9,a9,rfl,by omega,rfl,by omega,HL9⟩
       case round=>
        obtain⟨p,len',c',a',rfl,hp60,rfl,hlen',HL⟩:=hrel;clear HL9;have hszr:=HL.out.kept.size;by_cases hpp:p<60
        ·have hpi:(p:Int)<60:=by omega
         by_cases hj2:j=2
         ·obtain⟨tt,ht1,ht2⟩:∃tt:Bool,((j:Int)==2)=tt∧tt=true:=⟨true,by subst hj2;rfl,rfl⟩;clear hj2;have m0:=HL.out.mark.cell 0;have m1:=HL.out.mark.cell 1;have m2:=HL.out.mark.cell 2;simp[mkNd] at m0 m1 m2;have HNw:Hid (∀jj u,(mkNd K)[jj]? =some u→(wr.alloc (.cells #[.int .u8 0,.int .u16 K,.string ⟨#[]⟩] 76)).cell? ((⟨wr.heap.size,0,none⟩:Addr).add jj)=some u):=Tr.new_three wr _ _ _ _;go_wp2_with (at_builtin;refine wpList_append_mark _ rfl (.tmp 83) (.tmp 85) 28 rfl base 76 i0 (.agg #[.int .u8 0,.int .u16 0,.string ⟨#[]⟩]) 24 (mkNd K) Tryz.underlying28 hi hz0 hz1 hz2 rfl (Nat.succ_pos 2) a' len' c' rfl (HL.out.own.alloc _) ⟨wr.heap.size,0,none⟩ 1 rfl HNw.out (by intro u hu;simp[mkNd] at hu;rcases hu with rfl|rfl|rfl<;>rfl) (by unfold maxLen;omega) (by omega) (by simp;omega) ?_);intro a9 c9 w9 ho9 hg9 hb9 hm9;have HL9:Hid (LSt w w9 base B M 1 28 76 cs (mkNd K) (Value.ownBlock (.slice ao q cc)) vn.ownBlock E (.slice vo7 (e+j+1) vc7) (Ej++[.slice aj len cj]) a9 (len'+1) c9):=HL.out.push (by decide) (by decide) ho9 hg9 (by simpa using hb9) hm9;clear ho9 hg9 hb9 hm9 HNw m0 m1 m2;go_wp2;go_roundw
          case rel=>exact⟨p+1,len'+1,c9,a9,rfl,by omega,by go_num,by omega,HL9⟩
          case measure=>simp[intOf];omega
         ·have hj2':((j:Int)==2)=false:=by rw[beq_eq_false_iff_ne];omega
          go_wp2;go_roundw
          case rel=>exact⟨j+1,len',c',a',(.slice vo7 (e+j+1) vc7),_,rfl,by omega,by go_num,by omega,by simp[hEj],HL⟩
          case measure=>simp[intOf];omega
        ·have hpn:¬(p:Int)<60:=by omega
         go_wp2;go_roundw
         case rel=>exact⟨j+1,len',c',a',(.slice vo7 (e+j+1) vc7),_,rfl,by omega,by go_num,by omega,by simp[hEj],HL⟩
         case measure=>simp[intOf];omega
      ·have hjn:¬(j:Int)<4:=by omega
       have hj4':j=4:=by omega
       have b4:=HL.out.bk.cell 5;have b5:=HL.out.bk.cell 6;rw[HCs.out] at b4 b5;simp at b4 b5;have f4:=HL.out.bk.free 5;have f5:=HL.out.bk.free 6;clear HRow;go_wp2;go_end0;subst hvn;obtain⟨r1,r2,r3,r4,r5⟩:=HL.out.fin (by decide) (by decide) 5 6 (.slice none 0 0) (.slice none 0 0);refine⟨rfl,vj,Ej,?_,?_,by omega,?_,r4,r5⟩
       ·rw[HCs.out] at r1;exact r1
       ·rw[hEj,hj4'] at r2;exact r2
       ·intro v hv;obtain⟨m,hm1,hm2,hm3⟩:=r3 v hv;refine⟨m,by omega,?_,hm3⟩;rw[He.out,HKe.out];exact hm2
theorem row4_at {w:World} {base:Nat} {e:TypeId} {ao:Option Addr} {n cap:Nat} {xs:List Value} (h:w.ownsRow base e 4 (.slice ao n cap) n xs) {k:Nat} (hk:k<n): ∃g,ao=some ⟨g,0,none⟩∧∀j v,j<4→xs[k*4+j]? =some v→w.cell? ⟨g,k*4+j,none⟩=some v:=by
 rcases h.2 with ⟨_,h0⟩|⟨g,cp,cur,hv,_⟩
 ·omega
 ·simp only[Value.slice.injEq] at hv;obtain⟨rfl,_,rfl⟩:=hv;refine⟨g,rfl,fun j v hj hx=>?_⟩;have h1:=World.ownsRow.cells h (g:=g) rfl _ v hx;rw[Addr.add_lit,Nat.zero_add] at h1;exact h1
theorem sameEv_any {w:World} {b1 b2:Nat} {ao bo:Option Addr} {ca cb:Nat} {l:List Ev} (h1:w.ownsRow b1 78 4 (.slice ao l.length ca) l.length (evCells l)) (h2:w.ownsRow b2 78 4 (.slice bo l.length cb) l.length (evCells l)) (hl:l.length≤1000000): Calls Tryz.prog 23 #[.slice ao l.length ca,.slice bo l.length cb] w fun e w'=>e= .returned (.bool true)∧∃q,w'=w.drewN q:=by
 obtain⟨n,hn⟩:∃n,n=l.length:=⟨_,rfl⟩;have Hn:Hid (l.length=n):=hn.symm;have H1:Hid (w.ownsRow b1 78 4 (.slice ao n ca) n (evCells l)):=by unfold Hid;rw[hn];exact h1
 have H2:Hid (w.ownsRow b2 78 4 (.slice bo n cb) n (evCells l)):=by unfold Hid;rw[hn];exact h2
 rw[←hn] at hl ⊢;clear hn h1 h2;go_enter Tryz.func23,Tryz.ntmps23;go_wp2;go_loopw [5] (fun i wr=>∃(k q:Nat),k≤n∧i= .int .i64 k∧wr=w.drewN q)
  (fun i _=>n-(intOf i).toNat)
 case atStart=>exact⟨0,0,Nat.zero_le _,rfl,rfl⟩
 case round=>
  obtain⟨k,q,hk,rfl,rfl⟩:=hrel;by_cases hlt:k<n
  ·obtain⟨x,hx⟩:∃x,l[k]? =some x:=⟨l[k]'(by have:=Hn.out;omega),List.getElem?_eq_getElem (by have:=Hn.out;omega)⟩;obtain⟨g1,rfl,r1⟩:=row4_at H1.out hlt;obtain⟨g2,rfl,r2⟩:=row4_at H2.out hlt;have ex:=evCells_at l k x hx;obtain⟨x0,x1,x2,x3⟩:=x;have c0:w.cell? ⟨g1,k*4,none⟩=some (.int .u8 x0):=r1 0 _ (by decide) (ex 0 (by decide));have c1:w.cell? ⟨g1,k*4+1,none⟩=some (.int .u8 x1):=r1 1 _ (by decide) (ex 1 (by decide));have c2:w.cell? ⟨g1,k*4+2,none⟩=some (.int .u16 x2):=r1 2 _ (by decide) (ex 2 (by decide));have c3:w.cell? ⟨g1,k*4+3,none⟩=some (.int .u8 x3):=r1 3 _ (by decide) (ex 3 (by decide));have d0:w.cell? ⟨g2,k*4,none⟩=some (.int .u8 x0):=r2 0 _ (by decide) (ex 0 (by decide));have d1:w.cell? ⟨g2,k*4+1,none⟩=some (.int .u8 x1):=r2 1 _ (by decide) (ex 1 (by decide));have d2:w.cell? ⟨g2,k*4+2,none⟩=some (.int .u16 x2):=r2 2 _ (by decide) (ex 2 (by decide));have d3:w.cell? ⟨g2,k*4+3,none⟩=some (.int .u8 x3):=r2 3 _ (by decide) (ex 3 (by decide));have hi:(k:Int)<(n:Int):=by omega
   have h0:(0:Int)≤(k:Int):=by omega
   clear hx r1 r2 ex;go_wp2_with fail;go_quiet (fail);go_wp2;go_roundw
   case rel=>exact⟨k+1,_,by omega,by go_num,by first|rfl|simp⟩
   case measure=>simp[intOf];omega
  ·have hkn:k=n:=by omega
   subst hkn;have hki:¬(k:Int)<(k:Int):=by omega
   go_wp2;go_ret;exact⟨rfl,q,rfl⟩
theorem sameEn_any {w:World} {b1 b2:Nat} {ao bo:Option Addr} {ca cb:Nat} {l:List En} (h1:w.ownsRow b1 80 4 (.slice ao l.length ca) l.length (enCells l)) (h2:w.ownsRow b2 80 4 (.slice bo l.length cb) l.length (enCells l)) (hl:l.length≤1000000): Calls Tryz.prog 26 #[.slice ao l.length ca,.slice bo l.length cb] w fun e w'=>e= .returned (.bool true)∧∃q,w'=w.drewN q:=by
 obtain⟨n,hn⟩:∃n,n=l.length:=⟨_,rfl⟩;have Hn:Hid (l.length=n):=hn.symm;have H1:Hid (w.ownsRow b1 80 4 (.slice ao n ca) n (enCells l)):=by unfold Hid;rw[hn];exact h1
 have H2:Hid (w.ownsRow b2 80 4 (.slice bo n cb) n (enCells l)):=by unfold Hid;rw[hn];exact h2
 rw[←hn] at hl ⊢;clear hn h1 h2;go_enter Tryz.func26,Tryz.ntmps26;go_wp2;go_loopw [5] (fun i wr=>∃(k q:Nat),k≤n∧i= .int .i64 k∧wr=w.drewN q)
  (fun i _=>n-(intOf i).toNat)
 case atStart=>exact⟨0,0,Nat.zero_le _,rfl,rfl⟩
 case round=>
  obtain⟨k,q,hk,rfl,rfl⟩:=hrel;by_cases hlt:k<n
  ·obtain⟨x,hx⟩:∃x,l[k]? =some x:=⟨l[k]'(by have:=Hn.out;omega),List.getElem?_eq_getElem (by have:=Hn.out;omega)⟩;obtain⟨g1,rfl,r1⟩:=row4_at H1.out hlt;obtain⟨g2,rfl,r2⟩:=row4_at H2.out hlt;have ex:=enCells_at l k x hx;obtain⟨x0,x1,x2,x3⟩:=x;have c0:w.cell? ⟨g1,k*4,none⟩=some (.int .i64 x0):=r1 0 _ (by decide) (ex 0 (by decide));have c1:w.cell? ⟨g1,k*4+1,none⟩=some (.int .u8 x1):=r1 1 _ (by decide) (ex 1 (by decide));have c2:w.cell? ⟨g1,k*4+2,none⟩=some (.int .u16 x2):=r1 2 _ (by decide) (ex 2 (by decide));have c3:w.cell? ⟨g1,k*4+3,none⟩=some (.int .u16 x3):=r1 3 _ (by decide) (ex 3 (by decide));have d0:w.cell? ⟨g2,k*4,none⟩=some (.int .i64 x0):=r2 0 _ (by decide) (ex 0 (by decide));have d1:w.cell? ⟨g2,k*4+1,none⟩=some (.int .u8 x1):=r2 1 _ (by decide) (ex 1 (by decide));have d2:w.cell? ⟨g2,k*4+2,none⟩=some (.int .u16 x2):=r2 2 _ (by decide) (ex 2 (by decide));have d3:w.cell? ⟨g2,k*4+3,none⟩=some (.int .u16 x3):=r2 3 _ (by decide) (ex 3 (by decide));have hi:(k:Int)<(n:Int):=by omega
   have h0:(0:Int)≤(k:Int):=by omega
   clear hx r1 r2 ex;go_wp2_with fail;go_quiet (fail);go_wp2;go_roundw
   case rel=>exact⟨k+1,_,by omega,by go_num,by first|rfl|simp⟩
   case measure=>simp[intOf];omega
  ·have hkn:k=n:=by omega
   subst hkn;have hki:¬(k:Int)<(k:Int):=by omega
   go_wp2;go_ret;exact⟨rfl,q,rfl⟩
end Go.Proofs.YtidaflmmldefcaaGreat
