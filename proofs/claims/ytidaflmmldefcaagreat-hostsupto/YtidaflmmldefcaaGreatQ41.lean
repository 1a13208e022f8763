/- Parts of the proof of Hosts: RefD. -/
import Derived.Test.YtidaflmmldefcaaGreatQ19
import Derived.Deep.RegionHeld3
import Derived.Test.YtidaflmmldefcaaGreatQ26
set_option maxHeartbeats 16000000
namespace Go.Proofs.YtidaflmmldefcaaGreat
open Go.RowKit
set_option linter.unusedVariables false
theorem set_self {l:List Tn} {i:Nat} {x:Tn} (hx:l[i]? =some x):l.set i x=l:=by
 apply List.ext_getElem?;intro j;by_cases hj:j=i
 ·subst hj;rw[List.getElem?_set_self (List.getElem?_eq_some_iff.1 hx).1,hx]
 ·rw[List.getElem?_set_ne (fun e=>hj e.symm)]
theorem Hs.set_self {H:Hs} {i:Nat} {x:Tn} (hx:H.ts[i]? =some x):{H with ts:=H.ts.set i x}=H:=by
 rw[Go.Proofs.YtidaflmmldefcaaGreat.set_self hx]
theorem isCnt_click (l:List Ev):l.countP (isCnt 1 (-1))=l.countP isClick:=by
 apply List.countP_congr;intro e _;simp[isCnt,isClick]
section
variable {w w' : World} {R : RB} {H : Hs} {held : List Int}
set_option maxRecDepth 100000 in
theorem rclick_any (h:RefAt w R H held) (id:Int) (hi0: -9223372036854775808≤id) (hi1:id≤9223372036854775807) (hn4:H.ts.length≤4) (hok:∀x∈H.ts,x.box.length≤100000∧x.nodes.length≤100000∧(∀nd∈x.nodes,0≤nd.1∧nd.1≤255)∧(∀e∈x.box,e.ok)): Calls Tryz.prog 16 #[.pointer (some ⟨R.rb,0,none⟩),.int .i64 id] w fun e w'=>e= .returned (.int .i64 (H.clickE id))∧RAft w R (H.click id) held w':=by
 have HH:Hid (RefAt w R H held):=h;by_cases hneg:id<0
 ·have HE:Hid (H.clickE id=7∧H.click id=H):=by unfold Hid Hs.clickE Hs.click;rw[if_pos hneg,if_pos hneg];exact⟨rfl,rfl⟩
  have hd:id.tdiv 100= -((-id)/100):=by rw[←Int.tdiv_eq_ediv_of_nonneg (by omega),Int.neg_tdiv,Int.neg_neg]
  have hw:IntKind.i64.wrap (id.tdiv 100)=id.tdiv 100:=by rw[IntKind.wrap_i64,hd];omega
  clear h hok hd;go_enter Tryz.func16,Tryz.ntmps16;go_wp2;go_ret;refine⟨by rw[HE.out.1];rfl,?_⟩;rw[HE.out.2];exact RAft.refl HH.out
 ·obtain⟨t,ht⟩:∃t:Nat,(t:Int)=id/100:=⟨(id/100).toNat,by omega⟩;have hq:id.tdiv 100=(t:Int):=by rw[Int.tdiv_eq_ediv_of_nonneg (by omega)];exact ht.symm
  have hw:IntKind.i64.wrap (t:Int)=(t:Int):=by rw[IntKind.wrap_i64];omega
  have htn:(id/100).toNat=t:=by omega
  have hmm:id%100=id-100*(t:Int):=by omega
  have hw1:IntKind.i64.wrap (100*(t:Int))=100*(t:Int):=by rw[IntKind.wrap_i64];omega
  have hw2:IntKind.i64.wrap (id-100*(t:Int))=id-100*(t:Int):=by rw[IntKind.wrap_i64];omega
  have HE:Hid (H.clickE id=(match H.ts[t]? with|some x=>x.clickE (id-100*(t:Int))|none=>7)∧H.click id=(match H.ts[t]? with|some x=>{H with ts:=H.ts.set t (x.click (id-100*(t:Int)))}|none=>H)):=by unfold Hid Hs.clickE Hs.click;rw[if_neg hneg,if_neg hneg,htn,hmm];exact⟨rfl,rfl⟩
  have c0:w.cell? ⟨R.rb,0,none⟩=some (.slice (some ⟨R.m,0,none⟩) H.ts.length R.mc):=by rw[h.host.cell 0];rfl
  have c3:w.cell? ⟨R.rb,3,none⟩=some (.slice (some ⟨R.p,0,none⟩) H.ts.length R.pc):=by rw[h.host.cell 3];rfl
  by_cases hlt:t<H.ts.length
  ·obtain⟨x,hx⟩:∃x,H.ts[t]? =some x:=⟨H.ts[t],List.getElem?_eq_getElem hlt⟩;have hti:¬((H.ts.length:Int)≤(t:Int)):=by omega
   have htj:(t:Int)<(H.ts.length:Int):=by omega
   have ht0:(0:Int)≤(t:Int):=by omega
   have cp:w.cell? ⟨R.p,t,none⟩=some (.int .i64 x.phase):=own_cellN h.rp (by rw[List.getElem?_map,hx];rfl);rw[hx] at HE;by_cases hp:x.phase=1
   ·rw[hp] at cp;obtain⟨ok1,ok2,ok3,ok4⟩:=hok x (List.mem_of_getElem? hx);obtain⟨nv,hnv⟩:∃v,R.nv[t]? =some v:=⟨_,List.getElem?_eq_getElem (by rw[h.nlen];exact hlt)⟩;obtain⟨bv,hbv⟩:∃v,R.bv[t]? =some v:=⟨_,List.getElem?_eq_getElem (by rw[h.blen];exact hlt)⟩;have hno:=h.nodes t x nv hx hnv;have hbo:=h.box t x bv hx hbv;obtain⟨ao,cap,rfl⟩:=own_is hno;obtain⟨bo,bc,rfl⟩:=own_is hbo;have c5:w.cell? ⟨R.rb,5,none⟩=some (.slice (some ⟨R.n,0,none⟩) H.ts.length R.nc):=by rw[h.host.cell 5];rfl
    have c6:w.cell? ⟨R.rb,6,none⟩=some (.slice (some ⟨R.b,0,none⟩) H.ts.length R.bc):=by rw[h.host.cell 6];rfl
    have n0:w.cell? ⟨R.n,t,none⟩=some (.slice ao x.nodes.length cap):=own_cellN h.rn hnv;have b0:w.cell? ⟨R.b,t,none⟩=some (.slice bo x.box.length bc):=own_cellN h.rx hbv;have HCt:Hid (Calls Tryz.prog 37 #[.slice bo x.box.length bc,.int .i64 1,.int .i64 (-1)] w fun e w'=>e= .returned (.int .i64 (x.clicks:Int))∧w=w'):=by have q:=count_any 1 (-1) (own_box hbo) ok1 ok4;rw[isCnt_click] at q;exact q
    obtain⟨l,hle⟩:∃l,l=x.nodes:=⟨_,rfl⟩;obtain⟨n,hn⟩:∃n,n=l.length:=⟨_,rfl⟩;have Hn:Hid (l.length=n):=hn.symm;have HN:Hid (w.ownsRow 0 76 3 (.slice ao n cap) n (Tr.ndCells l)):=by unfold Hid;rw[hn,hle];exact hno
    have HId:Hid (∀nd∈l,0≤nd.1∧nd.1≤255):=by rw[hle];exact ok3
    rw[←hle,←hn] at n0 ok2;have HE2:Hid (H.clickE id=(match l.find? (hasId (id-100*(t:Int))) with|some nd=>x.takeClickE|none=>7)∧H.click id={H with ts:=H.ts.set t (match l.find? (hasId (id-100*(t:Int))) with|some nd=>x.takeClick nd.2.1|none=>x)}):=by
     refine⟨?_,?_⟩
     ·rw[HE.out.1,hle];show x.clickE _=_;unfold Tn.clickE;rw[if_pos hp];rfl
     ·rw[HE.out.2,hle];show({H with ts:=H.ts.set t (x.click _)}:Hs)=_;unfold Tn.click;rw[if_pos hp];rfl
    have HX:Hid (H.ts[t]? =some x∧R.bv[t]? =some (.slice bo x.box.length bc)):=⟨hx,hbv⟩;have HBo:Hid (w.ownsRow 0 78 4 (.slice bo x.box.length bc) x.box.length (evCells x.box)):=hbo;clear h hok hx hnv hbv hno hbo ok3 ok4 hle hn HE ht htn hmm hi0 hi1 hp;go_enter Tryz.func16,Tryz.ntmps16;go_wp2_with fail;go_loopw [6] (fun i wr=>∃k:Nat,k≤n∧i= .int .i64 k∧wr=w∧Hid ((l.take k).find? (hasId (id-100*(t:Int)))=none))
     (fun i _=>n-(intOf i).toNat)
    case atStart=>exact⟨0,Nat.zero_le _,rfl,rfl,rfl⟩
    case round=>
     obtain⟨k,hk,rfl,rfl,HF⟩:=hrel;by_cases hlt:k<n
     ·obtain⟨y,hy⟩:∃y,l[k]? =some y:=⟨l[k]'(by have:=Hn.out;omega),List.getElem?_eq_getElem (by have:=Hn.out;omega)⟩;obtain⟨g,rfl⟩:∃g,ao=some ⟨g,0,none⟩:=by
       rcases HN.out.2 with ⟨_,h0⟩|⟨g,cp,cur,hv,_⟩
       ·omega
       ·simp only[Value.slice.injEq] at hv;exact⟨g,hv.1⟩
      obtain⟨e0,e1,e2⟩:=(Tr.own_nodeRow HN.out Hn.out) k _ hy;rw[Nat.zero_add] at e0 e1 e2;have hr:=HId.out y (List.mem_of_getElem? hy);obtain⟨y0,y1,y2⟩:=y;simp only at e0 e1 e2 hr;have hki:(k:Int)<(n:Int):=by omega
      have hk0:(0:Int)≤(k:Int):=by omega
      have hwy:IntKind.i64.wrap y0=y0:=by rw[IntKind.wrap_i64];omega
      by_cases hqy:y0=id-100*(t:Int)
      ·have HFd:Hid (l.find? (hasId (id-100*(t:Int)))=some (y0,y1,y2)):=find_here HF.out hy (by simp[hasId,hqy]);have hyb:(y0==id-100*(t:Int))=true:=by simp[hqy]
       have Hyb:Hid (y0=id-100*(t:Int)):=hqy;clear hy hr hqy HF;go_wp2_with fail;refine HCt.out.mono ?_;rintro e w2 ⟨rfl,rfl⟩;obtain⟨q,hq6⟩:∃q,q=x.clicks:=⟨_,rfl⟩;have Hq:Hid (x.clicks=q):=hq6.symm;rw[←hq6];clear hq6 HCt;by_cases h6:6≤q
       ·have h6i:(6:Int)≤(q:Int):=by omega
        have HE3:Hid (x.takeClickE=8∧x.takeClick y1=x):=by unfold Hid Tn.takeClickE Tn.takeClick;rw[Hq.out,if_pos h6,if_pos h6];exact⟨rfl,rfl⟩
        go_wp2;go_ret;refine⟨by rw[HE2.out.1,HFd.out];simp only;rw[HE3.out.1];rfl,?_⟩;rw[HE2.out.2,HFd.out];simp only;rw[HE3.out.2,Hs.set_self HX.out.1];exact RAft.refl HH.out
       ·have h6i:¬(6:Int)≤(q:Int):=by omega
        have HE3:Hid (x.takeClickE=0∧x.takeClick y1={x with box:=x.box++[⟨1,0,y1,0⟩]}):=by unfold Hid Tn.takeClickE Tn.takeClick;rw[Hq.out,if_neg h6,if_neg h6];exact⟨rfl,rfl⟩
        obtain⟨i0,hi,hz0,hz1,hz2⟩:=info_parts info58;have r6:∀ob,(wr.alloc ob).cell? ⟨R.rb,6,none⟩=some (.slice (some ⟨R.b,0,none⟩) H.ts.length R.bc):=fun ob=>by rw[(HH.out.host.alloc ob).cell 6];rfl
        have rb:∀ob,(wr.alloc ob).cell? ⟨R.b,t,none⟩=some (.slice bo x.box.length bc):=fun ob=>own_cellN (HH.out.rx.alloc ob) HX.out.2;obtain⟨cn,hcn⟩:=own_cur HH.out.rn;obtain⟨cg,hcg⟩:∃cur,Blk wr g cur 76:=own_blk HN.out rfl;have HBs:Hid (Blk wr R.n cn 28∧Blk wr g cg 76):=⟨hcn,hcg⟩;have ne1:¬R.rb=R.b:=own_neH HH.out.host HH.out.rx (by decide);have ne2:¬R.n=R.b:=own_neN HH.out.rn HH.out.rx (by decide);have ne3:¬g=R.b:=own_neH hcg HH.out.rx (by decide);have r5:∀ob,(wr.alloc ob).cell? ⟨R.rb,5,none⟩=some (.slice (some ⟨R.n,0,none⟩) H.ts.length R.nc):=fun ob=>by rw[(HH.out.host.alloc ob).cell 5];rfl
        have rn:∀ob,(wr.alloc ob).cell? ⟨R.n,t,none⟩=some (.slice (some ⟨g,0,none⟩) n cap):=fun ob=>by rw[(hcn.alloc ob).cell t,←hcn.cell t];exact n0
        have rk:∀ob,(wr.alloc ob).cell? ⟨g,k*3+1,none⟩=some (.int .u16 y1):=fun ob=>by rw[(hcg.alloc ob).cell (k*3+1),←hcg.cell (k*3+1)];exact e1
        clear hcn hcg;have HNw:Hid (∀jj u,(Ev.mk 1 0 y1 0).cells[jj]? =some u→((wr.alloc (.cells #[.int .u8 1,.int .u8 0,.int .u16 y1,.int .u8 0] 78)).drew).cell? ((⟨wr.heap.size,0,none⟩:Addr).add jj)=some u):=new_four wr _ _ _ _ _;have HOd:Hid (((wr.alloc (.cells #[.int .u8 1,.int .u8 0,.int .u16 y1,.int .u8 0] 78)).drew).ownsRow 0 78 4 (.slice bo x.box.length bc) x.box.length (evCells x.box)):=HBo.out.alloc _;have HKEY:Hid (∀v3 w3,w3.ownsRow 0 78 4 v3 (x.box.length+1) (evCells x.box++(Ev.mk 1 0 y1 0).cells)→((wr.alloc (.cells #[.int .u8 1,.int .u8 0,.int .u16 y1,.int .u8 0] 78)).drew).grownBy w3 (Value.ownBlock (.slice bo x.box.length bc))→(v3.ownBlock=Value.ownBlock (.slice bo x.box.length bc)∨v3.ownBlock=some ((wr.alloc (.cells #[.int .u8 1,.int .u8 0,.int .u16 y1,.int .u8 0] 78)).drew).heap.size)→∃vo3 vc3,v3= .slice vo3 (x.box.length+1) vc3∧w3.cell? ⟨R.rb,5,none⟩=some (.slice (some ⟨R.n,0,none⟩) H.ts.length R.nc)∧w3.cell? ⟨R.n,t,none⟩=some (.slice (some ⟨g,0,none⟩) n cap)∧w3.cell? ⟨g,k*3+1,none⟩=some (.int .u16 y1)∧w3.cell? ⟨R.rb,6,none⟩=some (.slice (some ⟨R.b,0,none⟩) H.ts.length R.bc)∧w3.cell? ⟨R.b,t,none⟩=some (.slice bo x.box.length bc)∧w3.frozen? ⟨R.b,t,none⟩=false∧Hid (RAft wr R {H with ts:=H.ts.set t {x with box:=x.box++[⟨1,0,y1,0⟩]}} held (w3.setCell ⟨R.b,t,none⟩ (.slice vo3 (x.box.length+1) vc3)))):=by
         intro v3 w3 ho hg hat;obtain⟨vo3,vc3,rfl⟩:=own_is ho;obtain⟨q1,q2,q3,q4⟩:=HH.out.more_box HX.out.1 HX.out.2 (((Below.refl _ _).alloc (Nat.le_refl _) _).drew) ho hg hat;refine⟨vo3,vc3,rfl,?_,?_,?_,?_,q1,q2,q4⟩
         ·rw[(q3 _ _ 52 (by decide) HH.out.host).cell 5];rfl
         ·rw[(q3 _ _ 28 (by decide) HBs.out.1).cell t,←HBs.out.1.cell t];exact n0
         ·rw[(q3 _ _ 76 (by decide) HBs.out.2).cell (k*3+1),←HBs.out.2.cell (k*3+1)];exact e1
         ·rw[(q3 _ _ 52 (by decide) HH.out.host).cell 6];rfl
        have hone:Hid (∀u∈(Ev.mk 1 0 y1 0).cells,u.oneCell'=true):=by intro u hu;simp[Ev.cells] at hu;rcases hu with rfl|rfl|rfl|rfl<;>rfl
        go_wp2_with fail;clear c0 c3 cp e0 e2 hw hw1 hw2 hq hwy hyb hki hk0 h6i;have hki:(k:Int)<(n:Int):=by omega
        have hk0:(0:Int)≤(k:Int):=by omega
        have HS:Hid (wr.drew.cell? ⟨R.rb,5,none⟩=some (.slice (some ⟨R.n,0,none⟩) H.ts.length R.nc)∧wr.drew.cell? ⟨R.rb,6,none⟩=some (.slice (some ⟨R.b,0,none⟩) H.ts.length R.bc)∧wr.drew.cell? ⟨R.n,t,none⟩=some (.slice (some ⟨g,0,none⟩) n cap)∧wr.drew.cell? ⟨R.b,t,none⟩=some (.slice bo x.box.length bc)∧wr.drew.cell? ⟨g,k*3+1,none⟩=some (.int .u16 y1)):=⟨c5,c6,n0,b0,e1⟩;refine wp_region_last (S:=fun w'=>w'.cell? ⟨R.rb,5,none⟩=some (.slice (some ⟨R.n,0,none⟩) H.ts.length R.nc)∧w'.cell? ⟨R.rb,6,none⟩=some (.slice (some ⟨R.b,0,none⟩) H.ts.length R.bc)∧w'.cell? ⟨R.n,t,none⟩=some (.slice (some ⟨g,0,none⟩) n cap)∧w'.cell? ⟨R.b,t,none⟩=some (.slice bo x.box.length bc)∧w'.cell? ⟨g,k*3+1,none⟩=some (.int .u16 y1)) (z:=27) (by kernel_rfl) ?_;refine wpAnyL_take (i:=0) (v:=?_) rfl rfl (by kernel_rfl) (by kernel_rfl) (by kernel_rfl) (by kernel_rfl) (fun _ _ _ h=>h) (Or.inl ⟨by rfl,?_⟩) HS.out ?_;rotate_left
        ·intro wq hSw;obtain⟨s5,s6,sn,sb,sk⟩:=hSw;simp only[List.getElem_toArray,List.getElem_cons_zero];go_simp;(try with_reducible rfl)
        simp only[Act.put,List.setIfInBounds_toArray,List.set_cons_zero,List.set_cons_succ,List.getElem_toArray,List.getElem_cons_zero];refine wpAnyL_take (i:=1) (v:=?_) rfl rfl (by kernel_rfl) (by kernel_rfl) (by kernel_rfl) (by kernel_rfl) (fun _ _ _ h=>h) (Or.inl ⟨by rfl,?_⟩) HS.out ?_;rotate_left
        ·intro wq hSw;obtain⟨s5,s6,sn,sb,sk⟩:=hSw;simp only[List.getElem_toArray,List.getElem_cons_zero,List.getElem_cons_succ];go_simp;(try with_reducible rfl)
        simp only[Act.put,List.setIfInBounds_toArray,List.set_cons_zero,List.set_cons_succ,List.getElem_toArray,List.getElem_cons_zero,List.getElem_cons_succ];refine wpAnyL_take (i:=2) (v:=?_) rfl rfl (by kernel_rfl) (by kernel_rfl) (by kernel_rfl) (by kernel_rfl) (fun _ _ _ h=>h) (Or.inl ⟨by rfl,?_⟩) HS.out ?_;rotate_left
        ·intro wq hSw;obtain⟨s5,s6,sn,sb,sk⟩:=hSw;simp only[List.getElem_toArray,List.getElem_cons_zero,List.getElem_cons_succ];go_simp;(try with_reducible rfl)
        simp only[Act.put,List.setIfInBounds_toArray,List.set_cons_zero,List.set_cons_succ,List.getElem_toArray,List.getElem_cons_zero,List.getElem_cons_succ];refine wpAnyL_take (i:=3) (v:=?_) rfl rfl (by kernel_rfl) (by kernel_rfl) (by kernel_rfl) (by kernel_rfl) (fun _ _ _ h=>h) (Or.inl ⟨by rfl,?_⟩) HS.out ?_;rotate_left
        ·intro wq hSw;obtain⟨s5,s6,sn,sb,sk⟩:=hSw;simp only[List.getElem_toArray,List.getElem_cons_zero,List.getElem_cons_succ];go_simp;(try with_reducible rfl)
        simp only[Act.put,List.setIfInBounds_toArray,List.set_cons_zero,List.set_cons_succ,List.getElem_toArray,List.getElem_cons_zero,List.getElem_cons_succ];refine wpAnyL_take (i:=4) (v:=?_) rfl rfl (by kernel_rfl) (by kernel_rfl) (by kernel_rfl) (by kernel_rfl) (fun _ _ _ h=>h) (Or.inl ⟨by rfl,?_⟩) HS.out ?_;rotate_left
        ·intro wq hSw;obtain⟨s5,s6,sn,sb,sk⟩:=hSw;simp only[List.getElem_toArray,List.getElem_cons_zero,List.getElem_cons_succ];go_simp;(try with_reducible rfl)
        simp only[Act.put,List.setIfInBounds_toArray,List.set_cons_zero,List.set_cons_succ,List.getElem_toArray,List.getElem_cons_zero,List.getElem_cons_succ];refine wpAnyL_take (i:=5) (v:=?_) rfl rfl (by kernel_rfl) (by kernel_rfl) (by kernel_rfl) (by kernel_rfl) (fun _ _ _ h=>h) (Or.inl ⟨by rfl,?_⟩) HS.out ?_;rotate_left
        ·intro wq hSw;obtain⟨s5,s6,sn,sb,sk⟩:=hSw;simp only[List.getElem_toArray,List.getElem_cons_zero,List.getElem_cons_succ];go_simp;(try with_reducible rfl)
        simp only[Act.put,List.setIfInBounds_toArray,List.set_cons_zero,List.set_cons_succ,List.getElem_toArray,List.getElem_cons_zero,List.getElem_cons_succ];refine wpAnyL_take (i:=6) (v:=?_) rfl rfl (by kernel_rfl) (by kernel_rfl) (by kernel_rfl) (by kernel_rfl) (fun _ _ _ h=>h) (Or.inl ⟨by rfl,?_⟩) HS.out ?_;rotate_left
        ·intro wq hSw;obtain⟨s5,s6,sn,sb,sk⟩:=hSw;simp only[List.getElem_toArray,List.getElem_cons_zero,List.getElem_cons_succ];go_simp;(try with_reducible rfl)
        simp only[Act.put,List.setIfInBounds_toArray,List.set_cons_zero,List.set_cons_succ,List.getElem_toArray,List.getElem_cons_zero,List.getElem_cons_succ];refine wpAnyL_take (i:=7) (v:=?_) rfl rfl (by kernel_rfl) (by kernel_rfl) (by kernel_rfl) (by kernel_rfl) (fun _ _ _ h=>h) (Or.inl ⟨by rfl,?_⟩) HS.out ?_;rotate_left
        ·intro wq hSw;obtain⟨s5,s6,sn,sb,sk⟩:=hSw;simp only[List.getElem_toArray,List.getElem_cons_zero,List.getElem_cons_succ];go_simp;(try with_reducible rfl)
        simp only[Act.put,List.setIfInBounds_toArray,List.set_cons_zero,List.set_cons_succ,List.getElem_toArray,List.getElem_cons_zero,List.getElem_cons_succ];refine wpAnyL_take (i:=8) (v:=?_) rfl rfl (by kernel_rfl) (by kernel_rfl) (by kernel_rfl) (by kernel_rfl) (fun _ _ _ h=>h) (Or.inl ⟨by rfl,?_⟩) HS.out ?_;rotate_left
        ·intro wq hSw;obtain⟨s5,s6,sn,sb,sk⟩:=hSw;simp only[List.getElem_toArray,List.getElem_cons_zero,List.getElem_cons_succ];go_simp;(try with_reducible rfl)
        simp only[Act.put,List.setIfInBounds_toArray,List.set_cons_zero,List.set_cons_succ,List.getElem_toArray,List.getElem_cons_zero,List.getElem_cons_succ];refine wpAnyL_take (i:=9) (v:=?_) rfl rfl (by kernel_rfl) (by kernel_rfl) (by kernel_rfl) (by kernel_rfl) (fun _ _ _ h=>h) (Or.inl ⟨by rfl,?_⟩) HS.out ?_;rotate_left
        ·intro wq hSw;obtain⟨s5,s6,sn,sb,sk⟩:=hSw;simp only[List.getElem_toArray,List.getElem_cons_zero,List.getElem_cons_succ];go_simp;(try with_reducible rfl)
        simp only[Act.put,List.setIfInBounds_toArray,List.set_cons_zero,List.set_cons_succ,List.getElem_toArray,List.getElem_cons_zero,List.getElem_cons_succ];refine wpAnyL_take (i:=10) (v:=?_) rfl rfl (by kernel_rfl) (by kernel_rfl) (by kernel_rfl) (by kernel_rfl) (fun _ _ _ h=>h) (Or.inl ⟨by rfl,?_⟩) HS.out ?_;rotate_left
        ·intro wq hSw;obtain⟨s5,s6,sn,sb,sk⟩:=hSw;simp only[List.getElem_toArray,List.getElem_cons_zero,List.getElem_cons_succ];go_simp;(try with_reducible rfl)
        simp only[Act.put,List.setIfInBounds_toArray,List.set_cons_zero,List.set_cons_succ,List.getElem_toArray,List.getElem_cons_zero,List.getElem_cons_succ];refine wpAnyL_take (i:=11) (v:=?_) rfl rfl (by kernel_rfl) (by kernel_rfl) (by kernel_rfl) (by kernel_rfl) (fun _ _ _ h=>h) (Or.inl ⟨by rfl,?_⟩) HS.out ?_;rotate_left
        ·intro wq hSw;obtain⟨s5,s6,sn,sb,sk⟩:=hSw;simp only[List.getElem_toArray,List.getElem_cons_zero,List.getElem_cons_succ];go_simp;(try with_reducible rfl)
        simp only[Act.put,List.setIfInBounds_toArray,List.set_cons_zero,List.set_cons_succ,List.getElem_toArray,List.getElem_cons_zero,List.getElem_cons_succ];refine wpAnyL_take (i:=12) (v:=?_) rfl rfl (by kernel_rfl) (by kernel_rfl) (by kernel_rfl) (by kernel_rfl) (fun _ _ _ h=>h) (Or.inl ⟨by rfl,?_⟩) HS.out ?_;rotate_left
        ·intro wq hSw;obtain⟨s5,s6,sn,sb,sk⟩:=hSw;simp only[List.getElem_toArray,List.getElem_cons_zero,List.getElem_cons_succ];go_simp;(try with_reducible rfl)
        simp only[Act.put,List.setIfInBounds_toArray,List.set_cons_zero,List.set_cons_succ,List.getElem_toArray,List.getElem_cons_zero,List.getElem_cons_succ];refine wpAnyL_take (i:=13) (v:=?_) rfl rfl (by kernel_rfl) (by kernel_rfl) (by kernel_rfl) (by kernel_rfl) (fun _ _ _ h=>h) (Or.inl ⟨by rfl,?_⟩) HS.out ?_;rotate_left
        ·intro wq hSw;obtain⟨s5,s6,sn,sb,sk⟩:=hSw;simp only[List.getElem_toArray,List.getElem_cons_zero,List.getElem_cons_succ];go_simp;(try with_reducible rfl)
        simp only[Act.put,List.setIfInBounds_toArray,List.set_cons_zero,List.set_cons_succ,List.getElem_toArray,List.getElem_cons_zero,List.getElem_cons_succ];refine wpAnyL_take (i:=14) (v:=?_) rfl rfl (by kernel_rfl) (by kernel_rfl) (by kernel_rfl) (by kernel_rfl) (fun _ _ _ h=>h) (Or.inl ⟨by rfl,?_⟩) HS.out ?_;rotate_left
        ·intro wq hSw;obtain⟨s5,s6,sn,sb,sk⟩:=hSw;simp only[List.getElem_toArray,List.getElem_cons_zero,List.getElem_cons_succ];go_simp;(try with_reducible rfl)
        simp only[Act.put,List.setIfInBounds_toArray,List.set_cons_zero,List.set_cons_succ,List.getElem_toArray,List.getElem_cons_zero,List.getElem_cons_succ];refine wpAnyL_take (i:=15) (v:=?_) rfl rfl (by kernel_rfl) (by kernel_rfl) (by kernel_rfl) (by kernel_rfl) (fun _ _ _ h=>h) (Or.inl ⟨by rfl,?_⟩) HS.out ?_;rotate_left
        ·intro wq hSw;obtain⟨s5,s6,sn,sb,sk⟩:=hSw;simp only[List.getElem_toArray,List.getElem_cons_zero,List.getElem_cons_succ];go_simp;(try with_reducible rfl)
        simp only[Act.put,List.setIfInBounds_toArray,List.set_cons_zero,List.set_cons_succ,List.getElem_toArray,List.getElem_cons_zero,List.getElem_cons_succ];refine wpAnyL_take (i:=16) (v:=?_) rfl rfl (by kernel_rfl) (by kernel_rfl) (by kernel_rfl) (by kernel_rfl) (fun _ _ _ h=>h) (Or.inl ⟨by rfl,?_⟩) HS.out ?_;rotate_left
        ·intro wq hSw;obtain⟨s5,s6,sn,sb,sk⟩:=hSw;simp only[List.getElem_toArray,List.getElem_cons_zero,List.getElem_cons_succ];go_simp;(try with_reducible rfl)
        simp only[Act.put,List.setIfInBounds_toArray,List.set_cons_zero,List.set_cons_succ,List.getElem_toArray,List.getElem_cons_zero,List.getElem_cons_succ];refine wpAnyL_take (i:=17) (v:=?_) rfl rfl (by kernel_rfl) (by kernel_rfl) (by kernel_rfl) (by kernel_rfl) (fun _ _ _ h=>h) (Or.inl ⟨by rfl,?_⟩) HS.out ?_;rotate_left
        ·intro wq hSw;obtain⟨s5,s6,sn,sb,sk⟩:=hSw;simp only[List.getElem_toArray,List.getElem_cons_zero,List.getElem_cons_succ];go_simp;(try with_reducible rfl)
        simp only[Act.put,List.setIfInBounds_toArray,List.set_cons_zero,List.set_cons_succ,List.getElem_toArray,List.getElem_cons_zero,List.getElem_cons_succ];refine wpAnyL_take (i:=18) (v:=?_) rfl rfl (by kernel_rfl) (by kernel_rfl) (by kernel_rfl) (by kernel_rfl) (fun _ _ _ h=>h) (Or.inl ⟨by rfl,?_⟩) HS.out ?_;rotate_left
        ·intro wq hSw;obtain⟨s5,s6,sn,sb,sk⟩:=hSw;simp only[List.getElem_toArray,List.getElem_cons_zero,List.getElem_cons_succ];go_simp;(try with_reducible rfl)
        simp only[Act.put,List.setIfInBounds_toArray,List.set_cons_zero,List.set_cons_succ,List.getElem_toArray,List.getElem_cons_zero,List.getElem_cons_succ];refine wpAnyL_take (i:=19) (v:=?_) rfl rfl (by kernel_rfl) (by kernel_rfl) (by kernel_rfl) (by kernel_rfl) (fun _ _ _ h=>h) (Or.inl ⟨by rfl,?_⟩) HS.out ?_;rotate_left
        ·intro wq hSw;obtain⟨s5,s6,sn,sb,sk⟩:=hSw;simp only[List.getElem_toArray,List.getElem_cons_zero,List.getElem_cons_succ];go_simp;(try with_reducible rfl)
        simp only[Act.put,List.setIfInBounds_toArray,List.set_cons_zero,List.set_cons_succ,List.getElem_toArray,List.getElem_cons_zero,List.getElem_cons_succ];refine wpAnyL_take (i:=20) (v:=?_) rfl rfl (by kernel_rfl) (by kernel_rfl) (by kernel_rfl) (by kernel_rfl) (fun _ _ _ h=>h) (Or.inl ⟨by rfl,?_⟩) HS.out ?_;rotate_left
        ·intro wq hSw;obtain⟨s5,s6,sn,sb,sk⟩:=hSw;simp only[List.getElem_toArray,List.getElem_cons_zero,List.getElem_cons_succ];go_simp;(try with_reducible rfl)
        simp only[Act.put,List.setIfInBounds_toArray,List.set_cons_zero,List.set_cons_succ,List.getElem_toArray,List.getElem_cons_zero,List.getElem_cons_succ];refine wpAnyL_take (i:=21) (v:=?_) rfl rfl (by kernel_rfl) (by kernel_rfl) (by kernel_rfl) (by kernel_rfl) (fun _ _ _ h=>h) (Or.inl ⟨by rfl,?_⟩) HS.out ?_;rotate_left
        ·intro wq hSw;obtain⟨s5,s6,sn,sb,sk⟩:=hSw;simp only[List.getElem_toArray,List.getElem_cons_zero,List.getElem_cons_succ];go_simp;(try with_reducible rfl)
        simp only[Act.put,List.setIfInBounds_toArray,List.set_cons_zero,List.set_cons_succ,List.getElem_toArray,List.getElem_cons_zero,List.getElem_cons_succ];refine wpAnyL_take (i:=22) (v:=?_) rfl rfl (by kernel_rfl) (by kernel_rfl) (by kernel_rfl) (by kernel_rfl) (fun _ _ _ h=>h) (Or.inl ⟨by rfl,?_⟩) HS.out ?_;rotate_left
        ·intro wq hSw;obtain⟨s5,s6,sn,sb,sk⟩:=hSw;simp only[List.getElem_toArray,List.getElem_cons_zero,List.getElem_cons_succ];go_simp;(try with_reducible rfl)
        simp only[Act.put,List.setIfInBounds_toArray,List.set_cons_zero,List.set_cons_succ,List.getElem_toArray,List.getElem_cons_zero,List.getElem_cons_succ];refine wpAnyL_take (i:=23) (v:=?_) rfl rfl (by kernel_rfl) (by kernel_rfl) (by kernel_rfl) (by kernel_rfl) (fun _ _ _ h=>h) (Or.inl ⟨by rfl,?_⟩) HS.out ?_;rotate_left
        ·intro wq hSw;obtain⟨s5,s6,sn,sb,sk⟩:=hSw;simp only[List.getElem_toArray,List.getElem_cons_zero,List.getElem_cons_succ];go_simp;(try with_reducible rfl)
        simp only[Act.put,List.setIfInBounds_toArray,List.set_cons_zero,List.set_cons_succ,List.getElem_toArray,List.getElem_cons_zero,List.getElem_cons_succ];refine wpAnyL_all (rs:=[24]) (by kernel_rfl) (by simp) ?_;intro i hix;obtain rfl:=List.mem_singleton.1 hix;refine wpOp_step rfl (fun K' hK=>?_);clear hix;simp only[List.getElem_toArray,List.getElem_cons_zero,List.getElem_cons_succ];rw[if_pos (by rfl)];unfold Oper.wp;go_simp;refine hK _ _ ⟨fun _=>⟨r5 _,r6 _,rn _,rb _,rk _⟩,?_⟩;clear hK;refine wpAnyL_all (rs:=[25]) (by kernel_rfl) (by simp) ?_;intro i hix;obtain rfl:=List.mem_singleton.1 hix;refine wpOp_step (o:={dst:=some 95,op:=Op.call {callee:=Callee.builtin Builtin.append,args:=#[Operand.tmp 81,Operand.tmp 94],argTypes:=#[29,29]},type:=29,pos:=_,after:=#[{on:=11,ground:=Ground.data},{on:=24,ground:=Ground.data}],guard:=none}) rfl (fun K' hK=>?_);clear hix;refine step_append_at (by rfl) (.tmp 81) (.tmp 94) 29 (by rfl) 0 78 i0 (.agg #[.int .u8 0,.int .u8 0,.int .u16 0,.int .u8 0]) 4 6 Tryz.underlying29 hi hz0 hz1 hz2 rfl (by decide) (.slice bo x.box.length bc) x.box.length (evCells x.box) (by simp[Act.eval]) HOd.out ⟨wr.heap.size,0,none⟩ 1 1 (Ev.mk 1 0 y1 0).cells (by simp[Act.eval]) rfl HNw.out hone.out (by unfold maxLen;omega) (by omega) (by simp) ?_;intro v3 w3 ho3 hg3 ha3;obtain⟨vo3,vc3,hv3,q5,qn,qk,q6,qb,p1,HZ⟩:=HKEY.out v3 w3 ho3 hg3 ha3;rw[hv3];clear ho3 hg3 ha3 hv3;refine hK _ _ ⟨fun _=>⟨q5,q6,qn,qb,qk⟩,?_⟩;clear hK;simp only[Act.put,List.setIfInBounds_toArray,List.set_cons_zero,List.set_cons_succ];refine wpAnyL_all (rs:=[26]) (by kernel_rfl) (by simp) ?_;intro i hix;obtain rfl:=List.mem_singleton.1 hix;refine wpOp_step rfl (fun K' hK=>?_);clear hix;simp only[List.getElem_toArray,List.getElem_cons_zero,List.getElem_cons_succ];rw[if_pos (by rfl)];unfold Oper.wp;go_simp;refine hK _ _ ⟨fun _=>⟨q5,q6,qn,qb,qk⟩,?_⟩;clear hK;refine wpAnyL_all (rs:=[27]) (by kernel_rfl) (by simp) ?_;intro i hix;obtain rfl:=List.mem_singleton.1 hix;refine wpOp_step rfl (fun K' hK=>?_);clear hix;simp only[List.getElem_toArray,List.getElem_cons_zero,List.getElem_cons_succ];rw[if_pos (by rfl)];unfold Oper.wp;go_simp;refine hK _ _ ⟨fun q=>absurd rfl q,?_⟩;clear hK;refine wpAnyL_done (by kernel_rfl) ?_ _;go_wp2;go_ret;refine⟨by rw[HE2.out.1,HFd.out];simp only;rw[HE3.out.1];rfl,?_⟩;rw[HE2.out.2,HFd.out];simp only;rw[HE3.out.2];exact HZ.out
      ·have hqb:(y0==id-100*(t:Int))=false:=by rw[beq_eq_false_iff_ne];exact hqy
       have HF2:Hid ((l.take (k+1)).find? (hasId (id-100*(t:Int)))=none):=find_none_step HF.out hy (by simp[hasId,hqy]);clear hy hqy;go_wp2;go_roundw
       case rel=>exact⟨k+1,by omega,by go_num,by first|rfl|trivial,HF2.out⟩
       case measure=>simp[intOf];omega
     ·have hkn:k=n:=by omega
      subst hkn;have hki:¬(k:Int)<(k:Int):=by omega
      have HNo:Hid (l.find? (hasId (id-100*(t:Int)))=none):=by have hf:=HF.out;rw[List.take_of_length_le (by have:=Hn.out;omega)] at hf;exact hf
      go_wp2;go_ret;refine⟨by rw[HE2.out.1,HNo.out];rfl,?_⟩;rw[HE2.out.2,HNo.out];simp only;rw[Hs.set_self HX.out.1];exact RAft.refl HH.out
   ·have hpb:(x.phase !=1)=true:=by simpa using hp
    have HE2:Hid (H.clickE id=7∧H.click id=H):=by
     refine⟨?_,?_⟩
     ·rw[HE.out.1];simp only[Tn.clickE];rw[if_neg hp]
     ·rw[HE.out.2];simp only[Tn.click];rw[if_neg hp,Hs.set_self hx]
    clear h hok hx HE ht htn hmm hlt;go_enter Tryz.func16,Tryz.ntmps16;go_wp2;go_ret;refine⟨by rw[HE2.out.1];rfl,?_⟩;rw[HE2.out.2];exact RAft.refl HH.out
  ·have hti:(H.ts.length:Int)≤(t:Int):=by omega
   rw[List.getElem?_eq_none (by omega)] at HE;clear h hok ht htn hmm hlt;go_enter Tryz.func16,Tryz.ntmps16;go_wp2;go_ret;refine⟨by rw[HE.out.1];rfl,?_⟩;rw[HE.out.2];exact RAft.refl HH.out
end
end Go.Proofs.YtidaflmmldefcaaGreat
