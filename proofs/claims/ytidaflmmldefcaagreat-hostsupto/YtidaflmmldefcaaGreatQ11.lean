/- Parts of the proof of Hosts: BokD, BokE. -/
import Derived.Test.YtidaflmmldefcaaGreatQ01
import Derived.Test.YtidaflmmldefcaaGreatQ10
import Derived.BigRegion
import Derived.Maps.AppendAt
set_option maxHeartbeats 8000000
namespace Go.Proofs.YtidaflmmldefcaaGreat
open Go.RowKit
set_option linter.unusedVariables false
theorem info29s:(Tryz.prog.info? 29).map (fun i=>(i.zero,i.size,i.bytes))=some (some (.slice none 0 0),1,24):=by kernel_rfl
theorem evCells_set:∀(l:List Ev) (k:Nat) (x:Ev),((((evCells l).set (k*4) (.int .u8 x.what)).set (k*4+1) (.int .u8 x.by_)).set (k*4+2) (.int .u16 x.arg)).set (k*4+3) (.int .u8 x.src)=evCells (l.set k x)
 |[],k,x=>by simp[evCells]
 |y::r,0,x=>by
  have e:evCells (y::r)= .int .u8 y.what:: .int .u8 y.by_:: .int .u16 y.arg:: .int .u8 y.src::evCells r:=rfl;have e2:evCells ((y::r).set 0 x)= .int .u8 x.what:: .int .u8 x.by_:: .int .u16 x.arg:: .int .u8 x.src::evCells r:=rfl;rw[e,e2];rfl
 |y::r,k+1,x=>by have e:evCells (y::r)= .int .u8 y.what:: .int .u8 y.by_:: .int .u16 y.arg:: .int .u8 y.src::evCells r:=rfl;have e2:evCells ((y::r).set (k+1) x)= .int .u8 y.what:: .int .u8 y.by_:: .int .u16 y.arg:: .int .u8 y.src::evCells (r.set k x):=rfl;rw[e,e2,←evCells_set r k x,show(k+1)*4=k*4+1+1+1+1 by omega,show k*4+1+1+1+1+1=(k*4+1)+1+1+1+1 by omega,show k*4+1+1+1+1+2=(k*4+2)+1+1+1+1 by omega,show k*4+1+1+1+1+3=(k*4+3)+1+1+1+1 by omega];rfl
def mkEv (key:Int):List Value:=[.int .u8 0,.int .u8 0,.int .u16 key,.int .u8 0]
theorem evCells_rep (K:Int):∀n,evCells (List.replicate n ⟨0,0,K,0⟩)=rep n (mkEv K)
 |0=>rfl
 |n+1=>by rw[List.replicate_succ',evCells_snoc,rep_succ,evCells_rep K n];rfl
theorem own_set4Ev {w:World} {base g n cap:Nat} {l:List Ev} (h:w.ownsRow base 78 4 (.slice (some ⟨g,0,none⟩) n cap) n (evCells l)) (k:Nat) (x:Ev): ((((w.setCell ⟨g,k*4,none⟩ (.int .u8 x.what)).setCell ⟨g,k*4+1,none⟩ (.int .u8 x.by_)).setCell ⟨g,k*4+2,none⟩ (.int .u16 x.arg)).setCell ⟨g,k*4+3,none⟩ (.int .u8 x.src)).ownsRow base 78 4 (.slice (some ⟨g,0,none⟩) n cap) n (evCells (l.set k x)):=by
 obtain⟨h1,h2⟩:=h;refine⟨by rw[←evCells_set];simpa using h1,?_⟩;rcases h2 with ⟨hv,_⟩|⟨g',cap',cur,hv,hb,hh,h3,h4,h5,h6⟩
 ·simp at hv
 ·simp only[Value.slice.injEq,Option.some.injEq,Addr.mk.injEq,and_true,true_and] at hv;obtain⟨rfl,rfl⟩:=hv;have hB:Blk w g cur 78:=hh;refine Or.inr ⟨g,cap,_,rfl,hb,(((hB.set (k*4) (.int .u8 x.what)).set (k*4+1) (.int .u8 x.by_)).set (k*4+2) (.int .u16 x.arg)).set (k*4+3) (.int .u8 x.src),h3,h4,by simpa using h5,?_⟩;rw[Array.toList_setIfInBounds,Array.toList_setIfInBounds,Array.toList_setIfInBounds,Array.toList_setIfInBounds,List.take_set,List.take_set,List.take_set,List.take_set,h6,evCells_set]
theorem kept_set4Ev {S:Nat→Prop} {w w1:World} (h:Kept S w w1) (g a b c d:Nat) (x y z u:Value) (hs:S g):Kept S w ((((w1.setCell ⟨g,a,none⟩ x).setCell ⟨g,b,none⟩ y).setCell ⟨g,c,none⟩ z).setCell ⟨g,d,none⟩ u):=(((h.setCell ⟨g,a,none⟩ x (Or.inl hs)).setCell ⟨g,b,none⟩ y (Or.inl hs)).setCell ⟨g,c,none⟩ z (Or.inl hs)).setCell ⟨g,d,none⟩ u (Or.inl hs)
def markedEndEv (base B n:Nat) (vn:Value) (E:List Value) (lb:Option Nat) (d0 o0 o2 o4 o5 o8 o9:Value) (w:World) (e:Ending) (w':World):Prop:=e= .returned (.tuple #[])∧∃vn' E',Blk w' B #[d0,o0,vn',o2,.bool false,o4,o5,.slice none 0 0,.slice none 0 0,o8,o9] 34∧w'.ownsRow base 29 1 vn' (E.length+4) (E++E')∧E'.length=4∧(∀v∈E',∃m,m≤n+244∧MarkAt w' 78 (mkEv (IntKind.u16.wrap (200+(E.length:Int)))) v m∧∀k,v.ownBlock=some k→some k=lb∨w.heap.size≤k)∧Kept (fun k=>k=B∨some k=lb∨some k=vn.ownBlock) w w'∧(∀k,vn'.ownBlock=some k→some k=vn.ownBlock∨w.heap.size≤k)
set_option maxRecDepth 100000 in
theorem markedEv_any (base B:Nat) (vn:Value) (E:List Value) (ao wo:Option Addr) (n cc wc:Nat) (l:List Ev) (d0 o0 o2 o4 o5 o8 o9:Value) (w:World) (hB:base≤B)
 (hbk:Blk w B #[d0,o0,vn,o2,.bool false,o4,o5,.slice ao n cc,.slice wo n wc,o8,o9] 34) (hE:w.ownsRow base 29 1 vn E.length E) (hEl:E.length≤100000000) (hl:l.length=n) (hn:n≤100000)
 (hown:w.ownsRow base 78 4 (.slice ao n cc) n (evCells l)) (bw:Nat) (hw:w.ownsRow bw 78 4 (.slice wo n wc) n (evCells l)) (hs:base≤w.heap.size): Calls Tryz.prog 31 #[.pointer (some ⟨B,1,none⟩)] w fun e w'=>markedEndEv base B n vn E (Value.ownBlock (.slice ao n cc)) d0 o0 o2 o4 o5 o8 o9 w e w':=by
 obtain⟨i0,hi,hz0,hz1,hz2⟩:=info_parts info58;obtain⟨j0,hj,hy0,hy1,hy2⟩:=info_parts info29s;have HBk:Hid (Blk w B #[d0,o0,vn,o2,.bool false,o4,o5,.slice ao n cc,.slice wo n wc,o8,o9] 34):=hbk;have HE:Hid (w.ownsRow base 29 1 vn E.length E):=hE;have HOwn:Hid (w.ownsRow base 78 4 (.slice ao n cc) n (evCells l)):=hown;have HW:Hid (w.ownsRow bw 78 4 (.slice wo n wc) n (evCells l)):=hw;have Hn:Hid (l.length=n):=hl;have b4:=hbk.cell 7;simp at b4;obtain⟨no,nc,hvn⟩:∃no nc,vn= .slice no E.length nc:=own_is hE;clear hbk hE hown hw hl;go_enter Tryz.func31,Tryz.ntmps31;go_wp2_with fail;clear b4;go_loopw [3] (fun i wr=>∃(k:Nat),k≤n∧i= .int .i64 k∧Below w.heap.size w wr)
  (fun i _=>n-(intOf i).toNat)
 case atStart=>exact⟨0,Nat.zero_le _,rfl,Below.refl _ _⟩
 case round=>
  obtain⟨k,hk,rfl,hbel⟩:=hrel;have HB1:Hid (Below w.heap.size w wr):=hbel;have hbw:Blk wr B #[d0,o0,vn,o2,.bool false,o4,o5,.slice ao n cc,.slice wo n wc,o8,o9] 34:=HBk.out.below hbel HBk.out.lt;have HBw:Hid (Blk wr B #[d0,o0,vn,o2,.bool false,o4,o5,.slice ao n cc,.slice wo n wc,o8,o9] 34):=hbw;by_cases hlt:k<n
  ·obtain⟨x,hx⟩:∃x,l[k]? =some x:=⟨l[k]'(by have:=Hn.out;omega),List.getElem?_eq_getElem (by have:=Hn.out;omega)⟩;obtain⟨g,rfl,r1⟩:=row4_at (own_below' HOwn.out hbel (Nat.le_refl _)) hlt;obtain⟨g2,rfl,r2⟩:=row4_at (own_below' HW.out hbel (Nat.le_refl _)) hlt;have ex:=evCells_at l k x hx;obtain⟨x0,x1,x2,x3⟩:=x;have c0:wr.cell? ⟨g,k*4,none⟩=some (.int .u8 x0):=r1 0 _ (by decide) (ex 0 (by decide));have c1:wr.cell? ⟨g,k*4+1,none⟩=some (.int .u8 x1):=r1 1 _ (by decide) (ex 1 (by decide));have c2:wr.cell? ⟨g,k*4+2,none⟩=some (.int .u16 x2):=r1 2 _ (by decide) (ex 2 (by decide));have c3:wr.cell? ⟨g,k*4+3,none⟩=some (.int .u8 x3):=r1 3 _ (by decide) (ex 3 (by decide));have d0':wr.cell? ⟨g2,k*4,none⟩=some (.int .u8 x0):=r2 0 _ (by decide) (ex 0 (by decide));have d1':wr.cell? ⟨g2,k*4+1,none⟩=some (.int .u8 x1):=r2 1 _ (by decide) (ex 1 (by decide));have d2':wr.cell? ⟨g2,k*4+2,none⟩=some (.int .u16 x2):=r2 2 _ (by decide) (ex 2 (by decide));have d3':wr.cell? ⟨g2,k*4+3,none⟩=some (.int .u8 x3):=r2 3 _ (by decide) (ex 3 (by decide));clear r1 r2 ex;have b3:=hbw.cell 4;have b5:=hbw.cell 8;simp at b3 b5;have f3:=hbw.free 4;have hki:(k:Int)<(n:Int):=by omega
   have t1:(x1==x1)=true:=by simp
   have t2:(x2==x2)=true:=by simp
   have t3:(x3==x3)=true:=by simp
   have t0:(x0==x0)=true:=by simp
   clear hbel hbw hx;go_wp2_with fail;go_region
   all_goals
    go_wp2;go_roundw
    case rel=>exact⟨k+1,by omega,by go_num,(below_same HB1.out HBw.out (by simp)).drew⟩
    case measure=>simp[intOf];omega
  ·have hkn:k=n:=by omega
   subst hkn;have HE1:Hid (wr.ownsRow base 29 1 vn E.length E):=own_below' HE.out hbel (Nat.le_refl _);have HO1:Hid (wr.ownsRow base 78 4 (.slice ao k cc) k (evCells l)):=own_below' HOwn.out hbel (Nat.le_refl _);have hsz1:=hbel.size;have hlb:∀q,Value.ownBlock (.slice ao k cc)=some q→q<w.heap.size:=fun q h=>(HOwn.out.lt q h).2;have HLb:Hid (∀q,Value.ownBlock (.slice ao k cc)=some q→base≤q∧q<w.heap.size):=fun q h=>HOwn.out.lt q h;have HNb:Hid (∀q,vn.ownBlock=some q→base≤q∧q<w.heap.size):=fun q h=>HE.out.lt q h;have hBl:=HBk.out.lt;obtain⟨cs,hcs⟩:∃cs,cs=#[d0,o0,vn,o2,.bool false,o4,o5,.slice ao k cc,.slice wo k wc,o8,o9]:=⟨_,rfl⟩;have HCs:Hid (cs=#[d0,o0,vn,o2,.bool false,o4,o5,.slice ao k cc,.slice wo k wc,o8,o9]):=hcs;have HBc:Hid (Blk wr B cs 34):=by unfold Hid;rw[hcs];exact hbw
   have b0:=hbw.cell 2;simp at b0;obtain⟨e,he⟩:∃e,e=E.length:=⟨_,rfl⟩;have He:Hid (E.length=e):=he.symm;rw[hvn,←he] at b0;rw[←he] at hEl;obtain⟨K,hw16⟩:∃K,IntKind.u16.wrap ((200:Int)+(e:Int))=K:=⟨_,rfl⟩;have HKe:Hid (IntKind.u16.wrap ((200:Int)+(e:Int))=K):=hw16;clear hbel hbw hlb hcs hlt he HBw HOwn HW HBk HE;go_wp2_with fail;have hM:Blk (wr.alloc (.cells #[.int .u8 0,.int .u8 0,.int .u16 K,.int .u8 0] 78)) wr.heap.size #[.int .u8 0,.int .u8 0,.int .u16 K,.int .u8 0] 78:=Blk.new wr _ 78;have HM:Hid (Blk (wr.alloc (.cells #[.int .u8 0,.int .u8 0,.int .u16 K,.int .u8 0] 78)) wr.heap.size (mkEv K).toArray 78):=hM;have HK1:Hid (Kept (fun q=>q=B∨some q=Value.ownBlock (.slice ao k cc)∨some q=vn.ownBlock) w (wr.alloc (.cells #[.int .u8 0,.int .u8 0,.int .u16 K,.int .u8 0] 78))):=(Kept.of_below HB1.out).alloc _;have HBc2:Hid (Blk (wr.alloc (.cells #[.int .u8 0,.int .u8 0,.int .u16 K,.int .u8 0] 78)) B cs 34):=HBc.out.alloc _;have HE2:Hid ((wr.alloc (.cells #[.int .u8 0,.int .u8 0,.int .u16 K,.int .u8 0] 78)).ownsRow base 29 1 vn E.length E):=HE1.out.alloc _;have HO2:Hid ((wr.alloc (.cells #[.int .u8 0,.int .u8 0,.int .u16 K,.int .u8 0] 78)).ownsRow base 78 4 (.slice ao k cc) k (evCells l)):=HO1.out.alloc _;obtain⟨M,hMe⟩:∃M,M=wr.heap.size:=⟨_,rfl⟩;rw[←hMe] at HM hsz1 ⊢;clear hM HB1 HBc HE1 HO1 b0;clear hMe;go_loopw [5] (fun i wr=>∃(q:Nat) (la:List Ev),q≤k∧i= .int .i64 q∧Hid (wr.ownsRow base 78 4 (.slice ao k cc) k (evCells la)∧la.length=k∧∀i,i<q→la[i]? =some ⟨0,0,K,0⟩)∧Hid (Blk wr B cs 34∧wr.ownsRow base 29 1 vn E.length E∧Blk wr M (mkEv K).toArray 78∧Kept (fun q=>q=B∨some q=Value.ownBlock (.slice ao k cc)∨some q=vn.ownBlock) w wr))
    (fun i _=>k-(intOf i).toNat)
   case atStart=>exact⟨0,l,Nat.zero_le _,rfl,⟨HO2.out,Hn.out,by intro i hi;omega⟩,HBc2.out,HE2.out,HM.out,HK1.out⟩
   case round=>
    obtain⟨q,la,hq,rfl,HLa,HX⟩:=hrel;clear HO2 HBc2 HE2 HM HK1;have hMb:=HX.out.2.2.1;have m0:=hMb.cell 0;have m1:=hMb.cell 1;have m2:=hMb.cell 2;have m3:=hMb.cell 3;simp[mkEv] at m0 m1 m2 m3;clear hMb;by_cases hlt:q<k
    ·obtain⟨g,rfl⟩:∃g,ao=some ⟨g,0,none⟩:=by
      rcases HLa.out.1.2 with ⟨h,h0⟩|⟨g,cp,cur,hv,hb,hh,_⟩
      ·omega
      ·simp only[Value.slice.injEq] at hv;exact⟨g,hv.1⟩
     obtain⟨y,hy⟩:∃x,la[q]? =some x:=⟨la[q]'(by have:=HLa.out.2.1;omega),List.getElem?_eq_getElem (by have:=HLa.out.2.1;omega)⟩;obtain⟨g',hg',r1⟩:=row4_at HLa.out.1 hlt;simp only[Option.some.injEq,Addr.mk.injEq,and_true] at hg';subst hg';have ex:=evCells_at la q y hy;obtain⟨y0,y1,y2,y3⟩:=y;have c0:wr.cell? ⟨g,q*4,none⟩=some (.int .u8 y0):=r1 0 _ (by decide) (ex 0 (by decide));have c1:wr.cell? ⟨g,q*4+1,none⟩=some (.int .u8 y1):=r1 1 _ (by decide) (ex 1 (by decide));have c2:wr.cell? ⟨g,q*4+2,none⟩=some (.int .u16 y2):=r1 2 _ (by decide) (ex 2 (by decide));have c3:wr.cell? ⟨g,q*4+3,none⟩=some (.int .u8 y3):=r1 3 _ (by decide) (ex 3 (by decide));clear r1 ex;obtain⟨cur,hcur⟩:∃cur,Blk wr g cur 78:=by
      rcases HLa.out.1.2 with ⟨h,_⟩|⟨g',cp,cur,hv,_,hh,_⟩
      ·simp at h
      ·simp only[Value.slice.injEq,Option.some.injEq,Addr.mk.injEq] at hv;obtain⟨⟨rfl,_⟩,_⟩:=hv;exact⟨cur,hh⟩
     have f0:=hcur.free (q*4);have f1:=hcur.free (q*4+1);have f2:=hcur.free (q*4+2);have f3:=hcur.free (q*4+3);have hgM:¬g=M:=by have:=HLb.out g rfl;omega
     have hMg:¬M=g:=by omega
     have hBg:B≠g:=HX.out.1.ne hcur (by decide);have hqi:(q:Int)<(k:Int):=by omega
     have HCur:Hid (Blk wr g cur 78):=hcur;have HSg:Hid (g=B∨some g=Value.ownBlock (.slice (some ⟨g,0,none⟩) k cc)∨some g=vn.ownBlock):=Or.inr (Or.inl rfl);clear hcur hy;clear hw16 hEl hk;go_wp2;go_roundw
     case rel=>
      refine⟨q+1,la.set q ⟨0,0,K,0⟩,by omega,by go_num,⟨own_set4Ev HLa.out.1 q ⟨0,0,K,0⟩,by simpa using HLa.out.2.1,?_⟩,?_,?_,?_,?_⟩
      ·intro i hi';rw[List.getElem?_set];by_cases hik:q=i
       ·rw[if_pos hik,if_pos (by have:=HLa.out.2.1;omega)]
       ·rw[if_neg hik];exact HLa.out.2.2 i (by omega)
      ·exact(((HX.out.1.other _ _ hBg).other _ _ hBg).other _ _ hBg).other _ _ hBg
      ·refine own_block HX.out.2.1 fun x hx=>?_;have hne:x≠g:=by rintro rfl;exact(HCur.out.ne_own HX.out.2.1 (by decide)) hx.symm
       exact(Below.heap_setCell _ _ _ _ hne).trans ((Below.heap_setCell _ _ _ _ hne).trans ((Below.heap_setCell _ _ _ _ hne).trans (Below.heap_setCell _ _ _ _ hne)))
      ·exact(((HX.out.2.2.1.other _ _ hMg).other _ _ hMg).other _ _ hMg).other _ _ hMg
      ·exact kept_set4Ev HX.out.2.2.2 g _ _ _ _ _ _ _ _ HSg.out
     case measure=>simp[intOf];omega
    ·have hqn:q=k:=by omega
     subst hqn;have HL3:Hid (LSt w wr base B M 2 29 78 cs (mkEv K) (Value.ownBlock (.slice ao q cc)) vn.ownBlock E vn [] ao q cc):=by
      have hla:la=List.replicate q ⟨0,0,K,0⟩:=by
       apply List.ext_getElem?;intro i;by_cases hik:i<q
       ·rw[HLa.out.2.2 i hik,List.getElem?_replicate,if_pos hik]
       ·rw[List.getElem?_eq_none (by have:=HLa.out.2.1;omega),List.getElem?_eq_none (by simp;omega)]
      have ho:=HLa.out.1;rw[hla,evCells_rep] at ho;have hc0:cs[2]? =some vn:=by rw[HCs.out];rfl
      refine⟨by rw[HX.out.1.keeps hc0];exact HX.out.1,by simpa using HX.out.2.1,ho,HX.out.2.2.1,HX.out.2.2.2,?_,fun x hx=>Or.inl hx.symm,by simp,hsz1⟩;intro x hx;have:=HLb.out x hx;exact⟨Or.inl hx.symm,by omega⟩
     clear HLa HX m0 m1 m2 m3;go_wp2_with fail;have hms:(mkEv K).length=4:=rfl;go_loopw [2,6] (fun vl i wr=>∃(j len cj:Nat) (aj:Option Addr) (vj:Value) (Ej:List Value),vl= .slice aj len cj∧j≤4∧i= .int .i64 j∧len≤q+61*j∧Ej.length=j∧Hid (LSt w wr base B M 2 29 78 cs (mkEv K) (Value.ownBlock (.slice ao q cc)) vn.ownBlock E vj Ej aj len cj))
      (fun _ i _=>4-(intOf i).toNat)
     case atStart=>exact⟨0,q,cc,ao,vn,[],rfl,by omega,rfl,by omega,rfl,HL3⟩
     case round=>
      obtain⟨j,len,cj,aj,vj,Ej,rfl,hj4,rfl,hlen,hEj,HL⟩:=hrel;clear HL3;have hszr:=HL.out.kept.size;have HRow:Hid (wr.ownsRow base 29 1 vj (e+j) (E++Ej)):=by have h:=HL.out.row;rw[He.out,hEj] at h;exact h
      have HNo:Hid (vn.ownBlock=vn.ownBlock):=rfl;by_cases hjj:j<4
      ·have b0:=HL.out.bk.cell 2;rw[HCs.out] at b0;simp at b0;have hji:(j:Int)<4:=by omega
       go_wp2_with (at_builtin;refine wpList_append_own_at _ rfl (.tmp 65) (.tmp 67) 26 rfl base 29 j0 (.slice none 0 0) 1 24 Tryz.underlying26 hj hy0 hy1 hy2 rfl (by decide) _ (e+j) _ rfl (HRow.out.alloc _) ⟨wr.heap.size,0,none⟩ 1 1 [.slice aj len cj] rfl rfl (new_one _ _ _) (by intro u hu;simp at hu;subst hu;rfl) (by unfold maxLen;omega) (by omega) (by simp;omega) ?_);intro v7 w7 ho7 hg7 _ hb7;obtain⟨vo7,vc7,rfl⟩:∃vo7 vc7,v7= .slice vo7 (e+j+1) vc7:=own_is ho7;have HL8:Hid (LSt w (w7.setCell ⟨B,2,none⟩ (.slice vo7 (e+j+1) vc7)) base B M 2 29 78 cs (mkEv K) (Value.ownBlock (.slice ao q cc)) vn.ownBlock E (.slice vo7 (e+j+1) vc7) (Ej++[.slice aj len cj]) aj len cj):=by refine HL.out.join (by decide) (by decide) (by decide) ?_ hg7 (by simpa using hb7);rw[He.out,hEj,List.append_assoc];exact ho7
       obtain⟨hb8,hm8⟩:=HL.out.mid (by decide) (by decide) hg7;have c7:=hb8.cell 2;rw[HCs.out] at c7;simp at c7;have f7:=hb8.free 2;have hBM:¬B=M:=by have:=HL.out.hM;omega
       have hMB:¬M=B:=by omega
       have m0:=hm8.cell 0;have m1:=hm8.cell 1;have m2:=hm8.cell 2;have m3:=hm8.cell 3;simp[mkEv] at m0 m1 m2 m3;have hs7:base≤w7.heap.size:=by have:=hg7.size;simp at this;omega
       have hnw:∀jj u,(mkEv K)[jj]? =some u→((w7.setCell ⟨B,2,none⟩ (.slice vo7 (e+j+1) vc7)).alloc (.cells #[.int .u8 0,.int .u8 0,.int .u16 K,.int .u8 0] 78)).cell? ((⟨w7.heap.size,0,none⟩:Addr).add jj)=some u:=by rw[show w7.heap.size=(w7.setCell ⟨B,2,none⟩ (.slice vo7 (e+j+1) vc7)).heap.size by simp];exact new_four _ _ _ _ _ _
       have HNw:Hid (∀jj u,(mkEv K)[jj]? =some u→((w7.setCell ⟨B,2,none⟩ (.slice vo7 (e+j+1) vc7)).alloc (.cells #[.int .u8 0,.int .u8 0,.int .u16 K,.int .u8 0] 78)).cell? ((⟨w7.heap.size,0,none⟩:Addr).add jj)=some u):=hnw;clear ho7 hg7 hb7 hb8 hm8 hnw HL HRow b0;go_wp2_with (at_builtin;refine wpList_append_mark _ rfl (.tmp 71) (.tmp 73) 29 rfl base 78 i0 (.agg #[.int .u8 0,.int .u8 0,.int .u16 0,.int .u8 0]) 6 (mkEv K) Tryz.underlying29 hi hz0 hz1 hz2 rfl (Nat.succ_pos 3) aj len cj rfl (HL8.out.own.alloc _) ⟨w7.heap.size,0,none⟩ 1 rfl HNw.out (by intro u hu;simp[mkEv] at hu;rcases hu with rfl|rfl|rfl|rfl<;>rfl) (by unfold maxLen;omega) (by omega) (by simp;omega) ?_);intro a9 c9 w9 ho9 hg9 hb9 hm9;have HL9:Hid (LSt w w9 base B M 2 29 78 cs (mkEv K) (Value.ownBlock (.slice ao q cc)) vn.ownBlock E (.slice vo7 (e+j+1) vc7) (Ej++[.slice aj len cj]) a9 (len+1) c9):=HL8.out.push (by decide) (by decide) ho9 hg9 (by simpa using hb9) hm9;clear ho9 hg9 hb9 hm9 HL8 HNw c7 f7 m0 m1 m2 m3 hs7;go_wp2_with fail;go_loopw [2,7] (fun vl i wr=>∃(p len' c':Nat) (a':Option Addr),vl= .slice a' len' c'∧p≤60∧i= .int .i64 p∧len'≤len+1+p∧Hid (LSt w wr base B M 2 29 78 cs (mkEv K) (Value.ownBlock (.slice ao q cc)) vn.ownBlock E (.slice vo7 (e+j+1) vc7) (Ej++[.slice aj len cj]) a' len' c'))
        (fun _ i _=>60-(intOf i).toNat)
       case atStart=>exact⟨0,len+1,c9,a9,rfl,by omega,rfl,by omega,HL9⟩
       case round=>
        obtain⟨p,len',c',a',rfl,hp60,rfl,hlen',HL⟩:=hrel;clear HL9;have hszr:=HL.out.kept.size;by_cases hpp:p<60
        ·have hpi:(p:Int)<60:=by omega
         by_cases hj2:j=2
         ·obtain⟨tt,ht1,ht2⟩:∃tt:Bool,((j:Int)==2)=tt∧tt=true:=⟨true,by subst hj2;rfl,rfl⟩;clear hj2;have m0:=HL.out.mark.cell 0;have m1:=HL.out.mark.cell 1;have m2:=HL.out.mark.cell 2;have m3:=HL.out.mark.cell 3;simp[mkEv] at m0 m1 m2 m3;have HNw:Hid (∀jj u,(mkEv K)[jj]? =some u→(wr.alloc (.cells #[.int .u8 0,.int .u8 0,.int .u16 K,.int .u8 0] 78)).cell? ((⟨wr.heap.size,0,none⟩:Addr).add jj)=some u):=new_four wr _ _ _ _ _;go_wp2_with (at_builtin;refine wpList_append_mark _ rfl (.tmp 83) (.tmp 85) 29 rfl base 78 i0 (.agg #[.int .u8 0,.int .u8 0,.int .u16 0,.int .u8 0]) 6 (mkEv K) Tryz.underlying29 hi hz0 hz1 hz2 rfl (Nat.succ_pos 3) a' len' c' rfl (HL.out.own.alloc _) ⟨wr.heap.size,0,none⟩ 1 rfl HNw.out (by intro u hu;simp[mkEv] at hu;rcases hu with rfl|rfl|rfl|rfl<;>rfl) (by unfold maxLen;omega) (by omega) (by simp;omega) ?_);intro a9 c9 w9 ho9 hg9 hb9 hm9;have HL9:Hid (LSt w w9 base B M 2 29 78 cs (mkEv K) (Value.ownBlock (.slice ao q cc)) vn.ownBlock E (.slice vo7 (e+j+1) vc7) (Ej++[.slice aj len cj]) a9 (len'+1) c9):=HL.out.push (by decide) (by decide) ho9 hg9 (by simpa using hb9) hm9;clear ho9 hg9 hb9 hm9 HNw m0 m1 m2 m3;go_wp2;go_roundw
          case rel=>exact⟨p+1,len'+1,c9,a9,rfl,by omega,by go_num,by omega,HL9⟩
          case measure=>simp[intOf];omega
         ·have hj2':((j:Int)==2)=false:=by rw[beq_eq_false_iff_ne];omega
          go_wp2;go_roundw
          case rel=>exact⟨j+1,len',c',a',(.slice vo7 (e+j+1) vc7),_,rfl,by omega,by go_num,by omega,by simp[hEj],HL⟩
          case measure=>simp[intOf];omega
        ·have hpn:¬(p:Int)<60:=by omega
         go_wp2;go_roundw
         case rel=>exact⟨j+1,len',c',a',(.slice vo7 (e+j+1) vc7),_,rfl,by omega,by go_num,by omega,by simp[hEj],HL⟩
         case measure=>simp[intOf];omega
      ·have hjn:¬(j:Int)<4:=by omega
       have hj4':j=4:=by omega
       have b4:=HL.out.bk.cell 7;have b5:=HL.out.bk.cell 8;rw[HCs.out] at b4 b5;simp at b4 b5;have f4:=HL.out.bk.free 7;have f5:=HL.out.bk.free 8;clear HRow;go_wp2;go_end0;subst hvn;obtain⟨r1,r2,r3,r4,r5⟩:=HL.out.fin (by decide) (by decide) 7 8 (.slice none 0 0) (.slice none 0 0);refine⟨rfl,vj,Ej,?_,?_,by omega,?_,r4,r5⟩
       ·rw[HCs.out] at r1;exact r1
       ·rw[hEj,hj4'] at r2;exact r2
       ·intro v hv;obtain⟨m,hm1,hm2,hm3⟩:=r3 v hv;refine⟨m,by omega,?_,hm3⟩;rw[He.out,HKe.out];exact hm2
theorem info30s:(Tryz.prog.info? 30).map (fun i=>(i.zero,i.size,i.bytes))=some (some (.slice none 0 0),1,24):=by kernel_rfl
theorem enCells_set:∀(l:List En) (k:Nat) (x:En),((((enCells l).set (k*4) (.int .i64 x.frame)).set (k*4+1) (.int .u8 x.kind)).set (k*4+2) (.int .u16 x.a)).set (k*4+3) (.int .u16 x.b)=enCells (l.set k x)
 |[],k,x=>by simp[enCells]
 |y::r,0,x=>by
  have e:enCells (y::r)= .int .i64 y.frame:: .int .u8 y.kind:: .int .u16 y.a:: .int .u16 y.b::enCells r:=rfl;have e2:enCells ((y::r).set 0 x)= .int .i64 x.frame:: .int .u8 x.kind:: .int .u16 x.a:: .int .u16 x.b::enCells r:=rfl;rw[e,e2];rfl
 |y::r,k+1,x=>by have e:enCells (y::r)= .int .i64 y.frame:: .int .u8 y.kind:: .int .u16 y.a:: .int .u16 y.b::enCells r:=rfl;have e2:enCells ((y::r).set (k+1) x)= .int .i64 y.frame:: .int .u8 y.kind:: .int .u16 y.a:: .int .u16 y.b::enCells (r.set k x):=rfl;rw[e,e2,←enCells_set r k x,show(k+1)*4=k*4+1+1+1+1 by omega,show k*4+1+1+1+1+1=(k*4+1)+1+1+1+1 by omega,show k*4+1+1+1+1+2=(k*4+2)+1+1+1+1 by omega,show k*4+1+1+1+1+3=(k*4+3)+1+1+1+1 by omega];rfl
def mkEn (key:Int):List Value:=[.int .i64 key,.int .u8 0,.int .u16 0,.int .u16 0]
theorem enCells_rep (K:Int):∀n,enCells (List.replicate n ⟨K,0,0,0⟩)=rep n (mkEn K)
 |0=>rfl
 |n+1=>by rw[List.replicate_succ',enCells_snoc,rep_succ,enCells_rep K n];rfl
theorem own_set4En {w:World} {base g n cap:Nat} {l:List En} (h:w.ownsRow base 80 4 (.slice (some ⟨g,0,none⟩) n cap) n (enCells l)) (k:Nat) (x:En): ((((w.setCell ⟨g,k*4,none⟩ (.int .i64 x.frame)).setCell ⟨g,k*4+1,none⟩ (.int .u8 x.kind)).setCell ⟨g,k*4+2,none⟩ (.int .u16 x.a)).setCell ⟨g,k*4+3,none⟩ (.int .u16 x.b)).ownsRow base 80 4 (.slice (some ⟨g,0,none⟩) n cap) n (enCells (l.set k x)):=by
 obtain⟨h1,h2⟩:=h;refine⟨by rw[←enCells_set];simpa using h1,?_⟩;rcases h2 with ⟨hv,_⟩|⟨g',cap',cur,hv,hb,hh,h3,h4,h5,h6⟩
 ·simp at hv
 ·simp only[Value.slice.injEq,Option.some.injEq,Addr.mk.injEq,and_true,true_and] at hv;obtain⟨rfl,rfl⟩:=hv;have hB:Blk w g cur 80:=hh;refine Or.inr ⟨g,cap,_,rfl,hb,(((hB.set (k*4) (.int .i64 x.frame)).set (k*4+1) (.int .u8 x.kind)).set (k*4+2) (.int .u16 x.a)).set (k*4+3) (.int .u16 x.b),h3,h4,by simpa using h5,?_⟩;rw[Array.toList_setIfInBounds,Array.toList_setIfInBounds,Array.toList_setIfInBounds,Array.toList_setIfInBounds,List.take_set,List.take_set,List.take_set,List.take_set,h6,enCells_set]
theorem kept_set4En {S:Nat→Prop} {w w1:World} (h:Kept S w w1) (g a b c d:Nat) (x y z u:Value) (hs:S g):Kept S w ((((w1.setCell ⟨g,a,none⟩ x).setCell ⟨g,b,none⟩ y).setCell ⟨g,c,none⟩ z).setCell ⟨g,d,none⟩ u):=(((h.setCell ⟨g,a,none⟩ x (Or.inl hs)).setCell ⟨g,b,none⟩ y (Or.inl hs)).setCell ⟨g,c,none⟩ z (Or.inl hs)).setCell ⟨g,d,none⟩ u (Or.inl hs)
def markedEndEn (base B n:Nat) (vn:Value) (E:List Value) (lb:Option Nat) (d0 o0 o1 o4 o5 o6 o7:Value) (w:World) (e:Ending) (w':World):Prop:=e= .returned (.tuple #[])∧∃vn' E',Blk w' B #[d0,o0,o1,vn',.bool false,o4,o5,o6,o7,.slice none 0 0,.slice none 0 0] 34∧w'.ownsRow base 30 1 vn' (E.length+4) (E++E')∧E'.length=4∧(∀v∈E',∃m,m≤n+244∧MarkAt w' 80 (mkEn (IntKind.i64.wrap (200+(E.length:Int)))) v m∧∀k,v.ownBlock=some k→some k=lb∨w.heap.size≤k)∧Kept (fun k=>k=B∨some k=lb∨some k=vn.ownBlock) w w'∧(∀k,vn'.ownBlock=some k→some k=vn.ownBlock∨w.heap.size≤k)
set_option maxRecDepth 100000 in
theorem markedEn_any (base B:Nat) (vn:Value) (E:List Value) (ao wo:Option Addr) (n cc wc:Nat) (l:List En) (d0 o0 o1 o4 o5 o6 o7:Value) (w:World) (hB:base≤B)
 (hbk:Blk w B #[d0,o0,o1,vn,.bool false,o4,o5,o6,o7,.slice ao n cc,.slice wo n wc] 34) (hE:w.ownsRow base 30 1 vn E.length E) (hEl:E.length≤100000000) (hl:l.length=n) (hn:n≤100000)
 (hown:w.ownsRow base 80 4 (.slice ao n cc) n (enCells l)) (bw:Nat) (hw:w.ownsRow bw 80 4 (.slice wo n wc) n (enCells l)) (hs:base≤w.heap.size): Calls Tryz.prog 32 #[.pointer (some ⟨B,1,none⟩)] w fun e w'=>markedEndEn base B n vn E (Value.ownBlock (.slice ao n cc)) d0 o0 o1 o4 o5 o6 o7 w e w':=by
 obtain⟨i0,hi,hz0,hz1,hz2⟩:=info_parts info56;obtain⟨j0,hj,hy0,hy1,hy2⟩:=info_parts info30s;have HBk:Hid (Blk w B #[d0,o0,o1,vn,.bool false,o4,o5,o6,o7,.slice ao n cc,.slice wo n wc] 34):=hbk;have HE:Hid (w.ownsRow base 30 1 vn E.length E):=hE;have HOwn:Hid (w.ownsRow base 80 4 (.slice ao n cc) n (enCells l)):=hown;have HW:Hid (w.ownsRow bw 80 4 (.slice wo n wc) n (enCells l)):=hw;have Hn:Hid (l.length=n):=hl;have b4:=hbk.cell 9;simp at b4;obtain⟨no,nc,hvn⟩:∃no nc,vn= .slice no E.length nc:=own_is hE;clear hbk hE hown hw hl;go_enter Tryz.func32,Tryz.ntmps32;go_wp2_with fail;clear b4;go_loopw [3] (fun i wr=>∃(k:Nat),k≤n∧i= .int .i64 k∧Below w.heap.size w wr)
  (fun i _=>n-(intOf i).toNat)
 case atStart=>exact⟨0,Nat.zero_le _,rfl,Below.refl _ _⟩
 case round=>
  obtain⟨k,hk,rfl,hbel⟩:=hrel;have HB1:Hid (Below w.heap.size w wr):=hbel;have hbw:Blk wr B #[d0,o0,o1,vn,.bool false,o4,o5,o6,o7,.slice ao n cc,.slice wo n wc] 34:=HBk.out.below hbel HBk.out.lt;have HBw:Hid (Blk wr B #[d0,o0,o1,vn,.bool false,o4,o5,o6,o7,.slice ao n cc,.slice wo n wc] 34):=hbw;by_cases hlt:k<n
  ·obtain⟨x,hx⟩:∃x,l[k]? =some x:=⟨l[k]'(by have:=Hn.out;omega),List.getElem?_eq_getElem (by have:=Hn.out;omega)⟩;obtain⟨g,rfl,r1⟩:=row4_at (own_below' HOwn.out hbel (Nat.le_refl _)) hlt;obtain⟨g2,rfl,r2⟩:=row4_at (own_below' HW.out hbel (Nat.le_refl _)) hlt;have ex:=enCells_at l k x hx;obtain⟨x0,x1,x2,x3⟩:=x;have c0:wr.cell? ⟨g,k*4,none⟩=some (.int .i64 x0):=r1 0 _ (by decide) (ex 0 (by decide));have c1:wr.cell? ⟨g,k*4+1,none⟩=some (.int .u8 x1):=r1 1 _ (by decide) (ex 1 (by decide));have c2:wr.cell? ⟨g,k*4+2,none⟩=some (.int .u16 x2):=r1 2 _ (by decide) (ex 2 (by decide));have c3:wr.cell? ⟨g,k*4+3,none⟩=some (.int .u16 x3):=r1 3 _ (by decide) (ex 3 (by decide));have d0':wr.cell? ⟨g2,k*4,none⟩=some (.int .i64 x0):=r2 0 _ (by decide) (ex 0 (by decide));have d1':wr.cell? ⟨g2,k*4+1,none⟩=some (.int .u8 x1):=r2 1 _ (by decide) (ex 1 (by decide));have d2':wr.cell? ⟨g2,k*4+2,none⟩=some (.int .u16 x2):=r2 2 _ (by decide) (ex 2 (by decide));have d3':wr.cell? ⟨g2,k*4+3,none⟩=some (.int .u16 x3):=r2 3 _ (by decide) (ex 3 (by decide));clear r1 r2 ex;have b3:=hbw.cell 4;have b5:=hbw.cell 10;simp at b3 b5;have f3:=hbw.free 4;have hki:(k:Int)<(n:Int):=by omega
   have t1:(x1==x1)=true:=by simp
   have t2:(x2==x2)=true:=by simp
   have t3:(x3==x3)=true:=by simp
   have t0:(x0==x0)=true:=by simp
   clear hbel hbw hx;go_wp2_with fail;go_region
   all_goals
    go_wp2;go_roundw
    case rel=>exact⟨k+1,by omega,by go_num,(below_same HB1.out HBw.out (by simp)).drew⟩
    case measure=>simp[intOf];omega
  ·have hkn:k=n:=by omega
   subst hkn;have HE1:Hid (wr.ownsRow base 30 1 vn E.length E):=own_below' HE.out hbel (Nat.le_refl _);have HO1:Hid (wr.ownsRow base 80 4 (.slice ao k cc) k (enCells l)):=own_below' HOwn.out hbel (Nat.le_refl _);have hsz1:=hbel.size;have hlb:∀q,Value.ownBlock (.slice ao k cc)=some q→q<w.heap.size:=fun q h=>(HOwn.out.lt q h).2;have HLb:Hid (∀q,Value.ownBlock (.slice ao k cc)=some q→base≤q∧q<w.heap.size):=fun q h=>HOwn.out.lt q h;have HNb:Hid (∀q,vn.ownBlock=some q→base≤q∧q<w.heap.size):=fun q h=>HE.out.lt q h;have hBl:=HBk.out.lt;obtain⟨cs,hcs⟩:∃cs,cs=#[d0,o0,o1,vn,.bool false,o4,o5,o6,o7,.slice ao k cc,.slice wo k wc]:=⟨_,rfl⟩;have HCs:Hid (cs=#[d0,o0,o1,vn,.bool false,o4,o5,o6,o7,.slice ao k cc,.slice wo k wc]):=hcs;have HBc:Hid (Blk wr B cs 34):=by unfold Hid;rw[hcs];exact hbw
   have b0:=hbw.cell 3;simp at b0;obtain⟨e,he⟩:∃e,e=E.length:=⟨_,rfl⟩;have He:Hid (E.length=e):=he.symm;rw[hvn,←he] at b0;rw[←he] at hEl;obtain⟨K,hw16⟩:∃K,IntKind.i64.wrap ((200:Int)+(e:Int))=K:=⟨_,rfl⟩;have HKe:Hid (IntKind.i64.wrap ((200:Int)+(e:Int))=K):=hw16;clear hbel hbw hlb hcs hlt he HBw HOwn HW HBk HE;go_wp2_with fail;have hM:Blk (wr.alloc (.cells #[.int .i64 K,.int .u8 0,.int .u16 0,.int .u16 0] 80)) wr.heap.size #[.int .i64 K,.int .u8 0,.int .u16 0,.int .u16 0] 80:=Blk.new wr _ 80;have HM:Hid (Blk (wr.alloc (.cells #[.int .i64 K,.int .u8 0,.int .u16 0,.int .u16 0] 80)) wr.heap.size (mkEn K).toArray 80):=hM;have HK1:Hid (Kept (fun q=>q=B∨some q=Value.ownBlock (.slice ao k cc)∨some q=vn.ownBlock) w (wr.alloc (.cells #[.int .i64 K,.int .u8 0,.int .u16 0,.int .u16 0] 80))):=(Kept.of_below HB1.out).alloc _;have HBc2:Hid (Blk (wr.alloc (.cells #[.int .i64 K,.int .u8 0,.int .u16 0,.int .u16 0] 80)) B cs 34):=HBc.out.alloc _;have HE2:Hid ((wr.alloc (.cells #[.int .i64 K,.int .u8 0,.int .u16 0,.int .u16 0] 80)).ownsRow base 30 1 vn E.length E):=HE1.out.alloc _;have HO2:Hid ((wr.alloc (.cells #[.int .i64 K,.int .u8 0,.int .u16 0,.int .u16 0] 80)).ownsRow base 80 4 (.slice ao k cc) k (enCells l)):=HO1.out.alloc _;obtain⟨M,hMe⟩:∃M,M=wr.heap.size:=⟨_,rfl⟩;rw[←hMe] at HM hsz1 ⊢;clear hM HB1 HBc HE1 HO1 b0;clear hMe;go_loopw [5] (fun i wr=>∃(q:Nat) (la:List En),q≤k∧i= .int .i64 q∧Hid (wr.ownsRow base 80 4 (.slice ao k cc) k (enCells la)∧la.length=k∧∀i,i<q→la[i]? =some ⟨K,0,0,0⟩)∧Hid (Blk wr B cs 34∧wr.ownsRow base 30 1 vn E.length E∧Blk wr M (mkEn K).toArray 80∧Kept (fun q=>q=B∨some q=Value.ownBlock (.slice ao k cc)∨some q=vn.ownBlock) w wr))
    (fun i _=>k-(intOf i).toNat)
   case atStart=>exact⟨0,l,Nat.zero_le _,rfl,⟨HO2.out,Hn.out,by intro i hi;omega⟩,HBc2.out,HE2.out,HM.out,HK1.out⟩
   case round=>
    obtain⟨q,la,hq,rfl,HLa,HX⟩:=hrel;clear HO2 HBc2 HE2 HM HK1;have hMb:=HX.out.2.2.1;have m0:=hMb.cell 0;have m1:=hMb.cell 1;have m2:=hMb.cell 2;have m3:=hMb.cell 3;simp[mkEn] at m0 m1 m2 m3;clear hMb;by_cases hlt:q<k
    ·obtain⟨g,rfl⟩:∃g,ao=some ⟨g,0,none⟩:=by
      rcases HLa.out.1.2 with ⟨h,h0⟩|⟨g,cp,cur,hv,hb,hh,_⟩
      ·omega
      ·simp only[Value.slice.injEq] at hv;exact⟨g,hv.1⟩
     obtain⟨y,hy⟩:∃x,la[q]? =some x:=⟨la[q]'(by have:=HLa.out.2.1;omega),List.getElem?_eq_getElem (by have:=HLa.out.2.1;omega)⟩;obtain⟨g',hg',r1⟩:=row4_at HLa.out.1 hlt;simp only[Option.some.injEq,Addr.mk.injEq,and_true] at hg';subst hg';have ex:=enCells_at la q y hy;obtain⟨y0,y1,y2,y3⟩:=y;have c0:wr.cell? ⟨g,q*4,none⟩=some (.int .i64 y0):=r1 0 _ (by decide) (ex 0 (by decide));have c1:wr.cell? ⟨g,q*4+1,none⟩=some (.int .u8 y1):=r1 1 _ (by decide) (ex 1 (by decide));have c2:wr.cell? ⟨g,q*4+2,none⟩=some (.int .u16 y2):=r1 2 _ (by decide) (ex 2 (by decide));have c3:wr.cell? ⟨g,q*4+3,none⟩=some (.int .u16 y3):=r1 3 _ (by decide) (ex 3 (by decide));clear r1 ex;obtain⟨cur,hcur⟩:∃cur,Blk wr g cur 80:=by
      rcases HLa.out.1.2 with ⟨h,_⟩|⟨g',cp,cur,hv,_,hh,_⟩
      ·simp at h
      ·simp only[Value.slice.injEq,Option.some.injEq,Addr.mk.injEq] at hv;obtain⟨⟨rfl,_⟩,_⟩:=hv;exact⟨cur,hh⟩
     have f0:=hcur.free (q*4);have f1:=hcur.free (q*4+1);have f2:=hcur.free (q*4+2);have f3:=hcur.free (q*4+3);have hgM:¬g=M:=by have:=HLb.out g rfl;omega
     have hMg:¬M=g:=by omega
     have hBg:B≠g:=HX.out.1.ne hcur (by decide);have hqi:(q:Int)<(k:Int):=by omega
     have HCur:Hid (Blk wr g cur 80):=hcur;have HSg:Hid (g=B∨some g=Value.ownBlock (.slice (some ⟨g,0,none⟩) k cc)∨some g=vn.ownBlock):=Or.inr (Or.inl rfl);clear hcur hy;clear hw16 hEl hk;go_wp2;go_roundw
     case rel=>
      refine⟨q+1,la.set q ⟨K,0,0,0⟩,by omega,by go_num,⟨own_set4En HLa.out.1 q ⟨K,0,0,0⟩,by simpa using HLa.out.2.1,?_⟩,?_,?_,?_,?_⟩
      ·intro i hi';rw[List.getElem?_set];by_cases hik:q=i
       ·rw[if_pos hik,if_pos (by have:=HLa.out.2.1;omega)]
       ·rw[if_neg hik];exact HLa.out.2.2 i (by omega)
      ·exact(((HX.out.1.other _ _ hBg).other _ _ hBg).other _ _ hBg).other _ _ hBg
      ·refine own_block HX.out.2.1 fun x hx=>?_;have hne:x≠g:=by rintro rfl;exact(HCur.out.ne_own HX.out.2.1 (by decide)) hx.symm
       exact(Below.heap_setCell _ _ _ _ hne).trans ((Below.heap_setCell _ _ _ _ hne).trans ((Below.heap_setCell _ _ _ _ hne).trans (Below.heap_setCell _ _ _ _ hne)))
      ·exact(((HX.out.2.2.1.other _ _ hMg).other _ _ hMg).other _ _ hMg).other _ _ hMg
      ·exact kept_set4En HX.out.2.2.2 g _ _ _ _ _ _ _ _ HSg.out
     case measure=>simp[intOf];omega
    ·have hqn:q=k:=by omega
     subst hqn;have HL3:Hid (LSt w wr base B M 3 30 80 cs (mkEn K) (Value.ownBlock (.slice ao q cc)) vn.ownBlock E vn [] ao q cc):=by
      have hla:la=List.replicate q ⟨K,0,0,0⟩:=by
       apply List.ext_getElem?;intro i;by_cases hik:i<q
       ·rw[HLa.out.2.2 i hik,List.getElem?_replicate,if_pos hik]
       ·rw[List.getElem?_eq_none (by have:=HLa.out.2.1;omega),List.getElem?_eq_none (by simp;omega)]
      have ho:=HLa.out.1;rw[hla,enCells_rep] at ho;have hc0:cs[3]? =some vn:=by rw[HCs.out];rfl
      refine⟨by rw[HX.out.1.keeps hc0];exact HX.out.1,by simpa using HX.out.2.1,ho,HX.out.2.2.1,HX.out.2.2.2,?_,fun x hx=>Or.inl hx.symm,by simp,hsz1⟩;intro x hx;have:=HLb.out x hx;exact⟨Or.inl hx.symm,by omega⟩
     clear HLa HX m0 m1 m2 m3;go_wp2_with fail;have hms:(mkEn K).length=4:=rfl;go_loopw [2,6] (fun vl i wr=>∃(j len cj:Nat) (aj:Option Addr) (vj:Value) (Ej:List Value),vl= .slice aj len cj∧j≤4∧i= .int .i64 j∧len≤q+61*j∧Ej.length=j∧Hid (LSt w wr base B M 3 30 80 cs (mkEn K) (Value.ownBlock (.slice ao q cc)) vn.ownBlock E vj Ej aj len cj))
      (fun _ i _=>4-(intOf i).toNat)
     case atStart=>exact⟨0,q,cc,ao,vn,[],rfl,by omega,rfl,by omega,rfl,HL3⟩
     case round=>
      obtain⟨j,len,cj,aj,vj,Ej,rfl,hj4,rfl,hlen,hEj,HL⟩:=hrel;clear HL3;have hszr:=HL.out.kept.size;have HRow:Hid (wr.ownsRow base 30 1 vj (e+j) (E++Ej)):=by have h:=HL.out.row;rw[He.out,hEj] at h;exact h
      have HNo:Hid (vn.ownBlock=vn.ownBlock):=rfl;by_cases hjj:j<4
      ·have b0:=HL.out.bk.cell 3;rw[HCs.out] at b0;simp at b0;have hji:(j:Int)<4:=by omega
       go_wp2_with (at_builtin;refine wpList_append_own_at _ rfl (.tmp 64) (.tmp 66) 27 rfl base 30 j0 (.slice none 0 0) 1 24 Tryz.underlying27 hj hy0 hy1 hy2 rfl (by decide) _ (e+j) _ rfl (HRow.out.alloc _) ⟨wr.heap.size,0,none⟩ 1 1 [.slice aj len cj] rfl rfl (new_one _ _ _) (by intro u hu;simp at hu;subst hu;rfl) (by unfold maxLen;omega) (by omega) (by simp;omega) ?_);intro v7 w7 ho7 hg7 _ hb7;obtain⟨vo7,vc7,rfl⟩:∃vo7 vc7,v7= .slice vo7 (e+j+1) vc7:=own_is ho7;have HL8:Hid (LSt w (w7.setCell ⟨B,3,none⟩ (.slice vo7 (e+j+1) vc7)) base B M 3 30 80 cs (mkEn K) (Value.ownBlock (.slice ao q cc)) vn.ownBlock E (.slice vo7 (e+j+1) vc7) (Ej++[.slice aj len cj]) aj len cj):=by refine HL.out.join (by decide) (by decide) (by decide) ?_ hg7 (by simpa using hb7);rw[He.out,hEj,List.append_assoc];exact ho7
       obtain⟨hb8,hm8⟩:=HL.out.mid (by decide) (by decide) hg7;have c7:=hb8.cell 3;rw[HCs.out] at c7;simp at c7;have f7:=hb8.free 3;have hBM:¬B=M:=by have:=HL.out.hM;omega
       have hMB:¬M=B:=by omega
       have m0:=hm8.cell 0;have m1:=hm8.cell 1;have m2:=hm8.cell 2;have m3:=hm8.cell 3;simp[mkEn] at m0 m1 m2 m3;have hs7:base≤w7.heap.size:=by have:=hg7.size;simp at this;omega
       have hnw:∀jj u,(mkEn K)[jj]? =some u→((w7.setCell ⟨B,3,none⟩ (.slice vo7 (e+j+1) vc7)).alloc (.cells #[.int .i64 K,.int .u8 0,.int .u16 0,.int .u16 0] 80)).cell? ((⟨w7.heap.size,0,none⟩:Addr).add jj)=some u:=by rw[show w7.heap.size=(w7.setCell ⟨B,3,none⟩ (.slice vo7 (e+j+1) vc7)).heap.size by simp];exact new_four _ _ _ _ _ _
       have HNw:Hid (∀jj u,(mkEn K)[jj]? =some u→((w7.setCell ⟨B,3,none⟩ (.slice vo7 (e+j+1) vc7)).alloc (.cells #[.int .i64 K,.int .u8 0,.int .u16 0,.int .u16 0] 80)).cell? ((⟨w7.heap.size,0,none⟩:Addr).add jj)=some u):=hnw;clear ho7 hg7 hb7 hb8 hm8 hnw HL HRow b0;go_wp2_with (at_builtin;refine wpList_append_mark _ rfl (.tmp 70) (.tmp 72) 30 rfl base 80 i0 (.agg #[.int .i64 0,.int .u8 0,.int .u16 0,.int .u16 0]) 16 (mkEn K) Tryz.underlying30 hi hz0 hz1 hz2 rfl (Nat.succ_pos 3) aj len cj rfl (HL8.out.own.alloc _) ⟨w7.heap.size,0,none⟩ 1 rfl HNw.out (by intro u hu;simp[mkEn] at hu;rcases hu with rfl|rfl|rfl|rfl<;>rfl) (by unfold maxLen;omega) (by omega) (by simp;omega) ?_);intro a9 c9 w9 ho9 hg9 hb9 hm9;have HL9:Hid (LSt w w9 base B M 3 30 80 cs (mkEn K) (Value.ownBlock (.slice ao q cc)) vn.ownBlock E (.slice vo7 (e+j+1) vc7) (Ej++[.slice aj len cj]) a9 (len+1) c9):=HL8.out.push (by decide) (by decide) ho9 hg9 (by simpa using hb9) hm9;clear ho9 hg9 hb9 hm9 HL8 HNw c7 f7 m0 m1 m2 m3 hs7;go_wp2_with fail;go_loopw [2,7] (fun vl i wr=>∃(p len' c':Nat) (a':Option Addr),vl= .slice a' len' c'∧p≤60∧i= .int .i64 p∧len'≤len+1+p∧Hid (LSt w wr base B M 3 30 80 cs (mkEn K) (Value.ownBlock (.slice ao q cc)) vn.ownBlock E (.slice vo7 (e+j+1) vc7) (Ej++[.slice aj len cj]) a' len' c'))
        (fun _ i _=>60-(intOf i).toNat)
       case atStart=>exact⟨0,len+1,c9,a9,rfl,by omega,rfl,by omega,HL9⟩
       case round=>
        obtain⟨p,len',c',a',rfl,hp60,rfl,hlen',HL⟩:=hrel;clear HL9;have hszr:=HL.out.kept.size;by_cases hpp:p<60
        ·have hpi:(p:Int)<60:=by omega
         by_cases hj2:j=2
         ·obtain⟨tt,ht1,ht2⟩:∃tt:Bool,((j:Int)==2)=tt∧tt=true:=⟨true,by subst hj2;rfl,rfl⟩;clear hj2;have m0:=HL.out.mark.cell 0;have m1:=HL.out.mark.cell 1;have m2:=HL.out.mark.cell 2;have m3:=HL.out.mark.cell 3;simp[mkEn] at m0 m1 m2 m3;have HNw:Hid (∀jj u,(mkEn K)[jj]? =some u→(wr.alloc (.cells #[.int .i64 K,.int .u8 0,.int .u16 0,.int .u16 0] 80)).cell? ((⟨wr.heap.size,0,none⟩:Addr).add jj)=some u):=new_four wr _ _ _ _ _;go_wp2_with (at_builtin;refine wpList_append_mark _ rfl (.tmp 82) (.tmp 84) 30 rfl base 80 i0 (.agg #[.int .i64 0,.int .u8 0,.int .u16 0,.int .u16 0]) 16 (mkEn K) Tryz.underlying30 hi hz0 hz1 hz2 rfl (Nat.succ_pos 3) a' len' c' rfl (HL.out.own.alloc _) ⟨wr.heap.size,0,none⟩ 1 rfl HNw.out (by intro u hu;simp[mkEn] at hu;rcases hu with rfl|rfl|rfl|rfl<;>rfl) (by unfold maxLen;omega) (by omega) (by simp;omega) ?_);intro a9 c9 w9 ho9 hg9 hb9 hm9;have HL9:Hid (LSt w w9 base B M 3 30 80 cs (mkEn K) (Value.ownBlock (.slice ao q cc)) vn.ownBlock E (.slice vo7 (e+j+1) vc7) (Ej++[.slice aj len cj]) a9 (len'+1) c9):=HL.out.push (by decide) (by decide) ho9 hg9 (by simpa using hb9) hm9;clear ho9 hg9 hb9 hm9 HNw m0 m1 m2 m3;go_wp2;go_roundw
          case rel=>exact⟨p+1,len'+1,c9,a9,rfl,by omega,by go_num,by omega,HL9⟩
          case measure=>simp[intOf];omega
         ·have hj2':((j:Int)==2)=false:=by rw[beq_eq_false_iff_ne];omega
          go_wp2;go_roundw
          case rel=>exact⟨j+1,len',c',a',(.slice vo7 (e+j+1) vc7),_,rfl,by omega,by go_num,by omega,by simp[hEj],HL⟩
          case measure=>simp[intOf];omega
        ·have hpn:¬(p:Int)<60:=by omega
         go_wp2;go_roundw
         case rel=>exact⟨j+1,len',c',a',(.slice vo7 (e+j+1) vc7),_,rfl,by omega,by go_num,by omega,by simp[hEj],HL⟩
         case measure=>simp[intOf];omega
      ·have hjn:¬(j:Int)<4:=by omega
       have hj4':j=4:=by omega
       have b4:=HL.out.bk.cell 9;have b5:=HL.out.bk.cell 10;rw[HCs.out] at b4 b5;simp at b4 b5;have f4:=HL.out.bk.free 9;have f5:=HL.out.bk.free 10;clear HRow;go_wp2;go_end0;subst hvn;obtain⟨r1,r2,r3,r4,r5⟩:=HL.out.fin (by decide) (by decide) 9 10 (.slice none 0 0) (.slice none 0 0);refine⟨rfl,vj,Ej,?_,?_,by omega,?_,r4,r5⟩
       ·rw[HCs.out] at r1;exact r1
       ·rw[hEj,hj4'] at r2;exact r2
       ·intro v hv;obtain⟨m,hm1,hm2,hm3⟩:=r3 v hv;refine⟨m,by omega,?_,hm3⟩;rw[He.out,HKe.out];exact hm2
end Go.Proofs.YtidaflmmldefcaaGreat
