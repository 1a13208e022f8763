/- Parts of the proof of Hosts: BokS, TenJ, RunY. -/
import Derived.Test.YtidaflmmldefcaaGreatQ10
import Derived.Test.YtidaflmmldefcaaGreatQ11
import Derived.Test.YtidaflmmldefcaaGreatQ09
set_option maxHeartbeats 16000000
namespace Go.Proofs.YtidaflmmldefcaaGreat
open Go.RowKit
set_option linter.unusedVariables false
theorem rowN_at {w:World} {base:Nat} {e:TypeId} {ao:Option Addr} {n cap size:Nat} {xs:List Value} (h:w.ownsRow base e size (.slice ao n cap) n xs) {k:Nat} (hk:k<n): ∃g,ao=some ⟨g,0,none⟩∧∀j v,xs[k*size+j]? =some v→w.cell? ⟨g,k*size+j,none⟩=some v:=by
 rcases h.2 with ⟨_,h0⟩|⟨g,cp,cur,hv,_⟩
 ·omega
 ·simp only[Value.slice.injEq] at hv;obtain⟨rfl,_,rfl⟩:=hv;refine⟨g,rfl,fun j v hx=>?_⟩;have h1:=World.ownsRow.cells h (g:=g) rfl _ v hx;rw[Addr.add_lit,Nat.zero_add] at h1;exact h1
theorem nd3:∀(l:List Tr.T.Nd) (k:Nat) (x:Tr.T.Nd),l[k]? =some x→∀j,j<3→(Tr.ndCells l)[k*3+j]? =[Value.int .u8 x.1,.int .u16 x.2.1,.string x.2.2][j]?
 |[],k,x,h=>by simp at h
 |y::r,0,x,h=>by
  intro j hj;simp at h;subst h;match j,hj with
  |0,_=>rfl
  |1,_=>rfl
  |2,_=>rfl
 |y::r,k+1,x,h=>by intro j hj;have ih:=nd3 r k x (by simpa using h) j hj;have e:Tr.ndCells (y::r)=[.int .u8 y.1,.int .u16 y.2.1,.string y.2.2]++Tr.ndCells r:=rfl;rw[e,List.getElem?_append_right (by simp;omega)];simp only[List.length_cons,List.length_nil];rw[show(k+1)*3+j-(0+1+1+1)=k*3+j by omega];exact ih
structure Kn (w:World) (tn t:TypeId) (size:Nat) (mk:Int→List Value) (v:Value) (E:List Value) (cv wv:Value) (n:Nat) (xs:List Value):Prop where
 row:w.ownsRow 0 tn 1 v E.length E
 marks:∀(i:Nat) (u:Value),E[i]? =some u→∃m,m≤200000∧MarkAt w t (mk (200+((i/4:Nat):Int)*4)) u m
 came:w.ownsRow 0 t size cv n xs
 was:w.ownsRow 0 t size wv n xs
def pos (u:Value):Prop:=∀ao c,u≠ .slice ao 0 c
theorem pos_of {ao:Option Addr} {m c:Nat} (h:m≠0):pos (.slice ao m c):=by intro a d e;simp at e;exact h e.2.1
def knAll (v:Value) (E:List Value) (cv wv:Value) (k:Nat):Prop:=v.ownBlock=some k∨(∃u∈E,pos u∧u.ownBlock=some k)∨cv.ownBlock=some k∨wv.ownBlock=some k
theorem Kn.keep {w w':World} {tn t:TypeId} {size:Nat} {mk:Int→List Value} {v:Value} {E:List Value} {cv wv:Value} {n:Nat} {xs:List Value} (h:Kn w tn t size mk v E cv wv n xs) (hk:∀k,k<w.heap.size→knAll v E cv wv k→w'.heap[k]? =w.heap[k]?):Kn w' tn t size mk v E cv wv n xs:=by
 refine⟨own_block h.row fun k q=>?_,fun i u hu=>?_,own_block h.came fun k q=>?_,own_block h.was fun k q=>?_⟩
 ·exact hk k (h.row.lt k q).2 (Or.inl q)
 ·obtain⟨m,hm,ao,cap,rfl,q⟩:=h.marks i u hu;by_cases h0:m=0
  ·exact⟨m,hm,ao,cap,rfl,Or.inl h0⟩
  ·obtain⟨g,cur,e,hb,hr⟩:=q.resolve_left h0;refine⟨m,hm,ao,cap,rfl,Or.inr ⟨g,cur,e,hb.of_block (hk g hb.lt (Or.inr (Or.inl ⟨_,List.mem_of_getElem? hu,pos_of h0,?_⟩))),hr⟩⟩;rw[e];rfl
 ·exact hk k (h.came.lt k q).2 (Or.inr (Or.inr (Or.inl q)))
 ·exact hk k (h.was.lt k q).2 (Or.inr (Or.inr (Or.inr q)))
theorem Kn.drewN {w:World} {tn t:TypeId} {size:Nat} {mk:Int→List Value} {v:Value} {E:List Value} {cv wv:Value} {n:Nat} {xs:List Value} (h:Kn w tn t size mk v E cv wv n xs) (q:Nat):Kn (w.drewN q) tn t size mk v E cv wv n xs:=h.keep fun _ _ _=>rfl
set_option maxRecDepth 100000 in
theorem still_any {B:Nat} {dv v1 v2 v3 cv1 wv1 cv2 wv2 cv3 wv3:Value} {E1 E2 E3:List Value} {l1:List Tr.T.Nd} {l2:List Ev} {l3:List En} {w:World}
 (hb:Blk w B #[dv,v1,v2,v3,.bool false,cv1,wv1,cv2,wv2,cv3,wv3] 34)
 (h1:Kn w 28 76 3 (fun k=>mkNd (IntKind.u16.wrap k)) v1 E1 cv1 wv1 l1.length (Tr.ndCells l1)) (h2:Kn w 29 78 4 (fun k=>mkEv (IntKind.u16.wrap k)) v2 E2 cv2 wv2 l2.length (evCells l2)) (h3:Kn w 30 80 4 (fun k=>mkEn (IntKind.i64.wrap k)) v3 E3 cv3 wv3 l3.length (enCells l3))
 (hl1:l1.length≤100000) (hl2:l2.length≤100000) (hl3:l3.length≤100000) (he1:E1.length≤100000000) (he2:E2.length≤100000000) (he3:E3.length≤100000000): Calls Tryz.prog 7 #[.pointer (some ⟨B,1,none⟩)] w fun e w'=>e= .returned (.bool true)∧∃q,w'=w.drewN q:=by
 obtain⟨o1,c1,rfl⟩:=own_is h1.row;obtain⟨o2,c2,rfl⟩:=own_is h2.row;obtain⟨o3,c3,rfl⟩:=own_is h3.row;obtain⟨p1,pc1,rfl⟩:=own_is h1.came;obtain⟨p2,pc2,rfl⟩:=own_is h2.came;obtain⟨p3,pc3,rfl⟩:=own_is h3.came;obtain⟨q1,qc1,rfl⟩:=own_is h1.was;obtain⟨q2,qc2,rfl⟩:=own_is h2.was;obtain⟨q3,qc3,rfl⟩:=own_is h3.was;obtain⟨n1,hn1⟩:∃n,n=l1.length:=⟨_,rfl⟩;obtain⟨n2,hn2⟩:∃n,n=l2.length:=⟨_,rfl⟩;obtain⟨n3,hn3⟩:∃n,n=l3.length:=⟨_,rfl⟩;obtain⟨m1,hm1⟩:∃n,n=E1.length:=⟨_,rfl⟩;obtain⟨m2,hm2⟩:∃n,n=E2.length:=⟨_,rfl⟩;obtain⟨m3,hm3⟩:∃n,n=E3.length:=⟨_,rfl⟩;have HL:Hid (l1.length=n1∧l2.length=n2∧l3.length=n3):=⟨hn1.symm,hn2.symm,hn3.symm⟩;have HE:Hid (E1.length=m1∧E2.length=m2∧E3.length=m3):=⟨hm1.symm,hm2.symm,hm3.symm⟩;obtain⟨x1s,hx1⟩:∃x,x=Tr.ndCells l1:=⟨_,rfl⟩;obtain⟨x2s,hx2⟩:∃x,x=evCells l2:=⟨_,rfl⟩;obtain⟨x3s,hx3⟩:∃x,x=enCells l3:=⟨_,rfl⟩;have H1:Hid (Kn w 28 76 3 (fun k=>mkNd (IntKind.u16.wrap k)) (.slice o1 m1 c1) E1 (.slice p1 n1 pc1) (.slice q1 n1 qc1) n1 x1s):=by rw[hn1,hm1,hx1];exact h1
 have H2:Hid (Kn w 29 78 4 (fun k=>mkEv (IntKind.u16.wrap k)) (.slice o2 m2 c2) E2 (.slice p2 n2 pc2) (.slice q2 n2 qc2) n2 x2s):=by rw[hn2,hm2,hx2];exact h2
 have H3:Hid (Kn w 30 80 4 (fun k=>mkEn (IntKind.i64.wrap k)) (.slice o3 m3 c3) E3 (.slice p3 n3 pc3) (.slice q3 n3 qc3) n3 x3s):=by rw[hn3,hm3,hx3];exact h3
 have HX:Hid (x1s=Tr.ndCells l1∧x2s=evCells l2∧x3s=enCells l3):=⟨hx1,hx2,hx3⟩;rw[←hn1,←hn2,←hn3,←hm1,←hm2,←hm3] at hb;rw[←hn1] at hl1;rw[←hn2] at hl2;rw[←hn3] at hl3;rw[←hm1] at he1;rw[←hm2] at he2;rw[←hm3] at he3;have b1:=hb.cell 1;have b2:=hb.cell 2;have b3:=hb.cell 3;have b4:=hb.cell 4;have b5:=hb.cell 5;have b6:=hb.cell 6;have b7:=hb.cell 7;have b8:=hb.cell 8;have b9:=hb.cell 9;have b10:=hb.cell 10;simp at b1 b2 b3 b4 b5 b6 b7 b8 b9 b10;clear hb h1 h2 h3 hn1 hn2 hn3 hm1 hm2 hm3 hx1 hx2 hx3;go_enter Tryz.func7,Tryz.ntmps7;go_wp2_with fail;go_loopw [3] (fun i wr=>∃(k q:Nat),k≤n1∧i= .int .i64 k∧wr=w.drewN q) (fun i _=>n1-(intOf i).toNat)
 case atStart=>exact⟨0,0,Nat.zero_le _,rfl,rfl⟩
 case round=>
  obtain⟨k,q,hk,rfl,rfl⟩:=hrel;by_cases hlt:k<n1
  ·obtain⟨x,hx⟩:∃x,l1[k]? =some x:=⟨l1[k]'(by have:=HL.out;omega),List.getElem?_eq_getElem (by have:=HL.out;omega)⟩;obtain⟨g1,rfl,r1⟩:=rowN_at H1.out.came hlt;obtain⟨g2,rfl,r2⟩:=rowN_at H1.out.was hlt;have ex:=nd3 l1 k x hx;rw[←HX.out.1] at ex;obtain⟨x0,x1,x2⟩:=x;have c0:w.cell? ⟨g1,k*3,none⟩=some (.int .u8 x0):=r1 0 _ (ex 0 (by decide));have c1:w.cell? ⟨g1,k*3+1,none⟩=some (.int .u16 x1):=r1 1 _ (ex 1 (by decide));have c2:w.cell? ⟨g1,k*3+2,none⟩=some (.string x2):=r1 2 _ (ex 2 (by decide));have d0:w.cell? ⟨g2,k*3,none⟩=some (.int .u8 x0):=r2 0 _ (ex 0 (by decide));have d1:w.cell? ⟨g2,k*3+1,none⟩=some (.int .u16 x1):=r2 1 _ (ex 1 (by decide));have d2:w.cell? ⟨g2,k*3+2,none⟩=some (.string x2):=r2 2 _ (ex 2 (by decide));have hi:(k:Int)<(n1:Int):=by omega
   have h0:(0:Int)≤(k:Int):=by omega
   clear hx r1 r2 ex;go_wp2_with fail;go_quiet (fail);go_wp2;go_roundw
   case rel=>exact⟨k+1,_,by omega,by go_num,by first|rfl|simp⟩
   case measure=>simp[intOf];omega
  ·have hki:¬(k:Int)<(n1:Int):=by omega
   clear hlt hk;go_wp2_with fail;go_loopw [4] (fun i wr=>∃(k q:Nat),k≤n2∧i= .int .i64 k∧wr=w.drewN q) (fun i _=>n2-(intOf i).toNat)
   case atStart=>exact⟨0,q,Nat.zero_le _,rfl,rfl⟩
   case round=>
    obtain⟨k,q,hk,rfl,rfl⟩:=hrel;by_cases hlt:k<n2
    ·obtain⟨x,hx⟩:∃x,l2[k]? =some x:=⟨l2[k]'(by have:=HL.out;omega),List.getElem?_eq_getElem (by have:=HL.out;omega)⟩;obtain⟨g1,rfl,r1⟩:=rowN_at H2.out.came hlt;obtain⟨g2,rfl,r2⟩:=rowN_at H2.out.was hlt;have ex:=evCells_at l2 k x hx;rw[←HX.out.2.1] at ex;obtain⟨x0,x1,x2,x3⟩:=x;have c0:w.cell? ⟨g1,k*4,none⟩=some (.int .u8 x0):=r1 0 _ (ex 0 (by decide));have c1:w.cell? ⟨g1,k*4+1,none⟩=some (.int .u8 x1):=r1 1 _ (ex 1 (by decide));have c2:w.cell? ⟨g1,k*4+2,none⟩=some (.int .u16 x2):=r1 2 _ (ex 2 (by decide));have c3:w.cell? ⟨g1,k*4+3,none⟩=some (.int .u8 x3):=r1 3 _ (ex 3 (by decide));have d0:w.cell? ⟨g2,k*4,none⟩=some (.int .u8 x0):=r2 0 _ (ex 0 (by decide));have d1:w.cell? ⟨g2,k*4+1,none⟩=some (.int .u8 x1):=r2 1 _ (ex 1 (by decide));have d2:w.cell? ⟨g2,k*4+2,none⟩=some (.int .u16 x2):=r2 2 _ (ex 2 (by decide));have d3:w.cell? ⟨g2,k*4+3,none⟩=some (.int .u8 x3):=r2 3 _ (ex 3 (by decide));have hi:(k:Int)<(n2:Int):=by omega
     have h0:(0:Int)≤(k:Int):=by omega
     clear hx r1 r2 ex;go_wp2_with fail;go_quiet (fail);go_wp2;go_roundw
     case rel=>exact⟨k+1,_,by omega,by go_num,by first|rfl|simp⟩
     case measure=>simp[intOf];omega
    ·have hki:¬(k:Int)<(n2:Int):=by omega
     clear hlt hk;go_wp2_with fail;go_loopw [5] (fun i wr=>∃(k q:Nat),k≤n3∧i= .int .i64 k∧wr=w.drewN q) (fun i _=>n3-(intOf i).toNat)
     case atStart=>exact⟨0,q,Nat.zero_le _,rfl,rfl⟩
     case round=>
      obtain⟨k,q,hk,rfl,rfl⟩:=hrel;by_cases hlt:k<n3
      ·obtain⟨x,hx⟩:∃x,l3[k]? =some x:=⟨l3[k]'(by have:=HL.out;omega),List.getElem?_eq_getElem (by have:=HL.out;omega)⟩;obtain⟨g1,rfl,r1⟩:=rowN_at H3.out.came hlt;obtain⟨g2,rfl,r2⟩:=rowN_at H3.out.was hlt;have ex:=enCells_at l3 k x hx;rw[←HX.out.2.2] at ex;obtain⟨x0,x1,x2,x3⟩:=x;have c0:w.cell? ⟨g1,k*4,none⟩=some (.int .i64 x0):=r1 0 _ (ex 0 (by decide));have c1:w.cell? ⟨g1,k*4+1,none⟩=some (.int .u8 x1):=r1 1 _ (ex 1 (by decide));have c2:w.cell? ⟨g1,k*4+2,none⟩=some (.int .u16 x2):=r1 2 _ (ex 2 (by decide));have c3:w.cell? ⟨g1,k*4+3,none⟩=some (.int .u16 x3):=r1 3 _ (ex 3 (by decide));have d0:w.cell? ⟨g2,k*4,none⟩=some (.int .i64 x0):=r2 0 _ (ex 0 (by decide));have d1:w.cell? ⟨g2,k*4+1,none⟩=some (.int .u8 x1):=r2 1 _ (ex 1 (by decide));have d2:w.cell? ⟨g2,k*4+2,none⟩=some (.int .u16 x2):=r2 2 _ (ex 2 (by decide));have d3:w.cell? ⟨g2,k*4+3,none⟩=some (.int .u16 x3):=r2 3 _ (ex 3 (by decide));have hi:(k:Int)<(n3:Int):=by omega
       have h0:(0:Int)≤(k:Int):=by omega
       clear hx r1 r2 ex;go_wp2_with fail;go_quiet (fail);go_wp2;go_roundw
       case rel=>exact⟨k+1,_,by omega,by go_num,by first|rfl|simp⟩
       case measure=>simp[intOf];omega
      ·have hki:¬(k:Int)<(n3:Int):=by omega
       clear hlt hk;go_wp2_with fail;obtain⟨w0,hw0⟩:∃w0,w0=w.drewN q:=⟨_,rfl⟩;have HW0:Hid (∃q,w0=w.drewN q):=⟨q,hw0⟩;obtain⟨e1,e2,e3⟩:w0.cell? ⟨B,1,none⟩=some (.slice o1 m1 c1)∧w0.cell? ⟨B,2,none⟩=some (.slice o2 m2 c2)∧w0.cell? ⟨B,3,none⟩=some (.slice o3 m3 c3):=by rw[hw0];exact⟨b1,b2,b3⟩
       have G1:Hid (Kn w0 28 76 3 (fun k=>mkNd (IntKind.u16.wrap k)) (.slice o1 m1 c1) E1 (.slice p1 n1 pc1) (.slice q1 n1 qc1) n1 x1s∧E1.length=m1):=⟨(by rw[hw0];exact H1.out.drewN q),HE.out.1⟩;have G2:Hid (Kn w0 29 78 4 (fun k=>mkEv (IntKind.u16.wrap k)) (.slice o2 m2 c2) E2 (.slice p2 n2 pc2) (.slice q2 n2 qc2) n2 x2s∧E2.length=m2):=⟨(by rw[hw0];exact H2.out.drewN q),HE.out.2.1⟩;have G3:Hid (Kn w0 30 80 4 (fun k=>mkEn (IntKind.i64.wrap k)) (.slice o3 m3 c3) E3 (.slice p3 n3 pc3) (.slice q3 n3 qc3) n3 x3s∧E3.length=m3):=⟨(by rw[hw0];exact H3.out.drewN q),HE.out.2.2⟩;rw[←hw0];clear hw0 hki H1 H2 H3 b1 b2 b3 b4 b5 b6 b7 b8 b9 b10;go_loopw [6] (fun i wr=>∃k:Nat,k≤m1∧i= .int .i64 k∧wr=w0) (fun i _=>m1-(intOf i).toNat)
       case atStart=>exact⟨0,Nat.zero_le _,rfl,rfl⟩
       case round=>
        obtain⟨k,hk,rfl,rfl⟩:=hrel;obtain⟨w0,hw0⟩:∃w0,w0=wr:=⟨_,rfl⟩;subst hw0;by_cases hlt:k<m1
        ·obtain⟨v,hv⟩:∃v,E1[k]? =some v:=⟨E1[k]'(by have:=G1.out.2;omega),List.getElem?_eq_getElem (by have:=G1.out.2;omega)⟩;obtain⟨gn,rfl,cn⟩:=row_cell (by have q:=G1.out.1.row;rw[G1.out.2] at q;exact q) hv;obtain⟨m,hm4,ao,cap,rfl,hmk⟩:=G1.out.1.marks k v hv;obtain⟨KW,hKW⟩:∃KW,KW=IntKind.u16.wrap (200+((k/4:Nat):Int)*4):=⟨_,rfl⟩;have HMk:Hid (m=0∨∃g cur,ao=some ⟨g,0,none⟩∧Blk w0 g cur 76∧cur.toList.take (m*(mkNd KW).length)=rep m (mkNd KW)):=by rw[hKW];exact hmk
         have hki:(k:Int)<(m1:Int):=by omega
         have hk0:(0:Int)≤(k:Int):=by omega
         clear hv hmk;go_wp2_with fail;go_loopw [7] (fun i wr=>∃p:Nat,p≤m∧i= .int .i64 p∧wr=w0) (fun i _=>m-(intOf i).toNat)
         case atStart=>exact⟨0,Nat.zero_le _,rfl,rfl⟩
         case round=>
          obtain⟨p,hp,rfl,rfl⟩:=hrel;by_cases hpm:p<m
          ·obtain⟨g,cur,rfl,hb,hr⟩:∃g cur,ao=some ⟨g,0,none⟩∧Blk wr g cur 76∧cur.toList.take (m*(mkNd KW).length)=rep m (mkNd KW):=HMk.out.resolve_left (by omega);have c0:=mark_cell (k:=p) (i:=0) hb hr hpm (by simp[mkNd]);have c1:=mark_cell (k:=p) (i:=1) hb hr hpm (by simp[mkNd]);have c2:=mark_cell (k:=p) (i:=2) hb hr hpm (by simp[mkNd]);simp[mkNd] at c0 c1 c2;have hpi:(p:Int)<(m:Int):=by omega
           have hp0:(0:Int)≤(p:Int):=by omega
           have hd:(k:Int).tdiv 4=((k/4:Nat):Int):=by rw[Int.tdiv_eq_ediv_of_nonneg (by omega)];omega
           obtain⟨K4,hK4⟩:∃K4:Int,K4=((k/4:Nat):Int):=⟨_,rfl⟩;have hK0:0≤K4:=by omega
           have hK1:K4≤25000000:=by omega
           rw[←hK4] at hd hKW;have hw1:IntKind.i64.wrap K4=K4:=by rw[IntKind.wrap_i64];omega
           have hw16:IntKind.u16.wrap (200+K4*4)=KW:=hKW.symm;clear hb hr HMk hK4 hKW;go_wp2;go_roundw
           case rel=>exact⟨p+1,by omega,by go_num,by first|rfl|trivial⟩
           case measure=>simp[intOf];omega
          ·have hpn:¬(p:Int)<(m:Int):=by omega
           clear HMk hKW;go_wp2;go_roundw
           case rel=>exact⟨k+1,by omega,by go_num,by first|rfl|trivial⟩
           case measure=>simp[intOf];omega
        ·have hkn:¬(k:Int)<(m1:Int):=by omega
         go_wp2_with fail;go_loopw [8] (fun i wr=>∃k:Nat,k≤m2∧i= .int .i64 k∧wr=w0) (fun i _=>m2-(intOf i).toNat)
         case atStart=>exact⟨0,Nat.zero_le _,rfl,rfl⟩
         case round=>
          obtain⟨k,hk,rfl,rfl⟩:=hrel;obtain⟨w0,hw0⟩:∃w0,w0=wr:=⟨_,rfl⟩;subst hw0;by_cases hlt:k<m2
          ·obtain⟨v,hv⟩:∃v,E2[k]? =some v:=⟨E2[k]'(by have:=G2.out.2;omega),List.getElem?_eq_getElem (by have:=G2.out.2;omega)⟩;obtain⟨gn,rfl,cn⟩:=row_cell (by have q:=G2.out.1.row;rw[G2.out.2] at q;exact q) hv;obtain⟨m,hm4,ao,cap,rfl,hmk⟩:=G2.out.1.marks k v hv;obtain⟨KW,hKW⟩:∃KW,KW=IntKind.u16.wrap (200+((k/4:Nat):Int)*4):=⟨_,rfl⟩;have HMk:Hid (m=0∨∃g cur,ao=some ⟨g,0,none⟩∧Blk w0 g cur 78∧cur.toList.take (m*(mkEv KW).length)=rep m (mkEv KW)):=by rw[hKW];exact hmk
           have hki:(k:Int)<(m2:Int):=by omega
           have hk0:(0:Int)≤(k:Int):=by omega
           clear hv hmk;go_wp2_with fail;go_loopw [9] (fun i wr=>∃p:Nat,p≤m∧i= .int .i64 p∧wr=w0) (fun i _=>m-(intOf i).toNat)
           case atStart=>exact⟨0,Nat.zero_le _,rfl,rfl⟩
           case round=>
            obtain⟨p,hp,rfl,rfl⟩:=hrel;by_cases hpm:p<m
            ·obtain⟨g,cur,rfl,hb,hr⟩:∃g cur,ao=some ⟨g,0,none⟩∧Blk wr g cur 78∧cur.toList.take (m*(mkEv KW).length)=rep m (mkEv KW):=HMk.out.resolve_left (by omega);have c0:=mark_cell (k:=p) (i:=0) hb hr hpm (by simp[mkEv]);have c1:=mark_cell (k:=p) (i:=1) hb hr hpm (by simp[mkEv]);have c2:=mark_cell (k:=p) (i:=2) hb hr hpm (by simp[mkEv]);have c3:=mark_cell (k:=p) (i:=3) hb hr hpm (by simp[mkEv]);simp[mkEv] at c0 c1 c2 c3;have hpi:(p:Int)<(m:Int):=by omega
             have hp0:(0:Int)≤(p:Int):=by omega
             have hd:(k:Int).tdiv 4=((k/4:Nat):Int):=by rw[Int.tdiv_eq_ediv_of_nonneg (by omega)];omega
             obtain⟨K4,hK4⟩:∃K4:Int,K4=((k/4:Nat):Int):=⟨_,rfl⟩;have hK0:0≤K4:=by omega
             have hK1:K4≤25000000:=by omega
             rw[←hK4] at hd hKW;have hw1:IntKind.i64.wrap K4=K4:=by rw[IntKind.wrap_i64];omega
             have hw16:IntKind.u16.wrap (200+K4*4)=KW:=hKW.symm;clear hb hr HMk hK4 hKW;go_wp2;go_roundw
             case rel=>exact⟨p+1,by omega,by go_num,by first|rfl|trivial⟩
             case measure=>simp[intOf];omega
            ·have hpn:¬(p:Int)<(m:Int):=by omega
             clear HMk hKW;go_wp2;go_roundw
             case rel=>exact⟨k+1,by omega,by go_num,by first|rfl|trivial⟩
             case measure=>simp[intOf];omega
          ·have hkn:¬(k:Int)<(m2:Int):=by omega
           go_wp2_with fail;go_loopw [10] (fun i wr=>∃k:Nat,k≤m3∧i= .int .i64 k∧wr=w0) (fun i _=>m3-(intOf i).toNat)
           case atStart=>exact⟨0,Nat.zero_le _,rfl,rfl⟩
           case round=>
            obtain⟨k,hk,rfl,rfl⟩:=hrel;obtain⟨w0,hw0⟩:∃w0,w0=wr:=⟨_,rfl⟩;subst hw0;by_cases hlt:k<m3
            ·obtain⟨v,hv⟩:∃v,E3[k]? =some v:=⟨E3[k]'(by have:=G3.out.2;omega),List.getElem?_eq_getElem (by have:=G3.out.2;omega)⟩;obtain⟨gn,rfl,cn⟩:=row_cell (by have q:=G3.out.1.row;rw[G3.out.2] at q;exact q) hv;obtain⟨m,hm4,ao,cap,rfl,hmk⟩:=G3.out.1.marks k v hv;obtain⟨KW,hKW⟩:∃KW,KW=IntKind.i64.wrap (200+((k/4:Nat):Int)*4):=⟨_,rfl⟩;have HMk:Hid (m=0∨∃g cur,ao=some ⟨g,0,none⟩∧Blk w0 g cur 80∧cur.toList.take (m*(mkEn KW).length)=rep m (mkEn KW)):=by rw[hKW];exact hmk
             have hki:(k:Int)<(m3:Int):=by omega
             have hk0:(0:Int)≤(k:Int):=by omega
             clear hv hmk;go_wp2_with fail;go_loopw [11] (fun i wr=>∃p:Nat,p≤m∧i= .int .i64 p∧wr=w0) (fun i _=>m-(intOf i).toNat)
             case atStart=>exact⟨0,Nat.zero_le _,rfl,rfl⟩
             case round=>
              obtain⟨p,hp,rfl,rfl⟩:=hrel;by_cases hpm:p<m
              ·obtain⟨g,cur,rfl,hb,hr⟩:∃g cur,ao=some ⟨g,0,none⟩∧Blk wr g cur 80∧cur.toList.take (m*(mkEn KW).length)=rep m (mkEn KW):=HMk.out.resolve_left (by omega);have c0:=mark_cell (k:=p) (i:=0) hb hr hpm (by simp[mkEn]);have c1:=mark_cell (k:=p) (i:=1) hb hr hpm (by simp[mkEn]);have c2:=mark_cell (k:=p) (i:=2) hb hr hpm (by simp[mkEn]);have c3:=mark_cell (k:=p) (i:=3) hb hr hpm (by simp[mkEn]);simp[mkEn] at c0 c1 c2 c3;have hpi:(p:Int)<(m:Int):=by omega
               have hp0:(0:Int)≤(p:Int):=by omega
               have hd:(k:Int).tdiv 4=((k/4:Nat):Int):=by rw[Int.tdiv_eq_ediv_of_nonneg (by omega)];omega
               obtain⟨K4,hK4⟩:∃K4:Int,K4=((k/4:Nat):Int):=⟨_,rfl⟩;have hK0:0≤K4:=by omega
               have hK1:K4≤25000000:=by omega
               rw[←hK4] at hd hKW;have hw1:IntKind.i64.wrap K4=K4:=by rw[IntKind.wrap_i64];omega
               have hw16:200+K4*4=KW:=by rw[hKW,IntKind.wrap_i64];omega
               clear hb hr HMk hK4 hKW;go_wp2;go_roundw
               case rel=>exact⟨p+1,by omega,by go_num,by first|rfl|trivial⟩
               case measure=>simp[intOf];omega
              ·have hpn:¬(p:Int)<(m:Int):=by omega
               clear HMk hKW;go_wp2;go_roundw
               case rel=>exact⟨k+1,by omega,by go_num,by first|rfl|trivial⟩
               case measure=>simp[intOf];omega
            ·have hkn:¬(k:Int)<(m3:Int):=by omega
             go_wp2;go_ret;exact⟨rfl,HW0.out⟩
theorem infoSent:(Tryz.prog.info? 108).map (fun i=>(i.zero,i.size,i.bytes))=some (some (.agg #[.int .u8 0,.int .u16 0]),2,4):=by kernel_rfl
theorem TenAt.grown {w w':World} {tb o:Nat} {x:Tn} {nv bv lv:Value} (h:TenAt w tb o x nv bv lv) {base:Nat} {t:TypeId} {size:Nat} {v:Value} {n:Nat} {xs:List Value} (ho:w.ownsRow base t size v n xs) (hg:w.grownBy w' v.ownBlock) (h1:t≠88) (h2:t≠76) (h3:t≠78) (h4:t≠80):TenAt w' tb o x nv bv lv:=by
 have hk:∀{u:TypeId} {b:Nat} {cs:Array Value},Blk w b cs u→u≠t→w'.heap[b]? =w.heap[b]? :=fun hb hu=>hg.block _ hb.lt (fun e=>hb.ne_own ho hu e);refine⟨?_,own_block h.nodes fun k hk'=>?_,h.box.keep fun k hk'=>?_,own_block h.log fun k hk'=>?_⟩
 ·obtain⟨cur,hb,r⟩:=h.slot;exact⟨cur,hb.of_block (hk hb (fun e=>h1 e.symm)),r⟩
 ·obtain⟨c2,hb2⟩:=own_blk h.nodes hk';exact hk hb2 (fun e=>h2 e.symm)
 ·obtain⟨c2,hb2⟩:=h.box.blk hk';exact hk hb2 (fun e=>h3 e.symm)
 ·obtain⟨c2,hb2⟩:=own_blk h.log hk';exact hk hb2 (fun e=>h4 e.symm)
set_option maxRecDepth 100000 in
theorem finish_any {w:World} {tb o:Nat} {x:Tn} {nv bv lv:Value} (h:TenAt w tb o x nv bv lv) (n:Int) (ev:Ev) (f s d k0 k1 k2 k3 k4 k5 k6 k7:Int) (shows:List (Int×ByteArray)) (sends:List (Int×Int)) (sv dv:Value) (b1:Nat)
 (hsv:w.ownsRow b1 132 2 sv shows.length (showCells shows)) (hdv:w.ownsRow b1 108 2 dv sends.length (sendCells sends)) (hsl:shows.length≤100) (hdl:sends.length≤100) (hsk:Tr.shOk shows) (hdk:∀y∈sends,0≤y.1∧y.1≤255) (hko:Tr.ndOk x.nodes) (hll:x.log.length≤90000) (hp0:0≤x.pub) (hp1:x.pub≤255) (he0:0≤ev.what) (he1:ev.what≤255): Calls Tryz.prog 68 #[.pointer (some ⟨tb,o,none⟩),.int .i64 n,.agg #[.int .u8 ev.what,.int .u8 ev.by_,.int .u16 ev.arg,.int .u8 ev.src],.agg #[.int .u8 f,.int .i64 s,.int .i64 d,.int .u16 k0,.int .u16 k1,.int .u16 k2,.int .u16 k3,.int .u16 k4,.int .u16 k5,.int .u16 k6,.int .u16 k7,sv,dv]] w fun e w'=>∃gv,e= .returned gv∧TAft w tb o bv lv (x.finish n ev [k0,k1,k2,k3,k4,k5,k6,k7] shows sends) w'∧w'.ownsRow w.heap.size 108 2 gv (sends.filter (goes x.pub)).length (sendCells (sends.filter (goes x.pub))):=by
 obtain⟨i0,hi,hz0,hz1,hz2⟩:=info_parts infoSent;obtain⟨so,sc,rfl⟩:=own_is hsv;obtain⟨dO,dc,rfl⟩:=own_is hdv;have HT:Hid (TenAt w tb o x nv bv lv):=h;have htb:=h.slot.lt;have hne:¬tb=w.heap.size:=by omega
 have hne1:¬tb=w.heap.size+1:=by omega
 have c8:=h.slot.cell 8 rfl;have c9:=h.slot.cell 9 rfl;have c10:=h.slot.cell 10 rfl;have c11:=h.slot.cell 11 rfl;have c12:=h.slot.cell 12 rfl;have c13:=h.slot.cell 13 rfl;have c14:=h.slot.cell 14 rfl;have c15:=h.slot.cell 15 rfl;have fz:∀i,w.frozen? ⟨tb,i,none⟩=false:=fun i=>h.slot.free i;obtain⟨W2,hW2⟩:∃W2,W2=((((((((((w.setCell ⟨tb,o+8,none⟩ (.int .u16 k0)).setCell ⟨tb,o+8+1,none⟩ (.int .u16 k1)).setCell ⟨tb,o+8+2,none⟩ (.int .u16 k2)).setCell ⟨tb,o+8+3,none⟩ (.int .u16 k3)).setCell ⟨tb,o+8+4,none⟩ (.int .u16 k4)).setCell ⟨tb,o+8+5,none⟩ (.int .u16 k5)).setCell ⟨tb,o+8+6,none⟩ (.int .u16 k6)).setCell ⟨tb,o+8+7,none⟩ (.int .u16 k7)).alloc (.cells #[.int .u8 ev.what,.int .u8 ev.by_,.int .u16 ev.arg,.int .u8 ev.src] 78)).alloc (.cells #[.int .u8 f,.int .i64 s,.int .i64 d,.int .u16 k0,.int .u16 k1,.int .u16 k2,.int .u16 k3,.int .u16 k4,.int .u16 k5,.int .u16 k6,.int .u16 k7,.slice so shows.length sc,.slice dO sends.length dc] 124)):=⟨_,rfl⟩;have HT2:Hid (TenAt W2 tb o {x with cells:=[k0,k1,k2,k3,k4,k5,k6,k7]} nv bv lv):=by unfold Hid;rw[hW2];exact((h.set_cells k0 k1 k2 k3 k4 k5 k6 k7).alloc _).alloc _
 have HF2:Hid (TFr w W2 tb o bv lv):=by unfold Hid;rw[hW2];exact(((TFr.refl w tb o bv lv).set_cells k0 k1 k2 k3 k4 k5 k6 k7).alloc (by simpa using htb) _).alloc (by simp;omega) _
 have hsz2:W2.heap.size=w.heap.size+2:=by rw[hW2];simp
 have HS2:Hid (W2.ownsRow b1 132 2 (.slice so shows.length sc) shows.length (showCells shows)∧W2.ownsRow b1 108 2 (.slice dO sends.length dc) sends.length (sendCells sends)):=⟨HF2.out.own h hsv (by decide) (by decide) (by decide),HF2.out.own h hdv (by decide) (by decide) (by decide)⟩;have HE2:Hid (Blk W2 w.heap.size #[.int .u8 ev.what,.int .u8 ev.by_,.int .u16 ev.arg,.int .u8 ev.src] 78):=by unfold Hid;rw[hW2];have q:=Blk.new ((((((((w.setCell ⟨tb,o+8,none⟩ (.int .u16 k0)).setCell ⟨tb,o+8+1,none⟩ (.int .u16 k1)).setCell ⟨tb,o+8+2,none⟩ (.int .u16 k2)).setCell ⟨tb,o+8+3,none⟩ (.int .u16 k3)).setCell ⟨tb,o+8+4,none⟩ (.int .u16 k4)).setCell ⟨tb,o+8+5,none⟩ (.int .u16 k5)).setCell ⟨tb,o+8+6,none⟩ (.int .u16 k6)).setCell ⟨tb,o+8+7,none⟩ (.int .u16 k7)) #[.int .u8 ev.what,.int .u8 ev.by_,.int .u16 ev.arg,.int .u8 ev.src] 78;rw[show((((((((w.setCell ⟨tb,o+8,none⟩ (.int .u16 k0)).setCell ⟨tb,o+8+1,none⟩ (.int .u16 k1)).setCell ⟨tb,o+8+2,none⟩ (.int .u16 k2)).setCell ⟨tb,o+8+3,none⟩ (.int .u16 k3)).setCell ⟨tb,o+8+4,none⟩ (.int .u16 k4)).setCell ⟨tb,o+8+5,none⟩ (.int .u16 k5)).setCell ⟨tb,o+8+6,none⟩ (.int .u16 k6)).setCell ⟨tb,o+8+7,none⟩ (.int .u16 k7)).heap.size=w.heap.size by simp[World.setCell]] at q;exact q.alloc _
 have HO2:Hid (Blk W2 (w.heap.size+1) #[.int .u8 f,.int .i64 s,.int .i64 d,.int .u16 k0,.int .u16 k1,.int .u16 k2,.int .u16 k3,.int .u16 k4,.int .u16 k5,.int .u16 k6,.int .u16 k7,.slice so shows.length sc,.slice dO sends.length dc] 124):=by unfold Hid;rw[hW2];have q:=Blk.new (((((((((w.setCell ⟨tb,o+8,none⟩ (.int .u16 k0)).setCell ⟨tb,o+8+1,none⟩ (.int .u16 k1)).setCell ⟨tb,o+8+2,none⟩ (.int .u16 k2)).setCell ⟨tb,o+8+3,none⟩ (.int .u16 k3)).setCell ⟨tb,o+8+4,none⟩ (.int .u16 k4)).setCell ⟨tb,o+8+5,none⟩ (.int .u16 k5)).setCell ⟨tb,o+8+6,none⟩ (.int .u16 k6)).setCell ⟨tb,o+8+7,none⟩ (.int .u16 k7)).alloc (.cells #[.int .u8 ev.what,.int .u8 ev.by_,.int .u16 ev.arg,.int .u8 ev.src] 78)) #[.int .u8 f,.int .i64 s,.int .i64 d,.int .u16 k0,.int .u16 k1,.int .u16 k2,.int .u16 k3,.int .u16 k4,.int .u16 k5,.int .u16 k6,.int .u16 k7,.slice so shows.length sc,.slice dO sends.length dc] 124;rw[show(((((((((w.setCell ⟨tb,o+8,none⟩ (.int .u16 k0)).setCell ⟨tb,o+8+1,none⟩ (.int .u16 k1)).setCell ⟨tb,o+8+2,none⟩ (.int .u16 k2)).setCell ⟨tb,o+8+3,none⟩ (.int .u16 k3)).setCell ⟨tb,o+8+4,none⟩ (.int .u16 k4)).setCell ⟨tb,o+8+5,none⟩ (.int .u16 k5)).setCell ⟨tb,o+8+6,none⟩ (.int .u16 k6)).setCell ⟨tb,o+8+7,none⟩ (.int .u16 k7)).alloc (.cells #[.int .u8 ev.what,.int .u8 ev.by_,.int .u16 ev.arg,.int .u8 ev.src] 78)).heap.size=w.heap.size+1 by simp[World.setCell]] at q;exact q
 have HBx:Hid (∀k,bv.ownBlock=some k→k<w.heap.size):=fun k hk=>by obtain⟨cur,q⟩:=h.box.blk hk;exact q.lt
 have HKo:Hid (Tr.ndOk x.nodes):=hko;have HSk:Hid (Tr.shOk shows):=hsk;have HDk:Hid (∀y∈sends,0≤y.1∧y.1≤255):=hdk;have HDl:Hid (∀k,Value.ownBlock (.slice dO sends.length dc)=some k→k<w.heap.size):=fun k hk=>(hdv.lt k hk).2;have hwe:IntKind.u16.wrap ev.what=ev.what:=by rw[IntKind.wrap_u16];omega
 have hp0':=hp0;clear h hsv hdv hko hsk hdk;go_enter Tryz.func68,Tryz.ntmps68;go_upto_region 2 with fail
 rw[←hW2];clear hW2 c8 c9 c10 c11 c12 c13 c14 c15 fz;have o11:W2.cell? ⟨w.heap.size+1,11,none⟩=some (.slice so shows.length sc):=by rw[HO2.out.cell 11];rfl
 go_wp2_with fail;refine(tshow_any HT2.out so sc shows (by unfold maxLen;omega) (own_shAt HS2.out.1) HSk.out HKo.out).mono ?_;rintro e W3 ⟨rfl,nv3,bv3,lv3,ht3,hf3,hm3,hm4⟩;have HT3:Hid (TenAt W3 tb o (({x with cells:=[k0,k1,k2,k3,k4,k5,k6,k7]}:Tn).show shows) nv3 bv3 lv3):=ht3;have HF3:Hid (TFr w W3 tb o bv lv):=HF2.out.trans hf3 (Moved.refl _ _) (Moved.refl _ _);have HM3:Hid (Moved w bv bv3∧Moved w lv lv3):=⟨(Moved.refl w bv).trans hm3 HF2.out.kept.size,(Moved.refl w lv).trans hm4 HF2.out.kept.size⟩;have HS3:Hid (W3.ownsRow b1 108 2 (.slice dO sends.length dc) sends.length (sendCells sends)):=hf3.own HT2.out HS2.out.2 (by decide) (by decide) (by decide);have HO3:Hid (Blk W3 (w.heap.size+1) #[.int .u8 f,.int .i64 s,.int .i64 d,.int .u16 k0,.int .u16 k1,.int .u16 k2,.int .u16 k3,.int .u16 k4,.int .u16 k5,.int .u16 k6,.int .u16 k7,.slice so shows.length sc,.slice dO sends.length dc] 124):=hf3.blk HT2.out HO2.out (by decide) (by decide) (by decide);have HE3:Hid (Blk W3 w.heap.size #[.int .u8 ev.what,.int .u8 ev.by_,.int .u16 ev.arg,.int .u8 ev.src] 78):=by
  refine HE2.out.of_block (hf3.kept.block _ HE2.out.lt ?_);obtain⟨c1,q1,_⟩:=HT2.out.slot;intro q;rcases q with q|q|q
  ·exact HE2.out.ne q1 (by decide) q
  ·have:=HBx.out _ q.symm;omega
  ·exact HE2.out.ne_own HT2.out.log (by decide) q
 have e0:W3.cell? ⟨w.heap.size,0,none⟩=some (.int .u8 ev.what):=by rw[HE3.out.cell 0];rfl
 have e2:W3.cell? ⟨w.heap.size,2,none⟩=some (.int .u16 ev.arg):=by rw[HE3.out.cell 2];rfl
 clear ht3 hf3 hm3 hm4 HT2 HF2 HS2 HO2 HE2 o11;go_wp2_with fail;refine(note_any HT3.out n 0 ev.what ev.arg (by show x.log.length≤100000;omega)).mono ?_;rintro e W4 ⟨rfl,nv4,bv4,lv4,ht4,hf4,hm5,hm6⟩;obtain⟨y,hy⟩:∃y,y=(({x with cells:=[k0,k1,k2,k3,k4,k5,k6,k7]}:Tn).show shows).note n 0 ev.what ev.arg:=⟨_,rfl⟩;have HFin:Hid (x.finish n ev [k0,k1,k2,k3,k4,k5,k6,k7] shows sends=y.sift n sends):=by unfold Hid Tn.finish;rw[hy]
 have HYp:Hid (y.pub=x.pub):=by unfold Hid;rw[hy];rfl
 have HYl:Hid (y.log.length≤90001):=by unfold Hid;rw[hy];simp[Tn.note,Tn.show];omega
 have HT4:Hid (TenAt W4 tb o y nv4 bv4 lv4):=by unfold Hid;rw[hy];exact ht4
 have HF4:Hid (TFr w W4 tb o bv lv):=HF3.out.trans hf4 HM3.out.1 HM3.out.2;have HM4:Hid (Moved w bv bv4∧Moved w lv lv4):=⟨HM3.out.1.trans hm5 HF3.out.kept.size,HM3.out.2.trans hm6 HF3.out.kept.size⟩;have HS4:Hid (W4.ownsRow b1 108 2 (.slice dO sends.length dc) sends.length (sendCells sends)):=hf4.own HT3.out HS3.out (by decide) (by decide) (by decide);have HO4:Hid (Blk W4 (w.heap.size+1) #[.int .u8 f,.int .i64 s,.int .i64 d,.int .u16 k0,.int .u16 k1,.int .u16 k2,.int .u16 k3,.int .u16 k4,.int .u16 k5,.int .u16 k6,.int .u16 k7,.slice so shows.length sc,.slice dO sends.length dc] 124):=hf4.blk HT3.out HO3.out (by decide) (by decide) (by decide);have o12:W4.cell? ⟨w.heap.size+1,12,none⟩=some (.slice dO sends.length dc):=by rw[HO4.out.cell 12];rfl
 clear ht4 hf4 hm5 hm6 HT3 HF3 HM3 HS3 HO3 HE3 e0 e2 hy;obtain⟨N,hN⟩:∃N,N=sends.length:=⟨_,rfl⟩;have HN:Hid (sends.length=N):=hN.symm;rw[←hN] at HS4 o12 hdl HDl;clear hN HO4;go_wp2_with fail;go_loopw [9,32] (fun g i wr=>∃(k m gc:Nat) (go:Option Addr) (nv' bv' lv':Value),k≤N∧m≤k∧i= .int .i64 k∧g= .slice go m gc∧Hid (((sends.take k).filter (goes x.pub)).length=m)∧Hid (TenAt wr tb o (y.sift n (sends.take k)) nv' bv' lv')∧Hid (TFr w wr tb o bv lv)∧Hid (Moved w bv bv'∧Moved w lv lv')∧Hid (wr.ownsRow b1 108 2 (.slice dO N dc) N (sendCells sends))∧Hid (wr.ownsRow w.heap.size 108 2 (.slice go m gc) m (sendCells ((sends.take k).filter (goes x.pub)))))
  (fun _ i _=>N-(intOf i).toNat)
 case atStart=>exact⟨0,0,0,none,nv4,bv4,lv4,Nat.zero_le _,Nat.le_refl _,rfl,rfl,rfl,HT4.out,HF4.out,HM4.out,HS4.out,World.ownsRow_nil _ _ _ _⟩
 case round=>
  obtain⟨k,m,gc,go,nv',bv',lv',hk,hmk,rfl,rfl,HLn,HTk,HFk,HMk,HSk',HGk⟩:=hrel;clear HT4 HF4 HM4 HS4 o12;by_cases hlt:k<N
  ·obtain⟨sd,hsd⟩:∃q,sends[k]? =some q:=⟨sends[k]'(by have:=HN.out;omega),List.getElem?_eq_getElem (by have:=HN.out;omega)⟩;have hr:=HDk.out sd (List.mem_of_getElem? hsd);obtain⟨s0,s1⟩:=sendCells_at sends k _ hsd;obtain⟨gd,rfl,d0,d1⟩:=own_pair HSk'.out s0 s1;have HSt:=show Hid _ from sift_step y n hsd;have HFt:=show Hid _ from filter_step (p:=goes x.pub) hsd;obtain⟨t,v⟩:=sd;simp only at d0 d1 hr;have hki:(k:Int)<(N:Int):=by omega
   have hk0:(0:Int)≤(k:Int):=by omega
   have hgd:gd<wr.heap.size:=World.block_lt_of_cell? _ _ d0;have c3:wr.cell? ⟨tb,o+3,none⟩=some (.int .u8 x.pub):=by have q:=HTk.out.slot.cell 3 rfl;rw[sift_pub,HYp.out] at q;exact q
   have htk:=HTk.out.slot.lt;have hnk:¬tb=wr.heap.size:=by omega
   have hsk2:w.heap.size≤wr.heap.size:=HFk.out.kept.size;have HBit:Hid (∀u,Calls Tryz.prog 53 #[.int .u8 x.pub,.int .u8 t] u fun e w'=>e= .returned (.bool (goes x.pub (t,v)))∧u=w'):=fun u=>hasBit_any x.pub t u hp0 hp1 hr.1 hr.2;clear hsd s0 s1;go_wp2_with fail;go_quiet ((go_at_call 53;exact(HBit.out _).mono fun _ _ h=>⟨h.1,_,h.2.symm⟩));obtain⟨W,hW⟩:∃W,W=(wr.alloc (.cells #[.int .u8 t,.int .u16 v] 108)).drewN nq:=⟨_,rfl⟩;have HTW:Hid (TenAt W tb o (y.sift n (sends.take k)) nv' bv' lv'):=by unfold Hid;rw[hW];exact(HTk.out.alloc _).drewN nq
   have HFW:Hid (TFr w W tb o bv lv):=by unfold Hid;rw[hW];exact(HFk.out.alloc htk _).drewN nq
   have HSW:Hid (W.ownsRow b1 108 2 (.slice (some ⟨gd,0,none⟩) N dc) N (sendCells sends)):=by unfold Hid;rw[hW];exact HSk'.out.alloc _
   have HGW:Hid (W.ownsRow w.heap.size 108 2 (.slice go m gc) m (sendCells ((sends.take k).filter (goes x.pub)))):=by unfold Hid;rw[hW];exact HGk.out.alloc _
   have x0:W.cell? ⟨wr.heap.size,0,none⟩=some (.int .u8 t):=by rw[hW];exact(Blk.new wr #[.int .u8 t,.int .u16 v] 108).cell 0
   have x1:W.cell? ⟨wr.heap.size,1,none⟩=some (.int .u16 v):=by rw[hW];exact(Blk.new wr #[.int .u8 t,.int .u16 v] 108).cell 1
   have hsW:w.heap.size≤W.heap.size:=HFW.out.kept.size;have hwt:IntKind.u16.wrap t=t:=by rw[IntKind.wrap_u16];omega
   have HLg:Hid ((y.sift n (sends.take k)).log.length≤100000):=by
    have q:=sift_log y n (sends.take k);have:=HYl.out;have:(sends.take k).length≤k:=by simp;omega
    unfold Hid;omega
   rw[←hW];clear hW d0 d1 c3 HBit HTk HFk HSk' HGk;obtain⟨gg,hgg⟩:∃gg,gg=goes x.pub (t,v):=⟨_,rfl⟩;rw[←hgg];have HGg:Hid (goes x.pub (t,v)=gg):=hgg.symm;clear hgg;cases gg with
   |true=>
    have HNw:Hid (∀jj u,[Value.int .u8 t,.int .u16 v][jj]? =some u→(W.alloc (.cells #[.int .u8 t,.int .u16 v] 108)).cell? ((⟨W.heap.size,0,none⟩:Addr).add jj)=some u):=new_two W _ _ _;go_wp2_with (at_builtin;refine wpList_append_own_at _ rfl (.tmp 44) (.tmp 46) 105 rfl w.heap.size 108 i0 (.agg #[.int .u8 0,.int .u16 0]) 2 4 Tryz.underlying105 hi hz0 hz1 hz2 rfl (by decide) _ m _ rfl (HGW.out.alloc _) ⟨W.heap.size,0,none⟩ 1 1 [.int .u8 t,.int .u16 v] rfl rfl HNw.out (by intro u hu;simp at hu;rcases hu with rfl|rfl<;>rfl) (by unfold maxLen;omega) (by omega) (by simp;omega) ?_);intro g1 w1 ho1 hg1 _ _;obtain⟨go1,gc1,rfl⟩:=own_is ho1;have HGn:Hid (w1.ownsRow w.heap.size 108 2 (.slice go1 (m+1) gc1) (m+1) (sendCells ((sends.take (k+1)).filter (goes x.pub)))):=by unfold Hid;rw[HFt.out,HGg.out,if_pos rfl,sendCells_snoc];exact ho1
    have HLn2:Hid (((sends.take (k+1)).filter (goes x.pub)).length=m+1):=by unfold Hid;rw[HFt.out,HGg.out,if_pos rfl,List.length_append,HLn.out];rfl
    have HTn:Hid (TenAt w1 tb o (y.sift n (sends.take (k+1))) nv' bv' lv'):=by unfold Hid;rw[HSt.out,HYp.out,HGg.out,if_pos rfl];exact(HTW.out.alloc _).grown (HGW.out.alloc _) hg1 (by decide) (by decide) (by decide) (by decide)
    have HFn:Hid (TFr w w1 tb o bv lv):=by refine(HFW.out.alloc HTW.out.slot.lt _).grow hg1 (fun z hz=>Or.inr (HGW.out.lt z hz).1) (fun e=>?_) (by simp;have:=HTW.out.slot.lt;omega);obtain⟨c1,q1,_⟩:=HTW.out.slot;exact q1.ne_own HGW.out (by decide) e.symm
    have HSn:Hid (w1.ownsRow b1 108 2 (.slice (some ⟨gd,0,none⟩) N dc) N (sendCells sends)):=by refine own_block (HSW.out.alloc (.cells #[.int .u8 t,.int .u16 v] 108)) fun z hz=>?_;have hzl:=HDl.out z hz;refine hg1.block z (by simp;omega) (fun e=>?_);have:=(HGW.out.lt z e.symm).1;omega
    clear ho1 hg1 HTW HFW HSW HGW HNw;go_wp2;go_roundw
    case rel=>exact⟨k+1,m+1,gc1,go1,nv',bv',lv',by omega,by omega,by go_num,rfl,HLn2,HTn,HFn,HMk,HSn,HGn⟩
    case measure=>simp[intOf];omega
   |false=>
    go_wp2_with fail;refine(note_any HTW.out n 1 t v HLg.out).mono ?_;rintro e w1 ⟨rfl,nv1,bv1,lv1,ht1,hf1,hm1,hm2⟩;have HTn:Hid (TenAt w1 tb o (y.sift n (sends.take (k+1))) nv1 bv1 lv1):=by unfold Hid;rw[HSt.out,HYp.out,HGg.out,if_neg (by decide)];exact ht1
    have HFn:Hid (TFr w w1 tb o bv lv):=HFW.out.trans hf1 HMk.out.1 HMk.out.2;have HMn:Hid (Moved w bv bv1∧Moved w lv lv1):=⟨HMk.out.1.trans hm1 HFW.out.kept.size,HMk.out.2.trans hm2 HFW.out.kept.size⟩;have HSn:Hid (w1.ownsRow b1 108 2 (.slice (some ⟨gd,0,none⟩) N dc) N (sendCells sends)):=hf1.own HTW.out HSW.out (by decide) (by decide) (by decide);have HGn:Hid (w1.ownsRow w.heap.size 108 2 (.slice go m gc) m (sendCells ((sends.take (k+1)).filter (goes x.pub)))):=by unfold Hid;rw[HFt.out,HGg.out,if_neg (by decide),List.append_nil];exact hf1.own HTW.out HGW.out (by decide) (by decide) (by decide)
    have HLn2:Hid (((sends.take (k+1)).filter (goes x.pub)).length=m):=by unfold Hid;rw[HFt.out,HGg.out,if_neg (by decide),List.append_nil,HLn.out]
    clear ht1 hf1 hm1 hm2 HTW HFW HSW HGW;go_wp2;go_roundw
    case rel=>exact⟨k+1,m,gc,go,nv1,bv1,lv1,by omega,by omega,by go_num,rfl,HLn2,HTn,HFn,HMn,HSn,HGn⟩
    case measure=>simp[intOf];omega
  ·have hkn:k=N:=by omega
   subst hkn;have hki:¬(k:Int)<(k:Int):=by omega
   have HAl:Hid (sends.take k=sends):=List.take_of_length_le (by have:=HN.out;omega);go_wp2;go_ret;refine⟨_,rfl,?_,?_⟩
   ·rw[HFin.out,←HAl.out];exact⟨nv',bv',lv',HTk.out,HFk.out,HMk.out.1,HMk.out.2⟩
   ·have q:=HGk.out;rw[HAl.out] at q;have q2:=HLn.out;rw[HAl.out] at q2;rw[q2];exact q
set_option maxRecDepth 100000 in
theorem runW_fuel (code:ByteArray) (v:InV) (ds:List Int) (w:World) (hc:code.size≤maxLen) (hv:v.ok) (hd:Drawn w v ds w.heap.size) (l:List (Int×Int)) (hd1:H.decode (H.bts code)=(l,0,0)) (hl1:1≤l.length) (hl64:l.length≤64) (hlok:H.okFrom l.length 0 l=true) (hf:v.fuel<0∨1000<v.fuel): Calls Tryz.prog 66 #[.string code,.agg v.arr] w fun e w'=>runEnd (H.run (H.bts code) v.cells (v.inp ds)) w.heap.size w e w':=by
 have Hc:Hid (code.size≤maxLen):=hc;have Hv:Hid v.ok:=hv;have HD:Hid (Drawn w v ds w.heap.size):=hd;obtain⟨F,hF⟩:∃F,F=v.fuel:=⟨_,rfl⟩;have HF:Hid (F=v.fuel):=hF;have harr:v.arr=#[.int .i64 F,.int .u16 v.c0,.int .u16 v.c1,.int .u16 v.c2,.int .u16 v.c3,.int .u16 v.c4,.int .u16 v.c5,.int .u16 v.c6,.int .u16 v.c7,.int .u8 v.what,.int .u8 v.by_,.int .u16 v.arg,.int .u8 v.src,.int .u8 v.route,.slice v.ao v.n v.cap]:=by unfold InV.arr;rw[hF]
 have HArr:Hid (v.arr=#[.int .i64 F,.int .u16 v.c0,.int .u16 v.c1,.int .u16 v.c2,.int .u16 v.c3,.int .u16 v.c4,.int .u16 v.c5,.int .u16 v.c6,.int .u16 v.c7,.int .u8 v.what,.int .u8 v.by_,.int .u16 v.arg,.int .u8 v.src,.int .u8 v.route,.slice v.ao v.n v.cap]):=harr;rw[harr];have HDE:Hid (H.decode (H.bts code)=(l,0,0)):=hd1;clear hc hv hd hF harr hd1;go_enter Tryz.func66,Tryz.ntmps66;go_wp2_with fail;refine(dec_any code _ Hc.out).mono ?_;rintro e w1 ⟨v1,rfl,hown1,hb1⟩;have hbw:Below w.heap.size w w1:=(((Below.refl _ _).alloc (Nat.le_refl _) _).alloc (by simp) _).trans (hb1.mono (by simp;omega));have HB1:Hid (Below w.heap.size w w1):=hbw;have hs1:=hbw.size;have hs1b:w.heap.size+2≤w1.heap.size:=by have:=hb1.size;simp at this;omega
 have HX1:Hid (Blk w1 w.heap.size v.arr 128):=by unfold Hid;rw[HArr.out];exact((Blk.new w _ 128).alloc _).below hb1 (by simp;omega)
 have HZ1:Hid (Blk w1 (w.heap.size+1) #[.int .u8 0,.int .i64 0,.int .i64 0,.int .u16 0,.int .u16 0,.int .u16 0,.int .u16 0,.int .u16 0,.int .u16 0,.int .u16 0,.int .u16 0,.slice none 0 0,.slice none 0 0] 124):=by have h:=Blk.new (w.alloc (.cells #[.int .i64 F,.int .u16 v.c0,.int .u16 v.c1,.int .u16 v.c2,.int .u16 v.c3,.int .u16 v.c4,.int .u16 v.c5,.int .u16 v.c6,.int .u16 v.c7,.int .u8 v.what,.int .u8 v.by_,.int .u16 v.arg,.int .u8 v.src,.int .u8 v.route,.slice v.ao v.n v.cap] 128)) #[.int .u8 0,.int .i64 0,.int .i64 0,.int .u16 0,.int .u16 0,.int .u16 0,.int .u16 0,.int .u16 0,.int .u16 0,.int .u16 0,.int .u16 0,.slice none 0 0,.slice none 0 0] 124;rw[show(w.alloc (.cells #[.int .i64 F,.int .u16 v.c0,.int .u16 v.c1,.int .u16 v.c2,.int .u16 v.c3,.int .u16 v.c4,.int .u16 v.c5,.int .u16 v.c6,.int .u16 v.c7,.int .u8 v.what,.int .u8 v.by_,.int .u16 v.arg,.int .u8 v.src,.int .u8 v.route,.slice v.ao v.n v.cap] 128)).heap.size=w.heap.size+1 by simp] at h;exact h.below hb1 (by simp)
 have z0:=HZ1.out.cell 0;have z1:=HZ1.out.cell 1;have z2:=HZ1.out.cell 2;have z3:=HZ1.out.cell 3;have z4:=HZ1.out.cell 4;have z5:=HZ1.out.cell 5;have z6:=HZ1.out.cell 6;have z7:=HZ1.out.cell 7;have z8:=HZ1.out.cell 8;have z9:=HZ1.out.cell 9;have z10:=HZ1.out.cell 10;have z11:=HZ1.out.cell 11;have z12:=HZ1.out.cell 12;simp at z0 z1 z2 z3 z4 z5 z6 z7 z8 z9 z10 z11 z12;have zf:∀i,w1.frozen? ⟨w.heap.size+1,i,none⟩=false:=fun i=>HZ1.out.free i;have hd:=HDE.out;rw[←HF.out] at hf;rw[hd] at hown1 ⊢;simp only at hown1 ⊢;obtain⟨g,cv,rfl,hgl⟩:=own_slice hown1 (by omega);obtain⟨n,hn⟩:∃n,n=l.length:=⟨_,rfl⟩;have Hn:Hid (l.length=n):=hn.symm;rw[←hn] at hl1 hl64 hlok hown1 ⊢;have HPA:Hid (ProgAt w1 g l):=own_progAt hown1 hn.symm;have HLo:Hid (H.okFrom n 0 l=true):=hlok;have Hd:Hid (H.decode (H.bts code)=(l,0,0)):=hd;have Hop:Hid (∀x∈l,0≤x.1):=by intro x hx;have h:=dec_ops (H.bts code) l (H.at0_bts_range code) hd x hx;exact h
 have e0:=HX1.out.cell 0;have e1:=HX1.out.cell 1;have e2:=HX1.out.cell 2;have e3:=HX1.out.cell 3;have e4:=HX1.out.cell 4;have e5:=HX1.out.cell 5;have e6:=HX1.out.cell 6;have e7:=HX1.out.cell 7;have e8:=HX1.out.cell 8;have e9:=HX1.out.cell 9;have e10:=HX1.out.cell 10;have e11:=HX1.out.cell 11;have e12:=HX1.out.cell 12;have e13:=HX1.out.cell 13;have e14:=HX1.out.cell 14;rw[HArr.out] at e0 e1 e2 e3 e4 e5 e6 e7 e8 e9 e10 e11 e12 e13 e14;simp at e0 e1 e2 e3 e4 e5 e6 e7 e8 e9 e10 e11 e12 e13 e14;clear hd hown1 hb1 hbw hn hlok;have HE:Hid (H.run (H.bts code) v.cells (v.inp ds)=H.outNone 2):=by unfold Hid H.run;rw[Hd.out,if_pos rfl,if_pos (by rw[show(v.inp ds).fuel=F from HF.out.symm];exact hf)]
 by_cases hf0:F<0
 ·clear hf HX1 e1 e2 e3 e4 e5 e6 e7 e8 e9 e10 e11 e12 e13 e14;go_wp2;refine bodyPost_ret (v:= .tuple #[.agg #[.int .u8 0,.int .i64 0,.int .i64 0,.int .u16 0,.int .u16 0,.int .u16 0,.int .u16 0,.int .u16 0,.int .u16 0,.int .u16 0,.int .u16 0,.slice none 0 0,.slice none 0 0],.int .i64 2]) ?_ rfl ?_
  ·simp[results,Tryz.results66,go_sem,z0,z1,z2,z3,z4,z5,z6,z7,z8,z9,z10,z11,z12]
  ·rw[HE.out];exact runEnd_none (below_13 HB1.out (by omega) _ _ _ _ _ _ _ _ _ _ _ _ _)
 ·have hf1:1000<F:=by omega
  have hf2:decide (F<0)=false:=by simp;omega
  clear hf hf0 HX1 e1 e2 e3 e4 e5 e6 e7 e8 e9 e10 e11 e12 e13 e14;go_wp2;refine bodyPost_ret (v:= .tuple #[.agg #[.int .u8 0,.int .i64 0,.int .i64 0,.int .u16 0,.int .u16 0,.int .u16 0,.int .u16 0,.int .u16 0,.int .u16 0,.int .u16 0,.int .u16 0,.slice none 0 0,.slice none 0 0],.int .i64 2]) ?_ rfl ?_
  ·simp[results,Tryz.results66,go_sem,z0,z1,z2,z3,z4,z5,z6,z7,z8,z9,z10,z11,z12]
  ·rw[HE.out];exact runEnd_none (below_13 HB1.out (by omega) _ _ _ _ _ _ _ _ _ _ _ _ _)
end Go.Proofs.YtidaflmmldefcaaGreat
