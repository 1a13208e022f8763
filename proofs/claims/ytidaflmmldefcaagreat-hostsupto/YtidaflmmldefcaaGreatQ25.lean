/- Parts of the proof of Hosts: WlB. -/
import Derived.Test.YtidaflmmldefcaaGreatQ22
import Derived.Test.YtidaflmmldefcaaGreatQ24
set_option maxHeartbeats 16000000
namespace Go.Proofs.YtidaflmmldefcaaGreat
open Go.RowKit
set_option linter.unusedVariables false
theorem info47:(Tryz.prog.info? 47).map (fun i=>(i.zero,i.size,i.bytes))=some (some (.agg #[.pointer none,.pointer none]),2,16):=by kernel_rfl
def zero7:List Value:=[.string ⟨#[]⟩,.int .i64 0,.int .u8 0,.int .u8 0,.int .u8 0,.int .i64 0,.int .i64 0]
def last7:List Value:=[.string ⟨#[]⟩,.int .i64 (-200),.int .u8 0,.int .u8 0,.int .u8 0,.int .i64 0,.int .i64 0]
theorem mfCells_length (l:List Mf):(mfCells l).length=l.length*7:=by
 induction l with
 |nil=>rfl
 |cons a r ih=>have e:mfCells (a::r)=a.arr.toList++mfCells r:=rfl;rw[e,List.length_append,ih];simp[Mf.arr];omega
theorem mfCells_one (l:List Mf):∀u∈mfCells l,u.oneCell'=true:=by
 intro u hu;simp only[mfCells,List.mem_flatMap] at hu;obtain⟨m,_,h⟩:=hu;simp[Mf.arr] at h;rcases h with rfl|rfl|rfl|rfl|rfl|rfl|rfl<;>rfl
theorem made7 (n:Nat):((madeCells (.agg #[.string ⟨#[]⟩,.int .i64 0,.int .u8 0,.int .u8 0,.int .u8 0,.int .i64 0,.int .i64 0]:Value).cells ((n+1)*7)).toList).drop (n*7)=zero7:=by
 apply List.ext_getElem?;intro i;rw[List.getElem?_drop];simp only[madeCells,Array.toList_map,Array.toList_range,List.getElem?_map];by_cases hi:i<7
 ·rw[List.getElem?_range (by omega)];have e:(n*7+i)%7=i:=by omega
  match i,hi with
  |0,_=>simp[Value.cells,zero7]
  |1,_=>simp[Value.cells,zero7,e]
  |2,_=>simp[Value.cells,zero7,e]
  |3,_=>simp[Value.cells,zero7,e]
  |4,_=>simp[Value.cells,zero7,e]
  |5,_=>simp[Value.cells,zero7,e]
  |6,_=>simp[Value.cells,zero7,e]
 ·rw[List.getElem?_eq_none (by simp;omega)];simp[zero7];omega
def Rest (w:World) (G k n:Nat) (ms:List Mf):Prop:=∃cs:Array Value,Blk w G cs 37∧cs.size=(n+1)*7∧∀j,k*7≤j→cs[j]? =(mfCells ms++last7)[j]?
theorem Rest.set {w:World} {G k n:Nat} {ms:List Mf} (h:Rest w G k n ms) (i:Nat) (hi:i<(k+1)*7) (v:Value):Rest (w.setCell ⟨G,i,none⟩ v) G (k+1) n ms:=by
 obtain⟨cs,h1,h2,h3⟩:=h;refine⟨_,h1.set i v,by simpa using h2,fun j hj=>?_⟩;rw[Array.getElem?_setIfInBounds_ne (by omega)];exact h3 j (by omega)
theorem Rest.set' {w:World} {G k n:Nat} {ms:List Mf} (h:Rest w G (k+1) n ms) (i:Nat) (hi:i<(k+1)*7) (v:Value):Rest (w.setCell ⟨G,i,none⟩ v) G (k+1) n ms:=by
 obtain⟨cs,h1,h2,h3⟩:=h;refine⟨_,h1.set i v,by simpa using h2,fun j hj=>?_⟩;rw[Array.getElem?_setIfInBounds_ne (by omega)];exact h3 j hj
theorem Rest.cell {w:World} {G k n:Nat} {ms:List Mf} (h:Rest w G k n ms) (j:Nat) (hj:k*7≤j):w.cell? ⟨G,j,none⟩=(mfCells ms++last7)[j]? :=by
 obtain⟨cs,h1,h2,h3⟩:=h;rw[h1.cell];exact h3 j hj
theorem Rest.at {w:World} {G k n:Nat} {ms:List Mf} (h:Rest w G k n ms) {m:Mf} (hm:ms[k]? =some m) (j:Nat) (hj:j<7):w.cell? ⟨G,k*7+j,none⟩=m.arr[j]? :=by
 rw[h.cell _ (by omega),List.getElem?_append_left (by rw[mfCells_length];have:=(List.getElem?_eq_some_iff.1 hm).1;omega)];exact mfCells_get ms k m hm j hj
theorem Rest.last {w:World} {G k n:Nat} {ms:List Mf} (h:Rest w G k n ms) (hn:ms.length=n) (hk:k≤n):w.cell? ⟨G,n*7+1,none⟩=some (.int .i64 (-200)):=by
 rw[h.cell _ (by omega),List.getElem?_append_right (by rw[mfCells_length];omega),mfCells_length,hn,show n*7+1-n*7=1 by omega];rfl
theorem Rest.free {w:World} {G k n:Nat} {ms:List Mf} (h:Rest w G k n ms) (i:Nat):w.frozen? ⟨G,i,none⟩=false:=by
 obtain⟨cs,h1,_⟩:=h;exact h1.free i
theorem Rest.below {w w':World} {G k n:Nat} {ms:List Mf} (h:Rest w G k n ms) (hb:Below w.heap.size w w'):Rest w' G k n ms:=by
 obtain⟨cs,h1,h2⟩:=h;exact⟨cs,h1.below hb h1.lt,h2⟩
theorem new_desk {w3 w4 w5 w6:World} {G:Nat} {ms:List Mf} (hg:∀m∈ms,m.good) (hl:1≤ms.length∧ms.length≤4) {hb tb cap:Nat} {vs:List Vs} (h1:HostAt w4 hb tb cap (newHs ms) vs) (h2:∀k,ownOf hb tb vs k→w3.heap.size≤k) (hG:G<w3.heap.size) (h3:Kept (fun k=>k=G) w4 w5) {R:RB} (h4:RefAt w6 R (newHs ms) (List.replicate ms.length 0)) (h5:∀k,refAll R k→w5.heap.size≤k) (h6:Below w5.heap.size w5 w6): DkAt w6 ⟨hb,tb,cap,newHs ms,vs,R,List.replicate ms.length 0,ms⟩:=by
 have hne:(newHs ms).ts≠[]:=by
  intro e;have:(newHs ms).ts.length=ms.length:=by simp[newHs]
  rw[e] at this;simp at this;omega
 have hlt:∀k,ownOf hb tb vs k→k<w5.heap.size:=fun k q=>Nat.lt_of_lt_of_le (own_lt h1 hne q) h3.size;refine⟨(h1.keepA (w':=w5) fun k q=>h3.block k (own_lt h1 hne q) fun e=>?_).keepA fun k q=>h6.block k (hlt k q),h4,newHs_ok hg,hl,?_,fun k q z=>?_⟩
 ·have:=h2 k q;omega
 ·intro k hk;rw[(List.mem_replicate.1 hk).2];exact Int.le_refl 0
 ·have:=hlt k q;have:=h5 k z;omega
set_option maxRecDepth 100000 in
theorem begin_bad {w0 w:World} {B:Nat} {Ds:List Dk} {e:Nat} (h:WS w0 w B Ds e) (ao:Option Addr) (n ncap:Nat) (ms:List Mf) (hn:ms.length=n) (hlm:n≤1100000) (hds:Ds.length≤1100000) (hg:∀m∈ms,m.raw) (hr:ms≠[]→∃b off,ao=some ⟨b,off,none⟩∧MfRow w b off ms∧b<w.heap.size) (hnil:ao=none→n=0∧ncap=0) (hmay:mayAll ms=false): Calls Tryz.prog 4 #[.pointer (some ⟨B,0,none⟩),.slice ao n ncap] w fun r w'=>r= .returned (.bool true)∧WS w0 w' B Ds e:=by
 obtain⟨i0,hi,hz0,hz1,hz2⟩:=info_parts info37m;obtain⟨j0,hj,hy0,hy1,hy2⟩:=info_parts info47;have HW:Hid (WS w0 w B Ds e):=h;have Hn:Hid (ms.length=n):=hn;have HR:Hid (ms≠[]→∃b off,ao=some ⟨b,off,none⟩∧MfRow w b off ms∧b<w.heap.size):=hr;have HNew:Hid (∀u,Rest u w.heap.size 0 n ms→Below w.heap.size w u→Calls Tryz.prog 10 #[.slice (some ⟨w.heap.size,0,none⟩) n (n+1)] u fun r w4=>r= .returned (.tuple #[.pointer none,.int .i64 5])∧Hid (Below u.heap.size u w4)):=by
  intro u hu hbu;obtain⟨cs,hB,_⟩:=hu;have z:=new_bad w.heap.size 0 (n+1) ms u (by unfold maxLen;omega) hg (by
   intro i m hm j v hv;have hj:j<7:=by have:=(Array.getElem?_eq_some_iff.1 hv).1;simpa[Mf.arr] using this
   rw[Nat.zero_add,←hv,hB.cell];have q:=(show Rest u w.heap.size 0 n ms from⟨cs,hB,by assumption⟩).cell (i*7+j) (by omega);rw[hB.cell] at q;rw[q,List.getElem?_append_left (by rw[mfCells_length];have:=(List.getElem?_eq_some_iff.1 hm).1;omega)];exact mfCells_get ms i m hm j hj) hB.lt hmay
  rw[hn] at z;exact z
 have HRef:Hid (∀u,(ms≠[]→∃b off,ao=some ⟨b,off,none⟩∧MfRow u b off ms∧b<u.heap.size)→Calls Tryz.prog 11 #[.slice ao n ncap] u fun r w6=>r= .returned (.tuple #[.pointer none,.int .i64 5])∧Hid (Below u.heap.size u w6)):=by
  intro u hu;have z:=rnew_any ao ncap ms u (by unfold maxLen;omega) hg hu;rw[hn] at z;refine z.mono ?_;rintro r w6 ⟨hb,⟨_,rfl⟩|⟨q,_⟩⟩
  ·exact⟨rfl,hb⟩
  ·rw[hmay] at q;simp at q
 have HG:Hid (mayAll ms=false∧∀m∈ms,m.raw):=⟨hmay,hg⟩;have HCp:Hid (∀w1,w1.ownsRow w.heap.size 37 7 (.slice (some ⟨w.heap.size,0,none⟩) (n+1) (n+1)) (n+1) (madeCells (.agg #[.string ⟨#[]⟩,.int .i64 0,.int .u8 0,.int .u8 0,.int .u8 0,.int .i64 0,.int .i64 0]:Value).cells ((n+1)*7)).toList→w.grownBy w1 none→∃w2,(Builtin.copy_ #[38,38] 3 #[.slice (some ⟨w.heap.size,0,none⟩) (n+1) (n+1),.slice ao n ncap]).run Tryz.prog w1= .ok (goInt n) w2∧(w2.cell? ⟨w.heap.size,n*7+1,none⟩=some (.int .i64 0)∧w2.frozen? ⟨w.heap.size,n*7+1,none⟩=false)∧Hid (Below w.heap.size w w2)∧Hid (Rest (w2.setCell ⟨w.heap.size,n*7+1,none⟩ (.int .i64 (-200))) w.heap.size 0 n ms)):=by
  intro w1 ho1 hg1;obtain⟨cur,hcur,hcs⟩:∃cur:Array Value,w1.heap[w.heap.size]? =some (.cells cur 37 (0,0))∧cur.toList=(madeCells (.agg #[.string ⟨#[]⟩,.int .i64 0,.int .u8 0,.int .u8 0,.int .u8 0,.int .i64 0,.int .i64 0]:Value).cells ((n+1)*7)).toList:=by
   rcases ho1.2 with ⟨h,_⟩|⟨g,cp,cur,h,_,h2,_,_,h5,h6⟩
   ·simp at h
   ·simp only[Value.slice.injEq,Option.some.injEq,Addr.mk.injEq,and_true,true_and] at h;obtain⟨rfl,rfl⟩:=h;refine⟨cur,h2,?_⟩;rw[←h6,List.take_of_length_le (by simp[h5])]
  have hb1:Below w.heap.size w w1:=(Below.refl _ _).grown hg1 (Nat.le_refl _) (by simp);have hnl:(mfCells ms).length=n*7:=by rw[mfCells_length,hn]
  have hcz:cur.size=(n+1)*7:=by have:=congrArg List.length hcs;simpa[madeCells] using this
  have hdrop:cur.toList.drop (mfCells ms).length=zero7:=by rw[hcs,hnl];exact made7 n
  have fin:∀w2,Blk w2 w.heap.size (mfCells ms++zero7).toArray 37→Below w.heap.size w w2→(w2.cell? ⟨w.heap.size,n*7+1,none⟩=some (.int .i64 0)∧w2.frozen? ⟨w.heap.size,n*7+1,none⟩=false)∧Hid (Below w.heap.size w w2)∧Hid (Rest (w2.setCell ⟨w.heap.size,n*7+1,none⟩ (.int .i64 (-200))) w.heap.size 0 n ms):=by
   intro w2 hB hb;refine⟨⟨?_,hB.free _⟩,hb,⟨_,hB.set (n*7+1) _,?_,fun j _=>?_⟩⟩
   ·rw[hB.cell];simp only[List.getElem?_toArray];rw[List.getElem?_append_right (by omega),hnl,show n*7+1-n*7=1 by omega];rfl
   ·simp[hnl,zero7];omega
   ·by_cases e:j=n*7+1
    ·subst e;rw[Array.getElem?_setIfInBounds_self_of_lt (by simp[hnl,zero7]),List.getElem?_append_right (by omega),hnl,show n*7+1-n*7=1 by omega];rfl
    ·rw[Array.getElem?_setIfInBounds_ne (fun z=>e z.symm)];simp only[List.getElem?_toArray];by_cases hl:j<n*7
     ·rw[List.getElem?_append_left (by omega),List.getElem?_append_left (by omega)]
     ·rw[List.getElem?_append_right (by omega),List.getElem?_append_right (by omega),hnl];obtain⟨d,rfl⟩:∃d,j=n*7+d:=⟨j-n*7,by omega⟩;rw[show n*7+d-n*7=d by omega];match d,e with
      |0,_=>rfl
      |1,e=>exact absurd rfl e
      |d+2,_=>rfl
  cases ao with
  |none=>
   obtain⟨rfl,rfl⟩:=hnil rfl;have h0:ms=[]:=List.eq_nil_of_length_eq_zero hn;refine⟨w1,run_copy_nil Tryz.underlying38 hi hz1 w1 _ _ _,fin w1 ?_ hb1⟩;rw[h0];rw[h0] at hdrop;have:cur=zero7.toArray:=by apply Array.ext';simpa[mfCells] using hdrop
   rw[←show cur=(mfCells []++zero7).toArray from this];exact hcur
  |some a=>
   have hsrc:∀j v,(mfCells ms)[j]? =some v→w1.cell? (a.add j)=some v:=by
    intro j v hj;have hne:ms≠[]:=by intro e;rw[e] at hj;simp[mfCells] at hj
    obtain⟨b,off,e,hrow,hb⟩:=hr hne;simp only[Option.some.injEq] at e;subst e;have hjl:j<n*7:=by rw[←hnl];exact(List.getElem?_eq_some_iff.1 hj).1
    obtain⟨m,hm⟩:∃m,ms[j/7]? =some m:=⟨ms[j/7]'(by omega),List.getElem?_eq_getElem (by omega)⟩;have q:=mfCells_get ms (j/7) m hm (j%7) (by omega);rw[show j/7*7+j%7=j by omega,hj] at q;have q2:=(hrow.below hb1 hb) (j/7) m hm (j%7) v q.symm;rw[Addr.add_lit];rw[show off+j/7*7+j%7=off+j by omega] at q2;exact q2
   have z:=run_copy_any Tryz.underlying38 hi hz1 w1 w.heap.size n (n+1) (n+1) a ncap cur (mfCells ms) hcur hnl (by omega) hsrc (by rw[hnl,hcz];omega) (mfCells_one ms);rw[hdrop] at z;exact⟨_,z,fin _ (setRow_blk w1 w.heap.size cur _ 37 hcur) (below_row hb1 (Nat.le_refl _) _)⟩
 have hwn:IntKind.i64.wrap ((n:Int)+1)=((n+1:Nat):Int):=by rw[IntKind.wrap_i64];omega
 clear h hr hg hmay hn;go_enter Tryz.func4,Tryz.ntmps4;go_wp2_with (at_make;refine wpList_make_full _ rfl (.tmp 13) (.tmp 13) 38 rfl w.heap.size 37 i0 (.agg #[.string ⟨#[]⟩,.int .i64 0,.int .u8 0,.int .u8 0,.int .u8 0,.int .i64 0,.int .i64 0]) 7 Tryz.underlying38 hi hz0 hz1 .i64 .i64 _ _ (n+1) rfl rfl (by first|rfl|go_num|(simp;omega)|omega) (by first|rfl|go_num|(simp;omega)|omega) (by rw[hz2];omega) (by unfold maxLen;omega) (Nat.le_refl _) ?_);intro w1 ho1 hg1;obtain⟨w2,hcopy,⟨c1,f1⟩,HB2,HR3⟩:=HCp.out w1 ho1 hg1;clear ho1 hg1 HCp;have hnn:n≤n+1:=by omega
 have hG:Hid (w.heap.size<w2.heap.size):=World.block_lt_of_cell? _ _ c1;go_upto_region 4 with fail
 obtain⟨w3,hw3⟩:∃w3,w3=w2.setCell ⟨w.heap.size,n*7+1,none⟩ (.int .i64 (-200)):=⟨_,rfl⟩;rw[←hw3] at HR3 ⊢;have HB3:Hid (Below w.heap.size w w3):=by unfold Hid;rw[hw3];exact HB2.out.setCell (p:=⟨w.heap.size,n*7+1,none⟩) (Nat.le_refl _) _
 have HC4:=hid_in (HNew.out w3 HR3.out HB3.out);clear hw3 hcopy c1 f1 HB2 HNew;go_wp2_with fail;refine HC4.out.mono ?_;rintro r w4 ⟨rfl,HB4⟩;have hG3:Hid (w.heap.size<w3.heap.size):=by obtain⟨cs,hB,_⟩:=HR3.out;exact hB.lt
 have HR4:Hid (Rest w4 w.heap.size 0 n ms):=HR3.out.below HB4.out;have HB5:Hid (Below w.heap.size w w4):=HB3.out.trans (HB4.out.mono HB3.out.size);clear HC4;go_wp2_with fail;go_loopw [8] (fun i wr=>∃k:Nat,k≤n∧i= .int .i64 k∧Hid (Rest wr w.heap.size k n ms)∧Hid (Kept (fun j=>j=w.heap.size) w4 wr))
  (fun i _=>n-(intOf i).toNat)
 case atStart=>exact⟨0,Nat.zero_le _,rfl,HR4.out,Kept.refl _ _⟩
 case round=>
  obtain⟨k,hk,rfl,HRk,HKk⟩:=hrel;have HBk:Hid (Below w.heap.size w wr):=by refine⟨HKk.out.os.trans HB5.out.os,HKk.out.tape.trans HB5.out.tape,HKk.out.output.trans HB5.out.output,Nat.le_trans HB5.out.size HKk.out.size,fun j hj=>?_⟩;exact(HKk.out.block j (Nat.lt_of_lt_of_le hj HB5.out.size) (by intro q;have q2:j=w.heap.size:=q;omega)).trans (HB5.out.block j hj)
  by_cases hlt:k<n
  ·obtain⟨m,hm⟩:∃m,ms[k]? =some m:=⟨ms[k]'(by have:=Hn.out;omega),List.getElem?_eq_getElem (by have:=Hn.out;omega)⟩;obtain⟨b,off,rfl,hrow0,hb⟩:=HR.out (by intro z;rw[z] at hm;simp at hm);have hrow:=(hrow0.below HBk.out hb) k m hm;have hat:=fun j hj=>HRk.out.at hm j hj;have hfz:=HRk.out.free;obtain⟨pr,fu,ro,pu,su,sh,ba⟩:=m;have t0:wr.cell? ⟨b,off+k*7,none⟩=some (.string pr):=hrow 0 _ rfl;have t1:wr.cell? ⟨b,off+k*7+1,none⟩=some (.int .i64 fu):=hrow 1 _ rfl;have t2:wr.cell? ⟨b,off+k*7+2,none⟩=some (.int .u8 ro):=hrow 2 _ rfl;have t3:wr.cell? ⟨b,off+k*7+3,none⟩=some (.int .u8 pu):=hrow 3 _ rfl;have t4:wr.cell? ⟨b,off+k*7+4,none⟩=some (.int .u8 su):=hrow 4 _ rfl;have t5:wr.cell? ⟨b,off+k*7+5,none⟩=some (.int .i64 sh):=hrow 5 _ rfl;have t6:wr.cell? ⟨b,off+k*7+6,none⟩=some (.int .i64 ba):=hrow 6 _ rfl;have s0:wr.cell? ⟨w.heap.size,k*7,none⟩=some (.string pr):=hat 0 (by decide);have s1:wr.cell? ⟨w.heap.size,k*7+1,none⟩=some (.int .i64 fu):=hat 1 (by decide);have s2:wr.cell? ⟨w.heap.size,k*7+2,none⟩=some (.int .u8 ro):=hat 2 (by decide);have s3:wr.cell? ⟨w.heap.size,k*7+3,none⟩=some (.int .u8 pu):=hat 3 (by decide);have s4:wr.cell? ⟨w.heap.size,k*7+4,none⟩=some (.int .u8 su):=hat 4 (by decide);have s5:wr.cell? ⟨w.heap.size,k*7+5,none⟩=some (.int .i64 sh):=hat 5 (by decide);have s6:wr.cell? ⟨w.heap.size,k*7+6,none⟩=some (.int .i64 ba):=hat 6 (by decide);have hki:(k:Int)<(n:Int):=by omega
   have hki2:(k:Int)<((n+1:Nat):Int):=by omega
   have hk0:(0:Int)≤(k:Int):=by omega
   have HFn:Hid (∀q,Rest ((((((((wr.drewN q).setCell ⟨w.heap.size,k*7,none⟩ (.string ⟨#[]⟩)).setCell ⟨w.heap.size,k*7+1,none⟩ (.int .i64 200)).setCell ⟨w.heap.size,k*7+2,none⟩ (.int .u8 0)).setCell ⟨w.heap.size,k*7+3,none⟩ (.int .u8 0)).setCell ⟨w.heap.size,k*7+4,none⟩ (.int .u8 0)).setCell ⟨w.heap.size,k*7+5,none⟩ (.int .i64 0)).setCell ⟨w.heap.size,k*7+6,none⟩ (.int .i64 0)) w.heap.size (k+1) n ms∧Kept (fun j=>j=w.heap.size) w4 ((((((((wr.drewN q).setCell ⟨w.heap.size,k*7,none⟩ (.string ⟨#[]⟩)).setCell ⟨w.heap.size,k*7+1,none⟩ (.int .i64 200)).setCell ⟨w.heap.size,k*7+2,none⟩ (.int .u8 0)).setCell ⟨w.heap.size,k*7+3,none⟩ (.int .u8 0)).setCell ⟨w.heap.size,k*7+4,none⟩ (.int .u8 0)).setCell ⟨w.heap.size,k*7+5,none⟩ (.int .i64 0)).setCell ⟨w.heap.size,k*7+6,none⟩ (.int .i64 0))):=by
    intro q;have HRq:Rest (wr.drewN q) w.heap.size k n ms:=by obtain⟨cs,h1,h2⟩:=HRk.out;exact⟨cs,h1,h2⟩
    have HKq:Kept (fun j=>j=w.heap.size) w4 (wr.drewN q):=⟨HKk.out.os,HKk.out.tape,HKk.out.output,HKk.out.size,HKk.out.block⟩;refine⟨((((((HRq.set (k*7) (by omega) _).set' (k*7+1) (by omega) _).set' (k*7+2) (by omega) _).set' (k*7+3) (by omega) _).set' (k*7+4) (by omega) _).set' (k*7+5) (by omega) _).set' (k*7+6) (by omega) _,?_⟩;exact((((((HKq.setCell _ _ (Or.inl rfl)).setCell _ _ (Or.inl rfl)).setCell _ _ (Or.inl rfl)).setCell _ _ (Or.inl rfl)).setCell _ _ (Or.inl rfl)).setCell _ _ (Or.inl rfl)).setCell _ _ (Or.inl rfl)
   clear hm hrow0 hrow hat;go_wp2_with fail;go_quiet (fail);go_wp2;go_roundw
   case rel=>exact⟨k+1,by omega,by go_num,(HFn.out _).1,(HFn.out _).2⟩
   case measure=>simp[intOf];omega
  ·have hki:¬(k:Int)<(n:Int):=by omega
   have HC6:=hid_in (HRef.out wr (fun hne=>by obtain⟨b,off,q1,q2,q3⟩:=HR.out hne;exact⟨b,off,q1,q2.below HBk.out q3,Nat.lt_of_lt_of_le q3 HBk.out.size⟩));have HL:Hid (Rest wr w.heap.size k n ms):=HRk.out;clear HRk HRef;go_wp2_with fail;refine HC6.out.mono ?_;rintro r w6 ⟨rfl,HB6⟩;have l0:w6.cell? ⟨w.heap.size,n*7+1,none⟩=some (.int .i64 (-200)):=(HL.out.below HB6.out).last Hn.out hk;have HBt:Hid (Below w.heap.size w w6):=HBk.out.trans (HB6.out.mono HBk.out.size);have hni:(n:Int)<((n+1:Nat):Int):=by omega
   have hn0:(0:Int)≤(n:Int):=by omega
   clear HC6;have HZ:Hid (WS w0 w6 B Ds e):=HW.out.below HBt.out;go_wp2;go_ret;exact⟨rfl,HZ.out⟩
set_option maxRecDepth 100000 in
theorem begin_good {w0 w:World} {B:Nat} {Ds:List Dk} {e:Nat} (h:WS w0 w B Ds e) (ao:Option Addr) (n ncap:Nat) (ms:List Mf) (hn:ms.length=n) (hlm:n≤1100000) (hds:Ds.length≤1100000) (hg:∀m∈ms,m.raw) (hr:ms≠[]→∃b off,ao=some ⟨b,off,none⟩∧MfRow w b off ms∧b<w.heap.size) (hnil:ao=none→n=0∧ncap=0) (hmay:mayAll ms=true): Calls Tryz.prog 4 #[.pointer (some ⟨B,0,none⟩),.slice ao n ncap] w fun r w'=>r= .returned (.bool true)∧∃D,WS w0 w' B (Ds++[D]) e:=by
 obtain⟨i0,hi,hz0,hz1,hz2⟩:=info_parts info37m;obtain⟨j0,hj,hy0,hy1,hy2⟩:=info_parts info47;have HW:Hid (WS w0 w B Ds e):=h;have Hn:Hid (ms.length=n):=hn;have HR:Hid (ms≠[]→∃b off,ao=some ⟨b,off,none⟩∧MfRow w b off ms∧b<w.heap.size):=hr;have hgd:=mayAll_good hg hmay;have HNew:Hid (∀u,Rest u w.heap.size 0 n ms→Below w.heap.size w u→Calls Tryz.prog 10 #[.slice (some ⟨w.heap.size,0,none⟩) n (n+1)] u fun r w4=>∃hb,r= .returned (.tuple #[.pointer (some ⟨hb,0,none⟩),.int .i64 0])∧Hid (∃tb cap vs,HostAt w4 hb tb cap (newHs ms) vs∧∀k,ownOf hb tb vs k→u.heap.size≤k)∧Hid (Below u.heap.size u w4)):=by
  intro u hu hbu;obtain⟨cs,hB,_⟩:=hu;have z:=new_any w.heap.size 0 (n+1) ms u hgd.1 hgd.2.1 hgd.2.2 (by
   intro i m hm j v hv;have hj:j<7:=by have:=(Array.getElem?_eq_some_iff.1 hv).1;simpa[Mf.arr] using this
   rw[Nat.zero_add,←hv,hB.cell];have q:=(show Rest u w.heap.size 0 n ms from⟨cs,hB,by assumption⟩).cell (i*7+j) (by omega);rw[hB.cell] at q;rw[q,List.getElem?_append_left (by rw[mfCells_length];have:=(List.getElem?_eq_some_iff.1 hm).1;omega)];exact mfCells_get ms i m hm j hj) hB.lt
  rw[hn] at z;refine z.mono ?_;rintro r w4 ⟨hb,tb,cap,vs,rfl,a1,a2,a3⟩;exact⟨hb,rfl,⟨tb,cap,vs,a1,a2⟩,a3⟩
 have HRef:Hid (∀u,(ms≠[]→∃b off,ao=some ⟨b,off,none⟩∧MfRow u b off ms∧b<u.heap.size)→Calls Tryz.prog 11 #[.slice ao n ncap] u fun r w6=>∃rb,r= .returned (.tuple #[.pointer (some ⟨rb,0,none⟩),.int .i64 0])∧Hid (∃R:RB,R.rb=rb∧RefAt w6 R (newHs ms) (List.replicate ms.length 0)∧∀k,refAll R k→u.heap.size≤k)∧Hid (Below u.heap.size u w6)):=by
  intro u hu;have z:=rnew_any ao ncap ms u (by unfold maxLen;omega) hg hu;rw[hn] at z;refine z.mono ?_;rintro r w6 ⟨hb,⟨q,_⟩|⟨_,R,rfl,a1,a2⟩⟩
  ·rw[hmay] at q;simp at q
  ·exact⟨R.rb,rfl,⟨R,rfl,by rw[hn];exact a1,a2⟩,hb⟩
 have HG:Hid (mayAll ms=true∧∀m∈ms,m.raw):=⟨hmay,hg⟩;have HCp:Hid (∀w1,w1.ownsRow w.heap.size 37 7 (.slice (some ⟨w.heap.size,0,none⟩) (n+1) (n+1)) (n+1) (madeCells (.agg #[.string ⟨#[]⟩,.int .i64 0,.int .u8 0,.int .u8 0,.int .u8 0,.int .i64 0,.int .i64 0]:Value).cells ((n+1)*7)).toList→w.grownBy w1 none→∃w2,(Builtin.copy_ #[38,38] 3 #[.slice (some ⟨w.heap.size,0,none⟩) (n+1) (n+1),.slice ao n ncap]).run Tryz.prog w1= .ok (goInt n) w2∧(w2.cell? ⟨w.heap.size,n*7+1,none⟩=some (.int .i64 0)∧w2.frozen? ⟨w.heap.size,n*7+1,none⟩=false)∧Hid (Below w.heap.size w w2)∧Hid (Rest (w2.setCell ⟨w.heap.size,n*7+1,none⟩ (.int .i64 (-200))) w.heap.size 0 n ms)):=by
  intro w1 ho1 hg1;obtain⟨cur,hcur,hcs⟩:∃cur:Array Value,w1.heap[w.heap.size]? =some (.cells cur 37 (0,0))∧cur.toList=(madeCells (.agg #[.string ⟨#[]⟩,.int .i64 0,.int .u8 0,.int .u8 0,.int .u8 0,.int .i64 0,.int .i64 0]:Value).cells ((n+1)*7)).toList:=by
   rcases ho1.2 with ⟨h,_⟩|⟨g,cp,cur,h,_,h2,_,_,h5,h6⟩
   ·simp at h
   ·simp only[Value.slice.injEq,Option.some.injEq,Addr.mk.injEq,and_true,true_and] at h;obtain⟨rfl,rfl⟩:=h;refine⟨cur,h2,?_⟩;rw[←h6,List.take_of_length_le (by simp[h5])]
  have hb1:Below w.heap.size w w1:=(Below.refl _ _).grown hg1 (Nat.le_refl _) (by simp);have hnl:(mfCells ms).length=n*7:=by rw[mfCells_length,hn]
  have hcz:cur.size=(n+1)*7:=by have:=congrArg List.length hcs;simpa[madeCells] using this
  have hdrop:cur.toList.drop (mfCells ms).length=zero7:=by rw[hcs,hnl];exact made7 n
  have fin:∀w2,Blk w2 w.heap.size (mfCells ms++zero7).toArray 37→Below w.heap.size w w2→(w2.cell? ⟨w.heap.size,n*7+1,none⟩=some (.int .i64 0)∧w2.frozen? ⟨w.heap.size,n*7+1,none⟩=false)∧Hid (Below w.heap.size w w2)∧Hid (Rest (w2.setCell ⟨w.heap.size,n*7+1,none⟩ (.int .i64 (-200))) w.heap.size 0 n ms):=by
   intro w2 hB hb;refine⟨⟨?_,hB.free _⟩,hb,⟨_,hB.set (n*7+1) _,?_,fun j _=>?_⟩⟩
   ·rw[hB.cell];simp only[List.getElem?_toArray];rw[List.getElem?_append_right (by omega),hnl,show n*7+1-n*7=1 by omega];rfl
   ·simp[hnl,zero7];omega
   ·by_cases e:j=n*7+1
    ·subst e;rw[Array.getElem?_setIfInBounds_self_of_lt (by simp[hnl,zero7]),List.getElem?_append_right (by omega),hnl,show n*7+1-n*7=1 by omega];rfl
    ·rw[Array.getElem?_setIfInBounds_ne (fun z=>e z.symm)];simp only[List.getElem?_toArray];by_cases hl:j<n*7
     ·rw[List.getElem?_append_left (by omega),List.getElem?_append_left (by omega)]
     ·rw[List.getElem?_append_right (by omega),List.getElem?_append_right (by omega),hnl];obtain⟨d,rfl⟩:∃d,j=n*7+d:=⟨j-n*7,by omega⟩;rw[show n*7+d-n*7=d by omega];match d,e with
      |0,_=>rfl
      |1,e=>exact absurd rfl e
      |d+2,_=>rfl
  cases ao with
  |none=>
   obtain⟨rfl,rfl⟩:=hnil rfl;have h0:ms=[]:=List.eq_nil_of_length_eq_zero hn;refine⟨w1,run_copy_nil Tryz.underlying38 hi hz1 w1 _ _ _,fin w1 ?_ hb1⟩;rw[h0];rw[h0] at hdrop;have:cur=zero7.toArray:=by apply Array.ext';simpa[mfCells] using hdrop
   rw[←show cur=(mfCells []++zero7).toArray from this];exact hcur
  |some a=>
   have hsrc:∀j v,(mfCells ms)[j]? =some v→w1.cell? (a.add j)=some v:=by
    intro j v hj;have hne:ms≠[]:=by intro e;rw[e] at hj;simp[mfCells] at hj
    obtain⟨b,off,e,hrow,hb⟩:=hr hne;simp only[Option.some.injEq] at e;subst e;have hjl:j<n*7:=by rw[←hnl];exact(List.getElem?_eq_some_iff.1 hj).1
    obtain⟨m,hm⟩:∃m,ms[j/7]? =some m:=⟨ms[j/7]'(by omega),List.getElem?_eq_getElem (by omega)⟩;have q:=mfCells_get ms (j/7) m hm (j%7) (by omega);rw[show j/7*7+j%7=j by omega,hj] at q;have q2:=(hrow.below hb1 hb) (j/7) m hm (j%7) v q.symm;rw[Addr.add_lit];rw[show off+j/7*7+j%7=off+j by omega] at q2;exact q2
   have z:=run_copy_any Tryz.underlying38 hi hz1 w1 w.heap.size n (n+1) (n+1) a ncap cur (mfCells ms) hcur hnl (by omega) hsrc (by rw[hnl,hcz];omega) (mfCells_one ms);rw[hdrop] at z;exact⟨_,z,fin _ (setRow_blk w1 w.heap.size cur _ 37 hcur) (below_row hb1 (Nat.le_refl _) _)⟩
 have hwn:IntKind.i64.wrap ((n:Int)+1)=((n+1:Nat):Int):=by rw[IntKind.wrap_i64];omega
 clear h hr hg hmay hn hgd;go_enter Tryz.func4,Tryz.ntmps4;go_wp2_with (at_make;refine wpList_make_full _ rfl (.tmp 13) (.tmp 13) 38 rfl w.heap.size 37 i0 (.agg #[.string ⟨#[]⟩,.int .i64 0,.int .u8 0,.int .u8 0,.int .u8 0,.int .i64 0,.int .i64 0]) 7 Tryz.underlying38 hi hz0 hz1 .i64 .i64 _ _ (n+1) rfl rfl (by first|rfl|go_num|(simp;omega)|omega) (by first|rfl|go_num|(simp;omega)|omega) (by rw[hz2];omega) (by unfold maxLen;omega) (Nat.le_refl _) ?_);intro w1 ho1 hg1;obtain⟨w2,hcopy,⟨c1,f1⟩,HB2,HR3⟩:=HCp.out w1 ho1 hg1;clear ho1 hg1 HCp;have hnn:n≤n+1:=by omega
 have hG:Hid (w.heap.size<w2.heap.size):=World.block_lt_of_cell? _ _ c1;go_upto_region 4 with fail
 obtain⟨w3,hw3⟩:∃w3,w3=w2.setCell ⟨w.heap.size,n*7+1,none⟩ (.int .i64 (-200)):=⟨_,rfl⟩;rw[←hw3] at HR3 ⊢;have HB3:Hid (Below w.heap.size w w3):=by unfold Hid;rw[hw3];exact HB2.out.setCell (p:=⟨w.heap.size,n*7+1,none⟩) (Nat.le_refl _) _
 have HC4:=hid_in (HNew.out w3 HR3.out HB3.out);clear hw3 hcopy c1 f1 HB2 HNew;go_wp2_with fail;refine HC4.out.mono ?_;rintro r w4 ⟨hb,rfl,HN4,HB4⟩;have hG3:Hid (w.heap.size<w3.heap.size):=by obtain⟨cs,hB,_⟩:=HR3.out;exact hB.lt
 have HR4:Hid (Rest w4 w.heap.size 0 n ms):=HR3.out.below HB4.out;have HB5:Hid (Below w.heap.size w w4):=HB3.out.trans (HB4.out.mono HB3.out.size);clear HC4;go_wp2_with fail;go_loopw [8] (fun i wr=>∃k:Nat,k≤n∧i= .int .i64 k∧Hid (Rest wr w.heap.size k n ms)∧Hid (Kept (fun j=>j=w.heap.size) w4 wr))
  (fun i _=>n-(intOf i).toNat)
 case atStart=>exact⟨0,Nat.zero_le _,rfl,HR4.out,Kept.refl _ _⟩
 case round=>
  obtain⟨k,hk,rfl,HRk,HKk⟩:=hrel;have HBk:Hid (Below w.heap.size w wr):=by refine⟨HKk.out.os.trans HB5.out.os,HKk.out.tape.trans HB5.out.tape,HKk.out.output.trans HB5.out.output,Nat.le_trans HB5.out.size HKk.out.size,fun j hj=>?_⟩;exact(HKk.out.block j (Nat.lt_of_lt_of_le hj HB5.out.size) (by intro q;have q2:j=w.heap.size:=q;omega)).trans (HB5.out.block j hj)
  by_cases hlt:k<n
  ·obtain⟨m,hm⟩:∃m,ms[k]? =some m:=⟨ms[k]'(by have:=Hn.out;omega),List.getElem?_eq_getElem (by have:=Hn.out;omega)⟩;obtain⟨b,off,rfl,hrow0,hb⟩:=HR.out (by intro z;rw[z] at hm;simp at hm);have hrow:=(hrow0.below HBk.out hb) k m hm;have hat:=fun j hj=>HRk.out.at hm j hj;have hfz:=HRk.out.free;obtain⟨pr,fu,ro,pu,su,sh,ba⟩:=m;have t0:wr.cell? ⟨b,off+k*7,none⟩=some (.string pr):=hrow 0 _ rfl;have t1:wr.cell? ⟨b,off+k*7+1,none⟩=some (.int .i64 fu):=hrow 1 _ rfl;have t2:wr.cell? ⟨b,off+k*7+2,none⟩=some (.int .u8 ro):=hrow 2 _ rfl;have t3:wr.cell? ⟨b,off+k*7+3,none⟩=some (.int .u8 pu):=hrow 3 _ rfl;have t4:wr.cell? ⟨b,off+k*7+4,none⟩=some (.int .u8 su):=hrow 4 _ rfl;have t5:wr.cell? ⟨b,off+k*7+5,none⟩=some (.int .i64 sh):=hrow 5 _ rfl;have t6:wr.cell? ⟨b,off+k*7+6,none⟩=some (.int .i64 ba):=hrow 6 _ rfl;have s0:wr.cell? ⟨w.heap.size,k*7,none⟩=some (.string pr):=hat 0 (by decide);have s1:wr.cell? ⟨w.heap.size,k*7+1,none⟩=some (.int .i64 fu):=hat 1 (by decide);have s2:wr.cell? ⟨w.heap.size,k*7+2,none⟩=some (.int .u8 ro):=hat 2 (by decide);have s3:wr.cell? ⟨w.heap.size,k*7+3,none⟩=some (.int .u8 pu):=hat 3 (by decide);have s4:wr.cell? ⟨w.heap.size,k*7+4,none⟩=some (.int .u8 su):=hat 4 (by decide);have s5:wr.cell? ⟨w.heap.size,k*7+5,none⟩=some (.int .i64 sh):=hat 5 (by decide);have s6:wr.cell? ⟨w.heap.size,k*7+6,none⟩=some (.int .i64 ba):=hat 6 (by decide);have hki:(k:Int)<(n:Int):=by omega
   have hki2:(k:Int)<((n+1:Nat):Int):=by omega
   have hk0:(0:Int)≤(k:Int):=by omega
   have HFn:Hid (∀q,Rest ((((((((wr.drewN q).setCell ⟨w.heap.size,k*7,none⟩ (.string ⟨#[]⟩)).setCell ⟨w.heap.size,k*7+1,none⟩ (.int .i64 200)).setCell ⟨w.heap.size,k*7+2,none⟩ (.int .u8 0)).setCell ⟨w.heap.size,k*7+3,none⟩ (.int .u8 0)).setCell ⟨w.heap.size,k*7+4,none⟩ (.int .u8 0)).setCell ⟨w.heap.size,k*7+5,none⟩ (.int .i64 0)).setCell ⟨w.heap.size,k*7+6,none⟩ (.int .i64 0)) w.heap.size (k+1) n ms∧Kept (fun j=>j=w.heap.size) w4 ((((((((wr.drewN q).setCell ⟨w.heap.size,k*7,none⟩ (.string ⟨#[]⟩)).setCell ⟨w.heap.size,k*7+1,none⟩ (.int .i64 200)).setCell ⟨w.heap.size,k*7+2,none⟩ (.int .u8 0)).setCell ⟨w.heap.size,k*7+3,none⟩ (.int .u8 0)).setCell ⟨w.heap.size,k*7+4,none⟩ (.int .u8 0)).setCell ⟨w.heap.size,k*7+5,none⟩ (.int .i64 0)).setCell ⟨w.heap.size,k*7+6,none⟩ (.int .i64 0))):=by
    intro q;have HRq:Rest (wr.drewN q) w.heap.size k n ms:=by obtain⟨cs,h1,h2⟩:=HRk.out;exact⟨cs,h1,h2⟩
    have HKq:Kept (fun j=>j=w.heap.size) w4 (wr.drewN q):=⟨HKk.out.os,HKk.out.tape,HKk.out.output,HKk.out.size,HKk.out.block⟩;refine⟨((((((HRq.set (k*7) (by omega) _).set' (k*7+1) (by omega) _).set' (k*7+2) (by omega) _).set' (k*7+3) (by omega) _).set' (k*7+4) (by omega) _).set' (k*7+5) (by omega) _).set' (k*7+6) (by omega) _,?_⟩;exact((((((HKq.setCell _ _ (Or.inl rfl)).setCell _ _ (Or.inl rfl)).setCell _ _ (Or.inl rfl)).setCell _ _ (Or.inl rfl)).setCell _ _ (Or.inl rfl)).setCell _ _ (Or.inl rfl)).setCell _ _ (Or.inl rfl)
   clear hm hrow0 hrow hat;go_wp2_with fail;go_quiet (fail);go_wp2;go_roundw
   case rel=>exact⟨k+1,by omega,by go_num,(HFn.out _).1,(HFn.out _).2⟩
   case measure=>simp[intOf];omega
  ·have hki:¬(k:Int)<(n:Int):=by omega
   have HC6:=hid_in (HRef.out wr (fun hne=>by obtain⟨b,off,q1,q2,q3⟩:=HR.out hne;exact⟨b,off,q1,q2.below HBk.out q3,Nat.lt_of_lt_of_le q3 HBk.out.size⟩));have HL:Hid (Rest wr w.heap.size k n ms):=HRk.out;clear HRk HRef;go_wp2_with fail;refine HC6.out.mono ?_;rintro r w6 ⟨rb,rfl,HN6,HB6⟩;have l0:w6.cell? ⟨w.heap.size,n*7+1,none⟩=some (.int .i64 (-200)):=(HL.out.below HB6.out).last Hn.out hk;have HBt:Hid (Below w.heap.size w w6):=HBk.out.trans (HB6.out.mono HBk.out.size);have hni:(n:Int)<((n+1:Nat):Int):=by omega
   have hn0:(0:Int)≤(n:Int):=by omega
   clear HC6;obtain⟨dv,K1,K2,K3,l1,l2,l3,hst,hq⟩:=HW.out;have hst6:=hst.below HBt.out;obtain⟨tb,cap,vs,hh1,hh2⟩:=HN4.out;obtain⟨R,hrb,hr1,hr2⟩:=HN6.out;have hgd:=mayAll_good HG.out.2 HG.out.1;have hdk:=new_desk hgd.2.2 ⟨hgd.1,hgd.2.1⟩ hh1 hh2 hG3.out HKk.out hr1 hr2 HB6.out;obtain⟨DN,hDN⟩:∃DN:Dk,DN=⟨hb,tb,cap,newHs ms,vs,R,List.replicate ms.length 0,ms⟩:=⟨_,rfl⟩;have hfree:∀k,DN.all k→Free w0 B dv Ds K1 K2 K3 k:=by
    intro j q;rw[hDN] at q;refine hst.free ?_;rcases q with q|q
    ·exact Nat.le_trans HB3.out.size (hh2 j q)
    ·exact Nat.le_trans HBk.out.size (hr2 j q)
   rw[←hDN] at hdk;have hpt:DN.hb=hb∧DN.R.rb=rb:=by rw[hDN];exact⟨rfl,hrb⟩
   obtain⟨dO,dc,hdv⟩:=own_is hst6.row;have b0:w6.cell? ⟨B,0,none⟩=some (.slice dO Ds.length dc):=by rw[hst6.books.blk.cell 0,←hdv];rfl
   have hBl:B<w6.heap.size:=hst6.books.blk.lt;have hBn:¬B=w6.heap.size:=by omega
   have HRow:Hid (w6.ownsRow w0.heap.size 47 2 (.slice dO Ds.length dc) Ds.length (dkCells Ds)):=by unfold Hid;rw[←hdv];exact hst6.row
   have hs0:w0.heap.size≤w6.heap.size:=hst6.bl.size;obtain⟨N,hN⟩:∃N,N=Ds.length:=⟨_,rfl⟩;have HMore:Hid (∀v1 w7,w7.ownsRow w0.heap.size 47 2 v1 (N+1) (dkCells Ds++[.pointer (some ⟨hb,0,none⟩),.pointer (some ⟨rb,0,none⟩)])→(w6.alloc (.cells #[.pointer (some ⟨hb,0,none⟩),.pointer (some ⟨rb,0,none⟩)] 47)).grownBy w7 (Value.ownBlock (.slice dO N dc))→(v1.ownBlock=Value.ownBlock (.slice dO N dc)∨v1.ownBlock=some (w6.heap.size+1))→∃o7 c7,v1= .slice o7 (N+1) c7∧(w7.cell? ⟨B,0,none⟩=some (.slice dO N dc)∧w7.frozen? ⟨B,0,none⟩=false)∧Hid (∃D,WS w0 (w7.setCell ⟨B,0,none⟩ (.slice o7 (N+1) c7)) B (Ds++[D]) e)):=by intro v1 w7 ho hg7 ha7;obtain⟨o7,c7,rfl⟩:=own_is ho;rw[hN] at ho hg7 ha7 ⊢;rw[←hdv] at hg7 ha7 ⊢;rw[←hpt.1,←hpt.2] at ho;obtain⟨q1,q2⟩:=hst6.more hdk hfree ((Below.refl _ _).alloc (Nat.le_refl _) (.cells #[.pointer (some ⟨hb,0,none⟩),.pointer (some ⟨rb,0,none⟩)] 47)) ho hg7 (ha7.imp id fun e=>by rw[e];simp);exact⟨o7,c7,rfl,q1,DN,_,K1,K2,K3,l1,l2,l3,q2,hq⟩
   rw[←hN] at b0 HRow hds;clear hst hst6 hq hh1 hh2 hr1 hr2 hdk hDN hfree hpt hdv hN hgd hrb;have HNw:Hid (∀jj u,[Value.pointer (some ⟨hb,0,none⟩),.pointer (some ⟨rb,0,none⟩)][jj]? =some u→(w6.alloc (.cells #[.pointer (some ⟨hb,0,none⟩),.pointer (some ⟨rb,0,none⟩)] 47)).cell? ((⟨w6.heap.size,0,none⟩:Addr).add jj)=some u):=new_two w6 _ _ _;go_wp2_with (at_builtin;refine wpList_append_own_at _ rfl (.tmp 80) (.tmp 84) 24 rfl w0.heap.size 47 j0 (.agg #[.pointer none,.pointer none]) 2 16 Tryz.underlying24 hj hy0 hy1 hy2 rfl (by decide) _ N _ rfl (HRow.out.alloc _) ⟨w6.heap.size,0,none⟩ 1 1 [.pointer (some ⟨hb,0,none⟩),.pointer (some ⟨rb,0,none⟩)] rfl rfl HNw.out (by intro u hu;simp at hu;rcases hu with rfl|rfl<;>rfl) (by unfold maxLen;omega) (by omega) (by simp;omega) ?_);intro v1 w7 ho7 hg7 _ ha7;obtain⟨o7,c7,rfl,⟨x0,x1⟩,HZ⟩:=HMore.out v1 w7 ho7 hg7 (by simpa using ha7);clear ho7 hg7 ha7 HMore HNw HRow;go_wp2;go_ret;exact⟨rfl,HZ.out⟩
end Go.Proofs.YtidaflmmldefcaaGreat
