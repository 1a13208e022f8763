/- Parts of the proof of Hosts: NewC, Desk, WlM, WlC, NwM. -/
import Derived.Test.YtidaflmmldefcaaGreatQ21
import Derived.Test.YtidaflmmldefcaaGreatQ19
import Derived.Test.YtidaflmmldefcaaGreatQ20
import Derived.Laws.CopyOwn
import Derived.Laws.MakeOwn
import Derived.Lib.LazyBuf
import Derived.Test.YtidaflmmldefcaaGreatQ10
set_option maxHeartbeats 8000000
namespace Go.Proofs.YtidaflmmldefcaaGreat
open Go.RowKit
set_option linter.unusedVariables false
def Mf.may (m:Mf):Bool:=decide (¬m.fuel<1∧¬1000<m.fuel∧¬m.share<1∧¬3<m.share∧¬m.back<1∧¬8<m.back∧¬16≤m.routes∧¬16≤m.pub∧¬16≤m.sub∧(H.decode (H.bts m.prog)).2.1=0)
structure Mf.raw (m:Mf):Prop where
 size:m.prog.size≤maxLen
 routes:0≤m.routes∧m.routes≤255
 pub:0≤m.pub∧m.pub≤255
 sub:0≤m.sub∧m.sub≤255
theorem Mf.may_good {m:Mf} (hr:m.raw) (h:m.may=true):m.good:=by
 have q:=of_decide_eq_true h;obtain⟨a,b,c,d,e,f,g,i,j,k⟩:=q;exact⟨hr.size,k,by omega,⟨hr.routes.1,by omega⟩,⟨hr.pub.1,by omega⟩,⟨hr.sub.1,by omega⟩,by omega,by omega⟩
theorem dec_yes {p:Prop} [Decidable p] (h:p):decide p=true:=by simp[h]
theorem mayBe_any (m:Mf) (hr:m.raw) (w:World):Calls Tryz.prog 40 #[.agg m.arr] w fun e w'=>e= .returned (.bool m.may)∧Below w.heap.size w w':=by
 have HD:Hid (∀ob,Calls Tryz.prog 52 #[.string m.prog] (w.alloc ob) fun e w'=>decEnd (H.bts m.prog) (w.alloc ob).heap.size (w.alloc ob) e w'):=fun ob=>dec_any m.prog (w.alloc ob) hr.size;have HE:Hid (m.may=decide (¬m.fuel<1∧¬1000<m.fuel∧¬m.share<1∧¬3<m.share∧¬m.back<1∧¬8<m.back∧¬16≤m.routes∧¬16≤m.pub∧¬16≤m.sub∧(H.decode (H.bts m.prog)).2.1=0)):=rfl;have HB0:Hid (∀ob,Below w.heap.size w (w.alloc ob)):=fun ob=>(Below.refl _ _).alloc (Nat.le_refl _) _;generalize m.may=res at HE ⊢;obtain⟨pr,fu,ro,pu,su,sh,ba⟩:=m;unfold Mf.arr;simp only at HD HE ⊢;clear hr;by_cases h1:fu<1
 ·have d1:decide (fu<1)=true:=dec_yes h1;have HR:Hid (res=false):=by unfold Hid;rw[HE.out,decide_eq_false_iff_not];intro q;obtain⟨q1,q2,q3,q4,q5,q6,q7,q8,q9,q10⟩:=q;exact absurd h1 (by assumption)
  go_enter Tryz.func40,Tryz.ntmps40;go_wp2;go_ret;rw[HR.out];exact⟨rfl,HB0.out _⟩
 have d1:decide (fu<1)=false:=dec_no h1;by_cases h2:1000<fu
 ·have d2:decide (1000<fu)=true:=dec_yes h2;have HR:Hid (res=false):=by unfold Hid;rw[HE.out,decide_eq_false_iff_not];intro q;obtain⟨q1,q2,q3,q4,q5,q6,q7,q8,q9,q10⟩:=q;exact absurd h2 (by assumption)
  go_enter Tryz.func40,Tryz.ntmps40;go_wp2;go_ret;rw[HR.out];exact⟨rfl,HB0.out _⟩
 have d2:decide (1000<fu)=false:=dec_no h2;by_cases h3:sh<1
 ·have d3:decide (sh<1)=true:=dec_yes h3;have HR:Hid (res=false):=by unfold Hid;rw[HE.out,decide_eq_false_iff_not];intro q;obtain⟨q1,q2,q3,q4,q5,q6,q7,q8,q9,q10⟩:=q;exact absurd h3 (by assumption)
  go_enter Tryz.func40,Tryz.ntmps40;go_wp2;go_ret;rw[HR.out];exact⟨rfl,HB0.out _⟩
 have d3:decide (sh<1)=false:=dec_no h3;by_cases h4:3<sh
 ·have d4:decide (3<sh)=true:=dec_yes h4;have HR:Hid (res=false):=by unfold Hid;rw[HE.out,decide_eq_false_iff_not];intro q;obtain⟨q1,q2,q3,q4,q5,q6,q7,q8,q9,q10⟩:=q;exact absurd h4 (by assumption)
  go_enter Tryz.func40,Tryz.ntmps40;go_wp2;go_ret;rw[HR.out];exact⟨rfl,HB0.out _⟩
 have d4:decide (3<sh)=false:=dec_no h4;by_cases h5:ba<1
 ·have d5:decide (ba<1)=true:=dec_yes h5;have HR:Hid (res=false):=by unfold Hid;rw[HE.out,decide_eq_false_iff_not];intro q;obtain⟨q1,q2,q3,q4,q5,q6,q7,q8,q9,q10⟩:=q;exact absurd h5 (by assumption)
  go_enter Tryz.func40,Tryz.ntmps40;go_wp2;go_ret;rw[HR.out];exact⟨rfl,HB0.out _⟩
 have d5:decide (ba<1)=false:=dec_no h5;by_cases h6:8<ba
 ·have d6:decide (8<ba)=true:=dec_yes h6;have HR:Hid (res=false):=by unfold Hid;rw[HE.out,decide_eq_false_iff_not];intro q;obtain⟨q1,q2,q3,q4,q5,q6,q7,q8,q9,q10⟩:=q;exact absurd h6 (by assumption)
  go_enter Tryz.func40,Tryz.ntmps40;go_wp2;go_ret;rw[HR.out];exact⟨rfl,HB0.out _⟩
 have d6:decide (8<ba)=false:=dec_no h6;by_cases h7:16≤ro
 ·have d7:decide (16≤ro)=true:=dec_yes h7;have HR:Hid (res=false):=by unfold Hid;rw[HE.out,decide_eq_false_iff_not];intro q;obtain⟨q1,q2,q3,q4,q5,q6,q7,q8,q9,q10⟩:=q;exact absurd h7 (by assumption)
  go_enter Tryz.func40,Tryz.ntmps40;go_wp2;go_ret;rw[HR.out];exact⟨rfl,HB0.out _⟩
 have d7:decide (16≤ro)=false:=dec_no h7;by_cases h8:16≤pu
 ·have d8:decide (16≤pu)=true:=dec_yes h8;have HR:Hid (res=false):=by unfold Hid;rw[HE.out,decide_eq_false_iff_not];intro q;obtain⟨q1,q2,q3,q4,q5,q6,q7,q8,q9,q10⟩:=q;exact absurd h8 (by assumption)
  go_enter Tryz.func40,Tryz.ntmps40;go_wp2;go_ret;rw[HR.out];exact⟨rfl,HB0.out _⟩
 have d8:decide (16≤pu)=false:=dec_no h8;by_cases h9:16≤su
 ·have d9:decide (16≤su)=true:=dec_yes h9;have HR:Hid (res=false):=by unfold Hid;rw[HE.out,decide_eq_false_iff_not];intro q;obtain⟨q1,q2,q3,q4,q5,q6,q7,q8,q9,q10⟩:=q;exact absurd h9 (by assumption)
  go_enter Tryz.func40,Tryz.ntmps40;go_wp2;go_ret;rw[HR.out];exact⟨rfl,HB0.out _⟩
 have d9:decide (16≤su)=false:=dec_no h9;have HR:Hid (res=((H.decode (H.bts pr)).2.1==0)):=by
  unfold Hid;rw[HE.out];by_cases q:(H.decode (H.bts pr)).2.1=0
  ·rw[dec_yes (And.intro h1 (And.intro h2 (And.intro h3 (And.intro h4 (And.intro h5 (And.intro h6 (And.intro h7 (And.intro h8 (And.intro h9 q))))))))),q];rfl
  ·rw[decide_eq_false (fun z=>q z.2.2.2.2.2.2.2.2.2),beq_eq_false_iff_ne.2 q]
 go_enter Tryz.func40,Tryz.ntmps40;go_wp2_with fail;refine(HD.out _).mono ?_;rintro e w1 ⟨v,rfl,ho,hb⟩;generalize (H.decode (H.bts pr)).2.1=q at HR;have HB:Hid (Below w.heap.size w w1):=((Below.refl _ _).alloc (Nat.le_refl _) _).trans (hb.mono (by simp));clear ho hb;go_wp2;go_ret;rw[HR.out];exact⟨rfl,HB.out⟩
def mayAll (l:List Mf):Bool:=decide (1≤l.length∧l.length≤4)&&l.all Mf.may
theorem isManifest_any (b off cap:Nat) (l:List Mf) (w:World) (hlm:l.length≤maxLen) (hg:∀m∈l,m.raw) (hr:MfRow w b off l) (hb:b<w.heap.size): Calls Tryz.prog 33 #[.slice (some ⟨b,off,none⟩) l.length cap] w fun e w'=>e= .returned (.bool (mayAll l))∧Below w.heap.size w w':=by
 obtain⟨n,hn⟩:∃n,n=l.length:=⟨_,rfl⟩;have Hn:Hid (l.length=n):=hn.symm;have HG:Hid (∀m∈l,m.raw):=hg;have HR:Hid (MfRow w b off l):=hr;have HE:Hid (mayAll l=(decide (1≤n∧n≤4)&&l.all Mf.may)):=by unfold Hid mayAll;rw[←hn]
 rw[←hn] at hlm ⊢;unfold maxLen at hlm;clear hn hg hr;by_cases h1:n<1
 ·have d1:decide ((n:Int)<1)=true:=dec_yes (by omega);have e1:(n:Int)<1:=by omega
  have HF:Hid (mayAll l=false):=by unfold Hid;rw[HE.out,dec_no (by omega:¬(1≤n∧n≤4))];rfl
  go_enter Tryz.func33,Tryz.ntmps33;go_wp2;go_ret;rw[HF.out];exact⟨rfl,Below.refl _ _⟩
 have d1:decide ((n:Int)<1)=false:=dec_no (by omega);have e1:¬(n:Int)<1:=by omega
 by_cases h4:4<n
 ·have d2:decide ((4:Int)<(n:Int))=true:=dec_yes (by omega);have e2:(4:Int)<(n:Int):=by omega
  have HF:Hid (mayAll l=false):=by unfold Hid;rw[HE.out,dec_no (by omega:¬(1≤n∧n≤4))];rfl
  go_enter Tryz.func33,Tryz.ntmps33;go_wp2;go_ret;rw[HF.out];exact⟨rfl,Below.refl _ _⟩
 have d2:decide ((4:Int)<(n:Int))=false:=dec_no (by omega);have e2:¬(4:Int)<(n:Int):=by omega
 have HF:Hid (mayAll l=l.all Mf.may):=by unfold Hid;rw[HE.out,dec_yes (by omega:(1≤n∧n≤4))];rfl
 go_enter Tryz.func33,Tryz.ntmps33;go_wp2_with fail;go_loopw [15] (fun i wr=>∃k:Nat,k≤n∧i= .int .i64 k∧Hid (Below w.heap.size w wr)∧Hid ((l.take k).all Mf.may=true))
  (fun i _=>n-(intOf i).toNat)
 case atStart=>exact⟨0,Nat.zero_le _,rfl,Below.refl _ _,rfl⟩
 case round=>
  obtain⟨k,hk,rfl,HB,HY⟩:=hrel;have hsz:=HB.out.size;by_cases hlt:k<n
  ·obtain⟨m,hm⟩:∃m,l[k]? =some m:=⟨l[k]'(by have:=Hn.out;omega),List.getElem?_eq_getElem (by have:=Hn.out;omega)⟩;have hrow:=(HR.out.below HB.out hb) k m hm;have HM:Hid (∀u,Calls Tryz.prog 40 #[.agg m.arr] u fun e w'=>e= .returned (.bool m.may)∧Below u.heap.size u w'):=fun u=>mayBe_any m (HG.out m (List.mem_of_getElem? hm)) u;have HY1:Hid ((l.take (k+1)).all Mf.may=m.may):=by unfold Hid;rw[List.take_add_one,hm];simp[List.all_append,HY.out]
   have HY2:Hid (m.may=false→l.all Mf.may=false):=by intro q;rw[List.all_eq_false];exact⟨m,List.mem_of_getElem? hm,by simp[q]⟩
   generalize m.may=ok at HM HY1 HY2;obtain⟨pr,fu,ro,pu,su,sh,ba⟩:=m;have c0:wr.cell? ⟨b,off+k*7,none⟩=some (.string pr):=hrow 0 _ rfl;have c1:wr.cell? ⟨b,off+k*7+1,none⟩=some (.int .i64 fu):=hrow 1 _ rfl;have c2:wr.cell? ⟨b,off+k*7+2,none⟩=some (.int .u8 ro):=hrow 2 _ rfl;have c3:wr.cell? ⟨b,off+k*7+3,none⟩=some (.int .u8 pu):=hrow 3 _ rfl;have c4:wr.cell? ⟨b,off+k*7+4,none⟩=some (.int .u8 su):=hrow 4 _ rfl;have c5:wr.cell? ⟨b,off+k*7+5,none⟩=some (.int .i64 sh):=hrow 5 _ rfl;have c6:wr.cell? ⟨b,off+k*7+6,none⟩=some (.int .i64 ba):=hrow 6 _ rfl;unfold Mf.arr at HM;simp only at HM;have hki:(k:Int)<(n:Int):=by omega
   have hk0:(0:Int)≤(k:Int):=by omega
   clear hm hrow;go_wp2_with fail;refine(HM.out _).mono ?_;rintro e w1 ⟨rfl,hb1⟩;have HB1:Hid (Below w.heap.size w w1):=(HB.out.alloc hsz _).trans (hb1.mono (by simp;omega));clear hb1;cases ok with
   |true=>
    go_wp2;go_roundw
    case rel=>exact⟨k+1,by omega,by go_num,HB1.out,HY1.out⟩
    case measure=>simp[intOf];omega
   |false=>have HZ:Hid (l.all Mf.may=false):=HY2.out rfl;go_wp2;go_ret;rw[HF.out,HZ.out];exact⟨rfl,HB1.out⟩
  ·have hkn:k=n:=by omega
   subst hkn;have hki:¬(k:Int)<(k:Int):=by omega
   have HZ:Hid (l.all Mf.may=true):=by have q:=HY.out;rw[List.take_of_length_le (by have:=Hn.out;omega)] at q;exact q
   go_wp2;go_ret;rw[HF.out,HZ.out];exact⟨rfl,HB.out⟩
theorem new_bad (b off ncap:Nat) (ms:List Mf) (w:World) (hlm:ms.length≤maxLen) (hg:∀m∈ms,m.raw) (hr:MfRow w b off ms) (hb:b<w.heap.size) (hno:mayAll ms=false): Calls Tryz.prog 10 #[.slice (some ⟨b,off,none⟩) ms.length ncap] w fun e w'=>e= .returned (.tuple #[.pointer none,.int .i64 5])∧Below w.heap.size w w':=by
 have HI:Hid (Calls Tryz.prog 33 #[.slice (some ⟨b,off,none⟩) ms.length ncap] w fun e w'=>e= .returned (.bool false)∧Below w.heap.size w w'):=by have q:=isManifest_any b off ncap ms w hlm hg hr hb;rw[hno] at q;exact q
 generalize ms.length=n at HI;clear hr hg;go_enter Tryz.func10,Tryz.ntmps10;go_wp2_with fail;refine HI.out.mono ?_;rintro e w1 ⟨rfl,hb1⟩;have HB1:Hid (Below w.heap.size w w1):=hb1;clear hb1 HI;go_wp2;go_ret2;exact⟨rfl,HB1.out⟩
theorem mayAll_good {l:List Mf} (hr:∀m∈l,m.raw) (h:mayAll l=true):1≤l.length∧l.length≤4∧∀m∈l,m.good:=by
 unfold mayAll at h;rw[Bool.and_eq_true] at h;have q:=of_decide_eq_true h.1;exact⟨q.1,q.2,fun m hm=>Mf.may_good (hr m hm) (List.all_eq_true.1 h.2 m hm)⟩
section
variable {w w' : World} {hb tb cap : Nat} {H : Hs} {vs : List Vs} {R : RB} {held : List Int}
theorem known_any (h:RefAt w R H held) (t:Int) (hp:Nat): Calls Tryz.prog 18 #[.agg #[.pointer (some ⟨hp,0,none⟩),.pointer (some ⟨R.rb,0,none⟩)],.int .i64 t] w fun e w'=>e= .returned (.bool (decide (0≤t∧t<(H.ts.length:Int))))∧Below w.heap.size w w':=by
 have c0:w.cell? ⟨R.rb,0,none⟩=some (.slice (some ⟨R.m,0,none⟩) H.ts.length R.mc):=by rw[h.host.cell 0];rfl
 have hl:=h.host.lt;have hne:¬R.rb=w.heap.size:=by omega
 have HB:Hid (∀ob,Below w.heap.size w (w.alloc ob)):=fun ob=>(Below.refl _ _).alloc (Nat.le_refl _) _;generalize H.ts.length=n at c0 ⊢;obtain⟨res,hres⟩:∃res,res=decide (0≤t∧t<(n:Int)):=⟨_,rfl⟩;have HE:Hid (res=decide (0≤t∧t<(n:Int))):=hres;rw[←hres];clear h hres;by_cases h0:0≤t
 ·have d0:decide (0≤t)=true:=dec_yes h0;by_cases h1:t<(n:Int)
  ·have HR:Hid (res=true):=by unfold Hid;rw[HE.out];exact dec_yes ⟨h0,h1⟩
   go_enter Tryz.func18,Tryz.ntmps18;go_wp2;go_ret;rw[HR.out];exact⟨rfl,HB.out _⟩
  ·have HR:Hid (res=false):=by unfold Hid;rw[HE.out];exact decide_eq_false fun q=>h1 q.2
   go_enter Tryz.func18,Tryz.ntmps18;go_wp2;go_ret;rw[HR.out];exact⟨rfl,HB.out _⟩
 ·have HR:Hid (res=false):=by unfold Hid;rw[HE.out];exact decide_eq_false fun q=>h0 q.1
  have d0:decide (0≤t)=false:=decide_eq_false h0;go_enter Tryz.func18,Tryz.ntmps18;go_wp2;go_ret;rw[HR.out];exact⟨rfl,HB.out _⟩
set_option maxRecDepth 100000 in
theorem dphase_any (hH:HostAt w hb tb cap H vs) (hR:RefAt w R H held) (t:Int) (hn:H.ts.length≤4) (htb:tb<w.heap.size) (hok:∀x∈H.ts,0≤x.phase∧x.phase≤255): Calls Tryz.prog 8 #[.agg #[.pointer (some ⟨hb,0,none⟩),.pointer (some ⟨R.rb,0,none⟩)],.int .i64 t] w fun e w'=>e= .returned (.bool true)∧Below w.heap.size w w':=by
 obtain⟨W,hW⟩:∃W,W=w.alloc (.cells #[.pointer (some ⟨hb,0,none⟩),.pointer (some ⟨R.rb,0,none⟩)] 47):=⟨_,rfl⟩;have hbW:Below w.heap.size w W:=by rw[hW];exact(Below.refl _ _).alloc (Nat.le_refl _) _
 have HB0:Hid (Below w.heap.size w W):=hbW;have HHW:Hid (HostAt W hb tb cap H vs):=hH.below hbW htb;have HRW:Hid (RefAt W R H held):=hR.below hbW;have HLW:Hid (Blk W w.heap.size #[.pointer (some ⟨hb,0,none⟩),.pointer (some ⟨R.rb,0,none⟩)] 47):=by unfold Hid;rw[hW];exact Blk.new w _ 47
 have l0:W.cell? ⟨w.heap.size,0,none⟩=some (.pointer (some ⟨hb,0,none⟩)):=by rw[HLW.out.cell 0];rfl
 have hsW:w.heap.size≤W.heap.size:=hbW.size;have htW:tb<W.heap.size:=by omega
 by_cases hk:0≤t∧t<(H.ts.length:Int)
 ·obtain⟨i,hi⟩:∃i:Nat,(i:Int)=t:=⟨t.toNat,by omega⟩;subst hi;obtain⟨x,hx⟩:∃x,H.ts[i]? =some x:=⟨H.ts[i]'(by omega),List.getElem?_eq_getElem (by omega)⟩;have HP:Hid (Calls Tryz.prog 28 #[.pointer (some ⟨hb,0,none⟩),.int .i64 (i:Int)] W fun e w'=>e= .returned (.int .u8 x.phase)∧W=w'):=phase_any HHW.out i hx (by omega);have HC:Hid (Calls Tryz.prog 29 #[.pointer (some ⟨hb,0,none⟩),.int .i64 (i:Int)] W fun e w'=>e= .returned (.agg #[.int .u16 (x.cells.getD 0 0),.int .u16 (x.cells.getD 1 0),.int .u16 (x.cells.getD 2 0),.int .u16 (x.cells.getD 3 0),.int .u16 (x.cells.getD 4 0),.int .u16 (x.cells.getD 5 0),.int .u16 (x.cells.getD 6 0),.int .u16 (x.cells.getD 7 0)])∧Below W.heap.size W w'):=cells_any HHW.out i hx (by omega) htW;have HKn:Hid (∀u,Below W.heap.size W u→Calls Tryz.prog 18 #[.agg #[.pointer (some ⟨hb,0,none⟩),.pointer (some ⟨R.rb,0,none⟩)],.int .i64 (i:Int)] u fun e w'=>e= .returned (.bool true)∧Below u.heap.size u w'):=by intro u hu;have q:=known_any (HRW.out.below hu) (i:Int) hb;rw[decide_eq_true hk] at q;exact q
  have hil:i<H.ts.length:=by omega
  have HCell:Hid (∀u,Below W.heap.size W u→u.cell? ⟨w.heap.size,0,none⟩=some (.pointer (some ⟨hb,0,none⟩))∧u.cell? ⟨w.heap.size,1,none⟩=some (.pointer (some ⟨R.rb,0,none⟩))∧u.cell? ⟨R.rb,3,none⟩=some (.slice (some ⟨R.p,0,none⟩) H.ts.length R.pc)∧u.cell? ⟨R.rb,4,none⟩=some (.slice (some ⟨R.c,0,none⟩) H.ts.length R.cc)∧u.cell? ⟨R.p,i,none⟩=some (.int .i64 x.phase)∧∀j,j<8→u.cell? ⟨R.c,i*8+j,none⟩=some (.int .u16 (x.cells.getD j 0))):=by intro u hu;have a1:=HRW.out.below hu;have hL:=HLW.out.below hu HLW.out.lt;refine⟨by rw[hL.cell 0];rfl,by rw[hL.cell 1];rfl,by rw[a1.host.cell 3];rfl,by rw[a1.host.cell 4];rfl,own_cellN a1.rp (by rw[List.getElem?_map,hx];rfl),fun j hj=>own_cellN a1.rc (cells8_get _ i x hx j hj)⟩
  obtain⟨p0,p1⟩:=hok x (List.mem_of_getElem? hx);have hw:IntKind.i64.wrap x.phase=x.phase:=by rw[IntKind.wrap_i64];omega
  have hti:(i:Int)<(H.ts.length:Int):=by omega
  have ht0:(0:Int)≤(i:Int):=by omega
  obtain⟨a0,ha0⟩:∃a,a=x.cells.getD 0 0:=⟨_,rfl⟩;obtain⟨a1,ha1⟩:∃a,a=x.cells.getD 1 0:=⟨_,rfl⟩;obtain⟨a2,ha2⟩:∃a,a=x.cells.getD 2 0:=⟨_,rfl⟩;obtain⟨a3,ha3⟩:∃a,a=x.cells.getD 3 0:=⟨_,rfl⟩;obtain⟨a4,ha4⟩:∃a,a=x.cells.getD 4 0:=⟨_,rfl⟩;obtain⟨a5,ha5⟩:∃a,a=x.cells.getD 5 0:=⟨_,rfl⟩;obtain⟨a6,ha6⟩:∃a,a=x.cells.getD 6 0:=⟨_,rfl⟩;obtain⟨a7,ha7⟩:∃a,a=x.cells.getD 7 0:=⟨_,rfl⟩;have HCl:Hid (∀u,Below W.heap.size W u→u.cell? ⟨R.c,i*8,none⟩=some (.int .u16 a0)∧u.cell? ⟨R.c,i*8+1,none⟩=some (.int .u16 a1)∧u.cell? ⟨R.c,i*8+2,none⟩=some (.int .u16 a2)∧u.cell? ⟨R.c,i*8+3,none⟩=some (.int .u16 a3)∧u.cell? ⟨R.c,i*8+4,none⟩=some (.int .u16 a4)∧u.cell? ⟨R.c,i*8+5,none⟩=some (.int .u16 a5)∧u.cell? ⟨R.c,i*8+6,none⟩=some (.int .u16 a6)∧u.cell? ⟨R.c,i*8+7,none⟩=some (.int .u16 a7)):=by intro u hu;have q:=(HCell.out u hu).2.2.2.2.2;rw[ha0,ha1,ha2,ha3,ha4,ha5,ha6,ha7];exact⟨q 0 (by decide),q 1 (by decide),q 2 (by decide),q 3 (by decide),q 4 (by decide),q 5 (by decide),q 6 (by decide),q 7 (by decide)⟩
  rw[←ha0,←ha1,←ha2,←ha3,←ha4,←ha5,←ha6,←ha7] at HC;have HCe:Hid (∀u,Below W.heap.size W u→u.cell? ⟨w.heap.size,0,none⟩=some (.pointer (some ⟨hb,0,none⟩))∧u.cell? ⟨w.heap.size,1,none⟩=some (.pointer (some ⟨R.rb,0,none⟩))∧u.cell? ⟨R.rb,3,none⟩=some (.slice (some ⟨R.p,0,none⟩) H.ts.length R.pc)∧u.cell? ⟨R.rb,4,none⟩=some (.slice (some ⟨R.c,0,none⟩) H.ts.length R.cc)∧u.cell? ⟨R.p,i,none⟩=some (.int .i64 x.phase)):=by intro u hu;obtain⟨q1,q2,q3,q4,q5,_⟩:=HCell.out u hu;exact⟨q1,q2,q3,q4,q5⟩
  clear HCell ha0 ha1 ha2 ha3 ha4 ha5 ha6 ha7;generalize x.phase=ph at HP HCe hw p0 p1;clear hH hR hok hk hbW hx;go_enter Tryz.func8,Tryz.ntmps8;go_wp2_with fail;rw[←hW];clear hW;refine HP.out.mono ?_;rintro e w1 ⟨rfl,rfl⟩;go_wp2_with fail;refine HC.out.mono ?_;rintro e w2 ⟨rfl,hb2⟩;have HB2:Hid (Below W.heap.size W w2):=hb2;have hs2:=hb2.size;have hlw:w.heap.size<W.heap.size:=HLW.out.lt;have hnw:¬w.heap.size=w2.heap.size:=by omega
  have m2:∀ob,(w2.alloc ob).cell? ⟨w.heap.size,0,none⟩=some (.pointer (some ⟨hb,0,none⟩)):=fun ob=>(HCe.out _ (HB2.out.alloc hs2 ob)).1;have m3:∀ob,(w2.alloc ob).cell? ⟨w.heap.size,1,none⟩=some (.pointer (some ⟨R.rb,0,none⟩)):=fun ob=>(HCe.out _ (HB2.out.alloc hs2 ob)).2.1;clear hb2;go_wp2_with fail;refine(HKn.out _ (HB2.out.alloc hs2 _)).mono ?_;rintro e w3 ⟨rfl,hb3⟩;have hbb:Below W.heap.size W w3:=(HB2.out.alloc hs2 (.cells #[.int .u16 a0,.int .u16 a1,.int .u16 a2,.int .u16 a3,.int .u16 a4,.int .u16 a5,.int .u16 a6,.int .u16 a7] 82)).trans (hb3.mono (by simp;omega));have HB3:Hid (Below w.heap.size w w3):=HB0.out.trans (hbb.mono hsW);have hZ:=(Blk.new w2 #[.int .u16 a0,.int .u16 a1,.int .u16 a2,.int .u16 a3,.int .u16 a4,.int .u16 a5,.int .u16 a6,.int .u16 a7] 82).below hb3 (by simp);have z0:w3.cell? ⟨w2.heap.size,0,none⟩=some (.int .u16 a0):=by rw[hZ.cell 0];rfl
  have z1:w3.cell? ⟨w2.heap.size,1,none⟩=some (.int .u16 a1):=by rw[hZ.cell 1];rfl
  have z2:w3.cell? ⟨w2.heap.size,2,none⟩=some (.int .u16 a2):=by rw[hZ.cell 2];rfl
  have z3:w3.cell? ⟨w2.heap.size,3,none⟩=some (.int .u16 a3):=by rw[hZ.cell 3];rfl
  have z4:w3.cell? ⟨w2.heap.size,4,none⟩=some (.int .u16 a4):=by rw[hZ.cell 4];rfl
  have z5:w3.cell? ⟨w2.heap.size,5,none⟩=some (.int .u16 a5):=by rw[hZ.cell 5];rfl
  have z6:w3.cell? ⟨w2.heap.size,6,none⟩=some (.int .u16 a6):=by rw[hZ.cell 6];rfl
  have z7:w3.cell? ⟨w2.heap.size,7,none⟩=some (.int .u16 a7):=by rw[hZ.cell 7];rfl
  obtain⟨q0,q1,q2,q3,q4⟩:=HCe.out w3 hbb;obtain⟨k0,k1,k2,k3,k4,k5,k6,k7⟩:=HCl.out w3 hbb;clear hb3 hZ hbb m2 m3;have hq8:=fun W=>arr8_eq a0 a1 a2 a3 a4 a5 a6 a7 W;go_wp2_with fail;go_quiet (fail);go_wp2;go_ret;exact⟨rfl,⟨HB3.out.os,HB3.out.tape,HB3.out.output,HB3.out.size,HB3.out.block⟩⟩
 ·have HP:Hid (Calls Tryz.prog 28 #[.pointer (some ⟨hb,0,none⟩),.int .i64 t] W fun e w'=>e= .returned (.int .u8 0)∧W=w'):=phase_no HHW.out hk;have HC:Hid (Calls Tryz.prog 29 #[.pointer (some ⟨hb,0,none⟩),.int .i64 t] W fun e w'=>e= .returned (.agg #[.int .u16 0,.int .u16 0,.int .u16 0,.int .u16 0,.int .u16 0,.int .u16 0,.int .u16 0,.int .u16 0])∧Below W.heap.size W w'):=cells_no HHW.out hk htW;have HKn:Hid (∀u,Below W.heap.size W u→Calls Tryz.prog 18 #[.agg #[.pointer (some ⟨hb,0,none⟩),.pointer (some ⟨R.rb,0,none⟩)],.int .i64 t] u fun e w'=>e= .returned (.bool false)∧Below u.heap.size u w'):=by intro u hu;have q:=known_any (HRW.out.below hu) t hb;rw[decide_eq_false hk] at q;exact q
  clear hH hR hok hk hbW;go_enter Tryz.func8,Tryz.ntmps8;go_wp2_with fail;rw[←hW];clear hW;refine HP.out.mono ?_;rintro e w1 ⟨rfl,rfl⟩;go_wp2_with fail;refine HC.out.mono ?_;rintro e w2 ⟨rfl,hb2⟩;have HB2:Hid (Below W.heap.size W w2):=hb2;have hs2:=hb2.size;have m0:w2.cell? ⟨w.heap.size,0,none⟩=some (.pointer (some ⟨hb,0,none⟩)):=by rw[(HLW.out.below hb2 HLW.out.lt).cell 0];rfl
  have m1:w2.cell? ⟨w.heap.size,1,none⟩=some (.pointer (some ⟨R.rb,0,none⟩)):=by rw[(HLW.out.below hb2 HLW.out.lt).cell 1];rfl
  have hlw:w.heap.size<W.heap.size:=HLW.out.lt;have hnw:¬w.heap.size=w2.heap.size:=by omega
  have m2:∀ob,(w2.alloc ob).cell? ⟨w.heap.size,0,none⟩=some (.pointer (some ⟨hb,0,none⟩)):=fun ob=>by rw[((HLW.out.below hb2 HLW.out.lt).alloc ob).cell 0];rfl
  have m3:∀ob,(w2.alloc ob).cell? ⟨w.heap.size,1,none⟩=some (.pointer (some ⟨R.rb,0,none⟩)):=fun ob=>by rw[((HLW.out.below hb2 HLW.out.lt).alloc ob).cell 1];rfl
  clear hb2;go_wp2_with fail;refine(HKn.out _ (HB2.out.alloc hs2 _)).mono ?_;rintro e w3 ⟨rfl,hb3⟩;have HB3:Hid (Below w.heap.size w w3):=HB0.out.trans (((HB2.out.alloc hs2 (.cells #[.int .u16 0,.int .u16 0,.int .u16 0,.int .u16 0,.int .u16 0,.int .u16 0,.int .u16 0,.int .u16 0] 82)).trans (hb3.mono (by simp;omega))).mono hsW);have hZ:=(Blk.new w2 #[.int .u16 0,.int .u16 0,.int .u16 0,.int .u16 0,.int .u16 0,.int .u16 0,.int .u16 0,.int .u16 0] 82).below hb3 (by simp);have z0:w3.cell? ⟨w2.heap.size,0,none⟩=some (.int .u16 0):=by rw[hZ.cell 0];rfl
  have z1:w3.cell? ⟨w2.heap.size,1,none⟩=some (.int .u16 0):=by rw[hZ.cell 1];rfl
  have z2:w3.cell? ⟨w2.heap.size,2,none⟩=some (.int .u16 0):=by rw[hZ.cell 2];rfl
  have z3:w3.cell? ⟨w2.heap.size,3,none⟩=some (.int .u16 0):=by rw[hZ.cell 3];rfl
  have z4:w3.cell? ⟨w2.heap.size,4,none⟩=some (.int .u16 0):=by rw[hZ.cell 4];rfl
  have z5:w3.cell? ⟨w2.heap.size,5,none⟩=some (.int .u16 0):=by rw[hZ.cell 5];rfl
  have z6:w3.cell? ⟨w2.heap.size,6,none⟩=some (.int .u16 0):=by rw[hZ.cell 6];rfl
  have z7:w3.cell? ⟨w2.heap.size,7,none⟩=some (.int .u16 0):=by rw[hZ.cell 7];rfl
  clear hb3 hZ;have hq8:=fun W=>arr8_eq 0 0 0 0 0 0 0 0 W;go_wp2;go_ret;exact⟨rfl,HB3.out⟩
end
structure Dk where
 hb:Nat
 tb:Nat
 cap:Nat
 H:Hs
 vs:List Vs
 R:RB
 held:List Int
 ms:List Mf
def Dk.all (D:Dk) (k:Nat):Prop:=ownOf D.hb D.tb D.vs k∨refAll D.R k
structure DkAt (w:World) (D:Dk):Prop where
 host:HostAt w D.hb D.tb D.cap D.H D.vs
 ref:RefAt w D.R D.H D.held
 inv:HI D.ms D.H
 len:1≤D.ms.length∧D.ms.length≤4
 held:∀k∈D.held,k≤D.H.frames
 apart:∀k,ownOf D.hb D.tb D.vs k→¬refAll D.R k
section
variable {w w' w1 w2 : World} {D : Dk}
theorem HostAt.keepA {hb tb cap:Nat} {H:Hs} {vs:List Vs} (h:HostAt w hb tb cap H vs) (hk:∀k,ownOf hb tb vs k→w'.heap[k]? =w.heap[k]?):HostAt w' hb tb cap H vs:=by
 refine⟨h.host.of_block (hk hb (Or.inl rfl)),h.len,?_,h.boxes,h.logs⟩;intro i x v hx hv;have ht:=h.ten i x v hx hv;have hm:v∈vs:=List.mem_of_getElem? hv;exact⟨ht.slot.keep (hk tb (Or.inr (Or.inl rfl))),own_block ht.nodes fun k hk'=>hk k (Or.inr (Or.inr ⟨v,hm,Or.inr (Or.inr hk'.symm)⟩)),ht.box.keep fun k hk'=>hk k (Or.inr (Or.inr ⟨v,hm,Or.inl hk'.symm⟩)),own_block ht.log fun k hk'=>hk k (Or.inr (Or.inr ⟨v,hm,Or.inr (Or.inl hk'.symm)⟩))⟩
theorem DkAt.ne (h:DkAt w D):D.H.ts≠[]:=by
 intro e;have h1:=h.inv.len;have h2:=h.len.1;rw[e] at h1;simp at h1;omega
theorem DkAt.n4 (h:DkAt w D):D.H.ts.length≤4:=by have:=h.inv.len;have:=h.len.2;omega
theorem own_lt {hb tb cap:Nat} {H:Hs} {vs:List Vs} (h:HostAt w hb tb cap H vs) (hne:H.ts≠[]) {k:Nat} (hk:ownOf hb tb vs k):k<w.heap.size:=by
 obtain⟨_,_,q,_⟩:=h.own_ty hne hk;exact q.lt
abbrev dkTy (t:TypeId):Prop:=inTy t∨t=86∨t=88
theorem DkAt.ty (h:DkAt w D) {k:Nat} (hk:D.all k):∃cs t,Blk w k cs t∧dkTy t:=by
 rcases hk with q|q
 ·obtain⟨cs,t,b,e⟩:=h.host.own_ty h.ne q;refine⟨cs,t,b,?_⟩;rcases e with rfl|rfl|rfl|rfl|rfl<;>decide
 ·obtain⟨cs,t,b,e⟩:=h.ref.all_ty q;exact⟨cs,t,b,Or.inl e⟩
theorem DkAt.lt (h:DkAt w D) {k:Nat} (hk:D.all k):k<w.heap.size:=by
 obtain⟨_,_,q,_⟩:=h.ty hk;exact q.lt
theorem DkAt.keep (h:DkAt w D) (hk:∀k,D.all k→w'.heap[k]? =w.heap[k]?):DkAt w' D:=⟨h.host.keepA fun k q=>hk k (Or.inl q),h.ref.keep fun k q=>hk k (Or.inr q),h.inv,h.len,h.held,h.apart⟩
theorem DkAt.below (h:DkAt w D) (hb:Below w.heap.size w w'):DkAt w' D:=h.keep fun k hk=>hb.block k (h.lt hk)
theorem DkAt.first (h:DkAt w D) {H':Hs} (hh:HAft w D.hb D.tb D.cap D.vs H' w1):RefAt w1 D.R D.H D.held:=by
 obtain⟨vs',a1,a2,a3⟩:=hh;exact h.ref.keep fun k hk=>a2.block k (h.ref.all_lt hk) fun q=>h.apart k q hk
theorem DkAt.both (h:DkAt w D) {H':Hs} {held':List Int} (hh:HAft w D.hb D.tb D.cap D.vs H' w1) (hr:RAft w1 D.R H' held' w2) (hi:HI D.ms H') (hd:∀k∈held',k≤H'.frames): ∃D',DkAt w2 D'∧(D'.hb=D.hb∧D'.R.rb=D.R.rb)∧Kept D.all w w2∧∀k,D'.all k→D.all k∨w.heap.size≤k:=by
 obtain⟨vs',a1,a2,a3⟩:=hh;obtain⟨nv,bv,lv,b1,b2,b3⟩:=hr;have hne:H'.ts≠[]:=by intro e;have h1:=hi.len;have h2:=h.len.1;rw[e] at h1;simp at h1;omega
 have olt:∀k,ownOf D.hb D.tb vs' k→k<w1.heap.size:=fun k q=>own_lt a1 hne q;have nref:∀k,ownOf D.hb D.tb vs' k→¬refAll D.R k:=by
  intro k q hr;rcases a3 k q with e|e
  ·exact h.apart k e hr
  ·have:=h.ref.all_lt hr;omega
 have rall:∀k,refAll {D.R with nv:=nv,bv:=bv,lv:=lv} k→refAll D.R k∨w1.heap.size≤k:=by
  intro k q;rcases q with q|q|⟨v,hv,q⟩
  ·rcases b3 k q with e|e
   ·exact Or.inl (Or.inl e)
   ·exact Or.inr e
  ·exact Or.inl (Or.inr (Or.inl q))
  ·rcases b3 k (refOwn_nv hv q.symm) with e|e
   ·exact Or.inl (Or.inl e)
   ·exact Or.inr e
 refine⟨⟨D.hb,D.tb,D.cap,H',vs',{D.R with nv:=nv,bv:=bv,lv:=lv},held',D.ms⟩,⟨a1.keepA fun k q=>b2.block k (olt k q) fun z=>nref k q (Or.inl z),b1,hi,h.len,hd,?_⟩,⟨rfl,rfl⟩,?_,?_⟩
 ·intro k q hr;rcases rall k hr with e|e
  ·exact nref k q e
  ·have:=olt k q;omega
 ·exact(a2.weaken fun k q=>Or.inl q).trans b2 fun k _ q=>Or.inr (Or.inl q)
 ·intro k q;rcases q with q|q
  ·rcases a3 k q with e|e
   ·exact Or.inl (Or.inl e)
   ·exact Or.inr e
  ·rcases rall k q with e|e
   ·exact Or.inl (Or.inr e)
   ·exact Or.inr (Nat.le_trans a2.size e)
theorem Books.keep {B:Nat} {dv:Value} {K1 K2 K3:KV} {l1:List Tr.T.Nd} {l2:List Ev} {l3:List En} (h:Books w B dv K1 K2 K3 l1 l2 l3) (hk:∀k,k<w.heap.size→bkAll B K1 K2 K3 k→w'.heap[k]? =w.heap[k]?):Books w' B dv K1 K2 K3 l1 l2 l3:=⟨h.blk.of_block (hk B h.blk.lt (Or.inl rfl)),h.n1.keep fun k hl q=>hk k hl (Or.inr (Or.inl q)),h.n2.keep fun k hl q=>hk k hl (Or.inr (Or.inr (Or.inl q))),h.n3.keep fun k hl q=>hk k hl (Or.inr (Or.inr (Or.inr q))),h.s1,h.s2,h.s3,h.len⟩
end
def dkCells (Ds:List Dk):List Value:=Ds.flatMap fun D=>[.pointer (some ⟨D.hb,0,none⟩),.pointer (some ⟨D.R.rb,0,none⟩)]
theorem dkCells_at:∀(l:List Dk) (i:Nat) (D:Dk),l[i]? =some D→(dkCells l)[i*2]? =some (.pointer (some ⟨D.hb,0,none⟩))∧(dkCells l)[i*2+1]? =some (.pointer (some ⟨D.R.rb,0,none⟩))
 |[],i,x,h=>by simp at h
 |y::r,0,x,h=>by simp at h;subst h;simp[dkCells]
 |y::r,i+1,x,h=>by
  have:=dkCells_at r i x (by simpa using h);simp only[dkCells,List.flatMap_cons] at*;rw[show(i+1)*2=i*2+2 by omega];simpa using this
theorem dkCells_snoc (l:List Dk) (D:Dk):dkCells (l++[D])=dkCells l++[.pointer (some ⟨D.hb,0,none⟩),.pointer (some ⟨D.R.rb,0,none⟩)]:=by simp[dkCells]
theorem dkCells_set {D D':Dk} (h1:D'.hb=D.hb) (h2:D'.R.rb=D.R.rb):∀(l:List Dk) (i:Nat),l[i]? =some D→dkCells (l.set i D')=dkCells l
 |[],i,h=>by simp at h
 |y::r,0,h=>by
  simp at h;subst h;simp[dkCells,h1,h2]
 |y::r,i+1,h=>by have ih:=dkCells_set h1 h2 r i (by simpa using h);simp only[dkCells,List.set_cons_succ,List.flatMap_cons] at*;rw[ih]
theorem Kn.noB {w:World} {tn t:TypeId} {size:Nat} {mk:Int→List Value} {v cv wv:Value} {E:List Value} {n:Nat} {xs:List Value} (h:Kn w tn t size mk v E cv wv n xs) {B:Nat} {cs:Array Value} (hB:Blk w B cs 34) (h1:tn≠34) (h2:t≠34):¬knAll v E cv wv B:=by
 intro hk;rcases hk with e|⟨u,hu,hp,e⟩|e|e
 ·obtain⟨c,b⟩:=own_blk h.row e;exact b.ne hB h1 rfl
 ·obtain⟨i,hi⟩:=List.mem_iff_getElem?.1 hu;obtain⟨m,_,ao,cap,rfl,q⟩:=h.marks i u hi;by_cases h0:m=0
  ·subst h0;exact absurd rfl (hp ao cap)
  ·obtain⟨g,cur,rfl,hb,_⟩:=q.resolve_left h0;obtain rfl:g=B:=by simpa[Value.ownBlock] using e
   exact hb.ne hB h2 rfl
 ·obtain⟨c,b⟩:=own_blk h.came e;exact b.ne hB h2 rfl
 ·obtain⟨c,b⟩:=own_blk h.was e;exact b.ne hB h2 rfl
structure WSt (w0 w:World) (B:Nat) (dv:Value) (Ds:List Dk) (K1 K2 K3:KV) (l1:List Tr.T.Nd) (l2:List Ev) (l3:List En):Prop where
 bl:Below w0.heap.size w0 w
 books:Books w B dv K1 K2 K3 l1 l2 l3
 row:w.ownsRow w0.heap.size 47 2 dv Ds.length (dkCells Ds)
 dk:∀(i:Nat) (D:Dk),Ds[i]? =some D→DkAt w D
 dge:∀(i:Nat) (D:Dk),Ds[i]? =some D→∀k,D.all k→w0.heap.size≤k
 bge:∀k,bkAll B K1 K2 K3 k→w0.heap.size≤k
 apart:∀(i j:Nat) (D D':Dk),Ds[i]? =some D→Ds[j]? =some D'→i≠j→∀k,D.all k→¬D'.all k
 bap:∀(i:Nat) (D:Dk),Ds[i]? =some D→∀k,D.all k→¬bkAll B K1 K2 K3 k
 bdv:∀k,dv.ownBlock=some k→¬bkAll B K1 K2 K3 k
section
variable {w0 w w' : World} {B : Nat} {dv : Value} {Ds : List Dk} {K1 K2 K3 : KV} {l1 : List Tr.T.Nd} {l2 : List Ev} {l3 : List En}
theorem WSt.below (h:WSt w0 w B dv Ds K1 K2 K3 l1 l2 l3) (hb:Below w.heap.size w w'):WSt w0 w' B dv Ds K1 K2 K3 l1 l2 l3:=⟨h.bl.trans (hb.mono h.bl.size),h.books.keep fun k hl _=>hb.block k hl,own_below' h.row hb (Nat.le_refl _),fun i D hD=>(h.dk i D hD).below hb,h.dge,h.bge,h.apart,h.bap,h.bdv⟩
theorem WSt.upd (h:WSt w0 w B dv Ds K1 K2 K3 l1 l2 l3) {i:Nat} {D D':Dk} (hi:Ds[i]? =some D) (hd:DkAt w' D') (he:D'.hb=D.hb∧D'.R.rb=D.R.rb) (hk:Kept D.all w w') (hs:∀k,D'.all k→D.all k∨w.heap.size≤k):WSt w0 w' B dv (Ds.set i D') K1 K2 K3 l1 l2 l3:=by
 have hil:=(List.getElem?_eq_some_iff.1 hi).1;have hD:=h.dk i D hi;have rowb:∀k,dv.ownBlock=some k→¬D.all k:=by intro k hk2 q;obtain⟨cs,t,b,ht⟩:=hD.ty q;obtain⟨c2,b2⟩:=own_blk h.row hk2;refine b.ne b2 (fun e=>?_) rfl;subst e;exact absurd ht (by decide)
 have cases':∀(j:Nat) (E:Dk),(Ds.set i D')[j]? =some E→(j=i∧E=D')∨(j≠i∧Ds[j]? =some E):=by
  intro j E hj;by_cases e:j=i
  ·subst e;rw[List.getElem?_set_self hil] at hj;exact Or.inl ⟨rfl,(Option.some.inj hj).symm⟩
  ·rw[List.getElem?_set_ne (fun q=>e q.symm)] at hj;exact Or.inr ⟨e,hj⟩
 refine⟨?_,?_,?_,?_,?_,h.bge,?_,?_,h.bdv⟩
 ·refine⟨hk.os.trans h.bl.os,hk.tape.trans h.bl.tape,hk.output.trans h.bl.output,Nat.le_trans h.bl.size hk.size,fun k hl=>?_⟩;refine(hk.block k (Nat.lt_of_lt_of_le hl h.bl.size) fun q=>?_).trans (h.bl.block k hl);have:=h.dge i D hi k q;omega
 ·exact h.books.keep fun k hl q=>hk.block k hl fun z=>h.bap i D hi k z q
 ·rw[List.length_set,dkCells_set he.1 he.2 Ds i hi];exact own_block h.row fun k hk2=>hk.block k (h.row.lt k hk2).2 (rowb k hk2)
 ·intro j E hj;rcases cases' j E hj with ⟨rfl,rfl⟩|⟨hne,hj⟩
  ·exact hd
  ·exact(h.dk j E hj).keep fun k q=>hk.block k ((h.dk j E hj).lt q) fun z=>h.apart j i E D hj hi hne k q z
 ·intro j E hj k q;rcases cases' j E hj with ⟨rfl,rfl⟩|⟨hne,hj⟩
  ·rcases hs k q with z|z
   ·exact h.dge j D hi k z
   ·exact Nat.le_trans h.bl.size z
  ·exact h.dge j E hj k q
 ·intro a b E F ha hb hab k q z;rcases cases' a E ha with ⟨rfl,rfl⟩|⟨hne,ha2⟩
  ·rcases cases' b F hb with ⟨rfl,rfl⟩|⟨hne2,hb2⟩
   ·exact hab rfl
   ·rcases hs k q with y|y
    ·exact h.apart a b D F hi hb2 hab k y z
    ·have:=(h.dk b F hb2).lt z;omega
  ·rcases cases' b F hb with ⟨rfl,rfl⟩|⟨hne2,hb2⟩
   ·rcases hs k z with y|y
    ·exact h.apart a b E D ha2 hi hab k q y
    ·have:=(h.dk a E ha2).lt q;omega
   ·exact h.apart a b E F ha2 hb2 hab k q z
 ·intro j E hj k q;rcases cases' j E hj with ⟨rfl,rfl⟩|⟨hne,hj⟩
  ·rcases hs k q with y|y
   ·exact h.bap j D hi k y
   ·intro z;have:=h.books.lt z;omega
  ·exact h.bap j E hj k q
def Free (w0:World) (B:Nat) (dv:Value) (Ds:List Dk) (K1 K2 K3:KV) (k:Nat):Prop:=w0.heap.size≤k∧dv.ownBlock≠some k∧(∀(i:Nat) (D:Dk),Ds[i]? =some D→¬D.all k)∧¬bkAll B K1 K2 K3 k
theorem WSt.free (h:WSt w0 w B dv Ds K1 K2 K3 l1 l2 l3) {k:Nat} (hk:w.heap.size≤k):Free w0 B dv Ds K1 K2 K3 k:=by
 refine⟨Nat.le_trans h.bl.size hk,fun e=>?_,fun i D hD q=>?_,fun q=>?_⟩
 ·have:=(h.row.lt k e).2;omega
 ·have:=(h.dk i D hD).lt q;omega
 ·have:=h.books.lt q;omega
theorem WSt.book (h:WSt w0 w B dv Ds K1 K2 K3 l1 l2 l3) {K1' K2' K3':KV} {l1':List Tr.T.Nd} {l2':List Ev} {l3':List En} (hb:Books w' B dv K1' K2' K3' l1' l2' l3') (hk:Kept (bkAll B K1 K2 K3) w w') (hn:∀k,bkAll B K1' K2' K3' k→bkAll B K1 K2 K3 k∨Free w0 B dv Ds K1 K2 K3 k):WSt w0 w' B dv Ds K1' K2' K3' l1' l2' l3':=by
 refine⟨?_,hb,?_,?_,h.dge,?_,h.apart,?_,?_⟩
 ·refine⟨hk.os.trans h.bl.os,hk.tape.trans h.bl.tape,hk.output.trans h.bl.output,Nat.le_trans h.bl.size hk.size,fun k hl=>?_⟩;refine(hk.block k (Nat.lt_of_lt_of_le hl h.bl.size) fun q=>?_).trans (h.bl.block k hl);have:=h.bge k q;omega
 ·exact own_block h.row fun k hk2=>hk.block k (h.row.lt k hk2).2 (h.bdv k hk2)
 ·exact fun i D hD=>(h.dk i D hD).keep fun k q=>hk.block k ((h.dk i D hD).lt q) (h.bap i D hD k q)
 ·intro k q;rcases hn k q with e|e
  ·exact h.bge k e
  ·exact e.1
 ·intro i D hD k q z;rcases hn k z with e|e
  ·exact h.bap i D hD k q e
  ·exact e.2.2.1 i D hD q
 ·intro k q z;rcases hn k z with e|e
  ·exact h.bdv k q e
  ·exact e.2.1 q
theorem WSt.more (h:WSt w0 w B dv Ds K1 K2 K3 l1 l2 l3) {D:Dk} (hd:DkAt w D) (hf:∀k,D.all k→Free w0 B dv Ds K1 K2 K3 k) {W w1:World} {dv':Value} (hW:Below w.heap.size w W) (ho:w1.ownsRow w0.heap.size 47 2 dv' (Ds.length+1) (dkCells Ds++[.pointer (some ⟨D.hb,0,none⟩),.pointer (some ⟨D.R.rb,0,none⟩)])) (hg:W.grownBy w1 dv.ownBlock) (hat:dv'.ownBlock=dv.ownBlock∨dv'.ownBlock=some W.heap.size): (w1.cell? ⟨B,0,none⟩=some dv∧w1.frozen? ⟨B,0,none⟩=false)∧WSt w0 (w1.setCell ⟨B,0,none⟩ dv') B dv' (Ds++[D]) K1 K2 K3 l1 l2 l3:=by
 have hsz:=hW.size;have k1:∀k,k<w.heap.size→dv.ownBlock≠some k→w1.heap[k]? =w.heap[k]? :=fun k hk hne=>(hg.block k (by omega) fun e=>hne e.symm).trans (hW.block k hk);have hB0:dv.ownBlock≠some B:=fun e=>h.bdv B e (Or.inl rfl);have hB1:Blk w1 B #[dv,K1.v,K2.v,K3.v,.bool false,K1.cv,K1.wv,K2.cv,K2.wv,K3.cv,K3.wv] 34:=h.books.blk.of_block (k1 B h.books.blk.lt hB0);have k2:∀k,k<w.heap.size→dv.ownBlock≠some k→k≠B→(w1.setCell ⟨B,0,none⟩ dv').heap[k]? =w.heap[k]? :=fun k hk hne hB=>(Below.heap_setCell _ _ _ _ hB).trans (k1 k hk hne);have dvty:∀(E:Dk),DkAt w E→∀k,E.all k→dv.ownBlock≠some k:=by intro E hE k q e;obtain⟨cs,t,b,ht⟩:=hE.ty q;obtain⟨c2,b2⟩:=own_blk h.row e;refine b.ne b2 (fun e=>?_) rfl;subst e;exact absurd ht (by decide)
 have dB:∀(E:Dk),DkAt w E→∀k,E.all k→k≠B:=by intro E hE k q e;obtain⟨cs,t,b,ht⟩:=hE.ty q;subst e;refine b.ne h.books.blk (fun e=>?_) rfl;subst e;exact absurd ht (by decide)
 have cases':∀(j:Nat) (E:Dk),(Ds++[D])[j]? =some E→(Ds[j]? =some E)∨(Ds.length≤j∧E=D):=by
  intro j E hj;by_cases hl:j<Ds.length
  ·rw[List.getElem?_append_left hl] at hj;exact Or.inl hj
  ·rw[List.getElem?_append_right (by omega)] at hj;have:=List.mem_of_getElem? hj;simp at this;exact Or.inr ⟨by omega,this⟩
 have last:∀(j:Nat),(Ds++[D])[j]? =some D→Ds.length≤j→j=Ds.length:=by intro j hj hl;have:=(List.getElem?_eq_some_iff.1 hj).1;simp at this;omega
 refine⟨⟨by rw[hB1.cell 0];rfl,hB1.free 0⟩,⟨?_,?_,?_,?_,?_,h.bge,?_,?_,?_⟩⟩
 ·refine Below.setCell (Below.grown (h.bl.trans (hW.mono h.bl.size)) hg (Nat.le_trans h.bl.size hsz) fun k hk=>own_ge h.row hk) ?_ _;exact h.bge B (Or.inl rfl)
 ·refine⟨hB1.set 0 dv',h.books.n1.keep fun k hl q=>k2 k hl (fun e=>h.bdv k e (Or.inr (Or.inl q))) ?_,h.books.n2.keep fun k hl q=>k2 k hl (fun e=>h.bdv k e (Or.inr (Or.inr (Or.inl q)))) ?_,h.books.n3.keep fun k hl q=>k2 k hl (fun e=>h.bdv k e (Or.inr (Or.inr (Or.inr q)))) ?_,h.books.s1,h.books.s2,h.books.s3,h.books.len⟩
  ·rintro rfl;exact h.books.n1.noB h.books.blk (by decide) (by decide) q
  ·rintro rfl;exact h.books.n2.noB h.books.blk (by decide) (by decide) q
  ·rintro rfl;exact h.books.n3.noB h.books.blk (by decide) (by decide) q
 ·rw[List.length_append,dkCells_snoc];refine own_block ho fun k hk=>Below.heap_setCell _ _ _ _ fun e=>?_;subst e;obtain⟨c,b⟩:=own_blk ho hk;exact b.ne hB1 (by decide) rfl
 ·intro j E hj;rcases cases' j E hj with hj|⟨_,rfl⟩
  ·exact(h.dk j E hj).keep fun k q=>k2 k ((h.dk j E hj).lt q) (dvty E (h.dk j E hj) k q) (dB E (h.dk j E hj) k q)
  ·exact hd.keep fun k q=>k2 k (hd.lt q) (dvty _ hd k q) (dB _ hd k q)
 ·intro j E hj k q;rcases cases' j E hj with hj|⟨_,rfl⟩
  ·exact h.dge j E hj k q
  ·exact(hf k q).1
 ·intro a b E F ha hb hab k q z;rcases cases' a E ha with ha'|⟨la,rfl⟩
  ·rcases cases' b F hb with hb'|⟨lb,rfl⟩
   ·exact h.apart a b E F ha' hb' hab k q z
   ·exact(hf k z).2.2.1 a E ha' q
  ·rcases cases' b F hb with hb'|⟨lb,rfl⟩
   ·exact(hf k q).2.2.1 b F hb' z
   ·exact hab ((last a ha la).trans (last b hb lb).symm)
 ·intro j E hj k q z;rcases cases' j E hj with hj|⟨_,rfl⟩
  ·exact h.bap j E hj k q z
  ·exact(hf k q).2.2.2 z
 ·intro k q z;rcases hat with e|e
  ·exact h.bdv k (by rw[←e];exact q) z
  ·have e3:some W.heap.size=some k:=e.symm.trans q;have:=Option.some.inj e3;have:=h.books.lt z;omega
def WS (w0 w:World) (B:Nat) (Ds:List Dk) (e:Nat):Prop:=∃dv K1 K2 K3 l1 l2 l3,WSt w0 w B dv Ds K1 K2 K3 l1 l2 l3∧K1.E.length≤e∧K2.E.length≤e∧K3.E.length≤e
theorem WS.below {e:Nat} (h:WS w0 w B Ds e) (hb:Below w.heap.size w w'):WS w0 w' B Ds e:=by
 obtain⟨dv,K1,K2,K3,l1,l2,l3,h1,h2⟩:=h;exact⟨dv,K1,K2,K3,l1,l2,l3,h1.below hb,h2⟩
theorem WS.upd {e i:Nat} {D D':Dk} (h:WS w0 w B Ds e) (hi:Ds[i]? =some D) (hd:DkAt w' D') (he:D'.hb=D.hb∧D'.R.rb=D.R.rb) (hk:Kept D.all w w') (hs:∀k,D'.all k→D.all k∨w.heap.size≤k):WS w0 w' B (Ds.set i D') e:=by
 obtain⟨dv,K1,K2,K3,l1,l2,l3,h1,h2⟩:=h;exact⟨dv,K1,K2,K3,l1,l2,l3,h1.upd hi hd he hk hs,h2⟩
theorem WS.dk {e i:Nat} {D:Dk} (h:WS w0 w B Ds e) (hi:Ds[i]? =some D):DkAt w D:=by
 obtain⟨dv,K1,K2,K3,l1,l2,l3,h1,_⟩:=h;exact h1.dk i D hi
theorem WS.bl {e:Nat} (h:WS w0 w B Ds e):Below w0.heap.size w0 w:=by
 obtain⟨dv,K1,K2,K3,l1,l2,l3,h1,_⟩:=h;exact h1.bl
end
theorem run_copy_any {t e:TypeId} {i:TypeInfo} {size:Nat} (ht:Tryz.prog.underlying t=some (.slice e)) (hi:Tryz.prog.info? e=some i) (hs:i.size=size) (w:World) (g n m cap:Nat) (a:Addr) (sCap:Nat) (cur:Array Value) (cs:List Value) (hg:w.heap[g]? =some (.cells cur e (0,0))) (hn:cs.length=n*size) (hnm:n≤m)
 (hsrc:∀j v,cs[j]? =some v→w.cell? (a.add j)=some v) (hfit:cs.length≤cur.size) (h1:∀v∈cs,v.oneCell'=true): (Builtin.copy_ #[t,t] 3 #[.slice (some ⟨g,0,none⟩) m cap,.slice (some a) n sCap]).run Tryz.prog w= .ok (goInt n) (w.setRow g (cs++cur.toList.drop cs.length).toArray):=by
 have hl:=run_loadCells_list (P:=Tryz.prog) w a cs hsrc;have hst:=run_storeCells_at Tryz.prog g 0 e cs 0 cur w hg (by simpa using hfit) h1;have hm:Nat.min n m=n:=Nat.min_eq_left hnm;rw[hn] at hl;simp[Builtin.copy_,run_underlying ht,Builtin.lenOf,Builtin.firstCells,sizeOf,typeInfo,hi,hs,hm,hl];simp at hst;rw[hst];simp
theorem run_copy_nil {t e:TypeId} {i:TypeInfo} {size:Nat} (ht:Tryz.prog.underlying t=some (.slice e)) (hi:Tryz.prog.info? e=some i) (hs:i.size=size) (w:World) (g m cap:Nat): (Builtin.copy_ #[t,t] 3 #[.slice (some ⟨g,0,none⟩) m cap,.slice none 0 0]).run Tryz.prog w= .ok (goInt 0) w:=by
 simp[Builtin.copy_,run_underlying ht,Builtin.lenOf,Builtin.firstCells,sizeOf,typeInfo,hi,storeCells]
theorem setRow_blk (w:World) (g:Nat) (cur cs:Array Value) (t:TypeId) (h:Blk w g cur t):Blk (w.setRow g cs) g cs t:=by
 unfold Blk at*;unfold World.setRow;simp only[Array.getElem?_modify,if_true,h];rfl
theorem setRow_other (w:World) (g:Nat) (cs:Array Value) (k:Nat) (hk:k≠g):(w.setRow g cs).heap[k]? =w.heap[k]? :=by
 unfold World.setRow;simp only[Array.getElem?_modify];rw[if_neg (fun e=>hk e.symm)]
theorem below_row {B g:Nat} {w w1:World} (h:Below B w w1) (hg:B≤g) (cs:Array Value):Below B w (w1.setRow g cs):=by
 refine⟨h.os,h.tape,h.output,?_,fun k hk=>(setRow_other w1 g cs k (by omega)).trans (h.block k hk)⟩;refine Nat.le_trans h.size ?_;unfold World.setRow;simp
structure NRow where
 f:Nat
 e:TypeId
 size:Nat
 v:Value
 n:Nat
 xs:List Value
structure NSt (w0 wr:World) (hp:Nat) (cs:Array Value) (rs:List NRow):Prop where
 bl:Below w0.heap.size w0 wr
 ge:w0.heap.size≤hp
 blk:Blk wr hp cs 52
 row:∀(i:Nat) (r:NRow),rs[i]? =some r→cs[r.f]? =some r.v∧wr.ownsRow w0.heap.size r.e r.size r.v r.n r.xs∧r.e≠52
 apart:∀(i j:Nat) (r q:NRow),rs[i]? =some r→rs[j]? =some q→i≠j→r.f≠q.f∧∀k,r.v.ownBlock=some k→q.v.ownBlock≠some k
section
variable {w0 wr W w1 : World} {hp : Nat} {cs : Array Value} {rs : List NRow}
theorem NSt.below (h:NSt w0 wr hp cs rs) (hb:Below wr.heap.size wr W):NSt w0 W hp cs rs:=⟨h.bl.trans (hb.mono h.bl.size),h.ge,h.blk.below hb h.blk.lt,fun i r hr=>⟨(h.row i r hr).1,own_below' (h.row i r hr).2.1 hb (Nat.le_refl _),(h.row i r hr).2.2⟩,h.apart⟩
theorem NSt.push (h:NSt w0 W hp cs rs) {i:Nat} {r:NRow} (hr:rs[i]? =some r) {v':Value} {new:List Value} (ho:w1.ownsRow w0.heap.size r.e r.size v' (r.n+1) (r.xs++new)) (hg:W.grownBy w1 r.v.ownBlock) (hat:v'.ownBlock=r.v.ownBlock∨v'.ownBlock=some W.heap.size): (w1.cell? ⟨hp,r.f,none⟩=some r.v∧w1.frozen? ⟨hp,r.f,none⟩=false)∧NSt w0 (w1.setCell ⟨hp,r.f,none⟩ v') hp (cs.setIfInBounds r.f v') (rs.set i {r with v:=v',n:=r.n+1,xs:=r.xs++new}):=by
 obtain⟨c1,c2,c3⟩:=h.row i r hr;have hb1:Blk w1 hp cs 52:=by refine h.blk.of_block (hg.block hp h.blk.lt fun e=>?_);obtain⟨c,q⟩:=own_blk c2 e.symm;exact h.blk.ne q c3.symm rfl
 have hil:i<rs.length:=(List.getElem?_eq_some_iff.1 hr).1;have keep:∀{b:Nat} {v:Value} {e:TypeId} {size n:Nat} {xs:List Value},w1.ownsRow b e size v n xs→e≠52→(w1.setCell ⟨hp,r.f,none⟩ v').ownsRow b e size v n xs:=by intro b v e size n xs hv he;refine own_block hv fun k hk=>?_;obtain⟨c,q⟩:=own_blk hv hk;exact Below.heap_setCell _ _ _ _ (fun e2=>by subst e2;exact q.ne hb1 he rfl)
 refine⟨⟨by rw[hb1.cell];exact c1,hb1.free _⟩,⟨?_,h.ge,hb1.set _ _,?_,?_⟩⟩
 ·exact Below.setCell (h.bl.grown hg h.bl.size (fun k hk=>own_ge c2 hk)) h.ge _
 ·intro j q hq;by_cases hj:j=i
  ·subst hj;rw[List.getElem?_set_self hil] at hq;obtain rfl:=Option.some.inj hq;refine⟨?_,keep ho c3,c3⟩;show(cs.setIfInBounds r.f v')[r.f]? =some v';rw[Array.getElem?_setIfInBounds_self_of_lt (Array.getElem?_eq_some_iff.1 c1).1]
  ·rw[List.getElem?_set_ne (fun e=>hj e.symm)] at hq;obtain⟨d1,d2,d3⟩:=h.row j q hq;obtain⟨a1,a2⟩:=h.apart i j r q hr hq (fun e=>hj e.symm);refine⟨?_,keep (own_block d2 fun k hk=>?_) d3,d3⟩
   ·rw[Array.getElem?_setIfInBounds_ne a1];exact d1
   ·obtain⟨c,b⟩:=own_blk d2 hk;exact hg.block k b.lt fun e=>a2 k e.symm hk
 ·intro a b p q hp' hq hab;have fresh:∀(j:Nat) (z:NRow) (k:Nat),rs[j]? =some z→z.v.ownBlock=some k→k<W.heap.size:=fun j z k hz hk=>((h.row j z hz).2.1.lt k hk).2;by_cases ha:a=i
  ·subst ha;rw[List.getElem?_set_self hil] at hp';obtain rfl:=Option.some.inj hp';rw[List.getElem?_set_ne hab] at hq;obtain⟨a1,a2⟩:=h.apart a b r q hr hq hab;refine⟨a1,fun k hk hk2=>?_⟩;rcases hat with e|e
   ·exact a2 k (by rw[←e];exact hk) hk2
   ·have:=fresh b q k hq hk2;have e3:some W.heap.size=some k:=e.symm.trans hk;have:=Option.some.inj e3;omega
  ·rw[List.getElem?_set_ne (fun e=>ha e.symm)] at hp';by_cases hb:b=i
   ·subst hb;rw[List.getElem?_set_self hil] at hq;obtain rfl:=Option.some.inj hq;obtain⟨a1,a2⟩:=h.apart a b p r hp' hr hab;refine⟨a1,fun k hk hk2=>?_⟩;rcases hat with e|e
    ·exact a2 k hk (by rw[←e];exact hk2)
    ·have:=fresh a p k hp' hk;have e3:some W.heap.size=some k:=e.symm.trans hk2;have:=Option.some.inj e3;omega
   ·rw[List.getElem?_set_ne (fun e=>hb e.symm)] at hq;exact h.apart a b p q hp' hq hab
def zero8:List Value:=[.int .u16 0,.int .u16 0,.int .u16 0,.int .u16 0,.int .u16 0,.int .u16 0,.int .u16 0,.int .u16 0]
def nRows (ms:List Mf) (k:Nat) (mv pv cv nv bv lv uv hv:Value):List NRow:=[⟨0,37,7,mv,k,mfCells (ms.take k)⟩,⟨3,3,1,pv,k,rep k [.int .i64 0]⟩,⟨4,82,8,cv,k,rep k zero8⟩,⟨5,28,1,nv,k,rep k [.slice none 0 0]⟩,⟨6,29,1,bv,k,rep k [.slice none 0 0]⟩,⟨7,30,1,lv,k,rep k [.slice none 0 0]⟩,⟨8,3,1,uv,k,rep k [.int .i64 0]⟩,⟨9,3,1,hv,k,rep k [.int .i64 0]⟩]
theorem rep_map {α:Type} (l:List α) (f:α→List Value) (x:List Value) (h:∀a,f a=x):l.flatMap f=rep l.length x:=by
 induction l with
 |nil=>rfl
 |cons a r ih=>rw[List.flatMap_cons,ih,h,List.length_cons];unfold rep;rw[List.replicate_succ];rfl
theorem rep_one (n:Nat) (v:Value):rep n [v]=List.replicate n v:=by
 induction n with
 |zero=>rfl
 |succ n ih=>rw[rep_succ,ih,List.replicate_succ']
theorem own_at1 {w:World} {base n size:Nat} {e:TypeId} {v:Value} {xs:List Value} (h:w.ownsRow base e size v n xs) (hn:0<n):∃g c,v= .slice (some ⟨g,0,none⟩) n c:=by
 rcases h.2 with ⟨_,h0⟩|⟨g,cap,cur,hv,_⟩
 ·omega
 ·exact⟨g,cap,hv⟩
theorem NSt.host {ms:List Mf} {mv pv cv nv bv lv uv hv:Value} (h:NSt w0 wr hp #[mv,.int .i64 0,.int .i64 0,pv,cv,nv,bv,lv,uv,hv] (nRows ms ms.length mv pv cv nv bv lv uv hv)) (hn:0<ms.length): ∃R:RB,R.rb=hp∧RefAt wr R (newHs ms) (List.replicate ms.length 0)∧∀k,refAll R k→w0.heap.size≤k:=by
 have o0:=(h.row 0 _ rfl).2.1;have o1:=(h.row 1 _ rfl).2.1;have o2:=(h.row 2 _ rfl).2.1;have o3:=(h.row 3 _ rfl).2.1;have o4:=(h.row 4 _ rfl).2.1;have o5:=(h.row 5 _ rfl).2.1;have o6:=(h.row 6 _ rfl).2.1;have o7:=(h.row 7 _ rfl).2.1;simp only[List.take_length] at o0;have a1:=(h.apart 1 6 _ _ rfl rfl (by decide)).2;have a2:=(h.apart 1 7 _ _ rfl rfl (by decide)).2;have a3:=(h.apart 6 7 _ _ rfl rfl (by decide)).2;have hB:=h.blk;simp only at o0 o1 o2 o3 o4 o5 o6 o7 a1 a2 a3;obtain⟨g0,c0,rfl⟩:=own_at1 o0 hn;obtain⟨g1,c1,rfl⟩:=own_at1 o1 hn;obtain⟨g2,c2,rfl⟩:=own_at1 o2 hn;obtain⟨g3,c3,rfl⟩:=own_at1 o3 hn;obtain⟨g4,c4,rfl⟩:=own_at1 o4 hn;obtain⟨g5,c5,rfl⟩:=own_at1 o5 hn;obtain⟨g6,c6,rfl⟩:=own_at1 o6 hn;obtain⟨g7,c7,rfl⟩:=own_at1 o7 hn;have hl:(newHs ms).ts.length=ms.length:=by simp[newHs]
 have em:(newHs ms).ts.map Tn.mf=ms:=by show(ms.map Mf.tn).map Tn.mf=ms;rw[List.map_map];exact List.map_id'' (fun _=>rfl) _
 have ei:∀f:Tn→Value,(∀m:Mf,f m.tn= .int .i64 0)→(newHs ms).ts.map f=rep ms.length [.int .i64 0]:=by intro f hf;rw[rep_one];show(ms.map Mf.tn).map f=_;rw[List.map_map,←List.map_const'];exact List.map_congr_left fun a _=>hf a
 have ec:cells8 (newHs ms).ts=rep ms.length zero8:=by show cells8 (ms.map Mf.tn)=_;unfold cells8;rw[List.flatMap_map];exact rep_map ms _ _ fun _=>rfl
 have nil_at:∀{i:Nat} {v:Value},(List.replicate ms.length (Value.slice none 0 0))[i]? =some v→v= .slice none 0 0:=by intro i v hv;exact(List.mem_replicate.1 (List.mem_of_getElem? hv)).2
 have new_at:∀{i:Nat} {y:Tn},(newHs ms).ts[i]? =some y→y.nodes=[]∧y.box=[]∧y.log=[]∧y.dbl=0:=by intro i y hy;have q:=List.mem_of_getElem? hy;obtain⟨m,_,rfl⟩:=List.mem_map.1 q;exact⟨rfl,rfl,rfl,rfl⟩
 refine⟨⟨hp,g0,g1,g2,g3,g4,g5,g6,g7,c0,c1,c2,c3,c4,c5,c6,c7,List.replicate ms.length (.slice none 0 0),List.replicate ms.length (.slice none 0 0),List.replicate ms.length (.slice none 0 0)⟩,rfl,?_,?_⟩
 ·rw[rep_one] at o3 o4 o5;constructor;case host=>rw[hl];exact hB
  case rm=>rw[hl,em];exact own_weak o0 (Nat.zero_le _)
  case rp=>rw[hl,ei _ (fun _=>rfl)];exact own_weak o1 (Nat.zero_le _)
  case rc=>rw[hl,ec];exact own_weak o2 (Nat.zero_le _)
  case rn=>rw[hl];exact own_weak o3 (Nat.zero_le _)
  case rx=>rw[hl];exact own_weak o4 (Nat.zero_le _)
  case rl=>rw[hl];exact own_weak o5 (Nat.zero_le _)
  case ru=>rw[hl,ei _ (fun _=>rfl)];exact own_weak o6 (Nat.zero_le _)
  case rh=>have o7':=o7;rw[rep_one] at o7';rw[hl,List.map_replicate];exact own_weak o7' (Nat.zero_le _)
  case pu=>exact fun e=>a1 g1 rfl (by rw[show g1=g6 from e];rfl)
  case ph=>exact fun e=>a2 g1 rfl (by rw[show g1=g7 from e];rfl)
  case uh=>exact fun e=>a3 g6 rfl (by rw[show g6=g7 from e];rfl)
  case nodes=>intro i y v hy hv;rw[nil_at hv,(new_at hy).1];exact World.ownsRow_nil _ _ _ _
  case box=>intro i y v hy hv;rw[nil_at hv,(new_at hy).2.1];exact World.ownsRow_nil _ _ _ _
  case log=>intro i y v hy hv;rw[nil_at hv,(new_at hy).2.2.1];exact World.ownsRow_nil _ _ _ _
  case boxes=>intro i j v u hv hu hij k hk;rw[nil_at hv] at hk;simp[Value.ownBlock] at hk
  case logs=>intro i j v u hv hu hij k hk;rw[nil_at hv] at hk;simp[Value.ownBlock] at hk
  case held=>intro i y k hy hk;rw[(new_at hy).2.2.2,(List.mem_replicate.1 (List.mem_of_getElem? hk)).2];exact⟨by decide,by decide⟩
 ·have nilm:∀{v:Value} {k:Nat},v∈List.replicate ms.length (Value.slice none 0 0)→some k=v.ownBlock→False:=by intro v k hv e;rw[(List.mem_replicate.1 hv).2] at e;simp[Value.ownBlock] at e
  intro k hk;rcases hk with (e|e|e|e|e|e|e|e|⟨v,hv,e⟩|⟨v,hv,e⟩|⟨v,hv,e⟩)|e|⟨v,hv,e⟩
  ·rw[e];exact h.ge
  ·exact own_ge o1 (by rw[e];rfl)
  ·exact own_ge o2 (by rw[e];rfl)
  ·exact own_ge o3 (by rw[e];rfl)
  ·exact own_ge o4 (by rw[e];rfl)
  ·exact own_ge o5 (by rw[e];rfl)
  ·exact own_ge o6 (by rw[e];rfl)
  ·exact own_ge o7 (by rw[e];rfl)
  ·exact(nilm hv e).elim
  ·exact(nilm hv e).elim
  ·exact(nilm hv e).elim
  ·exact own_ge o0 (by rw[e];rfl)
  ·exact(nilm hv e).elim
end
end Go.Proofs.YtidaflmmldefcaaGreat
