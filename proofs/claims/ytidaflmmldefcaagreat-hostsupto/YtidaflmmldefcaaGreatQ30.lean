/- Parts of the proof of Hosts: IsTreeR, PlanR, RnB, RRun. -/
import Derived.Test.YtidaflmmldefcaaGreatQ29
import Derived.Test.YtidaflmmldefcaaGreatQ28
import Derived.BigQuiet
import Derived.Deep.RegionLaw
import Derived.Test.YtidaflmmldefcaaGreatQ19
import Derived.Test.YtidaflmmldefcaaGreatQ27
import Derived.Test.YtidaflmmldefcaaGreatQ15
import Derived.Test.YtidaflmmldefcaaGreatQ09
import Derived.Test.YtidaflmmldefcaaGreatQ23
set_option maxHeartbeats 4000000
namespace Go.Proofs.YtidaflmmldefcaaGreat.Tr
open Go.RowKit
set_option linter.unusedVariables false
theorem fine_any (s:ByteArray) (w:World) (hs:s.size≤4611686018427387904): Calls Tryz.prog 81 #[.string s] w fun e w'=>e= .returned (.bool (T.isText (T.bts s)))∧Below w.heap.size w w':=by
 have HF:Hid (T.isText (T.bts s)=decide (0≤T.lettersOf (T.bts s)∧T.lettersOf (T.bts s)≤6)):=T.fine_text _;have HC:Hid (∀u:World,Calls Tryz.prog 89 #[.string s] u fun e w'=>e= .returned (.int .i64 (T.lettersOf (T.bts s)))∧Below u.heap.size u w'):=fun u=>refLetters_any s u hs;generalize T.lettersOf (T.bts s)=n at HF HC;by_cases h0:0≤n
 ·by_cases h6:n≤6
  ·have HT:Hid (T.isText (T.bts s)=true):=by unfold Hid;rw[HF.out];simp[h0,h6]
   go_enter Tryz.func81,Tryz.ntmps81;go_wp2_with (go_at_call 89;refine(HC.out _).mono ?_;rintro e w1 ⟨rfl,hb1⟩);go_ret;rw[HT.out];exact⟨rfl,hb1⟩
  ·have HT:Hid (T.isText (T.bts s)=false):=by unfold Hid;rw[HF.out];simp;omega
   have hd6:decide (n≤6)=false:=by simp;omega
   go_enter Tryz.func81,Tryz.ntmps81;go_wp2_with (go_at_call 89;refine(HC.out _).mono ?_;rintro e w1 ⟨rfl,hb1⟩);go_ret;rw[HT.out];exact⟨rfl,hb1⟩
 ·have HT:Hid (T.isText (T.bts s)=false):=by unfold Hid;rw[HF.out];simp;omega
  go_enter Tryz.func81,Tryz.ntmps81;go_wp2_with (go_at_call 89;refine(HC.out _).mono ?_;rintro e w1 ⟨rfl,hb1⟩);go_ret;rw[HT.out];exact⟨rfl,hb1⟩
def ndSmall (l:List T.Nd):Prop:=∀x∈l,x.2.2.size≤4611686018427387904
set_option maxRecDepth 100000 in
theorem refTree_any (ao:Option Addr) (cap:Nat) (l:List T.Nd) (w:World) (hl:l.length≤maxLen) (ha:NodeAt w ao l) (hk:ndSmall l): Calls Tryz.prog 72 #[.slice ao l.length cap] w fun e w'=>e= .returned (.bool (T.isTree l))∧Below w.heap.size w w':=by
 unfold maxLen at hl;obtain⟨n,hn⟩:∃n,n=l.length:=⟨_,rfl⟩;have Hn:Hid (l.length=n):=hn.symm;rw[←hn];rw[←hn] at hl;have HA:Hid (NodeAt w ao l):=ha;have HK:Hid (ndSmall l):=hk;clear hn ha hk;by_cases h16:n≤16
 ·have HT0:Hid (T.isTree l=T.treeFrom (l.take 0) (l.drop 0)):=by unfold Hid T.isTree;rw[Hn.out];simp[h16]
  have hlt16:¬(16:Int)<(n:Int):=by omega
  go_enter Tryz.func72,Tryz.ntmps72;go_wp2;go_loopw [3] (fun i wr=>∃(k:Nat),k≤n∧i= .int .i64 k∧Below w.heap.size w wr∧Hid (T.isTree l=T.treeFrom (l.take k) (l.drop k)))
   (fun i _=>n-(intOf i).toNat)
  case atStart=>exact⟨0,Nat.zero_le _,rfl,Below.refl _ _,HT0⟩
  case round=>
   obtain⟨k,hk,rfl,hb,HD⟩:=hrel;have HW:Hid (Below w.heap.size w wr):=hb;have hsz:w.heap.size≤wr.heap.size:=hb.size;clear hb;by_cases hlt:k<n
   ·obtain⟨y,hy⟩:∃x,l[k]? =some x:=⟨l[k]'(by have:=Hn.out;omega),List.getElem?_eq_getElem (by have:=Hn.out;omega)⟩;obtain⟨b,off,rfl,hbl,hr⟩:∃b off,ao=some ⟨b,off,none⟩∧b<w.heap.size∧NodeRow w b off l:=HA.out.resolve_left (by rintro rfl;simp at hy);have hyk:=HK.out y (List.mem_of_getElem? hy);obtain⟨y1,y2,y3⟩:=y;obtain⟨c0,c1,c2⟩:=(hr.below HW.out hbl) k _ hy;simp only at c0 c1 c2;have HS:Hid (T.isTree l=(T.okNd (y1,y2,y3)&&!T.clash (l.take k) (y1,y2,y3)&&T.treeFrom (l.take (k+1)) (l.drop (k+1)))):=by unfold Hid;rw[HD.out,treeFrom_cut hy]
    have HY:Hid (y3.size≤4611686018427387904):=hyk;have HR:Hid (NodeRow w b off l):=hr;have HYk:Hid (l[k]? =some (y1,y2,y3)):=hy;have hki:(k:Int)<(n:Int):=by omega
    clear hy hr hyk;go_wp2_with fail;refine(fine_any y3 _ HY.out).mono ?_;rintro e w1 ⟨rfl,hb1⟩;have hbw1:Below w.heap.size w w1:=HW.out.trans (hb1.mono hsz);have HB1:Hid (Below w.heap.size w w1):=hbw1;obtain⟨d0,d1,d2⟩:=(HR.out.below hbw1 hbl) k _ HYk.out;simp only at d0 d1 d2;clear hb1 hbw1 c0 c1 c2 HW;cases ht:T.isText (T.bts y3) with
    |false=>
     have HT:Hid (T.isTree l=false):=by unfold Hid;rw[HS.out];simp[T.okNd,ht]
     clear ht;go_wp2;go_ret;rw[HT.out];exact⟨rfl,HB1.out⟩
    |true=>
     by_cases h1:y1<1
     ·have HT:Hid (T.isTree l=false):=by unfold Hid;rw[HS.out];simp[T.okNd];omega
      clear ht;go_wp2;go_ret;rw[HT.out];exact⟨rfl,HB1.out⟩
     by_cases h2:16<y1
     ·have HT:Hid (T.isTree l=false):=by unfold Hid;rw[HS.out];simp[T.okNd];omega
      clear ht;go_wp2;go_ret;rw[HT.out];exact⟨rfl,HB1.out⟩
     have HS2:Hid (T.isTree l=(!T.clash (l.take k) (y1,y2,y3)&&T.treeFrom (l.take (k+1)) (l.drop (k+1)))):=by
      have hok:T.okNd (y1,y2,y3)=true:=by simp[T.okNd,ht];omega
      unfold Hid;rw[HS.out,hok];rfl
     clear ht HS;go_wp2_with fail;go_loopw [5] (fun i wq=>∃(j q:Nat),j≤k∧i= .int .i64 j∧wq=w1.drewN q∧Hid (T.clash (l.take j) (y1,y2,y3)=false))
      (fun i _=>k-(intOf i).toNat)
     case atStart=>exact⟨0,0,Nat.zero_le _,rfl,rfl,rfl⟩
     case round=>
      obtain⟨j,q,hj,rfl,rfl,HCL⟩:=hrel;by_cases hjk:j<k
      ·obtain⟨z,hz⟩:∃x,l[j]? =some x:=⟨l[j]'(by have:=Hn.out;omega),List.getElem?_eq_getElem (by have:=Hn.out;omega)⟩;obtain⟨z1,z2,z3⟩:=z;obtain⟨g0,g1,g2⟩:=(HR.out.below HB1.out hbl) j _ hz;simp only at g0 g1 g2;have HJ:Hid (T.clash (l.take (j+1)) (y1,y2,y3)=decide (z1=y1∨z2=y2)):=by have h:=HCL.out;unfold Hid;unfold T.clash at*;rw[List.take_add_one,hz];simp only[Option.toList_some,List.any_append,h,List.any_cons,List.any_nil,Bool.or_false,Bool.false_or]
       have HBad:Hid ((z1=y1∨z2=y2)→T.isTree l=false):=by
        intro hor;rw[HS2.out];have:T.clash (l.take k) (y1,y2,y3)=true:=by unfold T.clash;rw[List.any_eq_true];refine⟨(z1,z2,z3),?_,by simpa using hor⟩;exact List.mem_of_getElem? (i:=j) (by rw[List.getElem?_take,if_pos hjk];exact hz)
        rw[this];rfl
       have hjn:(j:Int)<(n:Int):=by omega
       have hj0:(0:Int)≤(j:Int):=by omega
       have hk0:(0:Int)≤(k:Int):=by omega
       clear hz;by_cases e1:z1=y1
       ·have HT:Hid (T.isTree l=false):=HBad.out (Or.inl e1);have t1:(z1==y1)=true:=by simp[e1]
        clear e1 HBad HJ;go_wp2_with fail;go_quiet (fail);go_wp2;go_ret;rw[HT.out];exact⟨rfl,by have:=HB1.out;(repeat (first|exact Below.refl _ _|assumption|refine Below.setCell ?_ (by first|exact Nat.le_refl _|omega|(simp;done)|(simp;omega)) _|refine below_drewN ?_ _|refine Below.drew ?_|refine Below.alloc ?_ (by first|exact Nat.le_refl _|omega|(simp;done)|(simp;omega)) _))⟩
       ·have t1:(z1==y1)=false:=by simp[e1]
        by_cases e2:z2=y2
        ·have HT:Hid (T.isTree l=false):=HBad.out (Or.inr e2);have t2:(z2==y2)=true:=by simp[e2]
         clear e1 e2 HBad HJ;go_wp2_with fail;go_quiet (fail);go_wp2;go_ret;rw[HT.out];exact⟨rfl,by have:=HB1.out;(repeat (first|exact Below.refl _ _|assumption|refine Below.setCell ?_ (by first|exact Nat.le_refl _|omega|(simp;done)|(simp;omega)) _|refine below_drewN ?_ _|refine Below.drew ?_|refine Below.alloc ?_ (by first|exact Nat.le_refl _|omega|(simp;done)|(simp;omega)) _))⟩
        ·have t2:(z2==y2)=false:=by simp[e2]
         have HT:Hid (T.clash (l.take (j+1)) (y1,y2,y3)=false):=by unfold Hid;rw[HJ.out];simp[e1,e2]
         clear e1 e2 HBad HJ;go_wp2_with fail;go_quiet (fail);go_wp2;go_roundw
         case rel=>exact⟨j+1,_,by omega,by go_num,by first|rfl|simp,HT⟩
         case measure=>simp[intOf];omega
      ·obtain rfl:j=k:=by omega
       have HT:Hid (T.isTree l=T.treeFrom (l.take (j+1)) (l.drop (j+1))):=by unfold Hid;rw[HS2.out,HCL.out];simp
       go_wp2;go_roundw
       case rel=>exact⟨j+1,by omega,by go_num,by have:=HB1.out;(repeat (first|exact Below.refl _ _|assumption|refine Below.setCell ?_ (by first|exact Nat.le_refl _|omega|(simp;done)|(simp;omega)) _|refine below_drewN ?_ _|refine Below.drew ?_|refine Below.alloc ?_ (by first|exact Nat.le_refl _|omega|(simp;done)|(simp;omega)) _)),HT⟩
       case measure=>simp[intOf];omega
   ·have HT:Hid (T.isTree l=true):=by unfold Hid;rw[HD.out,List.drop_of_length_le (by have:=Hn.out;omega)];rfl
    go_wp2;go_ret;rw[HT.out];exact⟨rfl,HW.out⟩
 ·have HT:Hid (T.isTree l=false):=by unfold Hid T.isTree;rw[Hn.out];simp[h16]
  have hlt16:(16:Int)<(n:Int):=by omega
  go_enter Tryz.func72,Tryz.ntmps72;go_wp2;go_ret;rw[HT.out];exact⟨rfl,Below.refl _ _⟩
theorem step_append_mine {P:Program} {ops:Array Oper} {o:Oper} {a:Act} {w:World} {K:Act→World→Prop} {Q:Exit→Act→World→Prop} {E:Prop}
 (hg:o.guard=none) (s x:Operand) (t:TypeId) (hop:o.op=Op.call {callee:=Callee.builtin Builtin.append,args:=#[s,x],argTypes:=#[t,t]})
 (base:Nat) (e:TypeId) (i:TypeInfo) (z:Value) (size bytes:Nat) (h1:P.underlying t=some (.slice e)) (h2:P.info? e=some i) (h3:i.zero=some z) (h4:i.size=size) (h5:i.bytes=bytes) (h6:z.cells.size=size) (h7:0<size)
 (v:Value) (n:Nat) (xs:List Value) (hs:a.eval s=v) (hown:w.ownsRow base e size v n xs)
 (ad:Addr) (m c:Nat) (news:List Value) (hx:a.eval x= .slice (some ad) m c) (hn:news.length=m*size) (hc:∀j u,news[j]? =some u→w.cell? (ad.add j)=some u) (h1c:∀u∈news,u.oneCell'=true)
 (b1:n+m≤maxLen) (b2:(n+m)*bytes≤140737488355328) (hb:base≤w.heap.size)
 (hK:∀v' w',w'.ownsRow base e size v' (n+m) (xs++news)→w.grownBy w' v.ownBlock→K (a.put o.dst v') w'): if Region.wanted o (yielded ops a.tmps)=true then Oper.wp P o a w K Q else E:=by
 have hw:Region.wanted o (yielded ops a.tmps)=true:=by simp[Region.wanted,hg]
 rw[if_pos hw];obtain⟨v',w',hrun,r1,r2,_⟩:=run_append_own (P:=P) w base t o.type e i z size bytes h1 h2 h3 h4 h5 h6 h7 v n xs hown ad m c news hn hc h1c b1 b2 hb;unfold Oper.wp;simp[execOp,hop,resolve,invoke,builtin,hs,hx,hrun,Result.andThen];exact hK v' w' r1 r2
theorem own_at {w:World} {base k cv:Nat} {bo:Option Addr} {acc:List T.Nd} (h:w.ownsRow base 76 3 (.slice bo k cv) k (ndCells acc)) (hl:acc.length=k):NodeAt w bo acc∧k≤cv:=by
 have h1:w.ownsRow base 76 3 (.slice bo acc.length cv) acc.length (ndCells acc):=by rw[hl];exact h
 obtain⟨ao',cap',e1,h2,_,h3⟩:=own_node h1;simp only[Value.slice.injEq] at e1;obtain⟨rfl,_,rfl⟩:=e1;exact⟨h3,by omega⟩
theorem smallSh (l:List T.Sh):(∀x∈l,x.2.size≤4611686018427387904)→∀old next,ndSmall next→ndSmall (T.planFrom old next l):=by
 intro h old;induction l with
 |nil=>intro next hn;exact hn
 |cons s r ih=>
  intro next hn
  unfold T.planFrom;refine ih (fun x hx=>h x (by simp[hx])) _ ?_;intro x hx;rcases List.mem_append.1 hx with hx|hx
  ·exact hn x hx
  ·rw[List.mem_singleton] at hx;subst hx;exact h s (by simp)
set_option maxRecDepth 100000 in
theorem refPlan_any (oo so:Option Addr) (oc sc:Nat) (old:List T.Nd) (shows:List T.Sh) (w:World) (hlo:old.length≤maxLen) (hls:shows.length≤maxLen) (hao:NodeAt w oo old) (hko:ndOk old) (hko2:ndSmall old) (has:ShAt w so shows) (hks:shOk shows) (hks2:∀x∈shows,x.2.size≤4611686018427387904): Calls Tryz.prog 59 #[.slice oo old.length oc,.slice so shows.length sc] w fun e w'=>planEnd old shows w e w':=by
 obtain⟨i0,hi,hz0,hz1,hz2⟩:=info_parts info60;have HT:Hid (∀u:World,Below w.heap.size w u→Calls Tryz.prog 72 #[.slice oo old.length oc] u fun e w'=>e= .returned (.bool (T.isTree old))∧Below u.heap.size u w'):=fun u hu=>refTree_any oo oc old u hlo (hao.below hu (Nat.le_refl _) hu.size) hko2;have HU:Hid (∀(id:Int) (u:World),Below w.heap.size w u→Calls Tryz.prog 73 #[.slice oo old.length oc,.int .i64 id] u fun e w'=>e= .returned (.bool (T.has old id))∧u=w'):=fun id u hu=>used_any oo oc old id u hlo (hao.below hu (Nat.le_refl _) hu.size) hko;unfold maxLen at hls;have HAo:Hid (NodeAt w oo old):=hao;obtain⟨on,hon⟩:∃n,n=old.length:=⟨_,rfl⟩;have HOn:Hid (old.length=on):=hon.symm;rw[←hon] at HT HU hlo ⊢;unfold maxLen at hlo;obtain⟨n,hn⟩:∃n,n=shows.length:=⟨_,rfl⟩;have Hn:Hid (shows.length=n):=hn.symm;rw[←hn];rw[←hn] at hls;have HA:Hid (ShAt w so shows):=has;have HK:Hid (shOk shows):=hks;have HK2:Hid (∀x∈shows,x.2.size≤4611686018427387904):=hks2;have HO:Hid (ndOk old):=hko;clear hn hon hao hko has hks hks2 hko2;cases hit:T.isTree old with
 |false=>
  have HV:Hid (T.planOk old shows=false):=by unfold Hid T.planOk;rw[hit];rfl
  rw[hit] at HT;clear hit;go_enter Tryz.func59,Tryz.ntmps59;go_wp2_with fail;refine(HT.out _ (Below.refl _ _)).mono ?_;rintro e w1 ⟨rfl,hb1⟩;go_wp2;go_ret2;exact planEnd_bad HV.out hb1
 |true=>
  have HI:Hid (T.isTree old=true):=hit;have h16:on≤16:=by have:=(T.isTree_iff old).1 hit;have:=HOn.out;omega
  rw[hit] at HT;clear hit;by_cases h8:n≤8
  ·have h8i:¬(8:Int)<(n:Int):=by omega
   go_enter Tryz.func59,Tryz.ntmps59;go_wp2_with fail;refine(HT.out _ (Below.refl _ _)).mono ?_;rintro e w1 ⟨rfl,hb1⟩;go_wp2_with fail;go_loopw [7,8] (fun v i wr=>∃(k cv:Nat) (bo:Option Addr) (acc:List T.Nd),v= .slice bo k cv∧k≤n∧i= .int .i64 k∧wr.ownsRow w.heap.size 76 3 (.slice bo k cv) k (ndCells acc)∧Below w.heap.size w wr∧Hid (acc=T.plan old (shows.take k))∧Hid (acc.length=k))
    (fun _ i _=>n-(intOf i).toNat)
   case atStart=>exact⟨0,0,none,[],rfl,Nat.zero_le _,rfl,World.ownsRow_nil _ _ _ _,hb1,rfl,rfl⟩
   case round=>
    obtain⟨k,cv,bo,acc,rfl,hk,rfl,hown,hbel,HP,HL⟩:=hrel;have HOw:Hid (wr.ownsRow w.heap.size 76 3 (.slice bo k cv) k (ndCells acc)):=hown;have HB:Hid (Below w.heap.size w wr):=hbel;have hsz:=hbel.size;have HNA:Hid (NodeAt wr bo acc∧k≤cv):=own_at hown HL.out;have HAcc:Hid (ndOk acc):=by unfold Hid;rw[HP.out];exact plan_ok HO.out (fun x hx=>HK.out x (List.mem_of_mem_take hx))
    clear hown hbel hb1;obtain⟨w1,hw1⟩:∃w1,w1=wr:=⟨_,rfl⟩;subst hw1;by_cases hlt:k<n
    ·obtain⟨y,hy⟩:∃x,shows[k]? =some x:=⟨shows[k]'(by have:=Hn.out;omega),List.getElem?_eq_getElem (by have:=Hn.out;omega)⟩;obtain⟨b,off,rfl,hbl,hr⟩:∃b off,so=some ⟨b,off,none⟩∧b<w.heap.size∧ShRow w b off shows:=HA.out.resolve_left (by rintro rfl;simp at hy);obtain⟨y1,y2⟩:=y;have HY:Hid (shows[k]? =some (y1,y2)):=hy;have HC:Hid (∀u:World,Below w.heap.size w u→u.cell? ⟨b,off+k*2,none⟩=some (.int .u16 y1)∧u.cell? ⟨b,off+k*2+1,none⟩=some (.string y2)):=fun u hu=>(hr.below hu hbl) k _ hy;have hrr:=T.refId_range (key:=y1) (next:=acc) HI.out (by have:=HL.out;omega);obtain⟨ID,hID⟩:∃id,id=T.refId y1 old acc:=⟨_,rfl⟩;have HID:Hid (ID=T.refId y1 old acc):=hID;rw[←hID] at hrr;obtain⟨r1,r2,r3,r4,r5⟩:=hrr;have HL0:Hid (0≤T.lastId y1 0 old∧T.lastId y1 0 old≤16∧1≤T.leastFrom old acc 25 1):=⟨r3,r4,r5⟩;have HUs:Hid (∀(id:Int) (u:World),Below w1.heap.size w1 u→Calls Tryz.prog 73 #[.slice bo k cv,.int .i64 id] u fun e w'=>e= .returned (.bool (T.has acc id))∧u=w'):=by intro id u hu;have:=used_any bo cv acc id u (by rw[HL.out];unfold maxLen;omega) (HNA.out.1.below hu (Nat.le_refl _) hu.size) HAcc.out;rw[HL.out] at this;exact this
     clear hy hr hID r3 r4 r5;have hki:(k:Int)<(n:Int):=by omega
     go_wp2_with fail;go_loopw [9,10] (fun vi i wr=>∃(q:Nat) (id:Int),vi= .int .i64 id∧q≤on∧i= .int .i64 q∧0≤id∧id≤255∧Below w1.heap.size w1 wr∧Hid (id=T.lastId y1 0 (old.take q)))
      (fun _ i _=>on-(intOf i).toNat)
     case atStart=>exact⟨0,0,rfl,Nat.zero_le _,rfl,by omega,by omega,Below.refl _ _,rfl⟩
     case round=>
      obtain⟨q,id,rfl,hq,rfl,hid0,hid1,hbel,HLa⟩:=hrel;have HB1:Hid (Below w1.heap.size w1 wr):=hbel;have hbw:Below w.heap.size w wr:=HB.out.trans (hbel.mono hsz);obtain⟨s0,s1⟩:=HC.out wr hbw;have HBw:Hid (Below w.heap.size w wr):=hbw;clear hbel hbw;by_cases hqn:q<on
      ·obtain⟨x,hx⟩:∃x,old[q]? =some x:=⟨old[q]'(by have:=HOn.out;omega),List.getElem?_eq_getElem (by have:=HOn.out;omega)⟩;obtain⟨bn,fn,rfl,hbn,hrn⟩:∃b off,oo=some ⟨b,off,none⟩∧b<w.heap.size∧NodeRow w b off old:=HAo.out.resolve_left (by rintro rfl;simp at hx);have hxk:=(HO.out x (List.mem_of_getElem? hx)).1;obtain⟨x1,x2,x3⟩:=x;obtain⟨c0,c1,c2⟩:=(hrn.below HBw.out hbn) q _ hx;simp only at c0 c1 c2;have HLb:Hid (T.lastId y1 0 (old.take (q+1))=if x2=y1 then x1 else id):=by unfold Hid;rw[List.take_add_one,hx,HLa.out];exact T.lastId_snoc y1 (x1,x2,x3) _ 0
       have hw1:wrap64 x1=x1:=by obtain⟨h0,h1,_⟩:=hxk;simp only at h0 h1;unfold wrap64;omega
       have hx0:0≤x1:=hxk.1;have hx1:x1≤255:=hxk.2.1;have hqi:(q:Int)<(on:Int):=by omega
       have hq0:(0:Int)≤(q:Int):=by omega
       have hk0:(0:Int)≤(k:Int):=by omega
       clear hx hrn hxk s1;by_cases hxy:x2=y1
       ·have HLc:Hid (x1=T.lastId y1 0 (old.take (q+1))):=by unfold Hid;rw[HLb.out,if_pos hxy]
        subst hxy;clear HLb HLa;go_wp2_with fail;go_quiet (fail);go_wp2;go_roundw
        case rel=>exact⟨q+1,x1,rfl,by omega,by go_num,hx0,hx1,below_drewN HB1.out _,HLc⟩
        case measure=>simp[intOf];omega
       ·have hbf:(x2==y1)=false:=by rw[beq_eq_false_iff_ne];exact hxy
        have HLc:Hid (id=T.lastId y1 0 (old.take (q+1))):=by unfold Hid;rw[HLb.out,if_neg hxy]
        clear HLb HLa hxy;go_wp2_with fail;go_quiet (fail);go_wp2;go_roundw
        case rel=>exact⟨q+1,id,rfl,by omega,by go_num,hid0,hid1,below_drewN HB1.out _,HLc⟩
        case measure=>simp[intOf];omega
      ·have HLc:Hid (id=T.lastId y1 0 old):=by unfold Hid;rw[HLa.out,List.take_of_length_le (by have:=HOn.out;omega)]
       have HF:Hid (id=ID∧¬id=0∨id=0∧ID=T.leastFrom old acc 25 1):=by
        unfold Hid;rw[HID.out];unfold T.refId;rw[←HLc.out];by_cases h0:id=0
        ·right;exact⟨h0,by rw[if_pos h0]⟩
        ·left;exact⟨by rw[if_neg h0],h0⟩
       have hqi:¬(q:Int)<(on:Int):=by omega
       clear HLa HLc s0 s1 hqn;go_wp2_with fail;go_loopw [9,11] (fun vi i wr=>∃(j:Nat) (id:Int),vi= .int .i64 id∧1≤j∧j≤26∧i= .int .i64 j∧0≤id∧id≤255∧Below w1.heap.size w1 wr∧Hid (id=ID∧¬id=0∨id=0∧ID=T.leastFrom old acc (26-j) j))
        (fun _ i _=>26-(intOf i).toNat)
       case atStart=>exact⟨1,id,rfl,by omega,by omega,rfl,hid0,hid1,HB1.out,HF⟩
       case round=>
        clear HF HB1 HBw;clear hid0 hid1;obtain⟨j,id,rfl,hj1,hj26,rfl,hid0,hid1,hbel,HF⟩:=hrel;have HB1:Hid (Below w1.heap.size w1 wr):=hbel;have HBw:Hid (Below w.heap.size w wr):=HB.out.trans (hbel.mono hsz);clear hbel;by_cases h0:id=0
        ·have HF2:Hid (ID=T.leastFrom old acc (26-j) j):=by
          rcases HF.out with ⟨_,h⟩|⟨_,h⟩
          ·exact absurd h0 h
          ·exact h
         have hj25:j≤25:=by
          by_cases hj:j=26
          ·exfalso;have h:=HF2.out;subst hj;rw[show T.leastFrom old acc (26-26) ((26:Nat):Int)=0 from rfl] at h;omega
          ·omega
         subst h0;clear HF;cases h1:T.has old j with
         |true=>
          have HT2:Hid (ID=T.leastFrom old acc (26-(j+1)) ((j+1:Nat):Int)):=by unfold Hid;rw[HF2.out,show 26-j=(26-(j+1))+1 by omega,T.leastFrom_skip (by rw[h1];simp)];rfl
          have HU1:Hid (Calls Tryz.prog 73 #[.slice oo on oc,.int .i64 j] wr fun e w'=>e= .returned (.bool true)∧wr=w'):=by have:=HU.out j wr HBw.out;rw[h1] at this;exact this
          have HU2:Hid (Calls Tryz.prog 73 #[.slice bo k cv,.int .i64 j] wr fun e w'=>e= .returned (.bool (T.has acc j))∧wr=w'):=HUs.out j wr HB1.out;generalize T.has acc j=hb at HU2;clear h1 HF2;go_wp2_with fail;refine HU1.out.mono ?_;rintro e w' ⟨rfl,rfl⟩;go_wp2_with fail;refine HU2.out.mono ?_;rintro e w' ⟨rfl,rfl⟩;clear HU1 HU2;go_wp2;go_roundw
          case rel=>exact⟨j+1,0,rfl,by omega,by omega,by go_num,by omega,by omega,HB1.out,Or.inr ⟨rfl,HT2.out⟩⟩
          case measure=>simp[intOf];omega
         |false=>
          have HU1:Hid (Calls Tryz.prog 73 #[.slice oo on oc,.int .i64 j] wr fun e w'=>e= .returned (.bool false)∧wr=w'):=by have:=HU.out j wr HBw.out;rw[h1] at this;exact this
          cases h2:T.has acc j with
          |true=>
           have HT2:Hid (ID=T.leastFrom old acc (26-(j+1)) ((j+1:Nat):Int)):=by unfold Hid;rw[HF2.out,show 26-j=(26-(j+1))+1 by omega,T.leastFrom_skip (by rw[h2];simp)];rfl
           have HU2:Hid (Calls Tryz.prog 73 #[.slice bo k cv,.int .i64 j] wr fun e w'=>e= .returned (.bool true)∧wr=w'):=by have:=HUs.out j wr HB1.out;rw[h2] at this;exact this
           clear h1 h2 HF2;go_wp2_with fail;refine HU1.out.mono ?_;rintro e w' ⟨rfl,rfl⟩;go_wp2_with fail;refine HU2.out.mono ?_;rintro e w' ⟨rfl,rfl⟩;clear HU1 HU2;go_wp2;go_roundw
           case rel=>exact⟨j+1,0,rfl,by omega,by omega,by go_num,by omega,by omega,HB1.out,Or.inr ⟨rfl,HT2.out⟩⟩
           case measure=>simp[intOf];omega
          |false=>
           have HT2:Hid (ID=(j:Int)):=by unfold Hid;rw[HF2.out,show 26-j=(26-(j+1))+1 by omega,T.leastFrom_take h1 h2]
           have HU2:Hid (Calls Tryz.prog 73 #[.slice bo k cv,.int .i64 j] wr fun e w'=>e= .returned (.bool false)∧wr=w'):=by have:=HUs.out j wr HB1.out;rw[h2] at this;exact this
           clear h1 h2 HF2;go_wp2_with fail;refine HU1.out.mono ?_;rintro e w' ⟨rfl,rfl⟩;go_wp2_with fail;refine HU2.out.mono ?_;rintro e w' ⟨rfl,rfl⟩;clear HU1 HU2;go_wp2;go_roundw
           case rel=>exact⟨j+1,j,rfl,by omega,by omega,by go_num,by omega,by omega,HB1.out,Or.inl ⟨HT2.out.symm,by omega⟩⟩
           case measure=>simp[intOf];omega
        ·have hidI:id=ID:=by
          rcases HF.out with ⟨h,_⟩|⟨h,_⟩
          ·exact h
          ·exact absurd h h0
         have hb0:(id==0)=false:=by rw[beq_eq_false_iff_ne];exact h0
         clear HF h0;subst hidI;by_cases hfar:16<id
         ·have HV:Hid (T.planOk old shows=false):=T.planOk_far HY.out (by rw[←HP.out];exact T.refId_far HI.out (by have:=HL.out;omega) (by rw[←HID.out];exact hfar));go_wp2;go_ret2;exact planEnd_bad HV.out HBw.out
         ·have HS:Hid (acc++[(id,y1,y2)]=T.plan old (shows.take (k+1))):=by unfold Hid T.plan;rw[List.take_add_one,HY.out];show _=T.planFrom old [] (shows.take k++[(y1,y2)]);rw[T.planFrom_snoc,HP.out];unfold T.mkN;have h:=T.refId_near (key:=y1) (next:=acc) HI.out (by have:=HL.out;omega) (by rw[←HID.out];exact hfar);rw[←HID.out,HP.out] at h;show _=_++[(T.idFor y1 old (T.plan old (shows.take k)),y1,y2)];rw[h];rfl
          obtain⟨s0,s1⟩:=HC.out wr HBw.out;have hsw:=HBw.out.size;have HO2:Hid (wr.ownsRow w.heap.size 76 3 (.slice bo k cv) k (ndCells acc)):=own_below' HOw.out HB1.out (Nat.le_refl _);have hw8:IntKind.u8.wrap id=id:=by simp[IntKind.wrap,IntKind.signed,IntKind.bits];omega
          have HOd:Hid (((wr.alloc (.cells #[.int .u8 id,.int .u16 y1,.string y2] 76)).drew).ownsRow w.heap.size 76 3 (.slice bo k cv) k (ndCells acc)):=HO2.out.alloc _;have hnews:Hid (∀j u,[Value.int .u8 id,.int .u16 y1,.string y2][j]? =some u→((wr.alloc (.cells #[.int .u8 id,.int .u16 y1,.string y2] 76)).drew).cell? ((⟨wr.heap.size,0,none⟩:Addr).add j)=some u):=new_three _ _ _ _ _;have hone:Hid (∀u∈[Value.int .u8 id,.int .u16 y1,.string y2],u.oneCell'=true):=by unfold Hid;intro u hu;simp at hu;rcases hu with rfl|rfl|rfl<;>rfl
          have hbase:Hid (w.heap.size≤((wr.alloc (.cells #[.int .u8 id,.int .u16 y1,.string y2] 76)).drew).heap.size):=by unfold Hid;simp;omega
          have hm63:Hid (k+1≤maxLen):=by unfold Hid maxLen;omega
          have hbyt:Hid ((k+1)*24≤140737488355328):=by unfold Hid;omega
          have HKEY:Hid (∀v3 w3,w3.ownsRow w.heap.size 76 3 v3 (k+1) (ndCells acc++[.int .u8 id,.int .u16 y1,.string y2])→((wr.alloc (.cells #[.int .u8 id,.int .u16 y1,.string y2] 76)).drew).grownBy w3 (Value.slice bo k cv).ownBlock→∃ao3 c3,v3= .slice ao3 (k+1) c3∧Hid (w3.ownsRow w.heap.size 76 3 (.slice ao3 (k+1) c3) (k+1) (ndCells (acc++[(id,y1,y2)])))∧Hid (Below w.heap.size w w3)):=by
           intro v3 w3 hown3 hg3;have hb3:Below w.heap.size w w3:=below_app ((HBw.out.alloc hsw _).drew) hg3 HOd.out (Nat.le_refl _) hbase.out;rcases hown3.2 with ⟨_,h⟩|⟨g3,cap3,_,h,_⟩
           ·omega
           ·refine⟨_,_,h,?_,hb3⟩;rw[h,←ndCells_snoc acc (id,y1,y2)] at hown3;exact hown3
          have hk0:(0:Int)≤(k:Int):=by omega
          clear HB HOw HNA HUs HO2 HB1 HAcc HC;go_wp2_with fail;go_region_law (refine step_append_mine rfl (.tmp 71) (.tmp 85) 28 rfl w.heap.size 76 i0 (.agg #[.int .u8 0,.int .u16 0,.string ⟨#[]⟩]) 3 24 Tryz.underlying28 hi hz0 hz1 hz2 rfl (by decide) (.slice bo k cv) k (ndCells acc) (by simp[Act.eval]) HOd.out ⟨wr.heap.size,0,none⟩ 1 1 [.int .u8 id,.int .u16 y1,.string y2] (by simp[Act.eval]) rfl hnews.out hone.out hm63.out hbyt.out hbase.out ?_;intro v3 w3 hown3 hg3;obtain⟨ao3,c3,hv3,HO3,HB3⟩:=HKEY.out v3 w3 hown3 hg3;rw[hv3];clear hown3 hg3 hv3)
          all_goals go_wp2
          all_goals
           go_roundw
           case rel=>exact⟨k+1,c3,ao3,acc++[(id,y1,y2)],rfl,by omega,by go_num,HO3.out,HB3.out,HS,by unfold Hid;simp[HL.out]⟩
           case measure=>simp[intOf];omega
    ·have hkn:k=n:=by omega
     subst hkn;have HPL:Hid (acc=T.plan old shows):=by unfold Hid;rw[HP.out,List.take_of_length_le (by have:=Hn.out;omega)]
     have HC:Hid (Calls Tryz.prog 72 #[.slice bo k cv] w1 fun e w'=>e= .returned (.bool (T.isTree acc))∧Below w1.heap.size w1 w'):=by have:=refTree_any bo cv acc w1 (by rw[HL.out];unfold maxLen;omega) HNA.out.1 (by rw[HPL.out];exact smallSh shows HK2.out old [] (by intro x hx;simp at hx));rw[HL.out] at this;exact this
     have hki:¬(k:Int)<(k:Int):=by omega
     clear hlt;cases hit:T.isTree acc with
     |false=>
      have HV:Hid (T.planOk old shows=false):=by unfold Hid T.planOk;rw[←HPL.out,hit];simp
      rw[hit] at HC;clear hit;go_wp2_with fail;refine HC.out.mono ?_;rintro e w2 ⟨rfl,hb2⟩;have HB2:Hid (Below w.heap.size w w2):=HB.out.trans (hb2.mono hsz);clear hb2 HC;go_wp2;go_ret2;exact planEnd_bad HV.out HB2.out
     |true=>
      have HV:Hid (T.planOk old shows=true):=by unfold Hid T.planOk;rw[←HPL.out,hit,HI.out,Hn.out];simp[h8]
      rw[hit] at HC;clear hit;go_wp2_with fail;refine HC.out.mono ?_;rintro e w2 ⟨rfl,hb2⟩;have HB2:Hid (Below w.heap.size w w2):=HB.out.trans (hb2.mono hsz);have HO2:Hid (w2.ownsRow w.heap.size 76 3 (.slice bo k cv) k (ndCells acc)):=own_below' HOw.out hb2 (Nat.le_refl _);clear hb2 HC;go_wp2;go_ret2;refine planEnd_good HV.out ?_ HB2.out;rw[←HPL.out,HL.out];exact HO2.out
  ·have h8i:(8:Int)<(n:Int):=by omega
   have HV:Hid (T.planOk old shows=false):=by unfold Hid T.planOk;rw[Hn.out];simp[h8]
   go_enter Tryz.func59,Tryz.ntmps59;go_wp2_with fail;refine(HT.out _ (Below.refl _ _)).mono ?_;rintro e w1 ⟨rfl,hb1⟩;go_wp2;go_ret2;exact planEnd_bad HV.out hb1
end Go.Proofs.YtidaflmmldefcaaGreat.Tr
namespace Go.Proofs.YtidaflmmldefcaaGreat
open Go.RowKit
set_option linter.unusedVariables false
section
variable {w V wc w2 : World} {R : RB} {H1 H2 : Hs} {held1 held2 : List Int} {t : Nat} {y : Tn}
theorem RAft.cells (h:RAft V R H1 held1 wc) {n:Nat} (hn:H1.ts.length=n):RC wc R n:=by
 obtain⟨nv,bv,lv,a1,_,_⟩:=h;exact a1.cells hn
theorem RAft.frames (h:RAft V R H1 held1 wc):wc.cell? ⟨R.rb,2,none⟩=some (.int .i64 H1.frames):=by
 obtain⟨nv,bv,lv,a1,_,_⟩:=h;rw[a1.host.cell 2];rfl
theorem RAft.phase (h:RAft V R H1 held1 wc) (hx:H1.ts[t]? =some y):wc.cell? ⟨R.p,t,none⟩=some (.int .i64 y.phase)∧wc.frozen? ⟨R.p,t,none⟩=false:=by
 obtain⟨nv,bv,lv,a1,_,_⟩:=h;exact⟨own_cellN a1.rp (by rw[List.getElem?_map,hx];rfl),own_freeN a1.rp t⟩
theorem RAft.until_ (h:RAft V R H1 held1 wc) (hx:H1.ts[t]? =some y):wc.cell? ⟨R.u,t,none⟩=some (.int .i64 y.until_)∧wc.frozen? ⟨R.u,t,none⟩=false:=by
 obtain⟨nv,bv,lv,a1,_,_⟩:=h;exact⟨own_cellN a1.ru (by rw[List.getElem?_map,hx];rfl),own_freeN a1.ru t⟩
theorem RAft.heldc (h:RAft V R H1 held1 wc) {q:Int} (hx:held1[t]? =some q):wc.cell? ⟨R.h,t,none⟩=some (.int .i64 q)∧wc.frozen? ⟨R.h,t,none⟩=false:=by
 obtain⟨nv,bv,lv,a1,_,_⟩:=h;exact⟨own_cellN a1.rh (by rw[List.getElem?_map,hx];rfl),own_freeN a1.rh t⟩
theorem RAft.mfc (h:RAft V R H1 held1 wc) (hx:H1.ts[t]? =some y) (j:Nat) (hj:j<7):wc.cell? ⟨R.m,t*7+j,none⟩=y.mf.arr[j]? :=by
 obtain⟨nv,bv,lv,a1,_,_⟩:=h;exact a1.mf hx j hj
theorem RAft.boxc (h:RAft V R H1 held1 wc) (hx:H1.ts[t]? =some y):∃v,wc.cell? ⟨R.b,t,none⟩=some v∧wc.frozen? ⟨R.b,t,none⟩=false:=by
 obtain⟨nv,bv,lv,a1,_,_⟩:=h;have hl:t<bv.length:=by have:=a1.blen;simp only at this;rw[this];exact(List.getElem?_eq_some_iff.1 hx).1
 exact⟨_,own_cellN a1.rx (List.getElem?_eq_getElem hl),own_freeN a1.rx t⟩
theorem RAft.nodec (h:RAft V R H1 held1 wc) (hx:H1.ts[t]? =some y):∃no nc,(wc.cell? ⟨R.n,t,none⟩=some (.slice no y.nodes.length nc)∧wc.frozen? ⟨R.n,t,none⟩=false)∧Tr.NodeAt wc no y.nodes:=by
 obtain⟨nv,bv,lv,a1,_,_⟩:=h;have hl:t<nv.length:=by have:=a1.nlen;simp only at this;rw[this];exact(List.getElem?_eq_some_iff.1 hx).1
 obtain⟨no,nc,e,_,_,q⟩:=Tr.own_node (a1.nodes t y _ hx (List.getElem?_eq_getElem hl));exact⟨no,nc,⟨by rw[←e];exact own_cellN a1.rn (List.getElem?_eq_getElem hl),own_freeN a1.rn t⟩,q⟩
theorem RAft.cellc (h:RAft V R H1 held1 wc) (hx:H1.ts[t]? =some y) (j:Nat) (hj:j<8):wc.cell? ⟨R.c,t*8+j,none⟩=some (.int .u16 (y.cells.getD j 0))∧∀i,wc.frozen? ⟨R.c,i,none⟩=false:=by
 obtain⟨nv,bv,lv,a1,_,_⟩:=h;exact⟨own_cellN a1.rc (cells8_get _ t y hx j hj),own_freeN a1.rc⟩
theorem RAft.lt (h:RAft V R H1 held1 wc):R.rb<wc.heap.size:=by
 obtain⟨nv,bv,lv,a1,_,_⟩:=h;exact a1.host.lt
structure RSt (V:World) (R:RB) (g base:Nat) (out:Array Value) (sv dv:Value) (shows:List (Int×ByteArray)) (sends:List (Int×Int)) (H1:Hs) (held1:List Int) (wc:World):Prop where
 aft:RAft V R H1 held1 wc
 out:Blk wc g out 124
 shows:wc.ownsRow base 132 2 sv shows.length (showCells shows)
 sends:wc.ownsRow base 108 2 dv sends.length (sendCells sends)
variable {g base : Nat} {out : Array Value} {sv dv : Value} {shows : List (Int × ByteArray)} {sends : List (Int × Int)}
theorem RSt.go (h:RSt V R g base out sv dv shows sends H1 held1 wc) (k:∀nv bv lv,RefAt wc {R with nv:=nv,bv:=bv,lv:=lv} H1 held1→RAft wc {R with nv:=nv,bv:=bv,lv:=lv} H2 held2 w2):RSt V R g base out sv dv shows sends H2 held2 w2:=by
 obtain⟨nv,bv,lv,a1,a2,a3⟩:=h.aft;have q:=k nv bv lv a1;have q2:=q;obtain⟨_,_,_,_,c2,_⟩:=q2;exact⟨RAft.trans (H1:=H1) (held1:=held1) a2 a3 q,a1.keep_blk c2 h.out (by decide),a1.keep_own c2 h.shows (by decide),a1.keep_own c2 h.sends (by decide)⟩
theorem RSt.below (h:RSt V R g base out sv dv shows sends H1 held1 wc) (hb:Below wc.heap.size wc w2):RSt V R g base out sv dv shows sends H1 held1 w2:=h.go fun nv bv lv r=>⟨nv,bv,lv,r.below hb,Kept.of_below hb,fun k q=>Or.inl q⟩
theorem RSt.sz (h:RSt V R g base out sv dv shows sends H1 held1 wc):V.heap.size≤wc.heap.size:=by obtain⟨_,_,_,_,a2,_⟩:=h.aft;exact a2.size
theorem RSt.step {H:Hs} {y':Tn} (h:RSt V R g base out sv dv shows sends {H with ts:=H.ts.set t y} held1 wc) (ht:t<H.ts.length) (k:∀nv bv lv,RefAt wc {R with nv:=nv,bv:=bv,lv:=lv} {H with ts:=H.ts.set t y} held1→({H with ts:=H.ts.set t y}:Hs).ts[t]? =some y→RAft wc {R with nv:=nv,bv:=bv,lv:=lv} {H with ts:=(H.ts.set t y).set t y'} held2 w2):RSt V R g base out sv dv shows sends {H with ts:=H.ts.set t y'} held2 w2:=by
 have q:=h.go (H2:={H with ts:=(H.ts.set t y).set t y'}) (held2:=held2) (w2:=w2) fun nv bv lv r=>k nv bv lv r (List.getElem?_set_self ht);rw[List.set_set] at q;exact q
theorem RSt.call (h:RSt V R g base out sv dv shows sends H1 held1 wc):∃nv bv lv,RefAt wc {R with nv:=nv,bv:=bv,lv:=lv} H1 held1∧∀H2 held2 w2,RAft wc {R with nv:=nv,bv:=bv,lv:=lv} H2 held2 w2→RSt V R g base out sv dv shows sends H2 held2 w2∧∀v n xs,wc.ownsRow V.heap.size 118 3 v n xs→w2.ownsRow V.heap.size 118 3 v n xs:=by
 obtain⟨nv,bv,lv,a1,a2,a3⟩:=h.aft;refine⟨nv,bv,lv,a1,fun H2 held2 w2 q=>?_⟩;have q2:=q;obtain⟨_,_,_,_,c2,_⟩:=q2;exact⟨⟨RAft.trans (H1:=H1) (held1:=held1) a2 a3 q,a1.keep_blk c2 h.out (by decide),a1.keep_own c2 h.shows (by decide),a1.keep_own c2 h.sends (by decide)⟩,fun v n xs ho=>a1.keep_own c2 ho (by decide)⟩
theorem RSt.grown (h:RSt V R g base out sv dv shows sends H1 held1 wc) {v:Value} {n:Nat} {xs:List Value} (ho:wc.ownsRow V.heap.size 118 3 v n xs) (hg:wc.grownBy w2 v.ownBlock):RSt V R g base out sv dv shows sends H1 held1 w2:=by
 have hk:∀{b:Nat} {cs:Array Value} {t':TypeId},Blk wc b cs t'→t'≠118→Blk w2 b cs t':=by intro b cs t' hb ht;refine hb.of_block (hg.block b hb.lt fun e=>?_);obtain⟨c,q⟩:=own_blk ho e.symm;exact hb.ne q ht rfl
 have hr:∀{b:Nat} {t':TypeId} {size:Nat} {z:Value} {m:Nat} {zs:List Value},wc.ownsRow b t' size z m zs→t'≠118→w2.ownsRow b t' size z m zs:=by intro b t' size z m zs hz ht;refine own_block hz fun k hk'=>?_;obtain⟨c,q⟩:=own_blk hz hk';exact(hk q ht).trans q.symm
 exact⟨h.aft.grown ho (Nat.le_refl _) hg (by decide),hk h.out (by decide),hr h.shows (by decide),hr h.sends (by decide)⟩
theorem pow_small:∀k:Nat,k≤4→(0:Int)≤2^k∧(2:Int)^k≤16
 |0,_=>by decide
 |1,_=>by decide
 |2,_=>by decide
 |3,_=>by decide
 |4,_=>by decide
 |k+5,h=>by omega
theorem heldSh_at (W:World):Tr.ShAt (W.alloc (.cells #[.int .u16 65535,.string ⟨#[33]⟩] 132)) (some ⟨W.heap.size,0,none⟩) heldShow:=by
 have q:=new_two W (.int .u16 65535) (.string ⟨#[33]⟩) 132;refine Or.inr ⟨W.heap.size,0,rfl,by simp,fun i x hx=>?_⟩;match i,hx with
 |0,hx=>simp[heldShow] at hx;subst hx;have q0:=q 0 _ rfl;have q1:=q 1 _ rfl;simp only[Addr.add_lit] at q0 q1;exact⟨q0,q1⟩
 |(i+1),hx=>simp[heldShow] at hx
theorem info118:(Tryz.prog.info? 118).map (fun i=>(i.zero,i.size,i.bytes))=some (some (.agg #[.int .i64 0,.int .i64 0,.int .i64 0]),3,24):=by kernel_rfl
theorem pow_times (k:Nat):(2:Int)*2^k=2^(k+1):=by rw[Int.pow_succ,Int.mul_comm]
end
end Go.Proofs.YtidaflmmldefcaaGreat
