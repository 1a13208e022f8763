/- Parts of the proof of Hosts: TextB, TextC, NodeC, IdFor, PlanW, Ten. -/
import Derived.Test.YtidaflmmldefcaaGreatQ01
import Derived.Deep.RegionWith
import Derived.Laws.OwnMore
import Derived.Maps.AppendAt
set_option maxHeartbeats 4000000
namespace Go.Proofs.YtidaflmmldefcaaGreat.Tr
open Go.RowKit
set_option linter.unusedVariables false
theorem text_any (s:ByteArray) (w:World) (hs:s.size≤maxLen): Calls Tryz.prog 103 #[.string s] w fun e w'=>e= .returned (.bool (T.isText (T.bts s)))∧Below w.heap.size w w':=by
 have Hs:Hid (s.size≤maxLen):=hs;unfold maxLen at hs;have HL:Hid ((T.bts s).length=s.size):=T.bts_length s;go_enter Tryz.func103,Tryz.ntmps103;go_wp2;go_loopw [3,4] (fun p i wr=>∃(k q:Nat),k≤6∧q≤s.size∧p= .int .i64 q∧i= .int .i64 k∧Below w.heap.size w wr∧Hid (T.isText (T.bts s)=T.textFrom (T.bts s) (6-k) q))
  (fun _ i _=>6-(intOf i).toNat)
 case atStart=>exact⟨0,0,by omega,by omega,rfl,rfl,Below.refl _ _,rfl⟩
 case round=>
  obtain⟨k,q,hk,hq,rfl,rfl,hb,HT⟩:=hrel;have HB:Hid (Below w.heap.size w wr):=hb;have hsz:w.heap.size≤wr.heap.size:=hb.size;clear hb;by_cases h6:k<6
  ·by_cases hlt:q<s.size
   ·obtain⟨c,hc⟩:∃c:Nat,c=T.size (T.bts s) q:=⟨_,rfl⟩;have hle:=T.size_le (T.bts s) q;have hl4:=T.size_le4 (T.bts s) q;rw[←hc,HL.out] at hle;rw[←hc] at hl4;have HC:Hid (∀u:World,Calls Tryz.prog 107 #[.string s,.int .i64 q] u fun e w'=>e= .returned (.int .i64 c)∧Below u.heap.size u w'):=by intro u;rw[hc];exact char_any s q u Hs.out hlt
    by_cases hc0:c=0
    ·have HF:Hid (T.isText (T.bts s)=false):=by unfold Hid;rw[HT.out,T.textFrom_bad _ _ _ (by omega) (by rw[HL.out];exact hlt) (by omega)]
     clear hc hle hl4;subst hc0;go_wp2_with (go_at_call 107;refine(HC.out _).mono ?_;rintro e w1 ⟨rfl,hb1⟩);go_ret;rw[HF.out];exact⟨rfl,HB.out.trans (hb1.mono hsz)⟩
    ·have HT':Hid (T.isText (T.bts s)=T.textFrom (T.bts s) (6-(k+1)) (q+c)):=by unfold Hid;rw[HT.out,show 6-k=(6-(k+1))+1 by omega,T.textFrom_next _ _ _ (by rw[HL.out];exact hlt) (by omega),←hc]
     have hle2:q+c≤s.size:=by omega
     have hb0:((c:Int)==0)=false:=by rw[beq_eq_false_iff_ne];omega
     clear hc hle HT hc0;go_wp2_with (go_at_call 107;refine(HC.out _).mono ?_;rintro e w1 ⟨rfl,hb1⟩);go_roundw
     case rel=>exact⟨k+1,q+c,by omega,by omega,by go_num,by go_num,HB.out.trans (hb1.mono hsz),HT'⟩
     case measure=>simp[intOf];omega
   ·have HF:Hid (T.isText (T.bts s)=true):=by unfold Hid;rw[HT.out,T.textFrom_end _ _ _ (by rw[HL.out];exact hlt),HL.out];simp;omega
    have hq2:q=s.size:=by omega
    clear hlt;subst hq2;go_wp2;go_ret;rw[HF.out];exact⟨rfl,HB.out⟩
  ·have hk6:k=6:=by omega
   subst hk6;have HF:Hid (T.isText (T.bts s)=decide (q=s.size)):=by unfold Hid;rw[HT.out];show decide (q=(T.bts s).length)=_;rw[HL.out]
   clear HT h6;by_cases hq2:q=s.size
   ·have HG:Hid (T.isText (T.bts s)=true):=by unfold Hid;rw[HF.out];simp[hq2]
    subst hq2;go_wp2;go_ret;rw[HG.out];exact⟨rfl,HB.out⟩
   ·have HG:Hid (T.isText (T.bts s)=false):=by unfold Hid;rw[HF.out];simp[hq2]
    have hb0:((q:Int)==(s.size:Int))=false:=by rw[beq_eq_false_iff_ne];omega
    clear hq2;go_wp2;go_ret;rw[HG.out];exact⟨rfl,HB.out⟩
def NodeRow (w:World) (b off:Nat) (l:List T.Nd):Prop:=∀i x,l[i]? =some x→w.cell? ⟨b,off+i*3,none⟩=some (.int .u8 x.1)∧w.cell? ⟨b,off+i*3+1,none⟩=some (.int .u16 x.2.1)∧w.cell? ⟨b,off+i*3+2,none⟩=some (.string x.2.2)
theorem NodeRow.below {B:Nat} {w w':World} {b off:Nat} {l:List T.Nd} (h:NodeRow w b off l) (hb:Below B w w') (hl:b<B):NodeRow w' b off l:=by
 intro i x hx;obtain⟨h0,h1,h2⟩:=h i x hx;exact⟨(hb.cell hl).trans h0,(hb.cell hl).trans h1,(hb.cell hl).trans h2⟩
theorem NodeRow.lt {w:World} {b off:Nat} {l:List T.Nd} (h:NodeRow w b off l) {i:Nat} {x:T.Nd} (hx:l[i]? =some x):b<w.heap.size:=World.block_lt_of_cell? _ _ (h i x hx).1
theorem NodeRow.take {w:World} {b off:Nat} {l:List T.Nd} (h:NodeRow w b off l) (k:Nat):NodeRow w b off (l.take k):=by
 intro i x hx;rw[List.getElem?_take] at hx;split at hx
 ·exact h i x hx
 ·cases hx
def NodeAt (w:World) (ao:Option Addr) (l:List T.Nd):Prop:=l=[]∨∃b off,ao=some ⟨b,off,none⟩∧b<w.heap.size∧NodeRow w b off l
theorem NodeAt.below {B:Nat} {w w':World} {ao:Option Addr} {l:List T.Nd} (h:NodeAt w ao l) (hb:Below B w w') (hB:w.heap.size≤B) (hs:w.heap.size≤w'.heap.size):NodeAt w' ao l:=by
 rcases h with h|⟨b,off,e,hl,h⟩
 ·exact Or.inl h
 ·exact Or.inr ⟨b,off,e,by omega,h.below hb (by omega)⟩
theorem drop_cons {α:Type} (l:List α) (k:Nat) (x:α) (h:l[k]? =some x):l.drop k=x::l.drop (k+1):=by
 obtain⟨hk,rfl⟩:=List.getElem?_eq_some_iff.1 h;rw[List.drop_eq_getElem_cons hk]
theorem clash_any (ao:Option Addr) (cap:Nat) (l:List T.Nd) (x1 x2:Int) (x3:ByteArray) (w:World) (hl:l.length≤maxLen) (ha:NodeAt w ao l): Calls Tryz.prog 104 #[.slice ao l.length cap,.agg #[.int .u8 x1,.int .u16 x2,.string x3]] w fun e w'=>e= .returned (.bool (T.clash l (x1,x2,x3)))∧Below w.heap.size w w':=by
 unfold maxLen at hl;obtain⟨n,hn⟩:∃n,n=l.length:=⟨_,rfl⟩;have Hn:Hid (l.length=n):=hn.symm;rw[←hn];rw[←hn] at hl;have HA:Hid (NodeAt w ao l):=ha;clear hn ha;go_enter Tryz.func104,Tryz.ntmps104;go_wp2;go_loopw [9] (fun i wr=>∃(k:Nat),k≤n∧i= .int .i64 k∧Below (w.heap.size+1) (w.alloc (.cells #[.int .u8 x1,.int .u16 x2,.string x3] 76)) wr∧Hid (T.clash l (x1,x2,x3)=T.clash (l.drop k) (x1,x2,x3)))
  (fun i _=>n-(intOf i).toNat)
 case atStart=>exact⟨0,Nat.zero_le _,rfl,Below.refl _ _,rfl⟩
 case round=>
  obtain⟨k,hk,rfl,hb,HD⟩:=hrel;have HB:Hid (Below (w.heap.size+1) (w.alloc (.cells #[.int .u8 x1,.int .u16 x2,.string x3] 76)) wr):=hb;have HW:Hid (Below w.heap.size w wr):=(((Below.refl _ _).alloc (Nat.le_refl _) _).trans (hb.mono (by omega)));have hsz:w.heap.size+1≤wr.heap.size:=by have:=hb.size;simpa using this
  have hx:Blk wr w.heap.size #[.int .u8 x1,.int .u16 x2,.string x3] 76:=(Blk.new w _ 76).below hb (by omega);have d0:=hx.cell 0;have d1:=hx.cell 1;simp at d0 d1;clear hx hb;by_cases hlt:k<n
  ·obtain⟨y,hy⟩:∃x,l[k]? =some x:=⟨l[k]'(by have:=Hn.out;omega),List.getElem?_eq_getElem (by have:=Hn.out;omega)⟩;obtain⟨b,off,rfl,hbl,hr⟩:∃b off,ao=some ⟨b,off,none⟩∧b<w.heap.size∧NodeRow w b off l:=HA.out.resolve_left (by rintro rfl;simp at hy);obtain⟨y1,y2,y3⟩:=y;obtain⟨c0,c1,c2⟩:=(hr.below HW.out hbl) k _ hy;simp only at c0 c1 c2;have HS:Hid (T.clash l (x1,x2,x3)=(decide (y1=x1∨y2=x2)||T.clash (l.drop (k+1)) (x1,x2,x3))):=by unfold Hid;rw[HD.out,drop_cons l k _ hy];rfl
   have hbw:b<wr.heap.size:=by omega
   have hbne:¬b=wr.heap.size:=by omega
   have hwne:¬w.heap.size=wr.heap.size:=by omega
   have hww:w.heap.size<wr.heap.size:=by omega
   clear hy hr;by_cases h1:y1=x1
   ·subst h1;have HT:Hid (T.clash l (y1,x2,x3)=true):=by unfold Hid;rw[HS.out];simp
    go_wp2;go_ret;rw[HT.out];exact⟨rfl,by have:=HW.out;(repeat (first|exact Below.refl _ _|assumption|refine Below.setCell ?_ (by first|exact Nat.le_refl _|omega|(simp;done)|(simp;omega)) _|refine below_drewN ?_ _|refine Below.drew ?_|refine Below.alloc ?_ (by first|exact Nat.le_refl _|omega|(simp;done)|(simp;omega)) _))⟩
   ·have hb1:(y1==x1)=false:=by rw[beq_eq_false_iff_ne];exact h1
    by_cases h2:y2=x2
    ·subst h2;have HT:Hid (T.clash l (x1,y2,x3)=true):=by unfold Hid;rw[HS.out];simp
     clear h1;go_wp2;go_ret;rw[HT.out];exact⟨rfl,by have:=HW.out;(repeat (first|exact Below.refl _ _|assumption|refine Below.setCell ?_ (by first|exact Nat.le_refl _|omega|(simp;done)|(simp;omega)) _|refine below_drewN ?_ _|refine Below.drew ?_|refine Below.alloc ?_ (by first|exact Nat.le_refl _|omega|(simp;done)|(simp;omega)) _))⟩
    ·have hb2:(y2==x2)=false:=by rw[beq_eq_false_iff_ne];exact h2
     have HT:Hid (T.clash l (x1,x2,x3)=T.clash (l.drop (k+1)) (x1,x2,x3)):=by unfold Hid;rw[HS.out];simp[h1,h2]
     clear h1 h2;go_wp2;go_roundw
     case rel=>exact⟨k+1,by omega,by go_num,by have:=HB.out;(repeat (first|exact Below.refl _ _|assumption|refine Below.setCell ?_ (by first|exact Nat.le_refl _|omega|(simp;done)|(simp;omega)) _|refine below_drewN ?_ _|refine Below.drew ?_|refine Below.alloc ?_ (by first|exact Nat.le_refl _|omega|(simp;done)|(simp;omega)) _)),HT⟩
     case measure=>simp[intOf];omega
  ·have HT:Hid (T.clash l (x1,x2,x3)=false):=by unfold Hid;rw[HD.out,List.drop_of_length_le (by have:=Hn.out;omega)];rfl
   go_wp2;go_ret;rw[HT.out];exact⟨rfl,HW.out⟩
def ndOk (l:List T.Nd):Prop:=∀x∈l,T.inGo x∧x.2.2.size≤maxLen
theorem treeFrom_cut {l:List T.Nd} {k:Nat} {y:T.Nd} (hy:l[k]? =some y): T.treeFrom (l.take k) (l.drop k)=(T.okNd y&&!T.clash (l.take k) y&&T.treeFrom (l.take (k+1)) (l.drop (k+1))):=by
 rw[drop_cons l k _ hy,List.take_add_one,hy];rfl
theorem tree_any (ao:Option Addr) (cap:Nat) (l:List T.Nd) (w:World) (hl:l.length≤maxLen) (hc:l.length≤cap) (ha:NodeAt w ao l) (hk:ndOk l): Calls Tryz.prog 99 #[.slice ao l.length cap] w fun e w'=>e= .returned (.bool (T.isTree l))∧Below w.heap.size w w':=by
 unfold maxLen at hl;obtain⟨n,hn⟩:∃n,n=l.length:=⟨_,rfl⟩;have Hn:Hid (l.length=n):=hn.symm;rw[←hn];rw[←hn] at hl hc;have HA:Hid (NodeAt w ao l):=ha;have HK:Hid (ndOk l):=hk;clear hn ha hk;by_cases h16:n≤16
 ·have HT0:Hid (T.isTree l=T.treeFrom (l.take 0) (l.drop 0)):=by unfold Hid T.isTree;rw[Hn.out];simp[h16]
  have hlt16:¬(16:Int)<(n:Int):=by omega
  go_enter Tryz.func99,Tryz.ntmps99;go_wp2;go_loopw [10] (fun i wr=>∃(k:Nat),k≤n∧i= .int .i64 k∧Below w.heap.size w wr∧Hid (T.isTree l=T.treeFrom (l.take k) (l.drop k)))
   (fun i _=>n-(intOf i).toNat)
  case atStart=>exact⟨0,Nat.zero_le _,rfl,Below.refl _ _,HT0⟩
  case round=>
   obtain⟨k,hk,rfl,hb,HD⟩:=hrel;have HW:Hid (Below w.heap.size w wr):=hb;have hsz:w.heap.size≤wr.heap.size:=hb.size;clear hb;by_cases hlt:k<n
   ·obtain⟨y,hy⟩:∃x,l[k]? =some x:=⟨l[k]'(by have:=Hn.out;omega),List.getElem?_eq_getElem (by have:=Hn.out;omega)⟩;obtain⟨b,off,rfl,hbl,hr⟩:∃b off,ao=some ⟨b,off,none⟩∧b<w.heap.size∧NodeRow w b off l:=HA.out.resolve_left (by rintro rfl;simp at hy);have hyk:=HK.out y (List.mem_of_getElem? hy);obtain⟨y1,y2,y3⟩:=y;obtain⟨c0,c1,c2⟩:=(hr.below HW.out hbl) k _ hy;simp only at c0 c1 c2;have HS:Hid (T.isTree l=(T.okNd (y1,y2,y3)&&!T.clash (l.take k) (y1,y2,y3)&&T.treeFrom (l.take (k+1)) (l.drop (k+1)))):=by unfold Hid;rw[HD.out,treeFrom_cut hy]
    have HY:Hid (y3.size≤maxLen):=hyk.2;have HR:Hid (NodeRow w b off l):=hr;have HC:Hid (∀u:World,Below w.heap.size w u→Calls Tryz.prog 104 #[.slice (some ⟨b,off,none⟩) k cap,.agg #[.int .u8 y1,.int .u16 y2,.string y3]] u fun e w'=>e= .returned (.bool (T.clash (l.take k) (y1,y2,y3)))∧Below u.heap.size u w'):=by
     intro u hu;have hlen:(l.take k).length=k:=by rw[List.length_take,Hn.out];omega
     have:=clash_any (some ⟨b,off,none⟩) cap (l.take k) y1 y2 y3 u (by unfold maxLen;omega) (Or.inr ⟨b,off,rfl,by have:=hu.size;omega,(HR.out.take k).below hu hbl⟩);rwa [hlen] at this
    have hbw:b<wr.heap.size:=by omega
    have hbne:¬b=wr.heap.size:=by omega
    have hkc:(k:Int)≤(cap:Int):=by omega
    have hkc2:k≤cap:=by omega
    clear hy hr hyk;by_cases h1:y1<1
    ·have HT:Hid (T.isTree l=false):=by unfold Hid;rw[HS.out];simp[T.okNd];omega
     go_wp2;go_ret;rw[HT.out];exact⟨rfl,by have:=HW.out;(repeat (first|exact Below.refl _ _|assumption|refine Below.setCell ?_ (by first|exact Nat.le_refl _|omega|(simp;done)|(simp;omega)) _|refine below_drewN ?_ _|refine Below.drew ?_|refine Below.alloc ?_ (by first|exact Nat.le_refl _|omega|(simp;done)|(simp;omega)) _))⟩
    by_cases h2:16<y1
    ·have HT:Hid (T.isTree l=false):=by unfold Hid;rw[HS.out];simp[T.okNd];omega
     go_wp2;go_ret;rw[HT.out];exact⟨rfl,by have:=HW.out;(repeat (first|exact Below.refl _ _|assumption|refine Below.setCell ?_ (by first|exact Nat.le_refl _|omega|(simp;done)|(simp;omega)) _|refine below_drewN ?_ _|refine Below.drew ?_|refine Below.alloc ?_ (by first|exact Nat.le_refl _|omega|(simp;done)|(simp;omega)) _))⟩
    cases ht:T.isText (T.bts y3) with
    |false=>
     have HT:Hid (T.isTree l=false):=by unfold Hid;rw[HS.out];simp[T.okNd,ht]
     go_wp2_with (go_at_call 103;refine(text_any y3 _ HY.out).mono ?_;rintro e w1 ⟨rfl,hb1⟩);go_ret;rw[HT.out];have hs1:=hb1.size;simp at hs1;exact⟨rfl,(HW.out.alloc (by omega) _).trans (hb1.mono (by simp;omega))⟩
    |true=>
     cases hcl:T.clash (l.take k) (y1,y2,y3) with
     |true=>
      have HT:Hid (T.isTree l=false):=by unfold Hid;rw[HS.out];simp[hcl]
      go_wp2_with ((go_at_call 103;refine(text_any y3 _ HY.out).mono ?_;rintro e w1 ⟨rfl,hb1⟩;have hx1:Blk w1 wr.heap.size #[.int .u8 y1,.int .u16 y2,.string y3] 76:=(Blk.new wr _ 76).below hb1 (by simp);have d0:=hx1.cell 0;have d1:=hx1.cell 1;have d2:=hx1.cell 2;simp at d0 d1 d2;have HB1:Hid (Below w.heap.size w w1):=(HW.out.alloc (by omega) _).trans (hb1.mono (by simp;omega));clear hx1 hb1));go_region_with ((go_at_call 104;refine(HC.out _ ?_).mono ?_;exact HB1.out.drew;rintro e w2 ⟨rfl,hb2⟩))
      all_goals
       go_wp2;go_ret;rw[HT.out];exact⟨rfl,HB1.out.drew.trans (hb2.mono HB1.out.drew.size)⟩
     |false=>
      have HT:Hid (T.isTree l=T.treeFrom (l.take (k+1)) (l.drop (k+1))):=by unfold Hid;rw[HS.out];simp[T.okNd,hcl,ht];omega
      go_wp2_with ((go_at_call 103;refine(text_any y3 _ HY.out).mono ?_;rintro e w1 ⟨rfl,hb1⟩;have hx1:Blk w1 wr.heap.size #[.int .u8 y1,.int .u16 y2,.string y3] 76:=(Blk.new wr _ 76).below hb1 (by simp);have d0:=hx1.cell 0;have d1:=hx1.cell 1;have d2:=hx1.cell 2;simp at d0 d1 d2;have HB1:Hid (Below w.heap.size w w1):=(HW.out.alloc (by omega) _).trans (hb1.mono (by simp;omega));clear hx1 hb1));go_region_with ((go_at_call 104;refine(HC.out _ ?_).mono ?_;exact HB1.out.drew;rintro e w2 ⟨rfl,hb2⟩))
      all_goals
       go_wp2;go_roundw
       case rel=>exact⟨k+1,by omega,by go_num,HB1.out.drew.trans (hb2.mono HB1.out.drew.size),HT⟩
       case measure=>simp[intOf];omega
   ·have HT:Hid (T.isTree l=true):=by unfold Hid;rw[HD.out,List.drop_of_length_le (by have:=Hn.out;omega)];rfl
    go_wp2;go_ret;rw[HT.out];exact⟨rfl,HW.out⟩
 ·have HT:Hid (T.isTree l=false):=by unfold Hid T.isTree;rw[Hn.out];simp[h16]
  have hlt16:(16:Int)<(n:Int):=by omega
  go_enter Tryz.func99,Tryz.ntmps99;go_wp2;go_ret;rw[HT.out];exact⟨rfl,Below.refl _ _⟩
theorem info60:(Tryz.prog.info? 76).map (fun i=>(i.zero,i.size,i.bytes))=some (some (.agg #[.int .u8 0,.int .u16 0,.string ⟨#[]⟩]),3,24):=by kernel_rfl
def ndCells (l:List T.Nd):List Value:=l.flatMap fun x=>[.int .u8 x.1,.int .u16 x.2.1,.string x.2.2]
theorem ndCells_snoc (l:List T.Nd) (x:T.Nd):ndCells (l++[x])=ndCells l++[.int .u8 x.1,.int .u16 x.2.1,.string x.2.2]:=by simp[ndCells]
theorem ndCells_at:∀(l:List T.Nd) (i:Nat) (x:T.Nd),l[i]? =some x→(ndCells l)[i*3]? =some (.int .u8 x.1)∧(ndCells l)[i*3+1]? =some (.int .u16 x.2.1)∧(ndCells l)[i*3+2]? =some (.string x.2.2)
 |[],i,x,h=>by simp at h
 |y::r,0,x,h=>by
  simp at h;subst h;exact⟨rfl,rfl,rfl⟩
 |y::r,i+1,x,h=>by have:=ndCells_at r i x (by simpa using h);have e:ndCells (y::r)= .int .u8 y.1:: .int .u16 y.2.1:: .string y.2.2::ndCells r:=rfl;rw[e,show(i+1)*3=i*3+3 by omega];simpa using this
theorem ndCells_length (l:List T.Nd):(ndCells l).length=l.length*3:=by
 induction l with
 |nil=>rfl
 |cons x r ih=>have e:ndCells (x::r)= .int .u8 x.1:: .int .u16 x.2.1:: .string x.2.2::ndCells r:=rfl;rw[e];simp[ih];omega
theorem own_nodeRow {w:World} {base g n cap:Nat} {l:List T.Nd} (h:w.ownsRow base 76 3 (.slice (some ⟨g,0,none⟩) n cap) n (ndCells l)) (hn:l.length=n):NodeRow w g 0 l:=by
 intro i x hx;obtain⟨h0,h1,h2⟩:=ndCells_at l i x hx;have hi:i<n:=by have:=(List.getElem?_eq_some_iff.1 hx).1;omega
 refine⟨?_,?_,?_⟩
 ·rw[Nat.zero_add,h.cellAt (i*3) (by omega)];exact h0
 ·rw[Nat.zero_add,h.cellAt (i*3+1) (by omega)];exact h1
 ·rw[Nat.zero_add,h.cellAt (i*3+2) (by omega)];exact h2
theorem own_node {w:World} {base:Nat} {v:Value} {l:List T.Nd} (h:w.ownsRow base 76 3 v l.length (ndCells l)): ∃ao cap,v= .slice ao l.length cap∧l.length≤cap∧l.length≤maxLen∧NodeAt w ao l:=by
 rcases h.2 with ⟨hv,h0⟩|⟨g,cap,cur,hv,hb,hh,h1,h2,h3⟩
 ·have:l=[]:=List.eq_nil_of_length_eq_zero h0;subst this;exact⟨none,0,hv,by simp,by simp,Or.inl rfl⟩
 ·subst hv;exact⟨some ⟨g,0,none⟩,cap,rfl,h1,by omega,Or.inr ⟨g,0,rfl,lt_of_block hh,own_nodeRow h rfl⟩⟩
theorem new_three (w:World) (x y z:Value) (t:TypeId):∀j u,[x,y,z][j]? =some u→(w.alloc (.cells #[x,y,z] t)).cell? ((⟨w.heap.size,0,none⟩:Addr).add j)=some u:=by
 intro j u hj;match j,hj with
 |0,hj=>simp at hj;subst hj;simp[Addr.add]
 |1,hj=>simp at hj;subst hj;simp[Addr.add]
 |2,hj=>simp at hj;subst hj;simp[Addr.add]
 |(j+3),hj=>simp at hj
theorem new_three1 (w:World) (o:Obj) (x y z:Value) (t:TypeId):∀j u,[x,y,z][j]? =some u→((w.alloc o).alloc (.cells #[x,y,z] t)).cell? ((⟨w.heap.size+1,0,none⟩:Addr).add j)=some u:=by
 have h:=new_three (w.alloc o) x y z t;rwa [show(w.alloc o).heap.size=w.heap.size+1 by simp] at h
namespace T
def placeFrom:List Nd→Int→Nat→Int
 |[],_,_=> -1
 |x::r,i,k=>if x.1=i then (k:Int) else placeFrom r i (k+1)
def place (l:List Nd) (i:Int):Int:=placeFrom l i 0
theorem placeFrom_has:∀(l:List Nd) (i:Int) (k:Nat),(has l i=false∧placeFrom l i k= -1)∨(has l i=true∧(k:Int)≤placeFrom l i k∧placeFrom l i k<k+l.length)
 |[],i,k=>Or.inl ⟨rfl,rfl⟩
 |x::r,i,k=>by
  unfold placeFrom;by_cases h:x.1=i
  ·rw[if_pos h];refine Or.inr ⟨by simp[has,h],by omega,?_⟩;simp only[List.length_cons];omega
  ·rw[if_neg h];have e:has (x::r) i=has r i:=by simp[has,h]
   rw[e];rcases placeFrom_has r i (k+1) with h1|⟨h1,h2,h3⟩
   ·exact Or.inl h1
   ·refine Or.inr ⟨h1,by omega,?_⟩;simp only[List.length_cons];omega
theorem place_no {l:List Nd} {i:Int} (h:has l i=false):place l i= -1:=by
 rcases placeFrom_has l i 0 with ⟨_,h2⟩|⟨h2,_⟩
 ·exact h2
 ·rw[h] at h2;cases h2
theorem place_yes {l:List Nd} {i:Int} (h:has l i=true):0≤place l i∧place l i<l.length:=by
 rcases placeFrom_has l i 0 with ⟨h2,_⟩|⟨_,h2,h3⟩
 ·rw[h] at h2;cases h2
 ·unfold place;omega
theorem idFor_found {old next:List Nd} {key:Int} {x:Nd} (h:old.find? (fun x=>decide (x.2.1=key))=some x):idFor key old next=x.1:=by
 unfold idFor;rw[h]
theorem idFor_none {old next:List Nd} {key:Int} (h:old.find? (fun x=>decide (x.2.1=key))=none):idFor key old next=leastFrom old next 16 1:=by
 unfold idFor;rw[h]
theorem leastFrom_take {old next:List Nd} {f:Nat} {i:Int} (h1:has old i=false) (h2:has next i=false):leastFrom old next (f+1) i=i:=by
 unfold leastFrom;rw[if_pos ⟨h1,h2⟩]
theorem leastFrom_skip {old next:List Nd} {f:Nat} {i:Int} (h:¬(has old i=false∧has next i=false)):leastFrom old next (f+1) i=leastFrom old next f (i+1):=by
 conv=>lhs;unfold leastFrom
 rw[if_neg h]
end T
theorem place_any (ao:Option Addr) (cap:Nat) (l:List T.Nd) (id:Int) (w:World) (hl:l.length≤maxLen) (ha:NodeAt w ao l): Calls Tryz.prog 105 #[.slice ao l.length cap,.int .u8 id] w fun e w'=>e= .returned (.int .i64 (T.place l id))∧Below w.heap.size w w':=by
 unfold maxLen at hl;obtain⟨n,hn⟩:∃n,n=l.length:=⟨_,rfl⟩;have Hn:Hid (l.length=n):=hn.symm;rw[←hn];rw[←hn] at hl;have HA:Hid (NodeAt w ao l):=ha;clear hn ha;go_enter Tryz.func105,Tryz.ntmps105;go_wp2;go_loopw [9] (fun i wr=>∃(k:Nat),k≤n∧i= .int .i64 k∧Below w.heap.size w wr∧Hid (T.place l id=T.placeFrom (l.drop k) id k))
  (fun i _=>n-(intOf i).toNat)
 case atStart=>exact⟨0,Nat.zero_le _,rfl,Below.refl _ _,rfl⟩
 case round=>
  obtain⟨k,hk,rfl,hb,HD⟩:=hrel;have HW:Hid (Below w.heap.size w wr):=hb;have hsz:w.heap.size≤wr.heap.size:=hb.size;clear hb;by_cases hlt:k<n
  ·obtain⟨y,hy⟩:∃x,l[k]? =some x:=⟨l[k]'(by have:=Hn.out;omega),List.getElem?_eq_getElem (by have:=Hn.out;omega)⟩;obtain⟨b,off,rfl,hbl,hr⟩:∃b off,ao=some ⟨b,off,none⟩∧b<w.heap.size∧NodeRow w b off l:=HA.out.resolve_left (by rintro rfl;simp at hy);obtain⟨y1,y2,y3⟩:=y;obtain⟨c0,c1,c2⟩:=(hr.below HW.out hbl) k _ hy;simp only at c0 c1 c2;have HS:Hid (T.place l id=if y1=id then (k:Int) else T.placeFrom (l.drop (k+1)) id (k+1)):=by unfold Hid;rw[HD.out,drop_cons l k _ hy];rfl
   have hbw:b<wr.heap.size:=by omega
   have hbne:¬b=wr.heap.size:=by omega
   clear hy hr;by_cases h1:y1=id
   ·subst h1;have HT:Hid (T.place l y1=k):=by unfold Hid;rw[HS.out,if_pos rfl]
    go_wp2;go_ret;rw[HT.out];exact⟨rfl,by have:=HW.out;(repeat (first|exact Below.refl _ _|assumption|refine Below.setCell ?_ (by first|exact Nat.le_refl _|omega|(simp;done)|(simp;omega)) _|refine below_drewN ?_ _|refine Below.drew ?_|refine Below.alloc ?_ (by first|exact Nat.le_refl _|omega|(simp;done)|(simp;omega)) _))⟩
   ·have hb1:(y1==id)=false:=by rw[beq_eq_false_iff_ne];exact h1
    have HT:Hid (T.place l id=T.placeFrom (l.drop (k+1)) id (k+1)):=by unfold Hid;rw[HS.out,if_neg h1]
    clear h1;go_wp2;go_roundw
    case rel=>exact⟨k+1,by omega,by go_num,by have:=HW.out;(repeat (first|exact Below.refl _ _|assumption|refine Below.setCell ?_ (by first|exact Nat.le_refl _|omega|(simp;done)|(simp;omega)) _|refine below_drewN ?_ _|refine Below.drew ?_|refine Below.alloc ?_ (by first|exact Nat.le_refl _|omega|(simp;done)|(simp;omega)) _)),HT⟩
    case measure=>simp[intOf];omega
  ·have HT:Hid (T.place l id= -1):=by unfold Hid;rw[HD.out,List.drop_of_length_le (by have:=Hn.out;omega)];rfl
   go_wp2;go_ret;rw[HT.out];exact⟨rfl,HW.out⟩
set_option maxRecDepth 100000 in
theorem idFor_any (oo no:Option Addr) (oc nc:Nat) (old next:List T.Nd) (key:Int) (w:World) (hlo:old.length≤maxLen) (hln:next.length≤maxLen) (hao:NodeAt w oo old) (han:NodeAt w no next): Calls Tryz.prog 100 #[.int .u16 key,.slice oo old.length oc,.slice no next.length nc] w fun e w'=>e= .returned (.int .u8 (T.idFor key old next))∧Below w.heap.size w w':=by
 have P1:Hid (∀(i:Int) (u:World),Below w.heap.size w u→Calls Tryz.prog 105 #[.slice oo old.length oc,.int .u8 i] u fun e w'=>e= .returned (.int .i64 (T.place old i))∧Below u.heap.size u w'):=fun i u hu=>place_any oo oc old i u hlo (hao.below hu (Nat.le_refl _) hu.size);have P2:Hid (∀(i:Int) (u:World),Below w.heap.size w u→Calls Tryz.prog 105 #[.slice no next.length nc,.int .u8 i] u fun e w'=>e= .returned (.int .i64 (T.place next i))∧Below u.heap.size u w'):=fun i u hu=>place_any no nc next i u hln (han.below hu (Nat.le_refl _) hu.size)
 unfold maxLen at hlo hln;obtain⟨n,hn⟩:∃n,n=old.length:=⟨_,rfl⟩;have Hn:Hid (old.length=n):=hn.symm;obtain⟨m,hm⟩:∃n,n=next.length:=⟨_,rfl⟩
 have Hm:Hid (next.length=m):=hm.symm;rw[←hn] at P1 hlo;rw[←hm] at P2 hln;rw[←hn,←hm];have HA:Hid (NodeAt w oo old):=hao;clear hn hm hao han;go_enter Tryz.func100,Tryz.ntmps100;go_wp2;go_loopw [12] (fun i wr=>∃(k:Nat),k≤n∧i= .int .i64 k∧Below w.heap.size w wr∧Hid (old.find? (fun x=>decide (x.2.1=key))=(old.drop k).find? (fun x=>decide (x.2.1=key))))
  (fun i _=>n-(intOf i).toNat)
 case atStart=>exact⟨0,Nat.zero_le _,rfl,Below.refl _ _,rfl⟩
 case round=>
  obtain⟨k,hk,rfl,hb,HD⟩:=hrel;have HW:Hid (Below w.heap.size w wr):=hb;have hsz:w.heap.size≤wr.heap.size:=hb.size;clear hb;by_cases hlt:k<n
  ·obtain⟨y,hy⟩:∃x,old[k]? =some x:=⟨old[k]'(by have:=Hn.out;omega),List.getElem?_eq_getElem (by have:=Hn.out;omega)⟩;obtain⟨b,off,rfl,hbl,hr⟩:∃b off,oo=some ⟨b,off,none⟩∧b<w.heap.size∧NodeRow w b off old:=HA.out.resolve_left (by rintro rfl;simp at hy);obtain⟨y1,y2,y3⟩:=y;obtain⟨c0,c1,c2⟩:=(hr.below HW.out hbl) k _ hy;simp only at c0 c1 c2;have HS:Hid (old.find? (fun x=>decide (x.2.1=key))=if y2=key then some (y1,y2,y3) else (old.drop (k+1)).find? (fun x=>decide (x.2.1=key))):=by unfold Hid;rw[HD.out,drop_cons old k _ hy,List.find?_cons];by_cases h:y2=key<;>simp[h]
   have hbw:b<wr.heap.size:=by omega
   have hbne:¬b=wr.heap.size:=by omega
   clear hy hr;by_cases h1:y2=key
   ·subst h1;have HT:Hid (T.idFor y2 old next=y1):=T.idFor_found (x:=(y1,y2,y3)) (by rw[HS.out,if_pos rfl]);go_wp2;go_ret;rw[HT.out];exact⟨rfl,by have:=HW.out;(repeat (first|exact Below.refl _ _|assumption|refine Below.setCell ?_ (by first|exact Nat.le_refl _|omega|(simp;done)|(simp;omega)) _|refine below_drewN ?_ _|refine Below.drew ?_|refine Below.alloc ?_ (by first|exact Nat.le_refl _|omega|(simp;done)|(simp;omega)) _))⟩
   ·have hb1:(y2==key)=false:=by rw[beq_eq_false_iff_ne];exact h1
    have HT:Hid (old.find? (fun x=>decide (x.2.1=key))=(old.drop (k+1)).find? (fun x=>decide (x.2.1=key))):=by unfold Hid;rw[HS.out,if_neg h1]
    clear h1;go_wp2;go_roundw
    case rel=>exact⟨k+1,by omega,by go_num,by have:=HW.out;(repeat (first|exact Below.refl _ _|assumption|refine Below.setCell ?_ (by first|exact Nat.le_refl _|omega|(simp;done)|(simp;omega)) _|refine below_drewN ?_ _|refine Below.drew ?_|refine Below.alloc ?_ (by first|exact Nat.le_refl _|omega|(simp;done)|(simp;omega)) _)),HT⟩
    case measure=>simp[intOf];omega
  ·have HF:Hid (T.idFor key old next=T.leastFrom old next 16 1):=T.idFor_none (by rw[HD.out,List.drop_of_length_le (by have:=Hn.out;omega)];rfl);clear HD;go_wp2_with fail;go_loopw [9] (fun i w2=>∃(j:Nat),1≤j∧j≤17∧i= .int .u8 j∧Below w.heap.size w w2∧Hid (T.idFor key old next=T.leastFrom old next (17-j) j))
    (fun i _=>17-(intOf i).toNat)
   case atStart=>exact⟨1,by omega,by omega,rfl,HW.out,HF⟩
   case round=>
    obtain⟨j,hj1,hj,rfl,hb,HD⟩:=hrel;have HW2:Hid (Below w.heap.size w wr):=hb;clear hb;by_cases hj16:j≤16
    ·have hji:(j:Int)≤16:=by omega
     cases h1:T.has old j with
     |true=>
      have hp:=T.place_yes h1;have HT:Hid (T.idFor key old next=T.leastFrom old next (17-(j+1)) ((j+1:Nat):Int)):=by unfold Hid;rw[HD.out,show 17-j=(17-(j+1))+1 by omega,T.leastFrom_skip (by rw[h1];simp)];rfl
      obtain⟨p,hpe⟩:∃p,p=T.place old j:=⟨_,rfl⟩;have HP:Hid (p=T.place old j):=hpe;rw[←hpe] at hp;have hpn:¬p<0:=by omega
      clear hpe h1 HD;go_wp2_with fail;refine(P1.out j wr HW2.out).mono ?_;rintro e w3 ⟨rfl,hb3⟩;rw[←HP.out];have HB3:Hid (Below w.heap.size w w3):=HW2.out.trans (hb3.mono HW2.out.size);clear hb3 HP;go_wp2;go_roundw
      case rel=>exact⟨j+1,by omega,by omega,by go_num,HB3.out,HT⟩
      case measure=>simp[intOf];omega
     |false=>
      have hp1:=T.place_no h1;cases h2:T.has next j with
      |true=>
       have hp:=T.place_yes h2;have HT:Hid (T.idFor key old next=T.leastFrom old next (17-(j+1)) ((j+1:Nat):Int)):=by unfold Hid;rw[HD.out,show 17-j=(17-(j+1))+1 by omega,T.leastFrom_skip (by rw[h2];simp)];rfl
       obtain⟨p,hpe⟩:∃p,p=T.place next j:=⟨_,rfl⟩
       have HP:Hid (p=T.place next j):=hpe;rw[←hpe] at hp;have hpn:¬p<0:=by omega
       have HP1:Hid (T.place old j= -1):=hp1;clear hpe h1 h2 HD hp1;go_wp2_with fail;refine(P1.out j wr HW2.out).mono ?_;rintro e w3 ⟨rfl,hb3⟩;rw[HP1.out];have HB3:Hid (Below w.heap.size w w3):=HW2.out.trans (hb3.mono HW2.out.size);clear hb3 HP1;go_wp2_with fail;refine(P2.out j w3 HB3.out).mono ?_;rintro e w4 ⟨rfl,hb4⟩;rw[←HP.out];have HB4:Hid (Below w.heap.size w w4):=HB3.out.trans (hb4.mono HB3.out.size);clear hb4 HP;go_wp2;go_roundw
       case rel=>exact⟨j+1,by omega,by omega,by go_num,HB4.out,HT⟩
       case measure=>simp[intOf];omega
      |false=>
       have HT:Hid (T.idFor key old next=j):=by unfold Hid;rw[HD.out,show 17-j=(17-(j+1))+1 by omega,T.leastFrom_take h1 h2]
       have HP1:Hid (T.place old j= -1):=hp1;have HP2:Hid (T.place next j= -1):=T.place_no h2;clear h1 h2 HD hp1;go_wp2_with fail;refine(P1.out j wr HW2.out).mono ?_;rintro e w3 ⟨rfl,hb3⟩;rw[HP1.out];have HB3:Hid (Below w.heap.size w w3):=HW2.out.trans (hb3.mono HW2.out.size);clear hb3 HP1;go_wp2_with fail;refine(P2.out j w3 HB3.out).mono ?_;rintro e w4 ⟨rfl,hb4⟩;rw[HP2.out];have HB4:Hid (Below w.heap.size w w4):=HB3.out.trans (hb4.mono HB3.out.size);clear hb4 HP2;go_wp2;go_ret;rw[HT.out];exact⟨rfl,HB4.out⟩
    ·have hj17:j=17:=by omega
     subst hj17;have HT:Hid (T.idFor key old next=0):=by unfold Hid;rw[HD.out];rfl
     go_wp2;go_ret;rw[HT.out];exact⟨rfl,HW2.out⟩
def ShRow (w:World) (b off:Nat) (l:List T.Sh):Prop:=∀i x,l[i]? =some x→w.cell? ⟨b,off+i*2,none⟩=some (.int .u16 x.1)∧w.cell? ⟨b,off+i*2+1,none⟩=some (.string x.2)
theorem ShRow.below {B:Nat} {w w':World} {b off:Nat} {l:List T.Sh} (h:ShRow w b off l) (hb:Below B w w') (hl:b<B):ShRow w' b off l:=by
 intro i x hx;obtain⟨h0,h1⟩:=h i x hx;exact⟨(hb.cell hl).trans h0,(hb.cell hl).trans h1⟩
def ShAt (w:World) (ao:Option Addr) (l:List T.Sh):Prop:=l=[]∨∃b off,ao=some ⟨b,off,none⟩∧b<w.heap.size∧ShRow w b off l
theorem ShAt.below {B:Nat} {w w':World} {ao:Option Addr} {l:List T.Sh} (h:ShAt w ao l) (hb:Below B w w') (hB:w.heap.size≤B) (hs:w.heap.size≤w'.heap.size):ShAt w' ao l:=by
 rcases h with h|⟨b,off,e,hl,h⟩
 ·exact Or.inl h
 ·exact Or.inr ⟨b,off,e,by omega,h.below hb (by omega)⟩
def shOk (l:List T.Sh):Prop:=∀x∈l,(0≤x.1∧x.1≤65535)∧x.2.size≤maxLen
namespace T
def planOk (old:List Nd) (shows:List Sh):Bool:=isTree old&&decide (shows.length≤8)&&isTree (plan old shows)
def planO (old:List Nd) (shows:List Sh):List Nd:=if planOk old shows then plan old shows else []
def planE (old:List Nd) (shows:List Sh):Int:=if planOk old shows then 0 else 3
theorem idFor_range {old next:List Nd} (h:∀x∈old,inGo x) (key:Int):0≤idFor key old next∧idFor key old next≤255:=by
 cases hf:old.find? (fun x=>decide (x.2.1=key)) with
 |some x=>rw[idFor_found hf];have:=h x (List.mem_of_find?_eq_some hf);exact⟨this.1,this.2.1⟩
 |none=>
  rw[idFor_none hf];rcases leastFrom_spec old next 16 1 with ⟨h1,_⟩|⟨h1,h2,_⟩
  ·omega
  ·omega
theorem planFrom_snoc (old:List Nd):∀(l:List Sh) (next:List Nd) (s:Sh),planFrom old next (l++[s])=planFrom old next l++[mkN old (planFrom old next l) s]
 |[],next,s=>rfl
 |x::r,next,s=>by
  show planFrom old (next++[mkN old next x]) (r++[s])=planFrom old (next++[mkN old next x]) r++[mkN old (planFrom old (next++[mkN old next x]) r) s];exact planFrom_snoc old r _ s
end T
theorem planFrom_ok {old:List T.Nd} (ho:ndOk old):∀(l:List T.Sh) (next:List T.Nd),shOk l→ndOk next→ndOk (T.planFrom old next l)
 |[],next,_,h=>h
 |s::r,next,hs,h=>by
  unfold T.planFrom;refine planFrom_ok ho r _ (fun x hx=>hs x (by simp[hx])) ?_;intro x hx;rcases List.mem_append.1 hx with hx|hx
  ·exact h x hx
  ·rw[List.mem_singleton] at hx;subst hx;obtain⟨h1,h2⟩:=hs s (by simp);have h3:=T.idFor_range (next:=next) (fun x hx=>(ho x hx).1) s.1;exact⟨⟨h3.1,h3.2,h1.1,h1.2⟩,h2⟩
theorem plan_ok {old:List T.Nd} {l:List T.Sh} (ho:ndOk old) (hs:shOk l):ndOk (T.plan old l):=planFrom_ok ho l [] hs (fun x hx=>by simp at hx)
def planEnd (old:List T.Nd) (shows:List T.Sh) (w:World) (e:Ending) (w':World):Prop:=∃v,e= .returned (.tuple #[v,.int .i64 (T.planE old shows)])∧w'.ownsRow w.heap.size 76 3 v (T.planO old shows).length (ndCells (T.planO old shows))∧Below w.heap.size w w'
theorem planEnd_bad {old:List T.Nd} {shows:List T.Sh} {w w':World} (h:T.planOk old shows=false) (hb:Below w.heap.size w w'):planEnd old shows w (.returned (.tuple #[.slice none 0 0,.int .i64 3])) w':=by
 refine⟨.slice none 0 0,by simp[T.planE,h],?_,hb⟩;have:T.planO old shows=[]:=by simp[T.planO,h]
 rw[this];exact World.ownsRow_nil _ _ _ _
theorem planEnd_good {old:List T.Nd} {shows:List T.Sh} {w w':World} {v:Value} (h:T.planOk old shows=true) (ho:w'.ownsRow w.heap.size 76 3 v (T.plan old shows).length (ndCells (T.plan old shows))) (hb:Below w.heap.size w w'): planEnd old shows w (.returned (.tuple #[v,.int .i64 0])) w':=by
 refine⟨v,by simp[T.planE,h],?_,hb⟩;have:T.planO old shows=T.plan old shows:=by simp[T.planO,h]
 rw[this];exact ho
set_option maxRecDepth 100000 in
theorem plan_any (oo so:Option Addr) (oc sc:Nat) (old:List T.Nd) (shows:List T.Sh) (w:World) (hlo:old.length≤maxLen) (hco:old.length≤oc) (hls:shows.length≤maxLen) (hao:NodeAt w oo old) (hko:ndOk old) (has:ShAt w so shows) (hks:shOk shows): Calls Tryz.prog 83 #[.slice oo old.length oc,.slice so shows.length sc] w fun e w'=>planEnd old shows w e w':=by
 obtain⟨i0,hi,hz0,hz1,hz2⟩:=info_parts info60;have HT:Hid (∀u:World,Below w.heap.size w u→Calls Tryz.prog 99 #[.slice oo old.length oc] u fun e w'=>e= .returned (.bool (T.isTree old))∧Below u.heap.size u w'):=fun u hu=>tree_any oo oc old u hlo hco (hao.below hu (Nat.le_refl _) hu.size) hko;have HF:Hid (∀(no:Option Addr) (nc:Nat) (next:List T.Nd) (key:Int) (u:World),Below w.heap.size w u→next.length≤maxLen→NodeAt u no next→Calls Tryz.prog 100 #[.int .u16 key,.slice oo old.length oc,.slice no next.length nc] u fun e w'=>e= .returned (.int .u8 (T.idFor key old next))∧Below u.heap.size u w'):=fun no nc next key u hu hn ha=>idFor_any oo no oc nc old next key u hlo hn (hao.below hu (Nat.le_refl _) hu.size) ha
 unfold maxLen at hls;generalize old.length=on at HT HF hco ⊢;obtain⟨n,hn⟩:∃n,n=shows.length:=⟨_,rfl⟩;have Hn:Hid (shows.length=n):=hn.symm;rw[←hn];rw[←hn] at hls;have HA:Hid (ShAt w so shows):=has;have HK:Hid (shOk shows):=hks;have HO:Hid (ndOk old):=hko;clear hn hao hko has hks hlo;cases hit:T.isTree old with
 |false=>
  have HV:Hid (T.planOk old shows=false):=by unfold Hid T.planOk;rw[hit];rfl
  rw[hit] at HT;clear hit;go_enter Tryz.func83,Tryz.ntmps83;go_wp2_with (go_at_call 99;refine(HT.out _ (Below.refl _ _)).mono ?_;rintro e w1 ⟨rfl,hb1⟩);go_ret2;exact planEnd_bad HV.out hb1
 |true=>
  have HI:Hid (T.isTree old=true):=hit;rw[hit] at HT;clear hit;by_cases h8:n≤8
  ·have h8i:¬(8:Int)<(n:Int):=by omega
   go_enter Tryz.func83,Tryz.ntmps83;go_wp2_with (go_at_call 99;refine(HT.out _ (Below.refl _ _)).mono ?_;rintro e w1 ⟨rfl,hb1⟩);go_loopw [6,18] (fun v i wr=>∃(k cv:Nat) (bo:Option Addr) (acc:List T.Nd),v= .slice bo k cv∧k≤n∧i= .int .i64 k∧wr.ownsRow w.heap.size 76 3 (.slice bo k cv) k (ndCells acc)∧Below w.heap.size w wr∧Hid (acc=T.plan old (shows.take k))∧Hid (acc.length=k))
    (fun _ i _=>n-(intOf i).toNat)
   case atStart=>exact⟨0,0,none,[],rfl,Nat.zero_le _,rfl,World.ownsRow_nil _ _ _ _,hb1,rfl,rfl⟩
   case round=>
    obtain⟨k,cv,bo,acc,rfl,hk,rfl,hown,hbel,HP,HL⟩:=hrel;have HOw:Hid (wr.ownsRow w.heap.size 76 3 (.slice bo k cv) k (ndCells acc)):=hown;have HB:Hid (Below w.heap.size w wr):=hbel;have hsz:=hbel.size;have HNA:Hid (NodeAt wr bo acc∧k≤cv):=by
     have h1:wr.ownsRow w.heap.size 76 3 (.slice bo acc.length cv) acc.length (ndCells acc):=by rw[HL.out];exact hown
     obtain⟨ao',cap',e1,h2,_,h3⟩:=own_node h1;simp only[Value.slice.injEq] at e1;obtain⟨rfl,_,rfl⟩:=e1;exact⟨h3,by have:=HL.out;omega⟩
    clear hown hbel hb1;by_cases hlt:k<n
    ·obtain⟨y,hy⟩:∃x,shows[k]? =some x:=⟨shows[k]'(by have:=Hn.out;omega),List.getElem?_eq_getElem (by have:=Hn.out;omega)⟩;obtain⟨b,off,rfl,hbl,hr⟩:∃b off,so=some ⟨b,off,none⟩∧b<w.heap.size∧ShRow w b off shows:=HA.out.resolve_left (by rintro rfl;simp at hy);obtain⟨y1,y2⟩:=y;obtain⟨c0,c1⟩:=(hr.below HB.out hbl) k _ hy;simp only at c0 c1;have HS:Hid (acc++[T.mkN old acc (y1,y2)]=T.plan old (shows.take (k+1))):=by unfold Hid T.plan;rw[List.take_add_one,hy];show _=T.planFrom old [] (shows.take k++[(y1,y2)]);rw[T.planFrom_snoc,HP.out];rfl
     have hir:=T.idFor_range (next:=acc) (fun x hx=>(HO.out x hx).1) y1;obtain⟨id,hid⟩:∃id,id=T.idFor y1 old acc:=⟨_,rfl⟩;have HID:Hid (id=T.idFor y1 old acc):=hid;have HC:Hid (∀u:World,Below wr.heap.size wr u→Calls Tryz.prog 100 #[.int .u16 y1,.slice oo on oc,.slice bo k cv] u fun e w'=>e= .returned (.int .u8 id)∧Below u.heap.size u w'):=by intro u hu;have:=HF.out bo cv acc y1 u (HB.out.trans (hu.mono hsz)) (by rw[HL.out];unfold maxLen;omega) (HNA.out.1.below hu (Nat.le_refl _) hu.size);rw[HL.out,←hid] at this;exact this
     rw[←hid] at hir;have hbw:b<wr.heap.size:=by omega
     have hbne:¬b=wr.heap.size:=by omega
     clear hy hr hid;go_wp2_with fail;refine(HC.out _ ((Below.refl _ _).alloc (Nat.le_refl _) _)).mono ?_;rintro e w2 ⟨rfl,hb2⟩;have hx2:Blk w2 wr.heap.size #[.int .u16 y1,.string y2] 132:=(Blk.new wr _ 132).below hb2 (by simp);have d0:=hx2.cell 0;have d1:=hx2.cell 1;simp at d0 d1;have hx2l:=hx2.lt;have hbw2:Below w.heap.size w w2:=(HB.out.alloc hsz _).trans (hb2.mono (by simp;omega));have HB2:Hid (Below w.heap.size w w2):=hbw2;have hs2:=hbw2.size;have HO2:Hid (w2.ownsRow w.heap.size 76 3 (.slice bo k cv) k (ndCells acc)):=own_below' (HOw.out.alloc _) hb2 (by simp);clear hx2 hb2 hbw2 HOw HB HNA c0 c1 HC;go_wp2_with (at_builtin;refine wpList_append_own _ rfl (.tmp 27) (.tmp 34) 28 rfl w.heap.size 76 i0 (.agg #[.int .u8 0,.int .u16 0,.string ⟨#[]⟩]) 3 24 Tryz.underlying28 hi hz0 hz1 hz2 rfl (by decide) _ _ _ rfl (HO2.out.alloc _) ⟨w2.heap.size,0,none⟩ 1 1 [.int .u8 id,.int .u16 y1,.string y2] rfl rfl (new_three _ _ _ _ _) (by intro u hu;simp at hu;rcases hu with rfl|rfl|rfl<;>rfl) (by unfold maxLen;omega) (by omega) (by simp;omega) ?_);intro v3 w3 hown3 hg3 _;have hb3:Below w.heap.size w w3:=below_app (HB2.out.alloc hs2 _) hg3 (HO2.out.alloc _) (Nat.le_refl _) (by simp;omega);obtain⟨g3,cap3,hv3⟩:∃g3 cap3,v3= .slice (some ⟨g3,0,none⟩) (k+1) cap3:=by
      rcases hown3.2 with ⟨_,h⟩|⟨g3,cap3,_,h,_⟩
      ·omega
      ·exact⟨g3,cap3,h⟩
     have HV:Hid (v3= .slice (some ⟨g3,0,none⟩) (k+1) cap3):=hv3;have HB3:Hid (Below w.heap.size w w3):=hb3;have HO3:Hid (w3.ownsRow w.heap.size 76 3 v3 (k+1) (ndCells acc++[.int .u8 id,.int .u16 y1,.string y2])):=hown3;clear hown3 hg3 hb3 HO2 HB2 hv3 d0 d1;go_wp2;go_roundw
     case rel=>refine⟨k+1,cap3,some ⟨g3,0,none⟩,acc++[T.mkN old acc (y1,y2)],HV.out,by omega,by go_num,?_,HB3.out,HS,by unfold Hid;simp[HL.out]⟩;rw[ndCells_snoc,←HV.out];have h:=HO3.out;rw[HID.out] at h;exact h
     case measure=>simp[intOf];omega
    ·have hkn:k=n:=by omega
     subst hkn;have HPL:Hid (acc=T.plan old shows):=by unfold Hid;rw[HP.out,List.take_of_length_le (by have:=Hn.out;omega)]
     have HC:Hid (Calls Tryz.prog 99 #[.slice bo k cv] wr fun e w'=>e= .returned (.bool (T.isTree acc))∧Below wr.heap.size wr w'):=by have:=tree_any bo cv acc wr (by rw[HL.out];unfold maxLen;omega) (by rw[HL.out];exact HNA.out.2) HNA.out.1 (by rw[HPL.out];exact plan_ok HO.out HK.out);rw[HL.out] at this;exact this
     clear hlt;cases hit:T.isTree acc with
     |false=>
      have HV:Hid (T.planOk old shows=false):=by unfold Hid T.planOk;rw[←HPL.out,hit];simp
      rw[hit] at HC;clear hit;go_wp2_with fail;refine HC.out.mono ?_;rintro e w2 ⟨rfl,hb2⟩;have HB2:Hid (Below w.heap.size w w2):=HB.out.trans (hb2.mono hsz);clear hb2 HC;go_wp2;go_ret2;exact planEnd_bad HV.out HB2.out
     |true=>
      have HV:Hid (T.planOk old shows=true):=by unfold Hid T.planOk;rw[←HPL.out,hit,HI.out,Hn.out];simp[h8]
      rw[hit] at HC;clear hit;go_wp2_with fail;refine HC.out.mono ?_;rintro e w2 ⟨rfl,hb2⟩;have HB2:Hid (Below w.heap.size w w2):=HB.out.trans (hb2.mono hsz);have HO2:Hid (w2.ownsRow w.heap.size 76 3 (.slice bo k cv) k (ndCells acc)):=own_below' HOw.out hb2 (Nat.le_refl _);clear hb2 HC;go_wp2;go_ret2;refine planEnd_good HV.out ?_ HB2.out;rw[←HPL.out,HL.out];exact HO2.out
  ·have h8i:(8:Int)<(n:Int):=by omega
   have HV:Hid (T.planOk old shows=false):=by unfold Hid T.planOk;rw[Hn.out];simp[h8]
   go_enter Tryz.func83,Tryz.ntmps83;go_wp2_with (go_at_call 99;refine(HT.out _ (Below.refl _ _)).mono ?_;rintro e w1 ⟨rfl,hb1⟩);go_ret2;exact planEnd_bad HV.out hb1
end Go.Proofs.YtidaflmmldefcaaGreat.Tr
namespace Go.Proofs.YtidaflmmldefcaaGreat
open Go.RowKit
set_option linter.unusedVariables false
structure Ev where
 what:Int
 by_:Int
 arg:Int
 src:Int
structure En where
 frame:Int
 kind:Int
 a:Int
 b:Int
structure Tn where
 prog:ByteArray
 fuel:Int
 routes:Int
 pub:Int
 sub:Int
 share:Int
 back:Int
 phase:Int
 cells:List Int
 nodes:List Tr.T.Nd
 box:List Ev
 log:List En
 until_:Int
 dbl:Int
def Ev.cells (x:Ev):List Value:=[.int .u8 x.what,.int .u8 x.by_,.int .u16 x.arg,.int .u8 x.src]
def En.cells (x:En):List Value:=[.int .i64 x.frame,.int .u8 x.kind,.int .u16 x.a,.int .u16 x.b]
def evCells (l:List Ev):List Value:=l.flatMap Ev.cells
def enCells (l:List En):List Value:=l.flatMap En.cells
theorem evCells_snoc (l:List Ev) (x:Ev):evCells (l++[x])=evCells l++x.cells:=by simp[evCells]
theorem enCells_snoc (l:List En) (x:En):enCells (l++[x])=enCells l++x.cells:=by simp[enCells]
theorem evCells_cons (x:Ev) (l:List Ev):evCells (x::l)=x.cells++evCells l:=rfl
theorem evCells_length:∀l:List Ev,(evCells l).length=l.length*4
 |[]=>rfl
 |x::r=>by rw[evCells_cons,List.length_append,evCells_length r];simp[Ev.cells];omega
theorem enCells_length:∀l:List En,(enCells l).length=l.length*4
 |[]=>rfl
 |x::r=>by
  have e:enCells (x::r)=x.cells++enCells r:=rfl;rw[e,List.length_append,enCells_length r];simp[En.cells];omega
theorem evCells_at:∀(l:List Ev) (i:Nat) (x:Ev),l[i]? =some x→∀j,j<4→(evCells l)[i*4+j]? =x.cells[j]?
 |[],i,x,h,j,hj=>by simp at h
 |y::r,0,x,h,j,hj=>by
  simp at h;subst h;rw[evCells_cons,List.getElem?_append_left (by simp[Ev.cells];omega)];simp
 |y::r,i+1,x,h,j,hj=>by rw[evCells_cons,List.getElem?_append_right (by simp[Ev.cells];omega),←evCells_at r i x (by simpa using h) j hj];have:y.cells.length=4:=rfl;rw[this,show(i+1)*4+j-4=i*4+j by omega]
theorem enCells_at:∀(l:List En) (i:Nat) (x:En),l[i]? =some x→∀j,j<4→(enCells l)[i*4+j]? =x.cells[j]?
 |[],i,x,h,j,hj=>by simp at h
 |y::r,0,x,h,j,hj=>by
  have e:enCells (y::r)=y.cells++enCells r:=rfl;simp at h;subst h;rw[e,List.getElem?_append_left (by simp[En.cells];omega)];simp
 |y::r,i+1,x,h,j,hj=>by have e:enCells (y::r)=y.cells++enCells r:=rfl;rw[e,List.getElem?_append_right (by simp[En.cells];omega),←enCells_at r i x (by simpa using h) j hj];have:y.cells.length=4:=rfl;rw[this,show(i+1)*4+j-4=i*4+j by omega]
theorem evCells_one (l:List Ev):∀v∈evCells l,v.oneCell'=true:=by
 intro v hv;obtain⟨x,_,hx⟩:=List.mem_flatMap.1 hv;simp[Ev.cells] at hx;rcases hx with rfl|rfl|rfl|rfl<;>rfl
def SlotAt (w:World) (tb o:Nat) (cs:List Value):Prop:=∃cur,Blk w tb cur 88∧(cur.toList.drop o).take 21=cs∧cs.length=21
section
variable {w w' : World} {tb o : Nat} {cs : List Value}
theorem SlotAt.lt (h:SlotAt w tb o cs):tb<w.heap.size:=by obtain⟨cur,hb,_⟩:=h;exact hb.lt
theorem SlotAt.free (h:SlotAt w tb o cs) (i:Nat):w.frozen? ⟨tb,i,none⟩=false:=by obtain⟨cur,hb,_⟩:=h;exact hb.free i
theorem SlotAt.cell (h:SlotAt w tb o cs) (k:Nat) {v:Value} (hk:cs[k]? =some v):w.cell? ⟨tb,o+k,none⟩=some v:=by
 obtain⟨cur,hb,e,hl⟩:=h;have h21:k<21:=by rw[←hl];exact(List.getElem?_eq_some_iff.1 hk).1
 rw[hb.cell,←hk,←e,List.getElem?_take,if_pos h21,List.getElem?_drop];simp
theorem SlotAt.cell0 (h:SlotAt w tb o cs) {v:Value} (hk:cs[0]? =some v):w.cell? ⟨tb,o,none⟩=some v:=h.cell 0 hk
theorem SlotAt.keep (h:SlotAt w tb o cs) (e:w'.heap[tb]? =w.heap[tb]?):SlotAt w' tb o cs:=by
 obtain⟨cur,hb,r⟩:=h;exact⟨cur,hb.of_block e,r⟩
theorem SlotAt.set (h:SlotAt w tb o cs) (k:Nat) (hk:k<21) (v:Value):SlotAt (w.setCell ⟨tb,o+k,none⟩ v) tb o (cs.set k v):=by
 obtain⟨cur,hb,e,hl⟩:=h;refine⟨_,hb.set (o+k) v,?_,by simpa using hl⟩;rw[Array.toList_setIfInBounds,List.drop_set,if_neg (by omega),show o+k-o=k by omega,List.take_set,e]
theorem SlotAt.apart {o':Nat} (h:SlotAt w tb o' cs) (k:Nat) (hk:k<21) (ho:o'+21≤o∨o+21≤o') (v:Value):SlotAt (w.setCell ⟨tb,o+k,none⟩ v) tb o' cs:=by
 obtain⟨cur,hb,e,hl⟩:=h;refine⟨_,hb.set (o+k) v,?_,hl⟩;rw[←e];apply List.ext_getElem?;intro i;rw[List.getElem?_take,List.getElem?_take];by_cases hi:i<21
 ·rw[if_pos hi,if_pos hi,List.getElem?_drop,List.getElem?_drop,Array.toList_setIfInBounds,List.getElem?_set_ne (by omega)]
 ·rw[if_neg hi,if_neg hi]
end
def BoxAt (w:World) (v:Value) (l:List Ev):Prop:=(v= .slice none 0 0∧l=[])∨∃g o cap cur,v= .slice (some ⟨g,o,none⟩) l.length cap∧Blk w g cur 78∧l.length≤cap∧cap≤maxLen∧o+cap*4≤cur.size∧(cur.toList.drop o).take (l.length*4)=evCells l
theorem BoxAt.nil (w:World):BoxAt w (.slice none 0 0) []:=Or.inl ⟨rfl,rfl⟩
theorem BoxAt.shape {w:World} {v:Value} {l:List Ev} (h:BoxAt w v l):∃ao cap,v= .slice ao l.length cap∧l.length≤cap:=by
 rcases h with ⟨rfl,rfl⟩|⟨g,o,cap,cur,rfl,_,h2,_⟩
 ·exact⟨none,0,rfl,Nat.le_refl _⟩
 ·exact⟨_,cap,rfl,h2⟩
theorem BoxAt.keep {w w':World} {v:Value} {l:List Ev} (h:BoxAt w v l) (hk:∀k,v.ownBlock=some k→w'.heap[k]? =w.heap[k]?):BoxAt w' v l:=by
 rcases h with h|⟨g,o,cap,cur,rfl,hb,r⟩
 ·exact Or.inl h
 ·exact Or.inr ⟨g,o,cap,cur,rfl,hb.of_block (hk g rfl),r⟩
theorem BoxAt.blk {w:World} {v:Value} {l:List Ev} (h:BoxAt w v l) {k:Nat} (hk:v.ownBlock=some k):∃cur,Blk w k cur 78:=by
 rcases h with ⟨rfl,_⟩|⟨g,o,cap,cur,rfl,hb,r⟩
 ·simp[Value.ownBlock] at hk
 ·simp only[Value.ownBlock,Option.some.injEq] at hk;subst hk;exact⟨cur,hb⟩
theorem BoxAt.at {w:World} {v:Value} {l:List Ev} (h:BoxAt w v l) {i:Nat} {x:Ev} (hx:l[i]? =some x): ∃g o cap,v= .slice (some ⟨g,o,none⟩) l.length cap∧∀j,j<4→w.cell? ⟨g,o+i*4+j,none⟩=x.cells[j]? :=by
 rcases h with ⟨_,rfl⟩|⟨g,o,cap,cur,rfl,hb,h1,h2,h3,h4⟩
 ·simp at hx
 ·refine⟨g,o,cap,rfl,fun j hj=>?_⟩;have hi:=(List.getElem?_eq_some_iff.1 hx).1;rw[hb.cell,←evCells_at l i x hx j hj,←h4,List.getElem?_take,if_pos (by omega),List.getElem?_drop];simp[Nat.add_assoc]
theorem BoxAt.tail {w:World} {g o cap:Nat} {x:Ev} {l:List Ev} (h:BoxAt w (.slice (some ⟨g,o,none⟩) (l.length+1) cap) (x::l)):BoxAt w (.slice (some ⟨g,o+4,none⟩) l.length (cap-1)) l:=by
 rcases h with ⟨h,_⟩|⟨g',o',cap',cur,e,hb,h1,h2,h3,h4⟩
 ·simp at h
 ·simp only[Value.slice.injEq,Option.some.injEq,Addr.mk.injEq,and_true,List.length_cons] at e;obtain⟨⟨rfl,rfl⟩,_,rfl⟩:=e;simp only[List.length_cons] at h1 h4;refine Or.inr ⟨g,o+4,cap-1,cur,rfl,hb,by omega,by omega,by omega,?_⟩;rw[evCells_cons] at h4;have h5:=congrArg (List.drop 4) h4;rw[List.drop_left' (by rfl)] at h5;rw[←h5,List.drop_take,List.drop_drop,show(l.length+1)*4-4=l.length*4 by omega]
theorem info58:(Tryz.prog.info? 78).map (fun i=>(i.zero,i.size,i.bytes))=some (some (.agg #[.int .u8 0,.int .u8 0,.int .u16 0,.int .u8 0]),4,6):=by kernel_rfl
theorem info56:(Tryz.prog.info? 80).map (fun i=>(i.zero,i.size,i.bytes))=some (some (.agg #[.int .i64 0,.int .u8 0,.int .u16 0,.int .u16 0]),4,16):=by kernel_rfl
theorem own_box {w:World} {base:Nat} {v:Value} {l:List Ev} (h:w.ownsRow base 78 4 v l.length (evCells l)):BoxAt w v l:=by
 rcases h.2 with ⟨hv,h0⟩|⟨g,cap,cur,hv,hb,hh,h1,h2,h3,h4⟩
 ·exact Or.inl ⟨hv,List.eq_nil_of_length_eq_zero h0⟩
 ·exact Or.inr ⟨g,0,cap,cur,hv,hh,h1,h2,by omega,by simpa using h4⟩
theorem wpList_append_box (w:World) {ops:Array Oper} {rest:List Oper} {o:Oper} {a:Act} {Q:Exit→Act→World→Prop} (hgd:o.guard=none) (s x:Operand)
 (ho:o.op= .call {callee:= .builtin .append,args:=#[s,x],argTypes:=#[29,29]}) (v:Value) (l:List Ev) (y:Ev) (hs:a.eval s=v) (hb:BoxAt w v l) (hl:l.length≤100000)
 (ad:Addr) (c:Nat) (hx:a.eval x= .slice (some ad) 1 c) (hnews:∀j u,y.cells[j]? =some u→w.cell? (ad.add j)=some u)
 (h:∀ao' cap' w',BoxAt w' (.slice ao' (l.length+1) cap') (l++[y])→w.grownBy w' v.ownBlock→(∀k,Value.ownBlock (.slice ao' (l.length+1) cap')=some k→some k=v.ownBlock∨w.heap.size≤k)→wpList Tryz.prog ops Q rest (a.put o.dst (.slice ao' (l.length+1) cap')) w'): wpList Tryz.prog ops Q (o::rest) a w:=by
 obtain⟨i0,hi,hz0,hz1,hz2⟩:=info_parts info58;have h1c:∀u∈y.cells,u.oneCell'=true:=by intro u hu;exact evCells_one [y] u (by simpa[evCells] using hu)
 have grow:∀v' w',w'.ownsRow w.heap.size 78 4 v' (l.length+1) (evCells l++y.cells)→w.grownBy w' none→wpList Tryz.prog ops Q rest (a.put o.dst v') w':=by
  intro v' w' ho' hg';obtain⟨g,cap,rfl,hbg,_⟩:∃g cap,v'= .slice (some ⟨g,0,none⟩) (l.length+1) cap∧w.heap.size≤g∧True:=by
   rcases ho'.2 with ⟨_,h0⟩|⟨g,cap,cur,hv,hb,_⟩
   ·omega
   ·exact⟨g,cap,hv,hb,trivial⟩
  refine h _ _ _ ?_ ⟨hg'.os,hg'.tape,hg'.output,hg'.size,fun k hk _=>hg'.block k hk (by simp)⟩ ?_
  ·rw[←evCells_snoc] at ho';have:l.length+1=(l++[y]).length:=by simp
   rw[this] at ho' ⊢;exact own_box ho'
  ·intro k hk;simp only[Value.ownBlock,Option.some.injEq] at hk;subst hk;exact Or.inr hbg
 rcases hb with ⟨rfl,rfl⟩|⟨g,of,cap,cur,rfl,hb,h1,h2,h3,h4⟩
 ·exact wpList_append_grows w hgd s x 29 ho 78 i0 (.agg #[.int .u8 0,.int .u8 0,.int .u16 0,.int .u8 0]) 4 6 Tryz.underlying29 hi hz0 hz1 hz2 rfl (by decide) none 0 0 [] hs (fun _=>⟨rfl,rfl⟩) rfl (by intro b h;cases h) ad 1 c y.cells hx rfl hnews h1c (by omega) (by unfold maxLen;omega) (by omega) (fun v' w' r1 r2=>grow v' w' (by simpa[evCells] using r1) r2)
 ·have hcells:∀j u,(evCells l)[j]? =some u→w.cell? ⟨g,of+j,none⟩=some u:=by
   intro j u hj;have hjl:j<l.length*4:=by rw[←evCells_length];exact(List.getElem?_eq_some_iff.1 hj).1
   rw[hb.cell,←hj,←h4,List.getElem?_take,if_pos hjl,List.getElem?_drop];simp
  refine wpList_append_arg w hgd s x 29 ho 78 i0 (.agg #[.int .u8 0,.int .u8 0,.int .u16 0,.int .u8 0]) 4 6 Tryz.underlying29 hi hz0 hz1 hz2 rfl (by decide) g of l.length cap (evCells l) hs (evCells_length l) hcells ad 1 c y.cells hx rfl hnews h1c ?_ (by unfold maxLen;omega) (by omega) ?_ ?_
  ·intro hr j hj;have hj4:j<4:=hj;refine⟨?_,hb.free _⟩;rw[hb.cell,Array.getElem?_eq_getElem (by omega)];rfl
  ·intro hr;refine h _ _ _ ?_ ?_ (fun k hk=>Or.inl hk.symm)
   ·refine Or.inr ⟨g,of,cap,_,by simp,(((hb.set (of+l.length*4) (.int .u8 y.what)).set (of+l.length*4+1) (.int .u8 y.by_)).set (of+l.length*4+1+1) (.int .u16 y.arg)).set (of+l.length*4+1+1+1) (.int .u8 y.src),by simpa using hr,h2,by simpa using h3,?_⟩;simp only[Array.toList_setIfInBounds,List.length_append,List.length_singleton,List.drop_set];rw[if_neg (by omega),if_neg (by omega),if_neg (by omega),if_neg (by omega),evCells_snoc,←h4];apply List.ext_getElem?;intro i;rw[List.getElem?_take];have hsz:of+cap*4≤cur.toList.length:=by simpa using h3
    have hlen:((cur.toList.drop of).take (l.length*4)).length=l.length*4:=by simp;omega
    by_cases hi1:i<(l.length+1)*4
    ·rw[if_pos hi1];by_cases hi2:i<l.length*4
     ·rw[List.getElem?_append_left (by omega),List.getElem?_take,if_pos hi2,List.getElem?_set_ne (by omega),List.getElem?_set_ne (by omega),List.getElem?_set_ne (by omega),List.getElem?_set_ne (by omega)]
     ·rw[List.getElem?_append_right (by omega),hlen];rcases(show i=l.length*4∨i=l.length*4+1∨i=l.length*4+2∨i=l.length*4+3 by omega) with e|e|e|e
      ·subst e;rw[List.getElem?_set_ne (by omega),List.getElem?_set_ne (by omega),List.getElem?_set_ne (by omega),show of+l.length*4-of=l.length*4 by omega,List.getElem?_set_self (by simp;omega)];simp[Ev.cells]
      ·subst e;rw[List.getElem?_set_ne (by omega),List.getElem?_set_ne (by omega),show of+l.length*4+1-of=l.length*4+1 by omega,List.getElem?_set_self (by simp;omega)];simp[Ev.cells]
      ·subst e;rw[List.getElem?_set_ne (by omega),show of+l.length*4+1+1-of=l.length*4+2 by omega,List.getElem?_set_self (by simp;omega)];simp[Ev.cells]
      ·subst e;rw[show of+l.length*4+1+1+1-of=l.length*4+3 by omega,List.getElem?_set_self (by simp;omega)];simp[Ev.cells]
    ·rw[if_neg hi1,List.getElem?_eq_none (by rw[List.length_append,hlen];simp[Ev.cells];omega)]
   ·refine⟨rfl,rfl,rfl,by simp[World.setCells,Ev.cells,World.setCell],fun k hk hne=>?_⟩;have hkg:k≠g:=by rintro rfl;exact hne rfl
    simp only[World.setCells,Ev.cells];rw[Below.heap_setCell _ _ _ _ hkg,Below.heap_setCell _ _ _ _ hkg,Below.heap_setCell _ _ _ _ hkg,Below.heap_setCell _ _ _ _ hkg]
  ·intro hr v' w' r1 r2;exact grow v' w' r1 r2
end Go.Proofs.YtidaflmmldefcaaGreat
