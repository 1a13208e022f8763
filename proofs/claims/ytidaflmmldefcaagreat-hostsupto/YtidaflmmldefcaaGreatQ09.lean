/- Parts of the proof of Hosts: Dec, RunL, Outc, Pick, CodeW, CodeX, RoundW, RunX, TenI, Hst. -/
import Derived.Test.YtidaflmmldefcaaGreatQ08
import Derived.Test.YtidaflmmldefcaaGreatQ04
import Derived.Deep.LoopGhost
import Derived.Deep.QuietTactic
import Derived.BigQuiet
set_option maxHeartbeats 4000000
namespace Go.Proofs.YtidaflmmldefcaaGreat
open Go.RowKit
set_option linter.unusedVariables false
theorem info28:(Tryz.prog.info? 99).map (fun i=>(i.zero,i.size,i.bytes))=some (some (.agg #[.int .u8 0,.int .i64 0]),2,16):=by kernel_rfl
def insCells (l:List (Int×Int)):List Value:=l.flatMap fun x=>[.int .u8 x.1,.int .i64 x.2]
theorem insCells_snoc (l:List (Int×Int)) (x:Int×Int):insCells (l++[x])=insCells l++[.int .u8 x.1,.int .i64 x.2]:=by simp[insCells]
theorem insCells_at:∀(l:List (Int×Int)) (i:Nat) (x:Int×Int),l[i]? =some x→(insCells l)[i*2]? =some (.int .u8 x.1)∧(insCells l)[i*2+1]? =some (.int .i64 x.2)
 |[],i,x,h=>by simp at h
 |y::r,0,x,h=>by simp at h;subst h;simp[insCells]
 |y::r,i+1,x,h=>by
  have:=insCells_at r i x (by simpa using h);simp only[insCells,List.flatMap_cons] at*;rw[show(i+1)*2=i*2+2 by omega];simpa using this
theorem own_insRow {w:World} {base g n cap:Nat} {l:List (Int×Int)} (h:w.ownsRow base 99 2 (.slice (some ⟨g,0,none⟩) n cap) n (insCells l)) (hn:l.length=n):InsRow w g 0 l:=by
 intro i x hx;obtain⟨h0,h1⟩:=insCells_at l i x hx;have hi:i<l.length:=(List.getElem?_eq_some_iff.1 hx).1;rw[Nat.zero_add];exact⟨(h.cellAt (i*2) (by omega)).trans h0,(h.cellAt (i*2+1) (by omega)).trans h1⟩
def decEnd (L:List Int) (base:Nat) (w:World) (e:Ending) (w':World):Prop:=∃v,e= .returned (.tuple #[v,.int .i64 (H.decode L).2.1,.int .i64 (H.decode L).2.2])∧w'.ownsRow base 99 2 v (H.decode L).1.length (insCells (H.decode L).1)∧Below base w w'
theorem decEnd_bad {L:List Int} {base:Nat} {w w':World} {p:Int} (h:H.decode L=([],1,p)) (hb:Below base w w'): decEnd L base w (.returned (.tuple #[.slice none 0 0,.int .i64 1,.int .i64 p])) w':=by
 refine⟨.slice none 0 0,by rw[h],?_,hb⟩;rw[h];exact World.ownsRow_nil _ _ _ _
theorem decEnd_ok {L:List Int} {base:Nat} {w w':World} {l:List (Int×Int)} {v:Value} (h:H.decode L=(l,0,0)) (ho:w'.ownsRow base 99 2 v l.length (insCells l)) (hb:Below base w w'): decEnd L base w (.returned (.tuple #[v,.int .i64 0,.int .i64 0])) w':=by
 refine⟨v,by rw[h],?_,hb⟩;rw[h];exact ho
theorem dec_any (s:ByteArray) (w:World) (hs:s.size≤maxLen): Calls Tryz.prog 52 #[.string s] w fun e w'=>decEnd (H.bts s) w.heap.size w e w':=by
 obtain⟨i0,hi,hz0,hz1,hz2⟩:=info_parts info28;have HS:Hid (s.size≤maxLen):=hs;have HL:Hid ((H.bts s).length=s.size):=H.bts_length s;unfold maxLen at hs;go_enter Tryz.func52,Tryz.ntmps52;go_wp2;go_loopw [5,6] (fun v i wr=>∃(p cv:Nat) (ao:Option Addr) (acc:List (Int×Int)),v= .slice ao acc.length cv∧p≤s.size∧i= .int .i64 p∧wr.ownsRow w.heap.size 99 2 (.slice ao acc.length cv) acc.length (insCells acc)∧Below w.heap.size w wr∧acc.length≤64∧(∀x∈acc,H.alone x.1 x.2=true)∧H.scanAt (H.bts s) 0 []=H.scanAt (H.bts s) p acc)
  (fun _ i _=>s.size-(intOf i).toNat)
 case atStart=>exact⟨0,0,none,[],rfl,Nat.zero_le _,rfl,World.ownsRow_nil _ _ _ _,Below.refl _ _,by simp,by simp,rfl⟩
 case round=>
  obtain⟨p,cv,ao,acc,rfl,hp,rfl,hown,hbel,h64,hal,hsc⟩:=hrel;have HO:Hid (wr.ownsRow w.heap.size 99 2 (.slice ao acc.length cv) acc.length (insCells acc)):=hown;have HB:Hid (Below w.heap.size w wr):=hbel;have HC:Hid (H.scanAt (H.bts s) 0 []=H.scanAt (H.bts s) p acc):=hsc;have HA:Hid (∀x∈acc,H.alone x.1 x.2=true):=hal;have hsz:=hbel.size;clear hown hbel hsc hal;by_cases hlt:p<s.size
  ·go_wp2_with fail;by_cases hw:p+H.wid (H.at0 (H.bts s) p)<s.size
   ·refine(read_any s p _ HS.out hlt hw).mono ?_;rintro e w1 ⟨rfl,hb1⟩;obtain⟨o,ho⟩:∃o,o=H.at0 (H.bts s) p:=⟨_,rfl⟩;obtain⟨a,ha⟩:∃a,a=H.opnd (H.bts s) p:=⟨_,rfl⟩;have hwl:=H.wid_le o;have HP:Hid (p+H.wid o<s.size):=by unfold Hid;rw[ho];exact hw
    have Ho:Hid (o=H.at0 (H.bts s) p):=ho;have Ha:Hid (a=H.opnd (H.bts s) p):=ha;rw[←ho,←ha];have hp2:p+H.wid o<s.size:=HP.out;clear ho ha hw;have hb1w:Below w.heap.size w w1:=HB.out.trans (hb1.mono hsz);have HB1:Hid (Below w.heap.size w w1):=hb1w;have hs1:=hb1w.size;have HO1:Hid (w1.ownsRow w.heap.size 99 2 (.slice ao acc.length cv) acc.length (insCells acc)):=own_below' HO.out hb1 (Nat.le_refl _);clear hb1 hb1w HB HO;by_cases hl:acc.length=64
    ·have hd:Hid (H.decode (H.bts s)=([],1,(p:Int))):=H.decode_bad _ [] p (HC.out.trans (H.scanAt_bad _ _ _ (by have:=HL.out;omega) (by rintro⟨_,h,_⟩;exact h hl)));have hl2:(acc.length:Int)=64:=by omega
     clear hl HC HO1;go_wp2;go_ret3;exact decEnd_bad hd.out (HB1.out.alloc HB1.out.size _)
    ·have hl2:((acc.length:Int)==64)=false:=by simp;omega
     go_wp2_with fail;refine(alone_any o a _).mono ?_;rintro e w2 ⟨rfl,hb2⟩;have hb2w:Below w.heap.size w w2:=(HB1.out.alloc hs1 _).trans (hb2.mono (by simp;omega));have HB2:Hid (Below w.heap.size w w2):=hb2w;have hs2:=hb2w.size;have HX2:Hid (Blk w2 w1.heap.size #[.int .u8 o,.int .i64 a] 99):=(Blk.new w1 _ 99).below hb2 (by simp);have HO2:Hid (w2.ownsRow w.heap.size 99 2 (.slice ao acc.length cv) acc.length (insCells acc)):=own_below' (HO1.out.alloc _) hb2 (Nat.le_refl _);have hne2:Hid (some w1.heap.size≠(Value.slice ao acc.length cv).ownBlock):=own_ne_new HO1.out (Nat.le_refl _);clear hb2 hb2w HB1 HO1;cases halo:H.alone o a
     ·have hd:Hid (H.decode (H.bts s)=([],1,(p:Int))):=H.decode_bad _ [] p (HC.out.trans (H.scanAt_bad _ _ _ (by have:=HL.out;omega) (by rintro⟨_,_,h⟩;rw[←Ho.out,←Ha.out,halo] at h;cases h)));clear halo HC HO2 HX2 hne2;go_wp2;go_ret3;exact decEnd_bad hd.out HB2.out
     ·have Hal:Hid (H.alone o a=true):=halo;have d0:=HX2.out.cell 0;have d1:=HX2.out.cell 1;simp at d0 d1;clear halo;go_wp2_with (at_builtin;refine wpList_append_own _ rfl (.tmp 34) (.tmp 36) 89 rfl w.heap.size 99 i0 (.agg #[.int .u8 0,.int .i64 0]) 2 16 Tryz.underlying89 hi hz0 hz1 hz2 rfl (by decide) _ _ _ rfl (HO2.out.alloc _) ⟨w2.heap.size,0,none⟩ 1 1 [.int .u8 o,.int .i64 a] rfl rfl (new_two _ _ _ _) (by intro u hu;simp at hu;rcases hu with rfl|rfl<;>rfl) (by unfold maxLen;omega) (by omega) (by simp;omega) ?_);intro v3 w3 hown3 hg3 _;have hb3:Below w.heap.size w w3:=below_app (HB2.out.alloc hs2 _) hg3 (HO2.out.alloc _) (Nat.le_refl _) (by simp;omega);have hx3:Blk w3 w1.heap.size #[.int .u8 o,.int .i64 a] 99:=(HX2.out.alloc _).grown hg3 hne2.out;have f0:=hx3.cell 0;have f1:=hx3.cell 1;simp at f0 f1;obtain⟨g3,cap3,hv3⟩:∃g3 cap3,v3= .slice (some ⟨g3,0,none⟩) (acc.length+1) cap3:=by
       rcases hown3.2 with ⟨_,h⟩|⟨g3,cap3,_,h,_⟩
       ·omega
       ·exact⟨g3,cap3,h⟩
      have HV:Hid (v3= .slice (some ⟨g3,0,none⟩) (acc.length+1) cap3):=hv3;have HB3:Hid (Below w.heap.size w w3):=hb3;have HO3:Hid (w3.ownsRow w.heap.size 99 2 v3 (acc.length+1) (insCells acc++[.int .u8 o,.int .i64 a])):=hown3;clear hown3 hg3 hb3 hx3 HX2 HO2 HB2 hne2 d0 d1 hv3;go_wp2_with (go_at_call 63;refine(width_any _ _).mono ?_;rintro e w' ⟨rfl,rfl⟩);go_roundw
      case rel=>
       refine⟨p+1+H.wid o,cap3,some ⟨g3,0,none⟩,acc++[(o,a)],by rw[HV.out];simp,by omega,by go_num,?_,HB3.out,by simp;omega,?_,?_⟩
       ·rw[insCells_snoc];have h:=HO3.out;rw[HV.out] at h;simpa using h
       ·intro x hx;rcases List.mem_append.1 hx with h|h
        ·exact HA.out x h
        ·simp at h;subst h;exact Hal.out
       ·rw[HC.out,Ho.out,Ha.out];exact H.scanAt_ok _ _ _ (by have:=HL.out;omega) (by rw[←Ho.out];have:=HL.out;omega) hl (by rw[←Ho.out,←Ha.out];exact Hal.out)
      case measure=>simp[intOf];omega
   ·refine(read_cut s p _ HS.out hlt (by omega)).mono ?_;rintro e w1 ⟨rfl,hb1⟩;have hd:Hid (H.decode (H.bts s)=([],1,(p:Int))):=H.decode_bad _ [] p (HC.out.trans (H.scanAt_bad _ _ _ (by have:=HL.out;omega) (by have:=HL.out;omega)));have HB1:Hid (Below w.heap.size w w1):=HB.out.trans (hb1.mono hsz);clear hb1 HC HO HB;go_wp2;go_ret3;exact decEnd_bad hd.out (HB1.out.alloc HB1.out.size _)
  ·have hsc:Hid (H.scanAt (H.bts s) 0 []=(acc,none)):=HC.out.trans (H.scanAt_end _ _ _ (by have:=HL.out;omega));clear HC;by_cases hl0:acc.length=0
   ·have hd:Hid (H.decode (H.bts s)=([],1,0)):=H.decode_none _ (by rw[hsc.out,List.eq_nil_of_length_eq_zero hl0]);have hl1:(acc.length:Int)=0:=by omega
    clear HO hl0;go_wp2;go_ret3;exact decEnd_bad hd.out HB.out
   ·have hl1:((acc.length:Int)==0)=false:=by rw[beq_eq_false_iff_ne];omega
    obtain⟨n,hn⟩:∃n,n=acc.length:=⟨_,rfl⟩;have Hn:Hid (n=acc.length):=hn;rw[←hn] at hl1 h64 ⊢;obtain⟨g,rfl⟩:∃g,ao=some ⟨g,0,none⟩:=by
     rcases HO.out.2 with ⟨_,h⟩|⟨g,c,_,h,_⟩
     ·omega
     ·simp at h;exact⟨g,h.1⟩
    have HO':Hid (wr.ownsRow w.heap.size 99 2 (.slice (some ⟨g,0,none⟩) n cv) n (insCells acc)):=by have h:=HO.out;rw[←hn] at h;exact h
    have hn0:n≠0:=by omega
    clear HO hn hl0;obtain⟨wo,rfl⟩:∃wo:World,wo=wr:=⟨_,rfl⟩;go_wp2_with fail;go_loopw [6,49] (fun q i wr=>∃(k p:Nat),k≤n∧p≤3*k∧q= .int .i64 p∧i= .int .i64 k∧Below w.heap.size w wr∧wr.ownsRow w.heap.size 99 2 (.slice (some ⟨g,0,none⟩) n cv) n (insCells acc)∧H.stray n 0 0 acc=H.stray n k p (acc.drop k))
     (fun _ i _=>n-(intOf i).toNat)
    case atStart=>exact⟨0,0,Nat.zero_le _,by omega,rfl,rfl,HB.out,HO'.out,by simp⟩
    case round=>
     obtain⟨k,p,hk,hp,rfl,rfl,hbel,hown,hst⟩:=hrel;have HBr:Hid (Below w.heap.size w wr):=hbel;have HOr:Hid (wr.ownsRow w.heap.size 99 2 (.slice (some ⟨g,0,none⟩) n cv) n (insCells acc)):=hown;have HSt:Hid (H.stray n 0 0 acc=H.stray n k p (acc.drop k)):=hst;have hsr:=hbel.size;clear hbel hown hst HB HO';by_cases hkn:k<n
     ·obtain⟨x,hx⟩:∃x,acc[k]? =some x:=⟨acc[k]'(by have:=Hn.out;omega),List.getElem?_eq_getElem (by have:=Hn.out;omega)⟩;obtain⟨o,a⟩:=x;have hrow:=own_insRow HOr.out Hn.out.symm;obtain⟨c0,c1⟩:=hrow k _ hx;rw[Nat.zero_add] at c0 c1;have HX:Hid (acc[k]? =some (o,a)):=hx;have Hal:Hid (H.alone o a=true):=HA.out (o,a) (List.mem_of_getElem? hx);have HR:Hid (InsRow wr g 0 acc):=hrow;have HT:Hid (H.stray n 0 0 acc=if H.lands n k o a=true then H.stray n (k+1) (p+1+H.wid o) (acc.drop (k+1)) else some p):=HSt.out.trans (H.stray_step n acc k p (o,a) hx);have hgl:g<wr.heap.size:=World.block_lt_of_cell? _ _ c0;clear hx hrow HSt;go_wp2_with fail;have e0:(wr.alloc (.cells #[.int .u8 o,.int .i64 a] 99)).cell? ⟨g,0+k*2,none⟩=some (.int .u8 o):=by rw[World.cell?_alloc_lt _ _ _ hgl];exact(HR.out k _ HX.out).1
      have e1:(wr.alloc (.cells #[.int .u8 o,.int .i64 a] 99)).cell? ⟨g,0+k*2+1,none⟩=some (.int .i64 a):=by rw[World.cell?_alloc_lt _ _ _ hgl];exact(HR.out k _ HX.out).2
      refine(lands_any g 0 n cv k o a _ hkn h64 Hal.out (by exact e0) (by exact e1)).mono ?_;rintro e w1 ⟨rfl,hb1⟩;have hb1w:Below w.heap.size w w1:=(HBr.out.alloc hsr _).trans (hb1.mono (by simp;omega));have HB1:Hid (Below w.heap.size w w1):=hb1w;have HO1:Hid (w1.ownsRow w.heap.size 99 2 (.slice (some ⟨g,0,none⟩) n cv) n (insCells acc)):=own_below' (HOr.out.alloc _) hb1 (Nat.le_refl _);have hx1:Blk w1 wr.heap.size #[.int .u8 o,.int .i64 a] 99:=(Blk.new wr _ 99).below hb1 (by simp);have d0:=hx1.cell 0;have d1:=hx1.cell 1;simp at d0 d1;clear hb1 hb1w hx1 e0 e1 c0 c1 HR HOr HBr;have hwl:=H.wid_le o;cases hla:H.lands n k o a
      ·have hd:Hid (H.decode (H.bts s)=([],1,(p:Int))):=H.decode_stray _ acc p hsc.out (by have:=Hn.out;omega) (by rw[←Hn.out,HT.out,hla];rfl);clear hla HT;go_wp2;go_ret3;exact decEnd_bad hd.out HB1.out
      ·have HS2:Hid (H.stray n 0 0 acc=H.stray n (k+1) (p+1+H.wid o) (acc.drop (k+1))):=by unfold Hid;rw[HT.out,hla];rfl
       clear hla HT;go_wp2_with (go_at_call 63;refine(width_any _ _).mono ?_;rintro e w' ⟨rfl,rfl⟩);go_roundw
       case rel=>exact⟨k+1,p+1+H.wid o,by omega,by omega,by go_num,by go_num,HB1.out,HO1.out,HS2.out⟩
       case measure=>simp[intOf];omega
     ·have hkn':k=n:=by omega
      have hd:Hid (H.decode (H.bts s)=(acc,0,0)):=H.decode_ok _ acc hsc.out (by have:=Hn.out;omega) (by rw[←Hn.out,HSt.out,List.drop_of_length_le (by have:=Hn.out;omega)];rfl);have HO3:Hid (wr.ownsRow w.heap.size 99 2 (.slice (some ⟨g,0,none⟩) n cv) acc.length (insCells acc)):=by have h:=HOr.out;have e:=Hn.out;unfold Hid;rw[←e];exact h
      clear hkn' HSt;go_wp2;go_ret3;exact decEnd_ok hd.out HO3.out HBr.out
def ProgAt (w:World) (g:Nat) (prog:List (Int×Int)):Prop:=∃cur,Blk w g cur 99∧cur.toList.take (prog.length*2)=insCells prog
theorem ProgAt.row {w:World} {g:Nat} {prog:List (Int×Int)} (h:ProgAt w g prog):InsRow w g 0 prog:=by
 obtain⟨cur,hb,ht⟩:=h;intro i x hx;obtain⟨h0,h1⟩:=insCells_at prog i x hx;have hi:=(List.getElem?_eq_some_iff.1 hx).1;rw[Nat.zero_add,hb.cell,hb.cell,←h0,←h1,←ht,List.getElem?_take,List.getElem?_take,if_pos (by omega),if_pos (by omega)];simp
theorem ProgAt.fr {base:Nat} {w w':World} {g:Nat} {prog:List (Int×Int)} (h:ProgAt w g prog) (hf:Fr base w w'):ProgAt w' g prog:=by
 obtain⟨cur,hb,ht⟩:=h;exact⟨cur,hf.row _ _ _ hb (by decide) (by decide) (by decide),ht⟩
theorem ProgAt.alloc {w:World} {g:Nat} {prog:List (Int×Int)} (h:ProgAt w g prog) (o:Obj):ProgAt (w.alloc o) g prog:=by
 obtain⟨cur,hb,ht⟩:=h;exact⟨cur,hb.alloc o,ht⟩
theorem own_progAt {w:World} {base g n cap:Nat} {l:List (Int×Int)} (h:w.ownsRow base 99 2 (.slice (some ⟨g,0,none⟩) n cap) n (insCells l)) (hn:l.length=n):ProgAt w g l:=by
 rcases h.2 with ⟨h1,_⟩|⟨g',c,cur,h1,_,hh,_,_,_,ht⟩
 ·simp at h1
 ·simp at h1;obtain⟨rfl,_⟩:=h1;exact⟨cur,hh,by rw[hn];exact ht⟩
theorem Drawn.fr {base:Nat} {w w':World} {v:InV} {ds:List Int} (h:Drawn w v ds base) (hf:Below base w w'):Drawn w' v ds base:=by
 obtain⟨h1,h2,⟨bd,off,h3,h4⟩,h5⟩:=h;refine⟨h1,h2,⟨bd,off,h3,?_⟩,h5⟩;intro i x hx;have hi:=(List.getElem?_eq_some_iff.1 hx).1;have hbd:=(h3 (by omega)).2;exact(hf.cell (p:=⟨bd,off+i,none⟩) hbd).trans (h4 i x hx)
theorem runM_halt {prog:List (Int×Int)} {I:H.Inp} {F r:Nat} {M:H.Mach} (h:H.halt prog.length M=true):H.runM prog I F (r+1) M=M:=by
 simp only[H.runM];rw[if_pos h]
theorem runM_spent {prog:List (Int×Int)} {I:H.Inp} {F r:Nat} {M:H.Mach} (h:H.halt prog.length M=false) (hs:M.steps=F):H.runM prog I F (r+1) M={M with fault:=1}:=by
 simp only[H.runM];rw[if_neg (by rw[h];decide),if_pos hs]
theorem runM_step {prog:List (Int×Int)} {I:H.Inp} {F r:Nat} {M:H.Mach} (h:H.halt prog.length M=false) (hs:M.steps≠F):H.runM prog I F (r+1) M=H.runM prog I F r (H.adv prog I M):=by
 simp only[H.runM];rw[if_neg (by rw[h];decide),if_neg hs]
set_option maxRecDepth 100000 in
theorem run_any {w:World} {base b:Nat} {pile:List Int} {sv dv:Value} {M:H.Mach} (h:MB w base b pile sv dv M) (v:InV) (hv:v.ok) (ds:List Int) (hd:Drawn w v ds base) (g n cv:Nat) (prog:List (Int×Int)) (hpl:prog.length=n) (hn:n≤64) (hp:H.okFrom n 0 prog=true) (hp0:∀x∈prog,0≤x.1) (hpa:ProgAt w g prog)
 (hM:MOk n M) (F:Nat) (hF:v.fuel=F) (hF2:F≤1000) (hs:M.steps≤F): Calls Tryz.prog 74 #[.pointer (some ⟨b,0,none⟩),.slice (some ⟨g,0,none⟩) n cv,.agg v.arr] w fun e w'=>e= .returned (.tuple #[])∧Aft w base b (H.runM prog (v.inp ds) F (F+1-M.steps) M) w':=by
 have Hv:Hid v.ok:=hv;have HD:Hid (∀w',Below base w w'→Drawn w' v ds base):=fun w' hb=>hd.fr hb;have Hpl:Hid (prog.length=n):=hpl;have Hp:Hid (H.okFrom n 0 prog=true):=hp;have Hp0:Hid (∀x∈prog,0≤x.1):=hp0;have HPA:Hid (ProgAt w g prog):=hpa;have HMB:Hid (MB w base b pile sv dv M):=h;have HMO:Hid (MOk n M):=hM;have HF:Hid (v.fuel=F):=hF;have Hs:Hid (M.steps≤F):=hs;have Hdr:Hid (InR ds):=hd.rng;have hlt:=h.lt;have harr:v.arr=#[.int .i64 F,.int .u16 v.c0,.int .u16 v.c1,.int .u16 v.c2,.int .u16 v.c3,.int .u16 v.c4,.int .u16 v.c5,.int .u16 v.c6,.int .u16 v.c7,.int .u8 v.what,.int .u8 v.by_,.int .u16 v.arg,.int .u8 v.src,.int .u8 v.route,.slice v.ao v.n v.cap]:=by unfold InV.arr;rw[hF]
 have HArr:Hid (v.arr=#[.int .i64 F,.int .u16 v.c0,.int .u16 v.c1,.int .u16 v.c2,.int .u16 v.c3,.int .u16 v.c4,.int .u16 v.c5,.int .u16 v.c6,.int .u16 v.c7,.int .u8 v.what,.int .u8 v.by_,.int .u16 v.arg,.int .u8 v.src,.int .u8 v.route,.slice v.ao v.n v.cap]):=harr;rw[harr];clear hv hd hpl hp hp0 hpa h hM hF hs harr;go_enter Tryz.func74,Tryz.ntmps74;go_wp2_with fail;go_loopg [6] (F+1-M.steps) (fun k x wr=>∃M' pile' sv' dv',MB wr base b pile' sv' dv' M'∧Fr base w wr∧Blk wr w.heap.size v.arr 128∧MOk n M'∧M'.steps≤F∧k=F+1-M'.steps∧H.runM prog (v.inp ds) F (F+1-M.steps) M=H.runM prog (v.inp ds) F k M');case atStart=>exact⟨M,pile,sv,dv,HMB.out.alloc _,(Fr.refl _ _).alloc hlt _,by rw[HArr.out];exact Blk.new w _ 128,HMO.out,Hs.out,rfl,rfl⟩
 case round=>
  obtain⟨M',pile',sv',dv',hmb,hfr,hblk,hmo,hst,hk,hrun⟩:=hrel;have HMr:Hid (MB wr base b pile' sv' dv' M'):=hmb;have HFr:Hid (Fr base w wr):=hfr;have HBi:Hid (Blk wr w.heap.size v.arr 128):=hblk;have HMo:Hid (MOk n M'):=hmo;have HRn:Hid (H.runM prog (v.inp ds) F (F+1-M.steps) M=H.runM prog (v.inp ds) F gk M'):=hrun;have HK:Hid (gk=F+1-M'.steps):=hk;have Hst:Hid (M'.steps≤F):=hst;have c24:=hmb.c24;have c25:=hmb.c25;have c21:=hmb.c21;have c22:=hmb.c22;have f22:=hmb.free 22;have f25:=hmb.free 25;have n0:=hmo.next0;have n1:=hmo.next1;have hgk:gk=(gk-1)+1:=by omega
  have HG:Hid (gk=(gk-1)+1):=hgk;clear hmb hfr hblk hmo hrun hk hst hgk;obtain⟨en,hen⟩:∃en,en=M'.ended:=⟨_,rfl⟩;obtain⟨ft,hft⟩:∃ft,ft=M'.fault:=⟨_,rfl⟩;obtain⟨nx,hnx⟩:∃nx,nx=M'.next:=⟨_,rfl⟩;obtain⟨sp,hsp⟩:∃sp,sp=M'.steps:=⟨_,rfl⟩;rw[←hen] at c24;rw[←hft] at c25;rw[←hnx] at c21 n0 n1;rw[←hsp] at c22;have Hen:Hid (en=M'.ended):=hen;have Hft:Hid (ft=M'.fault):=hft;have Hnx:Hid (nx=M'.next):=hnx;have Hsp:Hid (sp=M'.steps):=hsp;clear hen hft hnx hsp;cases en with
  |true=>
   have HE:Hid (H.runM prog (v.inp ds) F (F+1-M.steps) M=M'):=by unfold Hid;rw[HRn.out,HG.out];exact runM_halt (by unfold H.halt;rw[←Hen.out];rfl)
   go_wp2;go_end0;exact⟨rfl,by rw[HE.out];exact⟨⟨_,_,_,HMr.out⟩,HFr.out⟩⟩
  |false=>
   by_cases hz:ft=0
   ·subst hz;by_cases hlt2:nx<(n:Int)
    ·have HH:Hid (H.halt prog.length M'=false):=by unfold Hid H.halt;rw[←Hen.out,←Hft.out,←Hnx.out,Hpl.out];simp;omega
     by_cases hsf:sp=F
     ·have HE:Hid (H.runM prog (v.inp ds) F (F+1-M.steps) M={M' with fault:=1}):=by unfold Hid;rw[HRn.out,HG.out];exact runM_spent HH.out (by rw[←Hsp.out];exact hsf)
      have e0:=HBi.out.cell 0;rw[HArr.out] at e0;simp at e0;subst hsf;go_wp2_with fail;go_quiet (fail);go_wp2;exact bodyPost_ret (v:= .tuple #[]) (by simp[results,Tryz.results74]) rfl ⟨rfl,by rw[HE.out];exact⟨⟨_,_,_,(HMr.out.drewN _).set_fault 1⟩,(HMr.out.drewN _).fr_set (HFr.out.drewN _) _ _⟩⟩
     ·have hsf2:((sp:Int)==(F:Int))=false:=by rw[beq_eq_false_iff_ne];omega
      have hspF:sp≤F:=by rw[Hsp.out];exact Hst.out
      obtain⟨k,hk⟩:=Int.eq_ofNat_of_zero_le n0;subst hk;have hkn:k<n:=by omega
      obtain⟨x,hx⟩:∃x,prog[k]? =some x:=⟨prog[k]'(by have:=Hpl.out;omega),List.getElem?_eq_getElem (by have:=Hpl.out;omega)⟩;obtain⟨o,a⟩:=x;have hal:=(okFrom_at _ _ _ _ _ Hp.out hx).1;have hop:=Hp0.out _ (List.mem_of_getElem? hx);simp only at hal hop;have hpr:=HPA.out.fr HFr.out;obtain⟨pc0,pc1⟩:=hpr.row k _ hx;rw[Nat.zero_add] at pc0 pc1;have hgb:¬g=b:=by intro e;obtain⟨cur,hcb,_⟩:=hpr;have hmb:=HMr.out.blk;subst e;unfold Blk at hcb hmb;rw[hcb] at hmb;simp at hmb
      have hbi:¬w.heap.size=b:=by intro e;have hmb:=HMr.out.blk;have hb2:=HBi.out;subst e;unfold Blk at hb2 hmb;rw[hb2] at hmb;simp at hmb
      have hgb2:¬b=g:=fun e=>hgb e.symm;have hbi2:¬b=w.heap.size:=fun e=>hbi e.symm;have hadv:H.adv prog (v.inp ds) M'=H.step o a (v.inp ds) {M' with steps:=sp+1}:=by
       unfold H.adv;rw[←Hnx.out,Int.toNat_natCast,Hsp.out];have:prog.getD k (0,0)=(o,a):=by simp[List.getD,hx]
       rw[this]
      have HAd:Hid (H.adv prog (v.inp ds) M'=H.step o a (v.inp ds) {M' with steps:=sp+1}):=hadv;have HAk:Hid (MOk n (H.adv prog (v.inp ds) M')):=by have:=adv_ok (prog:=prog) (M:=M') (by rw[Hpl.out];exact Hp.out) (by rw[Hpl.out];exact HMo.out) (by rw[←Hnx.out,Hpl.out];exact hlt2) v Hv.out Hdr.out;rw[Hpl.out] at this;exact this
      have HAs:Hid ((H.adv prog (v.inp ds) M').steps=sp+1):=by unfold Hid;rw[(adv_kp prog (v.inp ds) M').1,Hsp.out]
      have HRs:Hid (H.runM prog (v.inp ds) F (F+1-M.steps) M=H.runM prog (v.inp ds) F (gk-1) (H.adv prog (v.inp ds) M')):=by
       unfold Hid;rw[HRn.out];conv=>lhs;rw[HG.out]
       exact runM_step HH.out (by rw[←Hsp.out];exact hsf)
      have HSTEP:Hid (∀W,MB W base b pile' sv' dv' {M' with steps:=sp+1}→Below base w W→Calls Tryz.prog 82 #[.pointer (some ⟨b,0,none⟩),.agg #[.int .u8 o,.int .i64 a],.agg #[.int .i64 F,.int .u16 v.c0,.int .u16 v.c1,.int .u16 v.c2,.int .u16 v.c3,.int .u16 v.c4,.int .u16 v.c5,.int .u16 v.c6,.int .u16 v.c7,.int .u8 v.what,.int .u8 v.by_,.int .u16 v.arg,.int .u8 v.src,.int .u8 v.route,.slice v.ao v.n v.cap]] W fun e w'=>e= .returned (.tuple #[])∧Aft W base b (H.step o a (v.inp ds) {M' with steps:=sp+1}) w'):=by intro W hm hb;have hmo:=HMo.out;have:=step_any hm v Hv.out ds (HD.out W hb) n hn ⟨hmo.st,hmo.cells,hmo.text,hmo.chars,hmo.next0,hmo.next1⟩ o a hop hal;unfold stepArgs at this;rw[HArr.out] at this;exact this
      have HM2:Hid (∀q,MB ((wr.drewN q).setCell ⟨b,22,none⟩ (.int .i64 ((sp:Int)+1))).drew base b pile' sv' dv' {M' with steps:=sp+1}):=fun q=>((HMr.out.drewN q).set_steps (sp+1)).drew;have HF2:Hid (∀q,Fr base w ((wr.drewN q).setCell ⟨b,22,none⟩ (.int .i64 ((sp:Int)+1))).drew):=fun q=>((HMr.out.drewN q).fr_set (HFr.out.drewN q) _ _).drew;have HB2:Hid (∀q,Blk ((wr.drewN q).setCell ⟨b,22,none⟩ (.int .i64 ((sp:Int)+1))).drew w.heap.size v.arr 128):=fun q=>HBi.out.other ⟨b,22,none⟩ _ hbi;have e0:=HBi.out.cell 0;have e1:=HBi.out.cell 1;have e2:=HBi.out.cell 2;have e3:=HBi.out.cell 3;have e4:=HBi.out.cell 4;have e5:=HBi.out.cell 5;have e6:=HBi.out.cell 6;have e7:=HBi.out.cell 7;have e8:=HBi.out.cell 8;have e9:=HBi.out.cell 9;have e10:=HBi.out.cell 10;have e11:=HBi.out.cell 11;have e12:=HBi.out.cell 12;have e13:=HBi.out.cell 13;have e14:=HBi.out.cell 14;rw[HArr.out] at e0 e1 e2 e3 e4 e5 e6 e7 e8 e9 e10 e11 e12 e13 e14;simp at e0 e1 e2 e3 e4 e5 e6 e7 e8 e9 e10 e11 e12 e13 e14;have hk0:(0:Int)≤(k:Int):=by omega
      have hspl:sp<F:=by omega
      clear hx hal hop hpr hadv hsf;go_wp2_with fail;go_quiet (fail);go_wp2_with fail;go_region_with (go_at_call 82;refine(HSTEP.out _ (HM2.out nq) (HF2.out nq).below).mono ?_;rintro e w2 ⟨rfl,⟨pile2,sv2,dv2,hm2⟩,hf2⟩)
      all_goals
       go_wp2;go_roundg (gk-1);case measure=>have:=HG.out;omega
       case rel=>rw[←HAd.out] at hm2;exact⟨H.adv prog (v.inp ds) M',_,_,_,hm2,(HF2.out nq).trans hf2,hf2.row _ _ _ (HB2.out nq) (by decide) (by decide) (by decide),HAk.out,by rw[HAs.out];omega,by rw[HAs.out];have h1:=HK.out;rw[←Hsp.out] at h1;omega,HRs.out⟩
    ·have HE:Hid (H.runM prog (v.inp ds) F (F+1-M.steps) M=M'):=by unfold Hid;rw[HRn.out,HG.out];exact runM_halt (by unfold H.halt;rw[←Hnx.out,Hpl.out];simp;omega)
     have hb:decide (nx<(n:Int))=false:=by simp;omega
     clear hlt2;go_wp2;go_end0;exact⟨rfl,by rw[HE.out];exact⟨⟨_,_,_,HMr.out⟩,HFr.out⟩⟩
   ·have HE:Hid (H.runM prog (v.inp ds) F (F+1-M.steps) M=M'):=by unfold Hid;rw[HRn.out,HG.out];exact runM_halt (by unfold H.halt;rw[←Hft.out];simp[hz])
    have hb:(ft==0)=false:=by simpa using hz
    clear hz;go_wp2;go_end0;exact⟨rfl,by rw[HE.out];exact⟨⟨_,_,_,HMr.out⟩,HFr.out⟩⟩
theorem eight {l:List Int} (h:l.length=8):∃a b c d e f g i,l=[a,b,c,d,e,f,g,i]:=by
 match l,h with
 |[a,b,c,d,e,f,g,i],_=>exact⟨a,b,c,d,e,f,g,i,rfl⟩
def outAgg (ft:Int) (st dr:Nat) (c0 c1 c2 c3 c4 c5 c6 c7:Int) (sv dv:Value):Value:=.agg #[.int .u8 ft,.int .i64 st,.int .i64 dr,.int .u16 c0,.int .u16 c1,.int .u16 c2,.int .u16 c3,.int .u16 c4,.int .u16 c5,.int .u16 c6,.int .u16 c7,sv,dv]
set_option maxRecDepth 100000 in
theorem outc_bad {w:World} {base b:Nat} {pile:List Int} {sv dv:Value} {M:H.Mach} (h:MB w base b pile sv dv M) (hz:M.fault≠0) (k0 k1 k2 k3 k4 k5 k6 k7:Int): Calls Tryz.prog 75 #[.pointer (some ⟨b,0,none⟩),.agg #[.int .u16 k0,.int .u16 k1,.int .u16 k2,.int .u16 k3,.int .u16 k4,.int .u16 k5,.int .u16 k6,.int .u16 k7]] w fun e w'=>
  e= .returned (outAgg M.fault M.steps M.draws k0 k1 k2 k3 k4 k5 k6 k7 (.slice none 0 0) (.slice none 0 0))∧Below w.heap.size w w':=by
 have c25:=h.c25;have c22:=h.c22;have c23:=h.c23;have hbl:=h.blk.lt;have d25:∀o1 o2 o3,(((w.alloc o1).alloc o2).alloc o3).cell? ⟨b,25,none⟩=some (.int .u8 M.fault):=fun o1 o2 o3=>(((h.alloc o1).alloc o2).alloc o3).c25;have d22:∀o1 o2 o3,(((w.alloc o1).alloc o2).alloc o3).cell? ⟨b,22,none⟩=some (.int .i64 (M.steps:Int)):=fun o1 o2 o3=>(((h.alloc o1).alloc o2).alloc o3).c22;have d23:∀o1 o2 o3,(((w.alloc o1).alloc o2).alloc o3).cell? ⟨b,23,none⟩=some (.int .i64 (M.draws:Int)):=fun o1 o2 o3=>(((h.alloc o1).alloc o2).alloc o3).c23;generalize M.fault=ft at*;generalize M.steps=st at*;generalize M.draws=dr at*;have hb1:¬b=w.heap.size:=by omega
 have hb2:¬b=w.heap.size+1:=by omega
 have hb5:¬b=w.heap.size+2:=by omega
 have hb6:¬b=w.heap.size+1+1:=by omega
 have hb:(ft==0)=false:=by simpa using hz
 unfold outAgg;clear h hz;go_enter Tryz.func75,Tryz.ntmps75;go_wp2_with fail;go_region
 all_goals go_wp2
 all_goals exact bodyPost_ret (v:= .agg #[.int .u8 ft,.int .i64 st,.int .i64 dr,.int .u16 k0,.int .u16 k1,.int .u16 k2,.int .u16 k3,.int .u16 k4,.int .u16 k5,.int .u16 k6,.int .u16 k7,.slice none 0 0,.slice none 0 0]) (by simp[results,Tryz.results75,go_sem]) rfl ⟨rfl,by (repeat (first|exact Below.refl _ _|assumption|refine Below.setCell ?_ (by first|exact Nat.le_refl _|(simp;done)|(simp;omega)) _|refine below_drewN ?_ _|refine Below.drew ?_|refine Below.alloc ?_ (by first|exact Nat.le_refl _|(simp;done)|(simp;omega)) _))⟩
set_option maxRecDepth 100000 in
theorem outc_fine {w:World} {base b:Nat} {pile:List Int} {ao ad:Option Addr} {ns cs nd cd:Nat} {M:H.Mach} (h:MB w base b pile (.slice ao ns cs) (.slice ad nd cd) M) (hz:M.fault=0) (k0 k1 k2 k3 k4 k5 k6 k7:Int) (m0 m1 m2 m3 m4 m5 m6 m7:Int) (hm:M.cells=[m0,m1,m2,m3,m4,m5,m6,m7]): Calls Tryz.prog 75 #[.pointer (some ⟨b,0,none⟩),.agg #[.int .u16 k0,.int .u16 k1,.int .u16 k2,.int .u16 k3,.int .u16 k4,.int .u16 k5,.int .u16 k6,.int .u16 k7]] w fun e w'=>
  e= .returned (outAgg 0 M.steps M.draws m0 m1 m2 m3 m4 m5 m6 m7 (.slice ao ns cs) (.slice ad nd cd))∧Below w.heap.size w w':=by
 have c25:=h.c25;have c22:=h.c22;have c23:=h.c23;have hbl:=h.blk.lt;have d25:∀o1 o2 o3,(((w.alloc o1).alloc o2).alloc o3).cell? ⟨b,25,none⟩=some (.int .u8 0):=fun o1 o2 o3=>by rw[←hz];exact(((h.alloc o1).alloc o2).alloc o3).c25
 rw[hz] at c25;have d22:∀o1 o2 o3,(((w.alloc o1).alloc o2).alloc o3).cell? ⟨b,22,none⟩=some (.int .i64 (M.steps:Int)):=fun o1 o2 o3=>(((h.alloc o1).alloc o2).alloc o3).c22;have d23:∀o1 o2 o3,(((w.alloc o1).alloc o2).alloc o3).cell? ⟨b,23,none⟩=some (.int .i64 (M.draws:Int)):=fun o1 o2 o3=>(((h.alloc o1).alloc o2).alloc o3).c23;have d19:∀o1 o2 o3,(((w.alloc o1).alloc o2).alloc o3).cell? ⟨b,19,none⟩=some (.slice ao ns cs):=fun o1 o2 o3=>(((h.alloc o1).alloc o2).alloc o3).c19;have d20:∀o1 o2 o3,(((w.alloc o1).alloc o2).alloc o3).cell? ⟨b,20,none⟩=some (.slice ad nd cd):=fun o1 o2 o3=>(((h.alloc o1).alloc o2).alloc o3).c20;have hcc:∀o1 o2 o3 i m,M.cells[i]? =some m→i<8→(((w.alloc o1).alloc o2).alloc o3).cell? ⟨b,9+i,none⟩=some (.int .u16 m):=fun o1 o2 o3 i m hi hl=>by have:=(((h.alloc o1).alloc o2).alloc o3).ccell i hl;rw[this];simp[List.getD,hi]
 have g0:∀o1 o2 o3,(((w.alloc o1).alloc o2).alloc o3).cell? ⟨b,9,none⟩=some (.int .u16 m0):=fun o1 o2 o3=>hcc o1 o2 o3 0 m0 (by rw[hm];rfl) (by decide);have g1:∀o1 o2 o3,(((w.alloc o1).alloc o2).alloc o3).cell? ⟨b,10,none⟩=some (.int .u16 m1):=fun o1 o2 o3=>hcc o1 o2 o3 1 m1 (by rw[hm];rfl) (by decide);have g2:∀o1 o2 o3,(((w.alloc o1).alloc o2).alloc o3).cell? ⟨b,11,none⟩=some (.int .u16 m2):=fun o1 o2 o3=>hcc o1 o2 o3 2 m2 (by rw[hm];rfl) (by decide);have g3:∀o1 o2 o3,(((w.alloc o1).alloc o2).alloc o3).cell? ⟨b,12,none⟩=some (.int .u16 m3):=fun o1 o2 o3=>hcc o1 o2 o3 3 m3 (by rw[hm];rfl) (by decide);have g4:∀o1 o2 o3,(((w.alloc o1).alloc o2).alloc o3).cell? ⟨b,13,none⟩=some (.int .u16 m4):=fun o1 o2 o3=>hcc o1 o2 o3 4 m4 (by rw[hm];rfl) (by decide);have g5:∀o1 o2 o3,(((w.alloc o1).alloc o2).alloc o3).cell? ⟨b,14,none⟩=some (.int .u16 m5):=fun o1 o2 o3=>hcc o1 o2 o3 5 m5 (by rw[hm];rfl) (by decide);have g6:∀o1 o2 o3,(((w.alloc o1).alloc o2).alloc o3).cell? ⟨b,15,none⟩=some (.int .u16 m6):=fun o1 o2 o3=>hcc o1 o2 o3 6 m6 (by rw[hm];rfl) (by decide);have g7:∀o1 o2 o3,(((w.alloc o1).alloc o2).alloc o3).cell? ⟨b,16,none⟩=some (.int .u16 m7):=fun o1 o2 o3=>hcc o1 o2 o3 7 m7 (by rw[hm];rfl) (by decide);generalize M.steps=st at*;generalize M.draws=dr at*;have hb1:¬b=w.heap.size:=by omega
 have hb2:¬b=w.heap.size+1:=by omega
 unfold outAgg;clear h hz hm hcc;go_enter Tryz.func75,Tryz.ntmps75;go_wp2_with fail;go_region
 all_goals go_wp2
 all_goals exact bodyPost_ret (v:= .agg #[.int .u8 0,.int .i64 st,.int .i64 dr,.int .u16 m0,.int .u16 m1,.int .u16 m2,.int .u16 m3,.int .u16 m4,.int .u16 m5,.int .u16 m6,.int .u16 m7,.slice ao ns cs,.slice ad nd cd]) (by simp[results,Tryz.results75,go_sem]) rfl ⟨rfl,by (repeat (first|exact Below.refl _ _|assumption|refine Below.setCell ?_ (by first|exact Nat.le_refl _|(simp;done)|(simp;omega)) _|refine below_drewN ?_ _|refine Below.drew ?_|refine Below.alloc ?_ (by first|exact Nat.le_refl _|(simp;done)|(simp;omega)) _))⟩
theorem ret_int {k:IntKind} {a b:Int} (h:a=b):Ending.returned (.int k a)= .returned (.int k b):=by rw[h]
theorem lands_other {n k:Nat} {o a:Int} (h16:o≠16) (h17:o≠17):H.lands n k o a=true:=by
 unfold H.lands;rw[if_neg (by omega)]
theorem own_slice {w:World} {base n:Nat} {v:Value} {xs:List Value} {e size:Nat} (h:w.ownsRow base e size v n xs) (hn:n≠0):∃g cap,v= .slice (some ⟨g,0,none⟩) n cap∧g<w.heap.size:=by
 rcases h.2 with ⟨_,h⟩|⟨g,cap,_,h,_,hh,_⟩
 ·omega
 ·exact⟨g,cap,h,lt_of_block hh⟩
namespace H
structure Out where
 fault:Int
 steps:Nat
 draws:Nat
 cells:List Int
 shows:List (Int×ByteArray)
 sends:List (Int×Int)
 err:Int
def outNone (e:Int):Out:={fault:=0,steps:=0,draws:=0,cells:=[0,0,0,0,0,0,0,0],shows:=[],sends:=[],err:=e}
def outOf (first:List Int) (M:Mach):Out:=if M.fault=0 then {fault:=0,steps:=M.steps,draws:=M.draws,cells:=M.cells,shows:=M.shows,sends:=M.sends,err:=0}
 else {fault:=M.fault,steps:=M.steps,draws:=M.draws,cells:=first,shows:=[],sends:=[],err:=0}
def run (L:List Int) (first:List Int) (I:Inp):Out:=if (decode L).2.1=0 then
  if I.fuel<0∨1000<I.fuel then outNone 2
  else outOf first (runM (decode L).1 I I.fuel.toNat (I.fuel.toNat+1) (mach0 first))
 else outNone (decode L).2.1
end H
def outVal (O:H.Out) (sv dv:Value):Value:=outAgg O.fault O.steps O.draws (O.cells.getD 0 0) (O.cells.getD 1 0) (O.cells.getD 2 0) (O.cells.getD 3 0) (O.cells.getD 4 0) (O.cells.getD 5 0) (O.cells.getD 6 0) (O.cells.getD 7 0) sv dv
def runEnd (O:H.Out) (base:Nat) (w:World) (e:Ending) (w':World):Prop:=∃sv dv,e= .returned (.tuple #[outVal O sv dv,.int .i64 O.err])∧w'.ownsRow base 132 2 sv O.shows.length (showCells O.shows)∧w'.ownsRow base 108 2 dv O.sends.length (sendCells O.sends)∧Below base w w'
theorem runEnd_none {base:Nat} {w w':World} {x:Int} (hb:Below base w w'):runEnd (H.outNone x) base w (.returned (.tuple #[outAgg 0 0 0 0 0 0 0 0 0 0 0 (.slice none 0 0) (.slice none 0 0),.int .i64 x])) w':=⟨.slice none 0 0,.slice none 0 0,rfl,World.ownsRow_nil _ _ _ _,World.ownsRow_nil _ _ _ _,hb⟩
theorem below_13 {B b:Nat} {a w:World} (h:Below B a w) (hb:B≤b) (u0 u1 u2 u3 u4 u5 u6 u7 u8 u9 u10 u11 u12:Value):Below B a (((((((((((((w.setCell ⟨b,0,none⟩ u0).setCell ⟨b,1,none⟩ u1).setCell ⟨b,2,none⟩ u2).setCell ⟨b,3,none⟩ u3).setCell ⟨b,4,none⟩ u4).setCell ⟨b,5,none⟩ u5).setCell ⟨b,6,none⟩ u6).setCell ⟨b,7,none⟩ u7).setCell ⟨b,8,none⟩ u8).setCell ⟨b,9,none⟩ u9).setCell ⟨b,10,none⟩ u10).setCell ⟨b,11,none⟩ u11).setCell ⟨b,12,none⟩ u12):=(((((((((((((h.setCell (p:=⟨b,0,none⟩) hb u0).setCell (p:=⟨b,1,none⟩) hb u1).setCell (p:=⟨b,2,none⟩) hb u2).setCell (p:=⟨b,3,none⟩) hb u3).setCell (p:=⟨b,4,none⟩) hb u4).setCell (p:=⟨b,5,none⟩) hb u5).setCell (p:=⟨b,6,none⟩) hb u6).setCell (p:=⟨b,7,none⟩) hb u7).setCell (p:=⟨b,8,none⟩) hb u8).setCell (p:=⟨b,9,none⟩) hb u9).setCell (p:=⟨b,10,none⟩) hb u10).setCell (p:=⟨b,11,none⟩) hb u11).setCell (p:=⟨b,12,none⟩) hb u12)
theorem own_13 {base e n b:Nat} {v:Value} {xs:List Value} {w:World} (h:w.ownsRow base e 2 v n xs) (hb:v.ownBlock≠some b) (u0 u1 u2 u3 u4 u5 u6 u7 u8 u9 u10 u11 u12:Value):(((((((((((((w.setCell ⟨b,0,none⟩ u0).setCell ⟨b,1,none⟩ u1).setCell ⟨b,2,none⟩ u2).setCell ⟨b,3,none⟩ u3).setCell ⟨b,4,none⟩ u4).setCell ⟨b,5,none⟩ u5).setCell ⟨b,6,none⟩ u6).setCell ⟨b,7,none⟩ u7).setCell ⟨b,8,none⟩ u8).setCell ⟨b,9,none⟩ u9).setCell ⟨b,10,none⟩ u10).setCell ⟨b,11,none⟩ u11).setCell ⟨b,12,none⟩ u12).ownsRow base e 2 v n xs:=by
 have h0:=ownsRow_setCell_other h (a:=⟨b,0,none⟩) hb u0;have h1:=ownsRow_setCell_other h0 (a:=⟨b,1,none⟩) hb u1;have h2:=ownsRow_setCell_other h1 (a:=⟨b,2,none⟩) hb u2;have h3:=ownsRow_setCell_other h2 (a:=⟨b,3,none⟩) hb u3;have h4:=ownsRow_setCell_other h3 (a:=⟨b,4,none⟩) hb u4;have h5:=ownsRow_setCell_other h4 (a:=⟨b,5,none⟩) hb u5;have h6:=ownsRow_setCell_other h5 (a:=⟨b,6,none⟩) hb u6;have h7:=ownsRow_setCell_other h6 (a:=⟨b,7,none⟩) hb u7;have h8:=ownsRow_setCell_other h7 (a:=⟨b,8,none⟩) hb u8;have h9:=ownsRow_setCell_other h8 (a:=⟨b,9,none⟩) hb u9;have h10:=ownsRow_setCell_other h9 (a:=⟨b,10,none⟩) hb u10;have h11:=ownsRow_setCell_other h10 (a:=⟨b,11,none⟩) hb u11;have h12:=ownsRow_setCell_other h11 (a:=⟨b,12,none⟩) hb u12;exact h12
theorem scan_ops:∀(f:Nat) (L:List Int) (p:Nat) (acc l:List (Int×Int)),(∀i,0≤H.at0 L i∧H.at0 L i≤255)→(∀x∈acc,0≤x.1)→H.scan f L p acc=(l,none)→∀x∈l,0≤x.1
 |0,L,p,acc,l,hb,ha,h=>by simp[H.scan] at h;subst h;exact ha
 |f+1,L,p,acc,l,hb,ha,h=>by
  simp only[H.scan] at h;by_cases h1:p<L.length
  ·rw[if_pos h1] at h;by_cases h2:p+H.wid (H.at0 L p)<L.length∧acc.length≠64∧H.alone (H.at0 L p) (H.opnd L p)=true
   ·rw[if_pos h2] at h;refine scan_ops f L _ _ _ hb ?_ h;intro x hx;rcases List.mem_append.1 hx with h'|h'
    ·exact ha x h'
    ·simp at h';subst h';exact(hb p).1
   ·rw[if_neg h2] at h;simp at h
  ·rw[if_neg h1] at h;simp at h;subst h;exact ha
theorem dec_ops (L:List Int) (l:List (Int×Int)) (hb:∀i,0≤H.at0 L i∧H.at0 L i≤255) (h:H.decode L=(l,0,0)):∀x∈l,0≤x.1:=by
 rcases hs:H.scanAt L 0 [] with ⟨m,q⟩;cases q with
 |some q=>rw[H.decode_bad L m q hs] at h;simp at h
 |none=>
  have hm:=scan_ops _ L 0 [] m hb (by simp) hs;by_cases h0:m.length=0
  ·have:m=[]:=List.eq_nil_of_length_eq_zero h0;subst this;rw[H.decode_none L hs] at h;simp at h
  ·cases ht:H.stray m.length 0 0 m with
   |some q=>rw[H.decode_stray L m q hs h0 ht] at h;simp at h
   |none=>rw[H.decode_ok L m hs h0 ht] at h;simp at h;subst h;exact hm
set_option maxRecDepth 100000 in
theorem runW_bad (code:ByteArray) (v:InV) (ds:List Int) (w:World) (hc:code.size≤maxLen) (hv:v.ok) (hd:Drawn w v ds w.heap.size) (p:Nat) (hd1:H.decode (H.bts code)=([],1,(p:Int))): Calls Tryz.prog 66 #[.string code,.agg v.arr] w fun e w'=>runEnd (H.run (H.bts code) v.cells (v.inp ds)) w.heap.size w e w':=by
 have Hc:Hid (code.size≤maxLen):=hc;have Hv:Hid v.ok:=hv;have HD:Hid (Drawn w v ds w.heap.size):=hd;obtain⟨F,hF⟩:∃F,F=v.fuel:=⟨_,rfl⟩;have HF:Hid (F=v.fuel):=hF;have harr:v.arr=#[.int .i64 F,.int .u16 v.c0,.int .u16 v.c1,.int .u16 v.c2,.int .u16 v.c3,.int .u16 v.c4,.int .u16 v.c5,.int .u16 v.c6,.int .u16 v.c7,.int .u8 v.what,.int .u8 v.by_,.int .u16 v.arg,.int .u8 v.src,.int .u8 v.route,.slice v.ao v.n v.cap]:=by unfold InV.arr;rw[hF]
 have HArr:Hid (v.arr=#[.int .i64 F,.int .u16 v.c0,.int .u16 v.c1,.int .u16 v.c2,.int .u16 v.c3,.int .u16 v.c4,.int .u16 v.c5,.int .u16 v.c6,.int .u16 v.c7,.int .u8 v.what,.int .u8 v.by_,.int .u16 v.arg,.int .u8 v.src,.int .u8 v.route,.slice v.ao v.n v.cap]):=harr;rw[harr];have HDE:Hid (H.decode (H.bts code)=([],1,(p:Int))):=hd1;clear hc hv hd hF harr hd1;go_enter Tryz.func66,Tryz.ntmps66;go_wp2_with fail;refine(dec_any code _ Hc.out).mono ?_;rintro e w1 ⟨v1,rfl,hown1,hb1⟩;have hbw:Below w.heap.size w w1:=(((Below.refl _ _).alloc (Nat.le_refl _) _).alloc (by simp) _).trans (hb1.mono (by simp;omega));have HB1:Hid (Below w.heap.size w w1):=hbw;have hs1:=hbw.size;have hs1b:w.heap.size+2≤w1.heap.size:=by have:=hb1.size;simp at this;omega
 have HX1:Hid (Blk w1 w.heap.size v.arr 128):=by unfold Hid;rw[HArr.out];exact((Blk.new w _ 128).alloc _).below hb1 (by simp;omega)
 have HZ1:Hid (Blk w1 (w.heap.size+1) #[.int .u8 0,.int .i64 0,.int .i64 0,.int .u16 0,.int .u16 0,.int .u16 0,.int .u16 0,.int .u16 0,.int .u16 0,.int .u16 0,.int .u16 0,.slice none 0 0,.slice none 0 0] 124):=by have h:=Blk.new (w.alloc (.cells #[.int .i64 F,.int .u16 v.c0,.int .u16 v.c1,.int .u16 v.c2,.int .u16 v.c3,.int .u16 v.c4,.int .u16 v.c5,.int .u16 v.c6,.int .u16 v.c7,.int .u8 v.what,.int .u8 v.by_,.int .u16 v.arg,.int .u8 v.src,.int .u8 v.route,.slice v.ao v.n v.cap] 128)) #[.int .u8 0,.int .i64 0,.int .i64 0,.int .u16 0,.int .u16 0,.int .u16 0,.int .u16 0,.int .u16 0,.int .u16 0,.int .u16 0,.int .u16 0,.slice none 0 0,.slice none 0 0] 124;rw[show(w.alloc (.cells #[.int .i64 F,.int .u16 v.c0,.int .u16 v.c1,.int .u16 v.c2,.int .u16 v.c3,.int .u16 v.c4,.int .u16 v.c5,.int .u16 v.c6,.int .u16 v.c7,.int .u8 v.what,.int .u8 v.by_,.int .u16 v.arg,.int .u8 v.src,.int .u8 v.route,.slice v.ao v.n v.cap] 128)).heap.size=w.heap.size+1 by simp] at h;exact h.below hb1 (by simp)
 have z0:=HZ1.out.cell 0;have z1:=HZ1.out.cell 1;have z2:=HZ1.out.cell 2;have z3:=HZ1.out.cell 3;have z4:=HZ1.out.cell 4;have z5:=HZ1.out.cell 5;have z6:=HZ1.out.cell 6;have z7:=HZ1.out.cell 7;have z8:=HZ1.out.cell 8;have z9:=HZ1.out.cell 9;have z10:=HZ1.out.cell 10;have z11:=HZ1.out.cell 11;have z12:=HZ1.out.cell 12;simp at z0 z1 z2 z3 z4 z5 z6 z7 z8 z9 z10 z11 z12;have zf:∀i,w1.frozen? ⟨w.heap.size+1,i,none⟩=false:=fun i=>HZ1.out.free i;have hd:=HDE.out;rw[hd] at hown1 ⊢;simp only at hown1 ⊢;have HE:Hid (H.run (H.bts code) v.cells (v.inp ds)=H.outNone 1):=by unfold Hid H.run;rw[hd];rfl
 clear hd hown1 hb1 hbw HX1;go_wp2;refine bodyPost_ret (v:= .tuple #[.agg #[.int .u8 0,.int .i64 0,.int .i64 0,.int .u16 0,.int .u16 0,.int .u16 0,.int .u16 0,.int .u16 0,.int .u16 0,.int .u16 0,.int .u16 0,.slice none 0 0,.slice none 0 0],.int .i64 1]) ?_ rfl ?_
 ·simp[results,Tryz.results66,go_sem,z0,z1,z2,z3,z4,z5,z6,z7,z8,z9,z10,z11,z12]
 ·rw[HE.out];exact runEnd_none (below_13 HB1.out (by omega) _ _ _ _ _ _ _ _ _ _ _ _ _)
theorem own_blk {w:World} {base:Nat} {e:TypeId} {size:Nat} {v:Value} {n:Nat} {xs:List Value} (ho:w.ownsRow base e size v n xs) {k:Nat} (hk:v.ownBlock=some k):∃cur,Blk w k cur e:=by
 rcases ho.2 with ⟨hv,_⟩|⟨g,cap,cur,hv,_,hh,_⟩
 ·subst hv;simp[Value.ownBlock] at hk
 ·subst hv;simp only[Value.ownBlock,Option.some.injEq] at hk;subst hk;exact⟨cur,hh⟩
theorem TFr.blk {w w':World} {tb o:Nat} {x:Tn} {nv bv lv:Value} (h:TFr w w' tb o bv lv) (ht:TenAt w tb o x nv bv lv) {b:Nat} {cs:Array Value} {t:TypeId} (hb:Blk w b cs t) (h1:t≠88) (h2:t≠78) (h3:t≠80):Blk w' b cs t:=by
 refine hb.of_block (h.kept.block _ hb.lt ?_);obtain⟨c1,q1,_⟩:=ht.slot;intro q;rcases q with q|q|q
 ·exact hb.ne q1 h1 q
 ·obtain⟨c2,q2⟩:=ht.box.blk q.symm;exact hb.ne q2 h2 rfl
 ·exact hb.ne_own ht.log h3 q
theorem TFr.own {w w':World} {tb o:Nat} {x:Tn} {nv bv lv:Value} (h:TFr w w' tb o bv lv) (ht:TenAt w tb o x nv bv lv) {base:Nat} {t:TypeId} {size:Nat} {v:Value} {n:Nat} {xs:List Value} (ho:w.ownsRow base t size v n xs) (h1:t≠88) (h2:t≠78) (h3:t≠80):w'.ownsRow base t size v n xs:=by
 refine own_block ho fun k hk=>?_;obtain⟨cur,hb⟩:=own_blk ho hk;have hb':=h.blk ht hb h1 h2 h3;unfold Blk at hb hb';rw[hb,hb']
theorem sendCells_at:∀(l:List (Int×Int)) (i:Nat) (x:Int×Int),l[i]? =some x→(sendCells l)[i*2]? =some (.int .u8 x.1)∧(sendCells l)[i*2+1]? =some (.int .u16 x.2)
 |[],i,x,h=>by simp at h
 |y::r,0,x,h=>by simp at h;subst h;simp[sendCells]
 |y::r,i+1,x,h=>by
  have:=sendCells_at r i x (by simpa using h);simp only[sendCells,List.flatMap_cons] at*;rw[show(i+1)*2=i*2+2 by omega];simpa using this
theorem sendCells_snoc (l:List (Int×Int)) (x:Int×Int):sendCells (l++[x])=sendCells l++[.int .u8 x.1,.int .u16 x.2]:=by simp[sendCells]
theorem own_shAt {w:World} {base:Nat} {ao:Option Addr} {cap:Nat} {l:List (Int×ByteArray)} (h:w.ownsRow base 132 2 (.slice ao l.length cap) l.length (showCells l)):Tr.ShAt w ao l:=by
 by_cases h0:l=[]
 ·exact Or.inl h0
 ·right;rcases h.2 with ⟨_,hn⟩|⟨g,cp,cur,hv,_,hh,_⟩
  ·exact absurd (List.eq_nil_of_length_eq_zero hn) h0
  ·simp only[Value.slice.injEq] at hv;obtain⟨rfl,_,rfl⟩:=hv;refine⟨g,0,rfl,lt_of_block hh,?_⟩;intro i y hy;obtain⟨s0,s1⟩:=showCells_at l i y hy;obtain⟨g',e,c0,c1⟩:=own_pair h s0 s1;simp only[Option.some.injEq,Addr.mk.injEq,and_true] at e;subst e;rw[Nat.zero_add];exact⟨c0,c1⟩
def goes (pub:Int) (s:Int×Int):Bool:=bitOf pub s.1
def Tn.sift (x:Tn) (n:Int) (l:List (Int×Int)):Tn:=l.foldl (fun y s=>if goes y.pub s then y else y.note n 1 s.1 s.2) x
def Tn.finish (x:Tn) (n:Int) (ev:Ev) (cells:List Int) (shows:List (Int×ByteArray)) (sends:List (Int×Int)):Tn:=(((({x with cells:=cells}:Tn).show shows).note n 0 ev.what ev.arg).sift n sends)
theorem sift_pub (x:Tn) (n:Int):∀l:List (Int×Int),(x.sift n l).pub=x.pub:=by
 intro l;unfold Tn.sift;induction l generalizing x with
 |nil=>rfl
 |cons s r ih=>rw[List.foldl_cons,ih];split<;>rfl
theorem sift_log (x:Tn) (n:Int):∀l:List (Int×Int),(x.sift n l).log.length≤x.log.length+l.length:=by
 intro l;unfold Tn.sift;induction l generalizing x with
 |nil=>simp
 |cons s r ih=>
  rw[List.foldl_cons];refine Nat.le_trans (ih _) ?_;split
  ·simp
  ·simp[Tn.note];omega
theorem sift_step (x:Tn) (n:Int) {l:List (Int×Int)} {k:Nat} {s:Int×Int} (hs:l[k]? =some s):x.sift n (l.take (k+1))=if goes x.pub s then x.sift n (l.take k) else (x.sift n (l.take k)).note n 1 s.1 s.2:=by
 have h:=sift_pub x n (l.take k);unfold Tn.sift at*;rw[List.take_add_one,hs];simp only[Option.toList_some,List.foldl_append,List.foldl_cons,List.foldl_nil];rw[h]
theorem filter_step {p:Int×Int→Bool} {l:List (Int×Int)} {k:Nat} {s:Int×Int} (hs:l[k]? =some s):(l.take (k+1)).filter p=(l.take k).filter p++(if p s then [s] else []):=by
 rw[List.take_add_one,hs,List.filter_append];cases hp:p s<;>simp[hp]
structure Hs where
 route:Int
 frames:Int
 ts:List Tn
abbrev Vs:=Value×Value×Value
structure HostAt (w:World) (hb tb cap:Nat) (H:Hs) (vs:List Vs):Prop where
 host:Blk w hb #[.int .u8 H.route,.int .i64 H.frames,.slice (some ⟨tb,0,none⟩) H.ts.length cap] 86
 len:vs.length=H.ts.length
 ten:∀(i:Nat) (x:Tn) (v:Vs),H.ts[i]? =some x→vs[i]? =some v→TenAt w tb (i*21) x v.1 v.2.1 v.2.2
 boxes:∀(i j:Nat) (v u:Vs),vs[i]? =some v→vs[j]? =some u→i≠j→∀k,v.2.1.ownBlock=some k→u.2.1.ownBlock≠some k
 logs:∀(i j:Nat) (v u:Vs),vs[i]? =some v→vs[j]? =some u→i≠j→∀k,v.2.2.ownBlock=some k→u.2.2.ownBlock≠some k
def ownOf (hb tb:Nat) (vs:List Vs) (k:Nat):Prop:=k=hb∨k=tb∨∃v∈vs,some k=v.2.1.ownBlock∨some k=v.2.2.ownBlock∨some k=v.1.ownBlock
section
variable {w w' : World} {hb tb cap : Nat} {H : Hs} {vs : List Vs}
theorem HostAt.at (h:HostAt w hb tb cap H vs) {i:Nat} {x:Tn} (hx:H.ts[i]? =some x):∃v,vs[i]? =some v∧TenAt w tb (i*21) x v.1 v.2.1 v.2.2:=by
 have hi:=(List.getElem?_eq_some_iff.1 hx).1;obtain⟨v,hv⟩:∃v,vs[i]? =some v:=⟨vs[i]'(by rw[h.len];exact hi),List.getElem?_eq_getElem (by rw[h.len];exact hi)⟩;exact⟨v,hv,h.ten i x v hx hv⟩
theorem HostAt.keep (h:HostAt w hb tb cap H vs) (hk:∀k,ownOf hb tb vs k→w'.heap[k]? =w.heap[k]?) (hn:∀k cs,Blk w k cs 76→Blk w' k cs 76):HostAt w' hb tb cap H vs:=by
 refine⟨h.host.of_block (hk hb (Or.inl rfl)),h.len,?_,h.boxes,h.logs⟩;intro i x v hx hv;have ht:=h.ten i x v hx hv;have hm:v∈vs:=List.mem_of_getElem? hv;refine⟨ht.slot.keep (hk tb (Or.inr (Or.inl rfl))),own_block ht.nodes fun k hk'=>?_,ht.box.keep fun k hk'=>hk k (Or.inr (Or.inr ⟨v,hm,Or.inl hk'.symm⟩)),own_block ht.log fun k hk'=>hk k (Or.inr (Or.inr ⟨v,hm,Or.inr (Or.inl hk'.symm)⟩))⟩;obtain⟨cur,hb2⟩:=own_blk ht.nodes hk';have hb3:=hn k cur hb2;unfold Blk at hb2 hb3;rw[hb2,hb3]
theorem HostAt.below (h:HostAt w hb tb cap H vs) (hb':Below w.heap.size w w') (htb:tb<w.heap.size):HostAt w' hb tb cap H vs:=by
 refine h.keep (fun k hk=>?_) (fun k cs q=>q.below hb' q.lt);rcases hk with rfl|rfl|⟨v,hv,q|q|q⟩
 ·exact hb'.block _ h.host.lt
 ·exact hb'.block _ htb
 ·obtain⟨i,hi⟩:=List.mem_iff_getElem?.1 hv;have hl:=(List.getElem?_eq_some_iff.1 hi).1;obtain⟨cur,q2⟩:=(h.ten i _ v (List.getElem?_eq_getElem (by rw[←h.len];exact hl)) hi).box.blk q.symm;exact hb'.block _ q2.lt
 ·obtain⟨i,hi⟩:=List.mem_iff_getElem?.1 hv;have hl:=(List.getElem?_eq_some_iff.1 hi).1;obtain⟨cur,q2⟩:=own_blk (h.ten i _ v (List.getElem?_eq_getElem (by rw[←h.len];exact hl)) hi).log q.symm;exact hb'.block _ q2.lt
 ·obtain⟨i,hi⟩:=List.mem_iff_getElem?.1 hv;have hl:=(List.getElem?_eq_some_iff.1 hi).1;obtain⟨cur,q2⟩:=own_blk (h.ten i _ v (List.getElem?_eq_getElem (by rw[←h.len];exact hl)) hi).nodes q.symm;exact hb'.block _ q2.lt
theorem has_any (h:HostAt w hb tb cap H vs) (t:Int): Calls Tryz.prog 35 #[.pointer (some ⟨hb,0,none⟩),.int .i64 t] w fun e w'=>e= .returned (.bool (decide (0≤t∧t<(H.ts.length:Int))))∧w=w':=by
 have c2:w.cell? ⟨hb,2,none⟩=some (.slice (some ⟨tb,0,none⟩) H.ts.length cap):=by rw[h.host.cell 2];rfl
 clear h;by_cases h0:0≤t
 ·have e:decide (0≤t∧t<(H.ts.length:Int))=decide (t<(H.ts.length:Int)):=by simp[h0]
  rw[e];go_enter Tryz.func35,Tryz.ntmps35;go_wp2;go_ret;exact⟨rfl,rfl⟩
 ·have e:decide (0≤t∧t<(H.ts.length:Int))=false:=by simp[h0]
  have hd:decide (0≤t)=false:=by simpa using h0
  rw[e];go_enter Tryz.func35,Tryz.ntmps35;go_wp2;go_ret;exact⟨rfl,rfl⟩
def Hs.navigate (H:Hs) (r:Int):Hs:=if 4≤r then H else {H with route:=r}
theorem navigate_any (h:HostAt w hb tb cap H vs) (r:Int) (hne:hb≠tb) (hbx:∀v∈vs,v.2.1.ownBlock≠some hb∧v.2.2.ownBlock≠some hb): Calls Tryz.prog 13 #[.pointer (some ⟨hb,0,none⟩),.int .u8 r] w fun e w'=>e= .returned (.int .i64 (if 4≤r then 6 else 0))∧HostAt w' hb tb cap (H.navigate r) vs∧Kept (ownOf hb tb vs) w w':=by
 have HH:Hid (HostAt w hb tb cap H vs):=h;have c0:w.cell? ⟨hb,0,none⟩=some (.int .u8 H.route):=by rw[h.host.cell 0];rfl
 have f0:=h.host.free 0;by_cases h4:4≤r
 ·rw[if_pos h4];have HE:Hid (H.navigate r=H):=by unfold Hid Hs.navigate;rw[if_pos h4]
  clear h;go_enter Tryz.func13,Tryz.ntmps13;go_wp2;go_ret;refine⟨rfl,?_,Kept.refl _ _⟩;rw[HE.out];exact HH.out
 ·rw[if_neg h4];have HE:Hid (H.navigate r={H with route:=r}):=by unfold Hid Hs.navigate;rw[if_neg h4]
  have HNe:Hid (hb≠tb):=hne;have HBx:Hid (∀v∈vs,v.2.1.ownBlock≠some hb∧v.2.2.ownBlock≠some hb):=hbx;clear h hne hbx;go_enter Tryz.func13,Tryz.ntmps13;go_wp2;go_ret;refine⟨rfl,?_,(Kept.refl _ _).setCell ⟨hb,0,none⟩ _ (Or.inl (Or.inl rfl))⟩;rw[HE.out];refine⟨HH.out.host.set 0 _,HH.out.len,?_,HH.out.boxes,HH.out.logs⟩;intro i x v hx hv;have ht:=HH.out.ten i x v hx hv;have hm:=HBx.out v (List.mem_of_getElem? hv);have hk:∀k,k≠hb→(w.setCell ⟨hb,0,none⟩ (.int .u8 r)).heap[k]? =w.heap[k]? :=fun k hk=>Below.heap_setCell _ _ _ _ hk;refine⟨ht.slot.keep (hk tb (fun e=>HNe.out e.symm)),own_block ht.nodes fun k hk'=>hk k ?_,ht.box.keep fun k hk'=>hk k ?_,own_block ht.log fun k hk'=>hk k ?_⟩
  ·rintro rfl;exact HH.out.host.ne_own ht.nodes (by decide) hk'.symm
  ·rintro rfl;exact hm.1 hk'
  ·rintro rfl;exact hm.2 hk'
theorem phase_any (h:HostAt w hb tb cap H vs) (t:Nat) {x:Tn} (hx:H.ts[t]? =some x) (hl:H.ts.length≤100000): Calls Tryz.prog 28 #[.pointer (some ⟨hb,0,none⟩),.int .i64 t] w fun e w'=>e= .returned (.int .u8 x.phase)∧w=w':=by
 have HC:Hid (Calls Tryz.prog 35 #[.pointer (some ⟨hb,0,none⟩),.int .i64 (t:Int)] w fun e w'=>e= .returned (.bool true)∧w=w'):=by have q:=has_any h (t:Int);have hi:=(List.getElem?_eq_some_iff.1 hx).1;rw[show decide (0≤(t:Int)∧(t:Int)<(H.ts.length:Int))=true by simp;omega] at q;exact q
 have c2:w.cell? ⟨hb,2,none⟩=some (.slice (some ⟨tb,0,none⟩) H.ts.length cap):=by rw[h.host.cell 2];rfl
 obtain⟨v,hv,ht⟩:=h.at hx;have c7:=ht.slot.cell 7 rfl;have hi:=(List.getElem?_eq_some_iff.1 hx).1;have hti:(t:Int)<(H.ts.length:Int):=by omega
 have ht0:(0:Int)≤(t:Int):=by omega
 clear h hx hv ht;go_enter Tryz.func28,Tryz.ntmps28;go_wp2_with fail;refine HC.out.mono ?_;rintro e w' ⟨rfl,rfl⟩;go_wp2;go_ret;exact⟨rfl,rfl⟩
end
end Go.Proofs.YtidaflmmldefcaaGreat
