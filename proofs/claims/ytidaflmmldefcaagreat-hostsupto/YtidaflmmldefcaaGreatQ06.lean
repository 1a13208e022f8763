/- Parts of the proof of Hosts: Show. -/
import Derived.Test.YtidaflmmldefcaaGreatQ05
set_option maxHeartbeats 4000000
namespace Go.Proofs.YtidaflmmldefcaaGreat
open Go.RowKit
set_option linter.unusedVariables false
theorem step_append_mine {P:Program} {ops:Array Oper} {o:Oper} {a:Act} {w:World} {K:Act→World→Prop} {Q:Exit→Act→World→Prop} {E:Prop}
 (hg:o.guard=none) (s x:Operand) (t:TypeId) (hop:o.op=Op.call {callee:=Callee.builtin Builtin.append,args:=#[s,x],argTypes:=#[t,t]})
 (base:Nat) (e:TypeId) (i:TypeInfo) (z:Value) (size bytes:Nat) (h1:P.underlying t=some (.slice e)) (h2:P.info? e=some i) (h3:i.zero=some z) (h4:i.size=size) (h5:i.bytes=bytes) (h6:z.cells.size=size) (h7:0<size)
 (v:Value) (n:Nat) (xs:List Value) (hs:a.eval s=v) (hown:w.ownsRow base e size v n xs)
 (ad:Addr) (m c:Nat) (news:List Value) (hx:a.eval x= .slice (some ad) m c) (hn:news.length=m*size) (hc:∀j u,news[j]? =some u→w.cell? (ad.add j)=some u) (h1c:∀u∈news,u.oneCell'=true)
 (b1:n+m≤maxLen) (b2:(n+m)*bytes≤140737488355328) (hb:base≤w.heap.size)
 (hK:∀v' w',w'.ownsRow base e size v' (n+m) (xs++news)→w.grownBy w' v.ownBlock→K (a.put o.dst v') w'): if Region.wanted o (yielded ops a.tmps)=true then Oper.wp P o a w K Q else E:=by
 have hw:Region.wanted o (yielded ops a.tmps)=true:=by simp[Region.wanted,hg]
 rw[if_pos hw];obtain⟨v',w',hrun,r1,r2,_⟩:=run_append_own (P:=P) w base t o.type e i z size bytes h1 h2 h3 h4 h5 h6 h7 v n xs hown ad m c news hn hc h1c b1 b2 hb;unfold Oper.wp;simp[execOp,hop,resolve,invoke,builtin,hs,hx,hrun,Result.andThen];exact hK v' w' r1 r2
theorem showCells_at:∀(l:List (Int×ByteArray)) (i:Nat) (x:Int×ByteArray),l[i]? =some x→(showCells l)[i*2]? =some (.int .u16 x.1)∧(showCells l)[i*2+1]? =some (.string x.2)
 |[],i,x,h=>by simp at h
 |y::r,0,x,h=>by simp at h;subst h;simp[showCells]
 |y::r,i+1,x,h=>by
  have:=showCells_at r i x (by simpa using h);simp only[showCells,List.flatMap_cons] at*;rw[show(i+1)*2=i*2+2 by omega];simpa using this
theorem show_eq0 {M:H.Mach} (h:(H.popM M).fault≠0):H.showM M=H.popM M:=by unfold H.showM;rw[if_neg h]
theorem show_eq1 {M:H.Mach} (h:(H.popM M).fault=0) (h8:8≤M.shows.length):H.showM M={H.popM M with fault:=5}:=by unfold H.showM;rw[if_pos h,if_pos h8]
theorem show_eq2 {M:H.Mach} (h:(H.popM M).fault=0) (h8:¬8≤M.shows.length) (hk:H.hasKey (H.popV M) M.shows=true):H.showM M={H.popM M with fault:=6}:=by unfold H.showM;rw[if_pos h,if_neg h8,if_pos hk]
theorem show_eq3 {M:H.Mach} (h:(H.popM M).fault=0) (h8:¬8≤M.shows.length) (hk:H.hasKey (H.popV M) M.shows=false):H.showM M={H.popM M with shows:=(H.popM M).shows++[(H.popV M,M.text)],text:=⟨#[]⟩,chars:=0}:=by
 unfold H.showM;rw[if_pos h,if_neg h8,if_neg (by rw[hk];decide),popM_shows]
theorem hasKey_true {l:List (Int×ByteArray)} {k:Nat} {x:Int×ByteArray} {y:Int} (h:l[k]? =some x) (e:x.1=y):H.hasKey y l=true:=by
 unfold H.hasKey;rw[List.any_eq_true];exact⟨x,List.mem_of_getElem? h,by simp[e]⟩
theorem hasKey_false {l:List (Int×ByteArray)} {y:Int} (h:∀(i:Nat) (x:Int×ByteArray),l[i]? =some x→x.1≠y):H.hasKey y l=false:=by
 unfold H.hasKey;rw[List.any_eq_false];intro x hx;obtain⟨i,hi⟩:=List.mem_iff_getElem?.1 hx;simpa using h i x hi
set_option maxRecDepth 100000 in
theorem show_any {w:World} {base b:Nat} {pile:List Int} {sv dv:Value} {M:H.Mach} (h:MB w base b pile sv dv M): Calls Tryz.prog 95 #[.pointer (some ⟨b,0,none⟩)] w fun e w'=>e= .returned (.tuple #[])∧Aft w base b (H.showM M) w':=by
 obtain⟨i0,hi,hz0,hz1,hz2⟩:=info_parts info62;have HP:Hid (MB w base b pile sv dv M):=h;clear h;go_enter Tryz.func95,Tryz.ntmps95;go_wp2_with fail;refine(pop_any HP.out).mono ?_;rintro e w1 ⟨rfl,⟨pile1,hm1⟩,hf1⟩;have HM1:Hid (MB w1 base b pile1 sv dv (H.popM M)):=hm1;have HF1:Hid (Fr base w w1):=hf1;obtain⟨ao,cv,hdv⟩:=own_shape hm1.shows;have HDV:Hid (sv= .slice ao (H.popM M).shows.length cv):=hdv;have c25:=hm1.c25;have f25:=hm1.free 25;have c19:=hm1.c19;rw[hdv] at c19;have hlt:=hm1.lt;have hbl:=hm1.blk.lt;clear hm1 hf1 hdv;obtain⟨y,hy⟩:∃y,y=H.popV M:=⟨_,rfl⟩;rw[←hy];have Hy:Hid (y=H.popV M):=hy;obtain⟨ft,hft⟩:∃ft,ft=(H.popM M).fault:=⟨_,rfl⟩;rw[←hft] at c25;have Hft:Hid (ft=(H.popM M).fault):=hft;obtain⟨n,hn⟩:∃n,n=(H.popM M).shows.length:=⟨_,rfl⟩;rw[←hn] at c19;have Hn:Hid (n=(H.popM M).shows.length):=hn;clear hy hft hn;by_cases hz:ft=0
 ·have HZ:Hid ((H.popM M).fault=0):=by unfold Hid;rw[←Hft.out];exact hz
  subst hz;by_cases h8:8≤n
  ·have HE:Hid (H.showM M={H.popM M with fault:=5}):=show_eq1 HZ.out (by rw[←popM_shows,←Hn.out];exact h8);have h8':(8:Int)≤(n:Int):=by omega
   go_wp2;exact bodyPost_ret (v:= .tuple #[]) (by simp[results,Tryz.results95]) rfl ⟨rfl,by rw[HE.out];exact⟨⟨_,_,_,HM1.out.set_fault 5⟩,HM1.out.fr_set HF1.out _ _⟩⟩
  ·have h8':¬(8:Int)≤(n:Int):=by omega
   have H8:Hid (¬8≤M.shows.length):=by unfold Hid;rw[←popM_shows,←Hn.out];exact h8
   have HO:Hid (w1.ownsRow base 132 2 (.slice ao n cv) n (showCells (H.popM M).shows)):=by have h:=HM1.out.shows;rw[HDV.out,←Hn.out] at h;exact h
   go_wp2_with fail;go_loopw [26] (fun i wr=>∃k:Nat,k≤n∧i= .int .i64 k∧Below w1.heap.size w1 wr∧∀i x,i<k→(H.popM M).shows[i]? =some x→x.1≠y)
    (fun i _=>n-(intOf i).toNat)
   case atStart=>exact⟨0,Nat.zero_le _,rfl,Below.refl _ _,fun i x hi=>by omega⟩
   case round=>
    obtain⟨k,hk,rfl,hbr,hkeys⟩:=hrel;have HBr:Hid (Below w1.heap.size w1 wr):=hbr;have HKy:Hid (∀i x,i<k→(H.popM M).shows[i]? =some x→x.1≠y):=hkeys;have hsr:=hbr.size;have HMr:Hid (MB wr base b pile1 sv dv (H.popM M)):=HM1.out.of_below hbr;have HFr:Hid (Fr base w wr):=HF1.out.of_below hbr hlt;clear hbr hkeys;by_cases hkn:k<n
    ·obtain⟨g,rfl⟩:∃g,ao=some ⟨g,0,none⟩:=by
      rcases HO.out.2 with ⟨_,h⟩|⟨g,c,_,h,_⟩
      ·omega
      ·simp at h;exact⟨g,h.1⟩
     obtain⟨x,hx⟩:∃x,(H.popM M).shows[k]? =some x:=⟨(H.popM M).shows[k]'(by have:=Hn.out;omega),List.getElem?_eq_getElem (by have:=Hn.out;omega)⟩;obtain⟨sk,st⟩:=x;have hor:wr.ownsRow base 132 2 (.slice (some ⟨g,0,none⟩) n cv) n (showCells (H.popM M).shows):=own_below' HO.out HBr.out (Nat.le_refl _);have d0:=(hor.cellAt (k*2) (by omega)).trans (showCells_at _ k _ hx).1;have d1:=(hor.cellAt (k*2+1) (by omega)).trans (showCells_at _ k _ hx).2;have HX:Hid ((H.popM M).shows[k]? =some (sk,st)):=hx;have r25:∀o,(wr.alloc o).cell? ⟨b,25,none⟩=some (.int .u8 0):=fun o=>by have h:=(HMr.out.alloc o).c25;rw[HZ.out] at h;exact h
     have g25:∀o,(wr.alloc o).frozen? ⟨b,25,none⟩=false:=fun o=>(HMr.out.alloc o).free 25;have hbne:¬b=wr.heap.size:=by omega
     have hgl:g<wr.heap.size:=World.block_lt_of_cell? _ _ d0;have hgne:¬g=wr.heap.size:=by omega
     clear hor hx c25 f25 c19;by_cases hey:sk=y
     ·have HE:Hid (H.showM M={H.popM M with fault:=6}):=show_eq2 HZ.out H8.out (by rw[←Hy.out];exact hasKey_true (by rw[←popM_shows];exact HX.out) hey);subst hey;go_wp2;exact bodyPost_ret (v:= .tuple #[]) (by simp[results,Tryz.results95]) rfl ⟨rfl,by rw[HE.out];exact⟨⟨_,_,_,(HMr.out.alloc _).set_fault 6⟩,(HMr.out.alloc _).fr_set (HFr.out.alloc (by omega) _) _ _⟩⟩
     ·have hb:(sk==y)=false:=by simpa using hey
      have Hey:Hid (sk≠y):=hey;clear hey;go_wp2;go_roundw
      case rel=>
       refine⟨k+1,by omega,by go_num,HBr.out.alloc hsr _,fun i x hi hx=>?_⟩;by_cases hik:i<k
       ·exact HKy.out i x hik hx
       ·have:i=k:=by omega
        subst this;rw[HX.out] at hx;simp at hx;subst hx;exact Hey.out
      case measure=>simp[intOf];omega
    ·have HE:Hid (H.showM M={H.popM M with shows:=(H.popM M).shows++[(y,M.text)],text:=⟨#[]⟩,chars:=0}):=by unfold Hid;rw[Hy.out];refine show_eq3 HZ.out H8.out (hasKey_false fun i x hx=>?_);rw[←Hy.out];rw[←popM_shows] at hx;have hlt:=(List.getElem?_eq_some_iff.1 hx).1;exact HKy.out i x (by have:=Hn.out;omega) hx
     have r19:=HMr.out.c19;have g19:=HMr.out.free 19;have r17:=HMr.out.c17;have g17:=HMr.out.free 17;have r18:=HMr.out.c18;have g18:=HMr.out.free 18;rw[HDV.out,←Hn.out] at r19;rw[popM_text] at r17;rw[popM_chars] at r18;obtain⟨tx,htx⟩:∃tx,tx=M.text:=⟨_,rfl⟩;rw[←htx] at r17;have Htx:Hid (tx=M.text):=htx;have hbwr:=HMr.out.blk.lt;have hltr:=HMr.out.lt;have hbne:¬b=wr.heap.size:=by omega
     have HOr:Hid (wr.ownsRow base 132 2 (.slice ao n cv) n (showCells (H.popM M).shows)):=own_below' HO.out HBr.out (Nat.le_refl _);clear htx c25 f25 c19;have HOd:Hid (((wr.alloc (.cells #[.int .u16 y,.string tx] 132)).drew).ownsRow base 132 2 (.slice ao n cv) n (showCells (H.popM M).shows)):=HOr.out.alloc _;have hnews:Hid (∀j u,[Value.int .u16 y,.string tx][j]? =some u→((wr.alloc (.cells #[.int .u16 y,.string tx] 132)).drew).cell? ((⟨wr.heap.size,0,none⟩:Addr).add j)=some u):=new_two _ _ _ _;have hone:Hid (∀u∈[Value.int .u16 y,.string tx],u.oneCell'=true):=by unfold Hid;intro u hu;simp at hu;rcases hu with rfl|rfl<;>rfl
     have hbase:Hid (base≤((wr.alloc (.cells #[.int .u16 y,.string tx] 132)).drew).heap.size):=by unfold Hid;simp;omega
     have hm63:Hid (n+1≤maxLen):=by unfold Hid maxLen;omega
     have hbyt:Hid ((n+1)*24≤140737488355328):=by unfold Hid;omega
     have HKEY:Hid (∀v3 w3,w3.ownsRow base 132 2 v3 (n+1) (showCells (H.popM M).shows++[.int .u16 y,.string tx])→((wr.alloc (.cells #[.int .u16 y,.string tx] 132)).drew).grownBy w3 (Value.slice ao n cv).ownBlock→∃ao3 c3,v3= .slice ao3 (n+1) c3∧w3.cell? ⟨b,19,none⟩=some (.slice ao n cv)∧w3.frozen? ⟨b,19,none⟩=false∧w3.cell? ⟨b,17,none⟩=some (.string tx)∧w3.frozen? ⟨b,17,none⟩=false∧w3.cell? ⟨b,18,none⟩=some (.int .i64 (M.chars:Int))∧w3.frozen? ⟨b,18,none⟩=false∧Hid (MB (w3.setCell ⟨b,19,none⟩ (.slice ao3 (n+1) c3)) base b pile1 (.slice ao3 (n+1) c3) dv {H.popM M with shows:=(H.popM M).shows++[(y,tx)]})∧Hid (Fr base w (w3.setCell ⟨b,19,none⟩ (.slice ao3 (n+1) c3)))):=by
      intro v3 w3 hown3 hg3;obtain⟨ao3,c3,hv3⟩:=own_shape hown3;have hma:=((HMr.out.alloc (.cells #[.int .u16 y,.string tx] 132)).drew).app_shows y tx (sv1:=v3) (w1:=w3) (by rw[←Hn.out];exact hown3) (by rw[HDV.out,←Hn.out];exact hg3);have HB3:=hma.1;have hm3:=hma.2.1;have hf3:=hma.2.2;rw[hv3] at hm3 hf3;refine⟨ao3,c3,hv3,?_,HB3.free 19,?_,HB3.free 17,?_,HB3.free 18,hm3,((HFr.out.alloc hltr _).drew).trans hf3⟩
      ·have h19:w3.cell? ⟨b,19,none⟩=some sv:=by rw[HB3.cell 19,List.getElem?_toArray];exact mcells_tail HM1.out.hp HM1.out.hc _ 2
       rw[h19,HDV.out,←Hn.out]
      ·rw[HB3.cell 17,List.getElem?_toArray,Htx.out,←popM_text];exact mcells_tail HM1.out.hp HM1.out.hc _ 0
      ·rw[HB3.cell 18,List.getElem?_toArray,←popM_chars];exact mcells_tail HM1.out.hp HM1.out.hc _ 1
     clear HBr HMr HFr HO HKy;go_wp2_with fail;go_region_law (refine step_append_mine rfl (.tmp 42) (.tmp 49) 122 rfl base 132 i0 (.agg #[.int .u16 0,.string ⟨#[]⟩]) 2 24 Tryz.underlying122 hi hz0 hz1 hz2 rfl (by decide) (.slice ao n cv) n (showCells (H.popM M).shows) (by simp[Act.eval]) HOd.out ⟨wr.heap.size,0,none⟩ 1 1 [.int .u16 y,.string tx] (by simp[Act.eval]) rfl hnews.out hone.out hm63.out hbyt.out hbase.out ?_;intro v3 w3 hown3 hg3;obtain⟨ao3,c3,hv3,q19,p19,q17,p17,q18,p18,HM3,HF3⟩:=HKEY.out v3 w3 hown3 hg3;rw[hv3];clear hown3 hg3 hv3)
     all_goals go_wp2
     all_goals go_end0
     all_goals exact⟨rfl,by rw[HE.out,←Htx.out];exact⟨⟨_,_,_,(HM3.out.set_text _).set_chars 0⟩,(HM3.out.set_text _).fr_set (HM3.out.fr_set HF3.out _ _) _ _⟩⟩
 ·have HE:Hid (H.showM M=H.popM M):=show_eq0 (by rw[←Hft.out];exact hz);have hb:(ft !=0)=true:=by simpa using hz
  clear hz;go_wp2;exact bodyPost_ret (v:= .tuple #[]) (by simp[results,Tryz.results95]) rfl ⟨rfl,by rw[HE.out];exact⟨⟨_,_,_,HM1.out⟩,HF1.out⟩⟩
end Go.Proofs.YtidaflmmldefcaaGreat
