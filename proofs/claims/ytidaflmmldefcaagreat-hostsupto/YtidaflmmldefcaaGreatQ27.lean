/- Parts of the proof of Hosts: RefE. -/
import Derived.Test.YtidaflmmldefcaaGreatQ19
import Derived.Test.YtidaflmmldefcaaGreatQ15
import Derived.Test.YtidaflmmldefcaaGreatQ26
set_option maxHeartbeats 16000000
namespace Go.Proofs.YtidaflmmldefcaaGreat
open Go.RowKit
set_option linter.unusedVariables false
theorem isCnt_msg (l:List Ev) (b:Int) (hb:0≤b):l.countP (isCnt 2 b)=l.countP (isMsg b):=by
 apply List.countP_congr;intro e _;have:decide (b<0)=false:=by simp;omega
 simp[isCnt,isMsg,this]
theorem set_self2 {l:List Tn} {i:Nat} {x:Tn} (hx:l[i]? =some x):l.set i x=l:=by
 apply List.ext_getElem?;intro j;by_cases hj:j=i
 ·subst hj;rw[List.getElem?_set_self (List.getElem?_eq_some_iff.1 hx).1,hx]
 ·rw[List.getElem?_set_ne (fun e=>hj e.symm)]
section
variable {w w' : World} {R : RB} {H : Hs} {held : List Int}
set_option maxRecDepth 100000 in
theorem rpost_any (h:RefAt w R H held) (L:Lt) (hs0:0≤L.1) (hs1:L.1≤200) (ht0:0≤L.2.1) (ht1:L.2.1≤16) (hv0:0≤L.2.2) (hv1:L.2.2≤65535) (hl:H.ts.length≤4) (hok:∀x∈H.ts,x.box.length≤100000∧x.log.length≤100000∧0≤x.sub∧x.sub≤255∧∀e∈x.box,e.ok): Calls Tryz.prog 51 #[.pointer (some ⟨R.rb,0,none⟩),.agg #[.int .i64 L.1,.int .i64 L.2.1,.int .i64 L.2.2]] w fun e w'=>e= .returned (.tuple #[])∧RAft w R {H with ts:=deliver H.frames H.ts L} held w':=by
 obtain⟨snd,topic,value⟩:=L;simp only at hs0 hs1 ht0 ht1 hv0 hv1 ⊢;obtain⟨f,hf⟩:∃f:Nat→Tn→Tn,f=fun i x=>x.get i H.frames (snd,topic,value):=⟨_,rfl⟩;have HD:Hid (deliver H.frames H.ts (snd,topic,value)=upTo f H.ts.length H.ts):=by unfold Hid;rw[upTo_all,hf];rfl
 have HF:Hid (∀i x,f i x=if (i:Int)=snd then x else x.receive H.frames snd topic value):=by intro i x;rw[hf];rfl
 have HOk:Hid (∀x∈H.ts,x.box.length≤100000∧x.log.length≤100000∧0≤x.sub∧x.sub≤255∧∀e∈x.box,e.ok):=hok;obtain⟨n,hn⟩:∃n,n=H.ts.length:=⟨_,rfl⟩;have Hn:Hid (H.ts.length=n):=hn.symm;obtain⟨W,hW⟩:∃W,W=w.alloc (.cells #[.int .i64 snd,.int .i64 topic,.int .i64 value] 118):=⟨_,rfl⟩;have hbW:Below w.heap.size w W:=by rw[hW];exact(Below.refl _ _).alloc (Nat.le_refl _) _
 have HHW:Hid (RefAt W R H held):=h.below hbW;have HKW:Hid (Below w.heap.size w W):=hbW;have HLW:Hid (Blk W w.heap.size #[.int .i64 snd,.int .i64 topic,.int .i64 value] 118):=by unfold Hid;rw[hW];exact Blk.new w _ 118
 have c0:w.cell? ⟨R.rb,0,none⟩=some (.slice (some ⟨R.m,0,none⟩) n R.mc):=by rw[h.host.cell 0,hn];rfl
 have d0:W.cell? ⟨R.rb,0,none⟩=some (.slice (some ⟨R.m,0,none⟩) n R.mc):=by rw[HHW.out.host.cell 0,hn];rfl
 have hhb:=h.host.lt;have hhn:¬R.rb=w.heap.size:=by omega
 have hw1:IntKind.i64.wrap (snd+1)=snd+1:=by rw[IntKind.wrap_i64];omega
 have hw2:IntKind.u8.wrap (snd+1)=snd+1:=by rw[IntKind.wrap_u8];omega
 have hw3:IntKind.u16.wrap value=value:=by rw[IntKind.wrap_u16];omega
 have hw4:IntKind.u8.wrap topic=topic:=by rw[IntKind.wrap_u8];omega
 rw[←hn] at hl HD;clear h hf hn hok hbW;go_enter Tryz.func51,Tryz.ntmps51;go_wp2_with fail;rw[←hW];go_loopw [4] (fun i wr=>∃k:Nat,k≤n∧i= .int .i64 k∧Hid (RAft W R {H with ts:=upTo f k H.ts} held wr)∧Hid (Blk wr w.heap.size #[.int .i64 snd,.int .i64 topic,.int .i64 value] 118))
  (fun i _=>n-(intOf i).toNat)
 case atStart=>exact⟨0,Nat.zero_le _,rfl,by rw[upTo_zero];exact RAft.refl HHW.out,HLW.out⟩
 case round=>
  obtain⟨k,hk,rfl,HA,HL⟩:=hrel;by_cases hlt:k<n
  ·obtain⟨x,hx⟩:∃x,H.ts[k]? =some x:=⟨H.ts[k]'(by have:=Hn.out;omega),List.getElem?_eq_getElem (by have:=Hn.out;omega)⟩;obtain⟨nv,bv,lv,a1,a2,a3⟩:=HA.out;have hx1:({H with ts:=upTo f k H.ts}:Hs).ts[k]? =some x:=by show(upTo f k H.ts)[k]? =_;rw[upTo_get];exact hx
   have hlen:(upTo f k H.ts).length=n:=by rw[upTo_length];exact Hn.out
   have HX:Hid (H.ts[k]? =some x):=hx;have HRA:Hid (RefAt wr {R with nv:=nv,bv:=bv,lv:=lv} {H with ts:=upTo f k H.ts} held∧({H with ts:=upTo f k H.ts}:Hs).ts[k]? =some x):=⟨a1,hx1⟩;have HA2:Hid (Kept (refOwn R) W wr∧∀k,refOwn {R with nv:=nv,bv:=bv,lv:=lv} k→refOwn R k∨W.heap.size≤k):=⟨a2,a3⟩;have r0:wr.cell? ⟨R.rb,0,none⟩=some (.slice (some ⟨R.m,0,none⟩) n R.mc):=by rw[a1.host.cell 0,←hlen];rfl
   have r3:wr.cell? ⟨R.rb,3,none⟩=some (.slice (some ⟨R.p,0,none⟩) n R.pc):=by rw[a1.host.cell 3,←hlen];rfl
   have m4:wr.cell? ⟨R.m,k*7+4,none⟩=some (.int .u8 x.sub):=a1.mf hx1 4 (by decide);have p0:wr.cell? ⟨R.p,k,none⟩=some (.int .i64 x.phase):=own_cellN a1.rp (by rw[List.getElem?_map,hx1];rfl);have l0:wr.cell? ⟨w.heap.size,0,none⟩=some (.int .i64 snd):=by rw[HL.out.cell 0];rfl
   have l1:wr.cell? ⟨w.heap.size,1,none⟩=some (.int .i64 topic):=by rw[HL.out.cell 1];rfl
   have l2:wr.cell? ⟨w.heap.size,2,none⟩=some (.int .i64 value):=by rw[HL.out.cell 2];rfl
   have hki:(k:Int)<(n:Int):=by omega
   have hk0:(0:Int)≤(k:Int):=by omega
   obtain⟨ok1,ok2,ok3,ok4,ok5⟩:=HOk.out x (List.mem_of_getElem? hx);have HBit:Hid (∀u,Calls Tryz.prog 48 #[.int .u8 x.sub,.int .i64 topic] u fun e w'=>e= .returned (.bool (bitOf x.sub topic))∧u=w'):=fun u=>rhas_any x.sub topic u ok3 ok4 ht0 ht1;have HOx:Hid (x.box.length≤100000∧x.log.length≤100000∧∀e∈x.box,e.ok):=⟨ok1,ok2,ok5⟩;by_cases hks:(k:Int)=snd
   ·have hb':((k:Int)==snd)=true:=by simpa using hks
    have HS:Hid (upTo f (k+1) H.ts=upTo f k H.ts):=upTo_keep f hx (by rw[HF.out,if_pos hks]);obtain⟨on,hon⟩:∃on,on=bitOf x.sub topic:=⟨_,rfl⟩;rw[←hon] at HBit;clear hx hx1 hlen a1 a2 a3 ok5 hon hb';subst hks;go_wp2_with fail;go_quiet ((go_at_call 48;exact(HBit.out _).mono fun _ _ h=>⟨h.1,_,h.2.symm⟩));go_wp2;go_roundw
    case rel=>exact⟨k+1,by omega,by go_num,by rw[HS.out];exact HA.out.drewN _,HL.out⟩
    case measure=>simp[intOf];omega
   ·have hb':((k:Int)==snd)=false:=by simpa using hks
    have HS:Hid (upTo f (k+1) H.ts=(upTo f k H.ts).set k (x.receive H.frames snd topic value)):=by unfold Hid;rw[←upTo_step f hx,HF.out,if_neg hks]
    obtain⟨on,hon⟩:∃on,on=bitOf x.sub topic:=⟨_,rfl⟩;rw[←hon] at HBit;by_cases hgo:x.phase=1∧on=true
    ·obtain⟨hp,rfl⟩:=hgo;have HE:Hid (x.receive H.frames snd topic value=if x.share≤(x.waiting (snd+1):Int) then x.note H.frames 3 topic value else {x with box:=x.box++[⟨2,snd+1,value,topic⟩]}):=by unfold Hid Tn.receive;rw[if_pos ⟨hp,hon.symm⟩]
     rw[hp] at p0;obtain⟨b,hbv⟩:∃v,bv[k]? =some v:=⟨_,List.getElem?_eq_getElem (by have:=a1.blen;simp only at this;omega)⟩;have hbo:=a1.box k x b hx1 hbv;obtain⟨bo,bc,rfl⟩:=own_is hbo;have HBV:Hid (bv[k]? =some (.slice bo x.box.length bc)):=hbv;have r6:wr.cell? ⟨R.rb,6,none⟩=some (.slice (some ⟨R.b,0,none⟩) n R.bc):=by rw[a1.host.cell 6,←hlen];rfl
     have b0:wr.cell? ⟨R.b,k,none⟩=some (.slice bo x.box.length bc):=own_cellN a1.rx hbv;have m5:wr.cell? ⟨R.m,k*7+5,none⟩=some (.int .i64 x.share):=a1.mf hx1 5 (by decide);have HLen:Hid ((upTo f k H.ts).length=n):=hlen;clear hx hx1 hlen a1 a2 a3 ok5 hon hbv hbo hp;go_wp2_with fail;go_quiet ((go_at_call 48;exact(HBit.out _).mono fun _ _ h=>⟨h.1,_,h.2.symm⟩));go_upto_region 6 with fail
     obtain⟨V,hV⟩:∃V,V=wr.drewN nq:=⟨_,rfl⟩;have HBV0:Hid (Below wr.heap.size wr V):=by unfold Hid;rw[hV];exact⟨rfl,rfl,rfl,Nat.le_refl _,fun _ _=>rfl⟩
     rw[←hV];have HCell:Hid (∀u,Below wr.heap.size wr u→u.cell? ⟨R.rb,0,none⟩=some (.slice (some ⟨R.m,0,none⟩) n R.mc)∧u.cell? ⟨R.m,k*7+5,none⟩=some (.int .i64 x.share)∧u.cell? ⟨R.rb,6,none⟩=some (.slice (some ⟨R.b,0,none⟩) n R.bc)∧u.cell? ⟨R.b,k,none⟩=some (.slice bo x.box.length bc)∧u.cell? ⟨w.heap.size,0,none⟩=some (.int .i64 snd)∧u.cell? ⟨w.heap.size,1,none⟩=some (.int .i64 topic)∧u.cell? ⟨w.heap.size,2,none⟩=some (.int .i64 value)):=by intro u hu;have a1:=HRA.out.1.below hu;have hL:=HL.out.below hu HL.out.lt;refine⟨by rw[a1.host.cell 0,←HLen.out];rfl,a1.mf HRA.out.2 5 (by decide),by rw[a1.host.cell 6,←HLen.out];rfl,own_cellN a1.rx HBV.out,by rw[hL.cell 0];rfl,by rw[hL.cell 1];rfl,by rw[hL.cell 2];rfl⟩
     have HCt:Hid (∀u,Below wr.heap.size wr u→Calls Tryz.prog 37 #[.slice bo x.box.length bc,.int .i64 2,.int .i64 (snd+1)] u fun e w'=>e= .returned (.int .i64 (x.waiting (snd+1):Int))∧u=w'):=by intro u hu;have a1:=HRA.out.1.below hu;have q:=count_any 2 (snd+1) (own_box (a1.box k x _ HRA.out.2 HBV.out)) HOx.out.1 HOx.out.2.2;rw[isCnt_msg _ _ (by omega)] at q;exact q
     clear hV r0 r3 m4 p0 l0 l1 l2 r6 b0 m5 HBit;obtain⟨z0,z1,z2,z3,z4,z5,z6⟩:=HCell.out V HBV0.out;go_cut [6] from 45 to 55 (fun c wx=>c= .int .i64 (x.waiting (snd+1):Int)∧Hid (Below wr.heap.size wr wx))
     case first=>
      go_region_with (go_at_call 37;refine(HCt.out _ (by first|exact HBV0.out|exact HBV0.out.drew)).mono ?_;rintro e w1 ⟨rfl,rfl⟩)
      all_goals (try go_wp2_with fail)
      all_goals go_meet
      all_goals exact⟨rfl,by first|exact HBV0.out|exact HBV0.out.drew⟩
     case rest=>
      obtain⟨rfl,HBc⟩:=hcut;obtain⟨y0,y1,y2,y3,y4,y5,y6⟩:=HCell.out wc HBc.out;have HRc:Hid (RefAt wc {R with nv:=nv,bv:=bv,lv:=lv} {H with ts:=upTo f k H.ts} held):=HRA.out.1.below HBc.out;have HLc:Hid (Blk wc w.heap.size #[.int .i64 snd,.int .i64 topic,.int .i64 value] 118):=HL.out.below HBc.out HL.out.lt;have HFin:Hid (∀(x':Tn) (w2:World),x.receive H.frames snd topic value=x'→RAft wc {R with nv:=nv,bv:=bv,lv:=lv} {H with ts:=(upTo f k H.ts).set k x'} held w2→Hid (RAft W R {H with ts:=upTo f (k+1) H.ts} held w2)∧Hid (Blk w2 w.heap.size #[.int .i64 snd,.int .i64 topic,.int .i64 value] 118)):=by intro x' w2 he hr;refine⟨?_,hr.keep_blk HRc.out HLc.out (by decide)⟩;unfold Hid;rw[HS.out,he];exact RAft.trans (H1:=H) (held1:=held) HA2.out.1 HA2.out.2 (RAft.of_below HBc.out hr)
      clear z0 z1 z2 z3 z4 z5 z6 HCell HCt HBV0;by_cases hq:x.share≤(x.waiting (snd+1):Int)
      ·have hd:decide ((x.waiting (snd+1):Int)<x.share)=false:=by simp;omega
       have hd2:¬((x.waiting (snd+1):Int)<x.share):=by omega
       have HE2:Hid (x.receive H.frames snd topic value=x.note H.frames 3 topic value):=by unfold Hid;rw[HE.out,if_pos hq]
       have HTl:Hid (Calls Tryz.prog 60 #[.pointer (some ⟨R.rb,0,none⟩),.int .i64 k,.int .i64 3,.int .i64 topic,.int .i64 value] wc fun e w'=>e= .returned (.tuple #[])∧RAft wc {R with nv:=nv,bv:=bv,lv:=lv} {H with ts:=(upTo f k H.ts).set k (x.note H.frames 3 topic value)} held w'):=tell_any HRc.out HRA.out.2 3 topic value (by omega) (by omega) (by omega) (by omega) (by omega) (by omega) HOx.out.2.1 (by show(upTo f k H.ts).length≤4;rw[HLen.out];exact hl);clear hq;go_wp2_with fail;refine HTl.out.mono ?_;rintro e w2 ⟨rfl,ha⟩;obtain⟨G1,G2⟩:=HFin.out _ _ HE2.out ha;clear ha;go_wp2;go_roundw
       case rel=>exact⟨k+1,by omega,by go_num,G1,G2⟩
       case measure=>simp[intOf];omega
      ·have hd:decide ((x.waiting (snd+1):Int)<x.share)=true:=by simp;omega
       have hd2:(x.waiting (snd+1):Int)<x.share:=by omega
       have HE2:Hid (x.receive H.frames snd topic value={x with box:=x.box++[⟨2,snd+1,value,topic⟩]}):=by unfold Hid;rw[HE.out,if_neg hq]
       obtain⟨i0,hi,hz0,hz1,hz2⟩:=info_parts info58;have hrc:¬R.rb=wc.heap.size:=by have:R.rb<wc.heap.size:=HRc.out.host.lt;omega
       have hlc:¬w.heap.size=wc.heap.size:=by have:=HLc.out.lt;omega
       have r6:∀ob,(wc.alloc ob).cell? ⟨R.rb,6,none⟩=some (.slice (some ⟨R.b,0,none⟩) n R.bc):=fun ob=>by rw[(HRc.out.host.alloc ob).cell 6,←HLen.out];rfl
       have rb:∀ob,(wc.alloc ob).cell? ⟨R.b,k,none⟩=some (.slice bo x.box.length bc):=fun ob=>own_cellN (HRc.out.rx.alloc ob) HBV.out;have HNw:Hid (∀jj u,(Ev.mk 2 (snd+1) value topic).cells[jj]? =some u→((wc.alloc (.cells #[.int .u8 2,.int .u8 (snd+1),.int .u16 value,.int .u8 topic] 78)).drew).cell? ((⟨wc.heap.size,0,none⟩:Addr).add jj)=some u):=new_four wc _ _ _ _ _;have HOd:Hid (((wc.alloc (.cells #[.int .u8 2,.int .u8 (snd+1),.int .u16 value,.int .u8 topic] 78)).drew).ownsRow 0 78 4 (.slice bo x.box.length bc) x.box.length (evCells x.box)):=(HRc.out.box k x _ HRA.out.2 HBV.out).alloc _;have HKEY:Hid (∀v3 w3,w3.ownsRow 0 78 4 v3 (x.box.length+1) (evCells x.box++(Ev.mk 2 (snd+1) value topic).cells)→((wc.alloc (.cells #[.int .u8 2,.int .u8 (snd+1),.int .u16 value,.int .u8 topic] 78)).drew).grownBy w3 (Value.ownBlock (.slice bo x.box.length bc))→(v3.ownBlock=Value.ownBlock (.slice bo x.box.length bc)∨v3.ownBlock=some ((wc.alloc (.cells #[.int .u8 2,.int .u8 (snd+1),.int .u16 value,.int .u8 topic] 78)).drew).heap.size)→∃vo3 vc3,v3= .slice vo3 (x.box.length+1) vc3∧w3.cell? ⟨w.heap.size,0,none⟩=some (.int .i64 snd)∧w3.cell? ⟨w.heap.size,1,none⟩=some (.int .i64 topic)∧w3.cell? ⟨w.heap.size,2,none⟩=some (.int .i64 value)∧w3.cell? ⟨R.rb,6,none⟩=some (.slice (some ⟨R.b,0,none⟩) n R.bc)∧w3.cell? ⟨R.b,k,none⟩=some (.slice bo x.box.length bc)∧w3.frozen? ⟨R.b,k,none⟩=false∧Hid (RAft W R {H with ts:=upTo f (k+1) H.ts} held (w3.setCell ⟨R.b,k,none⟩ (.slice vo3 (x.box.length+1) vc3)))∧Hid (Blk (w3.setCell ⟨R.b,k,none⟩ (.slice vo3 (x.box.length+1) vc3)) w.heap.size #[.int .i64 snd,.int .i64 topic,.int .i64 value] 118)):=by intro v3 w3 ho hg hat;obtain⟨vo3,vc3,rfl⟩:=own_is ho;obtain⟨q1,q2,q3,q4⟩:=HRc.out.more_box HRA.out.2 HBV.out (((Below.refl _ _).alloc (Nat.le_refl _) _).drew) ho hg hat;obtain⟨G1,G2⟩:=HFin.out _ _ HE2.out q4;have qL:=q3 _ _ 118 (by decide) HLc.out;refine⟨vo3,vc3,rfl,by rw[qL.cell 0];rfl,by rw[qL.cell 1];rfl,by rw[qL.cell 2];rfl,?_,q1,q2,G1,G2⟩;rw[(q3 _ _ 52 (by decide) HRc.out.host).cell 6,←HLen.out];rfl
       have hone:Hid (∀u∈(Ev.mk 2 (snd+1) value topic).cells,u.oneCell'=true):=by intro u hu;simp[Ev.cells] at hu;rcases hu with rfl|rfl|rfl|rfl<;>rfl
       have hbl:x.box.length≤100000:=HOx.out.1;clear hq;go_wp2_with fail;have rl:∀ob,(wc.alloc ob).cell? ⟨w.heap.size,0,none⟩=some (.int .i64 snd)∧(wc.alloc ob).cell? ⟨w.heap.size,1,none⟩=some (.int .i64 topic)∧(wc.alloc ob).cell? ⟨w.heap.size,2,none⟩=some (.int .i64 value):=fun ob=>⟨by rw[(HLc.out.alloc ob).cell 0];rfl,by rw[(HLc.out.alloc ob).cell 1];rfl,by rw[(HLc.out.alloc ob).cell 2];rfl⟩;have HSS:Hid (wc.drew.cell? ⟨R.rb,6,none⟩=some (.slice (some ⟨R.b,0,none⟩) n R.bc)∧wc.drew.cell? ⟨R.b,k,none⟩=some (.slice bo x.box.length bc)∧wc.drew.cell? ⟨w.heap.size,0,none⟩=some (.int .i64 snd)∧wc.drew.cell? ⟨w.heap.size,1,none⟩=some (.int .i64 topic)∧wc.drew.cell? ⟨w.heap.size,2,none⟩=some (.int .i64 value)):=⟨y2,y3,y4,y5,y6⟩;refine wp_region_last (S:=fun w'=>w'.cell? ⟨R.rb,6,none⟩=some (.slice (some ⟨R.b,0,none⟩) n R.bc)∧w'.cell? ⟨R.b,k,none⟩=some (.slice bo x.box.length bc)∧w'.cell? ⟨w.heap.size,0,none⟩=some (.int .i64 snd)∧w'.cell? ⟨w.heap.size,1,none⟩=some (.int .i64 topic)∧w'.cell? ⟨w.heap.size,2,none⟩=some (.int .i64 value)) (z:=26) (by kernel_rfl) ?_;refine wpAnyL_take (i:=0) (v:=?_) rfl rfl (by kernel_rfl) (by kernel_rfl) (by kernel_rfl) (by kernel_rfl) (fun _ _ _ h=>h) (Or.inl ⟨by rfl,?_⟩) HSS.out ?_;rotate_left
       ·intro wq hSw;obtain⟨s6,sb,sl0,sl1,sl2⟩:=hSw;simp only[List.getElem_toArray,List.getElem_cons_zero];go_simp;(try with_reducible rfl)
       simp only[Act.put,List.setIfInBounds_toArray,List.set_cons_zero,List.set_cons_succ,List.getElem_toArray,List.getElem_cons_zero];refine wpAnyL_take (i:=1) (v:=?_) rfl rfl (by kernel_rfl) (by kernel_rfl) (by kernel_rfl) (by kernel_rfl) (fun _ _ _ h=>h) (Or.inl ⟨by rfl,?_⟩) HSS.out ?_;rotate_left
       ·intro wq hSw;obtain⟨s6,sb,sl0,sl1,sl2⟩:=hSw;simp only[List.getElem_toArray,List.getElem_cons_zero,List.getElem_cons_succ];go_simp;(try with_reducible rfl)
       simp only[Act.put,List.setIfInBounds_toArray,List.set_cons_zero,List.set_cons_succ,List.getElem_toArray,List.getElem_cons_zero,List.getElem_cons_succ];refine wpAnyL_take (i:=2) (v:=?_) rfl rfl (by kernel_rfl) (by kernel_rfl) (by kernel_rfl) (by kernel_rfl) (fun _ _ _ h=>h) (Or.inl ⟨by rfl,?_⟩) HSS.out ?_;rotate_left
       ·intro wq hSw;obtain⟨s6,sb,sl0,sl1,sl2⟩:=hSw;simp only[List.getElem_toArray,List.getElem_cons_zero,List.getElem_cons_succ];go_simp;(try with_reducible rfl)
       simp only[Act.put,List.setIfInBounds_toArray,List.set_cons_zero,List.set_cons_succ,List.getElem_toArray,List.getElem_cons_zero,List.getElem_cons_succ];refine wpAnyL_take (i:=3) (v:=?_) rfl rfl (by kernel_rfl) (by kernel_rfl) (by kernel_rfl) (by kernel_rfl) (fun _ _ _ h=>h) (Or.inl ⟨by rfl,?_⟩) HSS.out ?_;rotate_left
       ·intro wq hSw;obtain⟨s6,sb,sl0,sl1,sl2⟩:=hSw;simp only[List.getElem_toArray,List.getElem_cons_zero,List.getElem_cons_succ];go_simp;(try with_reducible rfl)
       simp only[Act.put,List.setIfInBounds_toArray,List.set_cons_zero,List.set_cons_succ,List.getElem_toArray,List.getElem_cons_zero,List.getElem_cons_succ];refine wpAnyL_take (i:=4) (v:=?_) rfl rfl (by kernel_rfl) (by kernel_rfl) (by kernel_rfl) (by kernel_rfl) (fun _ _ _ h=>h) (Or.inl ⟨by rfl,?_⟩) HSS.out ?_;rotate_left
       ·intro wq hSw;obtain⟨s6,sb,sl0,sl1,sl2⟩:=hSw;simp only[List.getElem_toArray,List.getElem_cons_zero,List.getElem_cons_succ];go_simp;(try with_reducible rfl)
       simp only[Act.put,List.setIfInBounds_toArray,List.set_cons_zero,List.set_cons_succ,List.getElem_toArray,List.getElem_cons_zero,List.getElem_cons_succ];refine wpAnyL_take (i:=5) (v:=?_) rfl rfl (by kernel_rfl) (by kernel_rfl) (by kernel_rfl) (by kernel_rfl) (fun _ _ _ h=>h) (Or.inl ⟨by rfl,?_⟩) HSS.out ?_;rotate_left
       ·intro wq hSw;obtain⟨s6,sb,sl0,sl1,sl2⟩:=hSw;simp only[List.getElem_toArray,List.getElem_cons_zero,List.getElem_cons_succ];go_simp;(try with_reducible rfl)
       simp only[Act.put,List.setIfInBounds_toArray,List.set_cons_zero,List.set_cons_succ,List.getElem_toArray,List.getElem_cons_zero,List.getElem_cons_succ];refine wpAnyL_take (i:=6) (v:=?_) rfl rfl (by kernel_rfl) (by kernel_rfl) (by kernel_rfl) (by kernel_rfl) (fun _ _ _ h=>h) (Or.inl ⟨by rfl,?_⟩) HSS.out ?_;rotate_left
       ·intro wq hSw;obtain⟨s6,sb,sl0,sl1,sl2⟩:=hSw;simp only[List.getElem_toArray,List.getElem_cons_zero,List.getElem_cons_succ];go_simp;(try with_reducible rfl)
       simp only[Act.put,List.setIfInBounds_toArray,List.set_cons_zero,List.set_cons_succ,List.getElem_toArray,List.getElem_cons_zero,List.getElem_cons_succ];refine wpAnyL_take (i:=7) (v:=?_) rfl rfl (by kernel_rfl) (by kernel_rfl) (by kernel_rfl) (by kernel_rfl) (fun _ _ _ h=>h) (Or.inl ⟨by rfl,?_⟩) HSS.out ?_;rotate_left
       ·intro wq hSw;obtain⟨s6,sb,sl0,sl1,sl2⟩:=hSw;simp only[List.getElem_toArray,List.getElem_cons_zero,List.getElem_cons_succ];go_simp;(try with_reducible rfl)
       simp only[Act.put,List.setIfInBounds_toArray,List.set_cons_zero,List.set_cons_succ,List.getElem_toArray,List.getElem_cons_zero,List.getElem_cons_succ];refine wpAnyL_take (i:=8) (v:=?_) rfl rfl (by kernel_rfl) (by kernel_rfl) (by kernel_rfl) (by kernel_rfl) (fun _ _ _ h=>h) (Or.inl ⟨by rfl,?_⟩) HSS.out ?_;rotate_left
       ·intro wq hSw;obtain⟨s6,sb,sl0,sl1,sl2⟩:=hSw;simp only[List.getElem_toArray,List.getElem_cons_zero,List.getElem_cons_succ];go_simp;(try with_reducible rfl)
       simp only[Act.put,List.setIfInBounds_toArray,List.set_cons_zero,List.set_cons_succ,List.getElem_toArray,List.getElem_cons_zero,List.getElem_cons_succ];refine wpAnyL_take (i:=9) (v:=?_) rfl rfl (by kernel_rfl) (by kernel_rfl) (by kernel_rfl) (by kernel_rfl) (fun _ _ _ h=>h) (Or.inl ⟨by rfl,?_⟩) HSS.out ?_;rotate_left
       ·intro wq hSw;obtain⟨s6,sb,sl0,sl1,sl2⟩:=hSw;simp only[List.getElem_toArray,List.getElem_cons_zero,List.getElem_cons_succ];go_simp;(try with_reducible rfl)
       simp only[Act.put,List.setIfInBounds_toArray,List.set_cons_zero,List.set_cons_succ,List.getElem_toArray,List.getElem_cons_zero,List.getElem_cons_succ];refine wpAnyL_take (i:=10) (v:=?_) rfl rfl (by kernel_rfl) (by kernel_rfl) (by kernel_rfl) (by kernel_rfl) (fun _ _ _ h=>h) (Or.inl ⟨by rfl,?_⟩) HSS.out ?_;rotate_left
       ·intro wq hSw;obtain⟨s6,sb,sl0,sl1,sl2⟩:=hSw;simp only[List.getElem_toArray,List.getElem_cons_zero,List.getElem_cons_succ];go_simp;(try with_reducible rfl)
       simp only[Act.put,List.setIfInBounds_toArray,List.set_cons_zero,List.set_cons_succ,List.getElem_toArray,List.getElem_cons_zero,List.getElem_cons_succ];refine wpAnyL_take (i:=11) (v:=?_) rfl rfl (by kernel_rfl) (by kernel_rfl) (by kernel_rfl) (by kernel_rfl) (fun _ _ _ h=>h) (Or.inl ⟨by rfl,?_⟩) HSS.out ?_;rotate_left
       ·intro wq hSw;obtain⟨s6,sb,sl0,sl1,sl2⟩:=hSw;simp only[List.getElem_toArray,List.getElem_cons_zero,List.getElem_cons_succ];go_simp;(try with_reducible rfl)
       simp only[Act.put,List.setIfInBounds_toArray,List.set_cons_zero,List.set_cons_succ,List.getElem_toArray,List.getElem_cons_zero,List.getElem_cons_succ];refine wpAnyL_take (i:=12) (v:=?_) rfl rfl (by kernel_rfl) (by kernel_rfl) (by kernel_rfl) (by kernel_rfl) (fun _ _ _ h=>h) (Or.inl ⟨by rfl,?_⟩) HSS.out ?_;rotate_left
       ·intro wq hSw;obtain⟨s6,sb,sl0,sl1,sl2⟩:=hSw;simp only[List.getElem_toArray,List.getElem_cons_zero,List.getElem_cons_succ];go_simp;(try with_reducible rfl)
       simp only[Act.put,List.setIfInBounds_toArray,List.set_cons_zero,List.set_cons_succ,List.getElem_toArray,List.getElem_cons_zero,List.getElem_cons_succ];refine wpAnyL_take (i:=13) (v:=?_) rfl rfl (by kernel_rfl) (by kernel_rfl) (by kernel_rfl) (by kernel_rfl) (fun _ _ _ h=>h) (Or.inl ⟨by rfl,?_⟩) HSS.out ?_;rotate_left
       ·intro wq hSw;obtain⟨s6,sb,sl0,sl1,sl2⟩:=hSw;simp only[List.getElem_toArray,List.getElem_cons_zero,List.getElem_cons_succ];go_simp;(try with_reducible rfl)
       simp only[Act.put,List.setIfInBounds_toArray,List.set_cons_zero,List.set_cons_succ,List.getElem_toArray,List.getElem_cons_zero,List.getElem_cons_succ];refine wpAnyL_take (i:=14) (v:=?_) rfl rfl (by kernel_rfl) (by kernel_rfl) (by kernel_rfl) (by kernel_rfl) (fun _ _ _ h=>h) (Or.inl ⟨by rfl,?_⟩) HSS.out ?_;rotate_left
       ·intro wq hSw;obtain⟨s6,sb,sl0,sl1,sl2⟩:=hSw;simp only[List.getElem_toArray,List.getElem_cons_zero,List.getElem_cons_succ];go_simp;(try with_reducible rfl)
       simp only[Act.put,List.setIfInBounds_toArray,List.set_cons_zero,List.set_cons_succ,List.getElem_toArray,List.getElem_cons_zero,List.getElem_cons_succ];refine wpAnyL_take (i:=15) (v:=?_) rfl rfl (by kernel_rfl) (by kernel_rfl) (by kernel_rfl) (by kernel_rfl) (fun _ _ _ h=>h) (Or.inl ⟨by rfl,?_⟩) HSS.out ?_;rotate_left
       ·intro wq hSw;obtain⟨s6,sb,sl0,sl1,sl2⟩:=hSw;simp only[List.getElem_toArray,List.getElem_cons_zero,List.getElem_cons_succ];go_simp;(try with_reducible rfl)
       simp only[Act.put,List.setIfInBounds_toArray,List.set_cons_zero,List.set_cons_succ,List.getElem_toArray,List.getElem_cons_zero,List.getElem_cons_succ];refine wpAnyL_take (i:=16) (v:=?_) rfl rfl (by kernel_rfl) (by kernel_rfl) (by kernel_rfl) (by kernel_rfl) (fun _ _ _ h=>h) (Or.inl ⟨by rfl,?_⟩) HSS.out ?_;rotate_left
       ·intro wq hSw;obtain⟨s6,sb,sl0,sl1,sl2⟩:=hSw;simp only[List.getElem_toArray,List.getElem_cons_zero,List.getElem_cons_succ];go_simp;(try with_reducible rfl)
       simp only[Act.put,List.setIfInBounds_toArray,List.set_cons_zero,List.set_cons_succ,List.getElem_toArray,List.getElem_cons_zero,List.getElem_cons_succ];refine wpAnyL_take (i:=17) (v:=?_) rfl rfl (by kernel_rfl) (by kernel_rfl) (by kernel_rfl) (by kernel_rfl) (fun _ _ _ h=>h) (Or.inl ⟨by rfl,?_⟩) HSS.out ?_;rotate_left
       ·intro wq hSw;obtain⟨s6,sb,sl0,sl1,sl2⟩:=hSw;simp only[List.getElem_toArray,List.getElem_cons_zero,List.getElem_cons_succ];go_simp;(try with_reducible rfl)
       simp only[Act.put,List.setIfInBounds_toArray,List.set_cons_zero,List.set_cons_succ,List.getElem_toArray,List.getElem_cons_zero,List.getElem_cons_succ];refine wpAnyL_take (i:=18) (v:=?_) rfl rfl (by kernel_rfl) (by kernel_rfl) (by kernel_rfl) (by kernel_rfl) (fun _ _ _ h=>h) (Or.inl ⟨by rfl,?_⟩) HSS.out ?_;rotate_left
       ·intro wq hSw;obtain⟨s6,sb,sl0,sl1,sl2⟩:=hSw;simp only[List.getElem_toArray,List.getElem_cons_zero,List.getElem_cons_succ];go_simp;(try with_reducible rfl)
       simp only[Act.put,List.setIfInBounds_toArray,List.set_cons_zero,List.set_cons_succ,List.getElem_toArray,List.getElem_cons_zero,List.getElem_cons_succ];refine wpAnyL_take (i:=19) (v:=?_) rfl rfl (by kernel_rfl) (by kernel_rfl) (by kernel_rfl) (by kernel_rfl) (fun _ _ _ h=>h) (Or.inl ⟨by rfl,?_⟩) HSS.out ?_;rotate_left
       ·intro wq hSw;obtain⟨s6,sb,sl0,sl1,sl2⟩:=hSw;simp only[List.getElem_toArray,List.getElem_cons_zero,List.getElem_cons_succ];go_simp;(try with_reducible rfl)
       simp only[Act.put,List.setIfInBounds_toArray,List.set_cons_zero,List.set_cons_succ,List.getElem_toArray,List.getElem_cons_zero,List.getElem_cons_succ];refine wpAnyL_take (i:=20) (v:=?_) rfl rfl (by kernel_rfl) (by kernel_rfl) (by kernel_rfl) (by kernel_rfl) (fun _ _ _ h=>h) (Or.inl ⟨by rfl,?_⟩) HSS.out ?_;rotate_left
       ·intro wq hSw;obtain⟨s6,sb,sl0,sl1,sl2⟩:=hSw;simp only[List.getElem_toArray,List.getElem_cons_zero,List.getElem_cons_succ];go_simp;(try with_reducible rfl)
       simp only[Act.put,List.setIfInBounds_toArray,List.set_cons_zero,List.set_cons_succ,List.getElem_toArray,List.getElem_cons_zero,List.getElem_cons_succ];refine wpAnyL_take (i:=21) (v:=?_) rfl rfl (by kernel_rfl) (by kernel_rfl) (by kernel_rfl) (by kernel_rfl) (fun _ _ _ h=>h) (Or.inl ⟨by rfl,?_⟩) HSS.out ?_;rotate_left
       ·intro wq hSw;obtain⟨s6,sb,sl0,sl1,sl2⟩:=hSw;simp only[List.getElem_toArray,List.getElem_cons_zero,List.getElem_cons_succ];go_simp;(try with_reducible rfl)
       simp only[Act.put,List.setIfInBounds_toArray,List.set_cons_zero,List.set_cons_succ,List.getElem_toArray,List.getElem_cons_zero,List.getElem_cons_succ];refine wpAnyL_take (i:=22) (v:=?_) rfl rfl (by kernel_rfl) (by kernel_rfl) (by kernel_rfl) (by kernel_rfl) (fun _ _ _ h=>h) (Or.inl ⟨by rfl,?_⟩) HSS.out ?_;rotate_left
       ·intro wq hSw;obtain⟨s6,sb,sl0,sl1,sl2⟩:=hSw;simp only[List.getElem_toArray,List.getElem_cons_zero,List.getElem_cons_succ];go_simp;(try with_reducible rfl)
       simp only[Act.put,List.setIfInBounds_toArray,List.set_cons_zero,List.set_cons_succ,List.getElem_toArray,List.getElem_cons_zero,List.getElem_cons_succ];refine wpAnyL_all (rs:=[23]) (by kernel_rfl) (by simp) ?_;intro i hix;obtain rfl:=List.mem_singleton.1 hix;refine wpOp_step rfl (fun K' hK=>?_);clear hix;simp only[List.getElem_toArray,List.getElem_cons_zero,List.getElem_cons_succ];rw[if_pos (by rfl)];unfold Oper.wp;go_simp;refine hK _ _ ⟨fun _=>⟨r6 _,rb _,(rl _).1,(rl _).2.1,(rl _).2.2⟩,?_⟩;clear hK;refine wpAnyL_all (rs:=[24]) (by kernel_rfl) (by simp) ?_;intro i hix;obtain rfl:=List.mem_singleton.1 hix;refine wpOp_step (o:={dst:=some 90,op:=Op.call {callee:=Callee.builtin Builtin.append,args:=#[Operand.tmp 77,Operand.tmp 89],argTypes:=#[29,29]},type:=29,pos:=_,after:=#[{on:=11,ground:=Ground.data},{on:=23,ground:=Ground.data}],guard:=none}) rfl (fun K' hK=>?_);clear hix;refine step_append_at (by rfl) (.tmp 77) (.tmp 89) 29 (by rfl) 0 78 i0 (.agg #[.int .u8 0,.int .u8 0,.int .u16 0,.int .u8 0]) 4 6 Tryz.underlying29 hi hz0 hz1 hz2 rfl (by decide) (.slice bo x.box.length bc) x.box.length (evCells x.box) (by simp[Act.eval]) HOd.out ⟨wc.heap.size,0,none⟩ 1 1 (Ev.mk 2 (snd+1) value topic).cells (by simp[Act.eval]) rfl HNw.out hone.out (by unfold maxLen;omega) (by omega) (by simp) ?_;intro v3 w3 ho3 hg3 ha3;obtain⟨vo3,vc3,hv3,ql0,ql1,ql2,q6,qb,p1,G1,G2⟩:=HKEY.out v3 w3 ho3 hg3 ha3;rw[hv3];clear ho3 hg3 ha3 hv3;refine hK _ _ ⟨fun _=>⟨q6,qb,ql0,ql1,ql2⟩,?_⟩;clear hK;simp only[Act.put,List.setIfInBounds_toArray,List.set_cons_zero,List.set_cons_succ];refine wpAnyL_all (rs:=[25]) (by kernel_rfl) (by simp) ?_;intro i hix;obtain rfl:=List.mem_singleton.1 hix;refine wpOp_step rfl (fun K' hK=>?_);clear hix;simp only[List.getElem_toArray,List.getElem_cons_zero,List.getElem_cons_succ];rw[if_pos (by rfl)];unfold Oper.wp;go_simp;refine hK _ _ ⟨fun _=>⟨q6,qb,ql0,ql1,ql2⟩,?_⟩;clear hK;refine wpAnyL_all (rs:=[26]) (by kernel_rfl) (by simp) ?_;intro i hix;obtain rfl:=List.mem_singleton.1 hix;refine wpOp_step rfl (fun K' hK=>?_);clear hix;simp only[List.getElem_toArray,List.getElem_cons_zero,List.getElem_cons_succ];rw[if_pos (by rfl)];unfold Oper.wp;go_simp;refine hK _ _ ⟨fun q=>absurd rfl q,?_⟩;clear hK;refine wpAnyL_done (by kernel_rfl) ?_ _;go_wp2;go_roundw
       case rel=>exact⟨k+1,by omega,by go_num,G1,G2⟩
       case measure=>simp[intOf];omega
    ·have HE:Hid (x.receive H.frames snd topic value=x):=by unfold Hid Tn.receive;rw[if_neg (fun q=>hgo ⟨q.1,by rw[hon];exact q.2⟩)]
     have HS2:Hid (upTo f (k+1) H.ts=upTo f k H.ts):=by unfold Hid;rw[HS.out,HE.out];exact set_self2 hx1
     have hpb:on=true→(x.phase !=1)=true:=fun e=>by simpa using fun q=>hgo ⟨q,e⟩
     cases on with
     |false=>
      clear hx hx1 hlen a1 a2 a3 ok5 hon hgo hpb;go_wp2_with fail;go_quiet ((go_at_call 48;exact(HBit.out _).mono fun _ _ h=>⟨h.1,_,h.2.symm⟩));go_wp2;go_roundw
      case rel=>exact⟨k+1,by omega,by go_num,by rw[HS2.out];exact HA.out.drewN _,HL.out⟩
      case measure=>simp[intOf];omega
     |true=>
      have hpb2:=hpb rfl;clear hx hx1 hlen a1 a2 a3 ok5 hon hgo hpb;go_wp2_with fail;go_quiet ((go_at_call 48;exact(HBit.out _).mono fun _ _ h=>⟨h.1,_,h.2.symm⟩));go_wp2;go_roundw
      case rel=>exact⟨k+1,by omega,by go_num,by rw[HS2.out];exact HA.out.drewN _,HL.out⟩
      case measure=>simp[intOf];omega
  ·have hkn:k=n:=by omega
   subst hkn;have hki:¬(k:Int)<(k:Int):=by omega
   obtain⟨nv,bv,lv,a1,a2,a3⟩:=HA.out;have hlen:(upTo f k H.ts).length=k:=by rw[upTo_length];exact Hn.out
   have r0:wr.cell? ⟨R.rb,0,none⟩=some (.slice (some ⟨R.m,0,none⟩) k R.mc):=by rw[a1.host.cell 0];show some (Value.slice (some ⟨R.m,0,none⟩) (upTo f k H.ts).length R.mc)=_;rw[hlen]
   clear a1 a2 a3 hlen;go_wp2;go_end0;refine⟨rfl,?_⟩;rw[HD.out];exact RAft.of_below HKW.out HA.out
end
end Go.Proofs.YtidaflmmldefcaaGreat
