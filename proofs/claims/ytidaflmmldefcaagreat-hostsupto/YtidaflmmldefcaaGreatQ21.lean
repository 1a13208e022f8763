/- Parts of the proof of Hosts: Arr8, FrA, FrB, FrC, NewB. -/
import Derived.Test.YtidaflmmldefcaaGreatQ10
import Derived.ChangeKeysEq
import Derived.Test.YtidaflmmldefcaaGreatQ15
set_option maxHeartbeats 16000000
namespace Go.Proofs.YtidaflmmldefcaaGreat
open Go.RowKit
set_option linter.unusedVariables false
theorem part33 (k0 k1 k2 k3 k4 k5 k6 k7:Int) (w:World) (i:Nat) (k:Int) (h:[k0,k1,k2,k3,k4,k5,k6,k7][i]? =some k):(part 74 #[.int .u16 k0,.int .u16 k1,.int .u16 k2,.int .u16 k3,.int .u16 k4,.int .u16 k5,.int .u16 k6,.int .u16 k7] (i*Tryz.prog.cellsOf 74)).run Tryz.prog w= .ok (.int .u16 k) w:=by
 have hi:i<8:=by have:=(List.getElem?_eq_some_iff.1 h).1;simpa using this
 have p0:(part 74 #[.int .u16 k0,.int .u16 k1,.int .u16 k2,.int .u16 k3,.int .u16 k4,.int .u16 k5,.int .u16 k6,.int .u16 k7] (0*Tryz.prog.cellsOf 74)).run Tryz.prog w= .ok (.int .u16 k0) w:=by kernel_rfl
 have p1:(part 74 #[.int .u16 k0,.int .u16 k1,.int .u16 k2,.int .u16 k3,.int .u16 k4,.int .u16 k5,.int .u16 k6,.int .u16 k7] (1*Tryz.prog.cellsOf 74)).run Tryz.prog w= .ok (.int .u16 k1) w:=by kernel_rfl
 have p2:(part 74 #[.int .u16 k0,.int .u16 k1,.int .u16 k2,.int .u16 k3,.int .u16 k4,.int .u16 k5,.int .u16 k6,.int .u16 k7] (2*Tryz.prog.cellsOf 74)).run Tryz.prog w= .ok (.int .u16 k2) w:=by kernel_rfl
 have p3:(part 74 #[.int .u16 k0,.int .u16 k1,.int .u16 k2,.int .u16 k3,.int .u16 k4,.int .u16 k5,.int .u16 k6,.int .u16 k7] (3*Tryz.prog.cellsOf 74)).run Tryz.prog w= .ok (.int .u16 k3) w:=by kernel_rfl
 have p4:(part 74 #[.int .u16 k0,.int .u16 k1,.int .u16 k2,.int .u16 k3,.int .u16 k4,.int .u16 k5,.int .u16 k6,.int .u16 k7] (4*Tryz.prog.cellsOf 74)).run Tryz.prog w= .ok (.int .u16 k4) w:=by kernel_rfl
 have p5:(part 74 #[.int .u16 k0,.int .u16 k1,.int .u16 k2,.int .u16 k3,.int .u16 k4,.int .u16 k5,.int .u16 k6,.int .u16 k7] (5*Tryz.prog.cellsOf 74)).run Tryz.prog w= .ok (.int .u16 k5) w:=by kernel_rfl
 have p6:(part 74 #[.int .u16 k0,.int .u16 k1,.int .u16 k2,.int .u16 k3,.int .u16 k4,.int .u16 k5,.int .u16 k6,.int .u16 k7] (6*Tryz.prog.cellsOf 74)).run Tryz.prog w= .ok (.int .u16 k6) w:=by kernel_rfl
 have p7:(part 74 #[.int .u16 k0,.int .u16 k1,.int .u16 k2,.int .u16 k3,.int .u16 k4,.int .u16 k5,.int .u16 k6,.int .u16 k7] (7*Tryz.prog.cellsOf 74)).run Tryz.prog w= .ok (.int .u16 k7) w:=by kernel_rfl
 rcases(show i=0∨i=1∨i=2∨i=3∨i=4∨i=5∨i=6∨i=7 by omega) with rfl|rfl|rfl|rfl|rfl|rfl|rfl|rfl
 ·obtain rfl:k0=k:=by simpa using h
  exact p0
 ·obtain rfl:k1=k:=by simpa using h
  exact p1
 ·obtain rfl:k2=k:=by simpa using h
  exact p2
 ·obtain rfl:k3=k:=by simpa using h
  exact p3
 ·obtain rfl:k4=k:=by simpa using h
  exact p4
 ·obtain rfl:k5=k:=by simpa using h
  exact p5
 ·obtain rfl:k6=k:=by simpa using h
  exact p6
 ·obtain rfl:k7=k:=by simpa using h
  exact p7
theorem items33 (k0 k1 k2 k3 k4 k5 k6 k7:Int) (w:World) (d:Nat):∀is:List Nat,(∀i∈is,i<8)→(Op.eqItems (d+1) 74 (Tryz.prog.cellsOf 74) #[.int .u16 k0,.int .u16 k1,.int .u16 k2,.int .u16 k3,.int .u16 k4,.int .u16 k5,.int .u16 k6,.int .u16 k7] #[.int .u16 k0,.int .u16 k1,.int .u16 k2,.int .u16 k3,.int .u16 k4,.int .u16 k5,.int .u16 k6,.int .u16 k7] is).run Tryz.prog w= .ok true w
 |[],_=>by simp[Op.eqItems]
 |i::is,h=>by
  have hi:=h i (by simp);obtain⟨k,hk⟩:∃k,[k0,k1,k2,k3,k4,k5,k6,k7][i]? =some k:=⟨_,List.getElem?_eq_getElem (by simpa using hi)⟩;have ih:=items33 k0 k1 k2 k3 k4 k5 k6 k7 w d is (fun j hj=>h j (by simp[hj]));simp only[Op.eqItems,Sem.run_bind,part33 k0 k1 k2 k3 k4 k5 k6 k7 w i k hk,Result.andThen_ok,run_equalIn_int w d 74 .u16 .u16 k k Tryz.underlying74];simpa using ih
theorem arr8_eq (k0 k1 k2 k3 k4 k5 k6 k7:Int) (w:World):(Op.equalIn 10000 82 (.agg #[.int .u16 k0,.int .u16 k1,.int .u16 k2,.int .u16 k3,.int .u16 k4,.int .u16 k5,.int .u16 k6,.int .u16 k7]) (.agg #[.int .u16 k0,.int .u16 k1,.int .u16 k2,.int .u16 k3,.int .u16 k4,.int .u16 k5,.int .u16 k6,.int .u16 k7])).run Tryz.prog w= .ok true w:=by
 obtain⟨i,hi⟩:∃i,Tryz.prog.info? 74=some i:=Option.isSome_iff_exists.1 (by kernel_rfl);rw[run_equalIn_array w 9999 _ _ Tryz.underlying82 hi];exact items33 k0 k1 k2 k3 k4 k5 k6 k7 w 9998 _ (fun i hi=>by simpa using hi)
def DrsK (S:Nat→Prop) (w:World) (dao:Option Addr) (dl:List (List Int)):Prop:=∀i ds,dl[i]? =some ds→∃g off eo ec,dao=some ⟨g,off,none⟩∧∀u,Kept S w u→u.cell? ⟨g,off+i,none⟩=some (.slice eo ds.length ec)∧DrawsAt u eo ds.length ds u.heap.size
theorem DrsK.step {S S1:Nat→Prop} {w w1:World} {dao:Option Addr} {dl:List (List Int)} (h:DrsK S w dao dl) (hk:Kept S w w1) (hs:∀k,S1 k→S k∨w.heap.size≤k):DrsK S1 w1 dao dl:=by
 intro i ds hd;obtain⟨g,off,eo,ec,e,hu⟩:=h i ds hd;refine⟨g,off,eo,ec,e,fun u hu1=>hu u (hk.trans hu1 ?_)⟩;intro k hk' q;rcases hs k q with e|e
 ·exact e
 ·omega
theorem DrsK.nil (S:Nat→Prop) (w:World) (dao:Option Addr):DrsK S w dao []:=by intro i ds h;simp at h
theorem DrawsAt.none (w:World) (b:Nat):DrawsAt w none 0 [] b:=⟨rfl,Nat.zero_le _,⟨0,0,fun h=>absurd h (by decide),fun i x h=>by simp at h⟩,fun v hv=>by simp at hv⟩
section
variable {w w' : World} {hb tb cap : Nat} {H : Hs} {vs : List Vs}
theorem HostAt.tb_lt (h:HostAt w hb tb cap H vs) {i:Nat} {x:Tn} (hx:H.ts[i]? =some x):tb<w.heap.size:=by
 obtain⟨v,_,ht⟩:=h.at hx;exact ht.slot.lt
theorem runTenant_any (h:HostAt w hb tb cap H vs) (t:Nat) {x:Tn} (hx:H.ts[t]? =some x) (hl:H.ts.length≤100000) (hok:x.ok) (hn0:0≤H.frames) (hn1:H.frames≤1000000) (hr0:0≤H.route) (hr1:H.route≤255) (dao:Option Addr) (dcap:Nat) (dl:List (List Int)) (hdl:dl.length≤maxLen) (hd:DrsK (ownOf hb tb vs) w dao dl): Calls Tryz.prog 46 #[.pointer (some ⟨hb,0,none⟩),.int .i64 t,.slice dao dl.length dcap] w fun e w'=>∃gv,e= .returned gv∧HAft w hb tb cap vs {H with ts:=H.ts.set t (x.turn H.frames H.route (drawsOf dl t))} w'∧w'.ownsRow w.heap.size 108 2 gv (x.gives H.frames H.route (drawsOf dl t)).length (sendCells (x.gives H.frames H.route (drawsOf dl t))):=by
 have HH:Hid (HostAt w hb tb cap H vs):=h;have c0:w.cell? ⟨hb,0,none⟩=some (.int .u8 H.route):=by rw[h.host.cell 0];rfl
 have c1:w.cell? ⟨hb,1,none⟩=some (.int .i64 H.frames):=by rw[h.host.cell 1];rfl
 have c2:w.cell? ⟨hb,2,none⟩=some (.slice (some ⟨tb,0,none⟩) H.ts.length cap):=by rw[h.host.cell 2];rfl
 obtain⟨v,hv,ht⟩:=h.at hx;have c7:=ht.slot.cell 7 rfl;have hi:=(List.getElem?_eq_some_iff.1 hx).1;have hti:(t:Int)<(H.ts.length:Int):=by omega
 have ht0:(0:Int)≤(t:Int):=by omega
 have HV:Hid (H.ts[t]? =some x∧vs[t]? =some v):=⟨hx,hv⟩;have hmem:v∈vs:=List.mem_of_getElem? hv;have hsub:∀k,(k=tb∨some k=v.2.1.ownBlock∨some k=v.2.2.ownBlock)→ownOf hb tb vs k:=by
  intro k q;rcases q with q|q|q
  ·exact Or.inr (Or.inl q)
  ·exact Or.inr (Or.inr ⟨v,hmem,Or.inl q⟩)
  ·exact Or.inr (Or.inr ⟨v,hmem,Or.inr (Or.inl q)⟩)
 by_cases hp:x.phase=1
 ·have HE:Hid (x.turn H.frames H.route (drawsOf dl t)=x.handle H.frames H.route (drawsOf dl t)∧x.gives H.frames H.route (drawsOf dl t)=x.sent H.frames H.route (drawsOf dl t)):=by unfold Hid Tn.turn Tn.gives;rw[if_pos hp,if_pos hp];exact⟨rfl,rfl⟩
  rw[hp] at c7;have key:∀(eo:Option Addr) (ec:Nat) (en:Nat) (ds:List Int),ds=drawsOf dl t→(∀u,Kept (ownOf hb tb vs) w u→DrawsAt u eo en ds u.heap.size)→Hid (∀u,Below w.heap.size w u→Calls Tryz.prog 55 #[.pointer (some ⟨tb,t*21,none⟩),.int .i64 H.frames,.int .u8 H.route,.slice eo en ec] u fun e w'=>∃gv,e= .returned gv∧HAft w hb tb cap vs {H with ts:=H.ts.set t (x.handle H.frames H.route (drawsOf dl t))} w'∧w'.ownsRow w.heap.size 108 2 gv (x.sent H.frames H.route (drawsOf dl t)).length (sendCells (x.sent H.frames H.route (drawsOf dl t)))):=by intro eo ec en ds hds hdr u hu;subst hds;have htu:=ht.below hu;have hku:Kept (ownOf hb tb vs) w u:=Kept.of_below hu;have hho:=h.below hu ht.slot.lt;refine(handle_any htu hok H.frames H.route hn0 hn1 hr0 hr1 eo en ec (drawsOf dl t) (fun u2 hu2=>hdr u2 (hku.trans (hu2.weaken hsub) (fun _ _ q=>q)))).mono ?_;rintro e w2 ⟨gv,rfl,⟨nv',bv',lv',a1,a2,a3,a4⟩,ho⟩;obtain⟨q1,q2,q3⟩:=hho.upd hx hv a1 a2 a3 a4;refine⟨gv,rfl,HAft.trans hku (fun k q=>Or.inl q) ⟨_,q1,q2,q3⟩,own_weak ho hu.size⟩
  by_cases hlt:t<dl.length
  ·obtain⟨ds,hds⟩:∃ds,dl[t]? =some ds:=⟨dl[t],List.getElem?_eq_getElem hlt⟩;obtain⟨g,off,eo,ec,rfl,hu⟩:=hd t ds hds;have cd:=(hu w (Kept.refl _ _)).1;have HK:=key eo ec ds.length ds (by unfold drawsOf;rw[List.getD_eq_getElem?_getD,hds];rfl) (fun u q=>(hu u q).2);have hdi:(t:Int)<(dl.length:Int):=by omega
   clear h hx hv ht hd hu key hds hsub hmem hp hok;go_enter Tryz.func46,Tryz.ntmps46;go_upto_region 6 with fail
   go_region_with (go_at_call 55;refine(HK.out _ (by first|exact Below.refl _ _|exact(Below.refl _ _).drew)).mono ?_;rintro e w2 ⟨gv,rfl,ha,ho⟩;have HA:Hid (HAft w hb tb cap vs {H with ts:=H.ts.set t (x.handle H.frames H.route (drawsOf dl t))} w2):=ha;have HO:Hid (w2.ownsRow w.heap.size 108 2 gv (x.sent H.frames H.route (drawsOf dl t)).length (sendCells (x.sent H.frames H.route (drawsOf dl t)))):=ho;obtain⟨vo,vc,rfl⟩:=own_is ho;clear ha ho)
   all_goals go_wp2
   all_goals go_ret
   all_goals exact⟨_,rfl,by rw[HE.out.1];exact HA.out,by rw[HE.out.2];exact HO.out⟩
  ·have HK:=key none 0 0 [] (by unfold drawsOf;rw[List.getD_eq_getElem?_getD,List.getElem?_eq_none (by omega)];rfl) (fun u q=>DrawsAt.none _ _);have hdi:¬(t:Int)<(dl.length:Int):=by omega
   clear h hx hv ht hd key hsub hmem hp hok;go_enter Tryz.func46,Tryz.ntmps46;go_upto_region 6 with fail
   go_region_with (go_at_call 55;refine(HK.out _ (by first|exact Below.refl _ _|exact(Below.refl _ _).drew)).mono ?_;rintro e w2 ⟨gv,rfl,ha,ho⟩;have HA:Hid (HAft w hb tb cap vs {H with ts:=H.ts.set t (x.handle H.frames H.route (drawsOf dl t))} w2):=ha;have HO:Hid (w2.ownsRow w.heap.size 108 2 gv (x.sent H.frames H.route (drawsOf dl t)).length (sendCells (x.sent H.frames H.route (drawsOf dl t)))):=ho;obtain⟨vo,vc,rfl⟩:=own_is ho;clear ha ho)
   all_goals go_wp2
   all_goals go_ret
   all_goals exact⟨_,rfl,by rw[HE.out.1];exact HA.out,by rw[HE.out.2];exact HO.out⟩
 ·have hpb:(x.phase !=1)=true:=by simpa using hp
  have HE:Hid (x.turn H.frames H.route (drawsOf dl t)=x∧x.gives H.frames H.route (drawsOf dl t)=[]):=by unfold Hid Tn.turn Tn.gives;rw[if_neg hp,if_neg hp];exact⟨rfl,rfl⟩
  have HS:Hid (H.ts.set t x=H.ts):=by
   unfold Hid;apply List.ext_getElem?;intro i;by_cases hit:i=t
   ·subst hit;rw[List.getElem?_set_self hi,hx]
   ·rw[List.getElem?_set_ne (fun e=>hit e.symm)]
  clear h hx hv ht hd hsub hmem hp hok;go_enter Tryz.func46,Tryz.ntmps46;go_wp2;go_ret;refine⟨_,rfl,?_,?_⟩
  ·rw[HE.out.1,HS.out];exact HAft.refl HH.out
  ·rw[HE.out.2];exact World.ownsRow_nil _ _ _ _
theorem HostAt.own_ty (h:HostAt w hb tb cap H vs) (hne:H.ts≠[]) {k:Nat} (hk:ownOf hb tb vs k):∃cs t,Blk w k cs t∧(t=86∨t=88∨t=78∨t=80∨t=76):=by
 rcases hk with rfl|rfl|⟨v,hv,q⟩
 ·exact⟨_,_,h.host,Or.inl rfl⟩
 ·cases hts:H.ts with
  |nil=>exact absurd hts hne
  |cons x r=>obtain⟨v,_,ht⟩:=h.at (i:=0) (x:=x) (by rw[hts];rfl);obtain⟨cur,q,_⟩:=ht.slot;exact⟨_,_,q,Or.inr (Or.inl rfl)⟩
 ·obtain⟨i,hi⟩:=List.mem_iff_getElem?.1 hv;have hl:=(List.getElem?_eq_some_iff.1 hi).1;have ht:=h.ten i _ v (List.getElem?_eq_getElem (by rw[←h.len];exact hl)) hi;rcases q with q|q|q
  ·obtain⟨cur,q2⟩:=ht.box.blk q.symm;exact⟨_,_,q2,Or.inr (Or.inr (Or.inl rfl))⟩
  ·obtain⟨cur,q2⟩:=own_blk ht.log q.symm;exact⟨_,_,q2,Or.inr (Or.inr (Or.inr (Or.inl rfl)))⟩
  ·obtain⟨cur,q2⟩:=own_blk ht.nodes q.symm;exact⟨_,_,q2,Or.inr (Or.inr (Or.inr (Or.inr rfl)))⟩
theorem HostAt.kept_blk (h:HostAt w hb tb cap H vs) (hne:H.ts≠[]) (hk:Kept (ownOf hb tb vs) w w') {b:Nat} {cs:Array Value} {t:TypeId} (hbk:Blk w b cs t) (h1:t≠86) (h2:t≠88) (h3:t≠78) (h4:t≠80) (h5:t≠76):Blk w' b cs t:=by
 refine hbk.of_block (hk.block _ hbk.lt fun q=>?_);obtain⟨c2,t2,q2,q3⟩:=h.own_ty hne q;rcases q3 with rfl|rfl|rfl|rfl|rfl
 ·exact hbk.ne q2 h1 rfl
 ·exact hbk.ne q2 h2 rfl
 ·exact hbk.ne q2 h3 rfl
 ·exact hbk.ne q2 h4 rfl
 ·exact hbk.ne q2 h5 rfl
theorem HostAt.kept_own (h:HostAt w hb tb cap H vs) (hne:H.ts≠[]) (hk:Kept (ownOf hb tb vs) w w') {base:Nat} {t:TypeId} {size:Nat} {v:Value} {n:Nat} {xs:List Value} (ho:w.ownsRow base t size v n xs) (h1:t≠86) (h2:t≠88) (h3:t≠78) (h4:t≠80) (h5:t≠76):w'.ownsRow base t size v n xs:=by
 refine own_block ho fun k hk'=>?_;obtain⟨cur,q⟩:=own_blk ho hk';have q':=h.kept_blk hne hk q h1 h2 h3 h4 h5;unfold Blk at q q';rw[q,q']
end
section
variable {w w' : World} {hb tb cap : Nat} {H : Hs} {vs : List Vs}
theorem HAft.then {w1:World} {H1:Hs} (h:HAft w hb tb cap vs H w1) (k:∀vs1,HostAt w1 hb tb cap H vs1→HAft w1 hb tb cap vs1 H1 w'):HAft w hb tb cap vs H1 w':=by
 obtain⟨vs1,a1,a2,a3⟩:=h;exact HAft.trans a2 a3 (k vs1 a1)
theorem deliver_any (h:HostAt w hb tb cap H vs) (hne:H.ts≠[]) (L:Lt) (hs0:0≤L.1) (hs1:L.1≤200) (ht0:0≤L.2.1) (ht1:L.2.1≤255) (hl:H.ts.length≤100000) (hok:∀x∈H.ts,x.box.length≤100000∧x.log.length≤100000∧0≤x.sub∧x.sub≤255): Calls Tryz.prog 47 #[.pointer (some ⟨hb,0,none⟩),.agg #[.int .i64 L.1,.int .u8 L.2.1,.int .u16 L.2.2]] w fun e w'=>e= .returned (.tuple #[])∧HAft w hb tb cap vs {H with ts:=deliver H.frames H.ts L} w':=by
 obtain⟨snd,topic,value⟩:=L;simp only at hs0 hs1 ht0 ht1 ⊢;obtain⟨f,hf⟩:∃f:Nat→Tn→Tn,f=fun i x=>x.get i H.frames (snd,topic,value):=⟨_,rfl⟩;have HD:Hid (deliver H.frames H.ts (snd,topic,value)=upTo f H.ts.length H.ts):=by unfold Hid;rw[upTo_all,hf];rfl
 have HF:Hid (∀i x,f i x=if (i:Int)=snd then x else x.receive H.frames snd topic value):=by intro i x;rw[hf];rfl
 have HOk:Hid (∀x∈H.ts,x.box.length≤100000∧x.log.length≤100000∧0≤x.sub∧x.sub≤255):=hok;obtain⟨n,hn⟩:∃n,n=H.ts.length:=⟨_,rfl⟩;have Hn:Hid (H.ts.length=n):=hn.symm;obtain⟨W,hW⟩:∃W,W=w.alloc (.cells #[.int .i64 snd,.int .u8 topic,.int .u16 value] 110):=⟨_,rfl⟩;have htb:tb<w.heap.size:=by
  cases hts:H.ts with
  |nil=>exact absurd hts hne
  |cons x r=>exact h.tb_lt (i:=0) (x:=x) (by rw[hts];rfl)
 have hbW:Below w.heap.size w W:=by rw[hW];exact(Below.refl _ _).alloc (Nat.le_refl _) _
 have HHW:Hid (HostAt W hb tb cap H vs):=h.below hbW htb;have HKW:Hid (Kept (ownOf hb tb vs) w W):=Kept.of_below hbW;have HLW:Hid (Blk W w.heap.size #[.int .i64 snd,.int .u8 topic,.int .u16 value] 110):=by unfold Hid;rw[hW];exact Blk.new w _ 110
 have HNe:Hid (H.ts≠[]):=hne;have c2:w.cell? ⟨hb,2,none⟩=some (.slice (some ⟨tb,0,none⟩) n cap):=by rw[h.host.cell 2,hn];rfl
 have d2:W.cell? ⟨hb,2,none⟩=some (.slice (some ⟨tb,0,none⟩) n cap):=by rw[HHW.out.host.cell 2,hn];rfl
 have hhb:=h.host.lt;have hhn:¬hb=w.heap.size:=by omega
 rw[←hn] at hl HD;clear h hf hn hok hne hbW;go_enter Tryz.func47,Tryz.ntmps47;go_wp2_with fail;rw[←hW];go_loopw [10] (fun i wr=>∃k:Nat,k≤n∧i= .int .i64 k∧Hid (HAft W hb tb cap vs {H with ts:=upTo f k H.ts} wr)∧Hid (Blk wr w.heap.size #[.int .i64 snd,.int .u8 topic,.int .u16 value] 110))
  (fun i _=>n-(intOf i).toNat)
 case atStart=>exact⟨0,Nat.zero_le _,rfl,by rw[upTo_zero];exact HAft.refl HHW.out,HLW.out⟩
 case round=>
  obtain⟨k,hk,rfl,HA,HL⟩:=hrel;by_cases hlt:k<n
  ·obtain⟨x,hx⟩:∃x,H.ts[k]? =some x:=⟨H.ts[k]'(by have:=Hn.out;omega),List.getElem?_eq_getElem (by have:=Hn.out;omega)⟩;obtain⟨vs1,a1,a2,a3⟩:=HA.out;have hx1:({H with ts:=upTo f k H.ts}:Hs).ts[k]? =some x:=by show(upTo f k H.ts)[k]? =_;rw[upTo_get];exact hx
   obtain⟨v,hv,ht⟩:=a1.at hx1;have hlen:(upTo f k H.ts).length=n:=by rw[upTo_length];exact Hn.out
   have r2:wr.cell? ⟨hb,2,none⟩=some (.slice (some ⟨tb,0,none⟩) n cap):=by rw[a1.host.cell 2,←hlen];rfl
   have r1:wr.cell? ⟨hb,1,none⟩=some (.int .i64 H.frames):=by rw[a1.host.cell 1];rfl
   have l0:wr.cell? ⟨w.heap.size,0,none⟩=some (.int .i64 snd):=by rw[HL.out.cell 0];rfl
   have l1:wr.cell? ⟨w.heap.size,1,none⟩=some (.int .u8 topic):=by rw[HL.out.cell 1];rfl
   have l2:wr.cell? ⟨w.heap.size,2,none⟩=some (.int .u16 value):=by rw[HL.out.cell 2];rfl
   have hki:(k:Int)<(n:Int):=by omega
   have hk0:(0:Int)≤(k:Int):=by omega
   by_cases hks:(k:Int)=snd
   ·have hb':((k:Int) !=snd)=false:=by simpa using hks
    have HS:Hid (upTo f (k+1) H.ts=upTo f k H.ts):=upTo_keep f hx (by rw[HF.out,if_pos hks]);clear hx hx1 hv ht hlen a1 a2 a3;go_wp2;go_roundw
    case rel=>exact⟨k+1,by omega,by go_num,by rw[HS.out];exact HA.out,HL.out⟩
    case measure=>simp[intOf];omega
   ·have hb':((k:Int) !=snd)=true:=by simpa using hks
    have HS:Hid (upTo f (k+1) H.ts=(upTo f k H.ts).set k (x.receive H.frames snd topic value)):=by unfold Hid;rw[←upTo_step f hx,HF.out,if_neg hks]
    have HC:Hid (∀u,Below wr.heap.size wr u→Calls Tryz.prog 56 #[.pointer (some ⟨tb,k*21,none⟩),.int .i64 H.frames,.agg #[.int .i64 snd,.int .u8 topic,.int .u16 value]] u fun e w'=>e= .returned (.tuple #[])∧HAft W hb tb cap vs {H with ts:=upTo f (k+1) H.ts} w'∧Blk w' w.heap.size #[.int .i64 snd,.int .u8 topic,.int .u16 value] 110):=by intro u hu;obtain⟨o1,o2,o3,o4⟩:=HOk.out x (List.mem_of_getElem? hx);have htu:=ht.below hu;have hho:=a1.below hu ht.slot.lt;refine(receive_any htu H.frames snd topic value o1 o2 hs0 hs1 ht0 ht1 o3 o4).mono ?_;rintro e w2 ⟨rfl,nv',bv',lv',b1,b2,b3,b4⟩;obtain⟨q1,q2,q3⟩:=hho.upd hx1 hv b1 b2 b3 b4;refine⟨rfl,?_,b2.blk htu (HL.out.below hu HL.out.lt) (by decide) (by decide) (by decide)⟩;rw[HS.out];refine HAft.trans a2 a3 (HAft.trans (Kept.of_below hu) (fun k q=>Or.inl q) ⟨_,q1,q2,q3⟩)
    clear hx hx1 hv ht hlen a1 a2 a3;go_upto_region 5 with fail
    go_region_with (go_at_call 56;refine(HC.out _ (by first|exact Below.refl _ _|exact(Below.refl _ _).drew)).mono ?_;rintro e w2 ⟨rfl,ha,hl2⟩;have HA2:Hid (HAft W hb tb cap vs {H with ts:=upTo f (k+1) H.ts} w2):=ha;have HL2:Hid (Blk w2 w.heap.size #[.int .i64 snd,.int .u8 topic,.int .u16 value] 110):=hl2;clear ha hl2)
    all_goals
     go_wp2;go_roundw
     case rel=>exact⟨k+1,by omega,by go_num,HA2.out,HL2.out⟩
     case measure=>simp[intOf];omega
  ·have hkn:k=n:=by omega
   subst hkn;have hki:¬(k:Int)<(k:Int):=by omega
   go_wp2;go_end0;refine⟨rfl,?_⟩;rw[HD.out];exact HAft.trans HKW.out (fun k q=>Or.inl q) HA.out
end
theorem info95:(Tryz.prog.info? 110).map (fun i=>(i.zero,i.size,i.bytes))=some (some (.agg #[.int .i64 0,.int .u8 0,.int .u16 0]),3,16):=by kernel_rfl
theorem own_three {w:World} {base:Nat} {e:TypeId} {ao:Option Addr} {n c k:Nat} {xs:List Value} {a b d:Value} (h:w.ownsRow base e 3 (.slice ao n c) n xs) (ha:xs[k*3]? =some a) (hb:xs[k*3+1]? =some b) (hd:xs[k*3+2]? =some d):∃g,ao=some ⟨g,0,none⟩∧w.cell? ⟨g,k*3,none⟩=some a∧w.cell? ⟨g,k*3+1,none⟩=some b∧w.cell? ⟨g,k*3+2,none⟩=some d:=by
 rcases h.2 with ⟨hv,h0⟩|⟨g,cap,cur,hv,_⟩
 ·have:xs=[]:=List.eq_nil_of_length_eq_zero (by have:=h.1;omega);subst this;simp at ha
 ·simp only[Value.slice.injEq] at hv;have q:∀j u,xs[j]? =some u→w.cell? ⟨g,j,none⟩=some u:=by intro j u hj;have h1:=World.ownsRow.cells h (g:=g) (by rw[hv.1];rfl) _ _ hj;rw[Addr.add_lit,Nat.zero_add] at h1;exact h1
  exact⟨g,hv.1,q _ _ ha,q _ _ hb,q _ _ hd⟩
section
variable {w w' : World} {hb tb cap : Nat} {H : Hs} {vs : List Vs}
theorem HostAt.tbl (h:HostAt w hb tb cap H vs) (hne:H.ts≠[]):tb<w.heap.size:=by
 cases hts:H.ts with
 |nil=>exact absurd hts hne
 |cons x r=>exact h.tb_lt (i:=0) (x:=x) (by rw[hts];rfl)
theorem HostAt.grown (h:HostAt w hb tb cap H vs) (hne:H.ts≠[]) {base:Nat} {t:TypeId} {size:Nat} {v:Value} {n:Nat} {xs:List Value} (ho:w.ownsRow base t size v n xs) (hg:w.grownBy w' v.ownBlock) (h1:t≠86) (h2:t≠88) (h3:t≠78) (h4:t≠80) (h5:t≠76):HostAt w' hb tb cap H vs:=by
 refine h.keep (fun k hk=>?_) (fun k cs q=>?_)
 ·obtain⟨cs,t2,q,q2⟩:=h.own_ty hne hk;refine hg.block k q.lt fun e=>?_;refine q.ne_own ho (fun e2=>?_) e;subst e2;rcases q2 with q2|q2|q2|q2|q2
  ·exact h1 q2
  ·exact h2 q2
  ·exact h3 q2
  ·exact h4 q2
  ·exact h5 q2
 ·exact q.of_block (hg.block k q.lt fun e=>q.ne_own ho (fun e2=>h5 e2.symm) e)
theorem HAft.grown {w1:World} {H':Hs} (h:HAft w hb tb cap vs H' w1) (hne:H'.ts≠[]) {base:Nat} {t:TypeId} {size:Nat} {v:Value} {n:Nat} {xs:List Value} (hbase:w.heap.size≤base) (ho:w1.ownsRow base t size v n xs) (hg:w1.grownBy w' v.ownBlock) (h1:t≠86) (h2:t≠88) (h3:t≠78) (h4:t≠80) (h5:t≠76):HAft w hb tb cap vs H' w':=by
 obtain⟨vs1,a1,a2,a3⟩:=h;exact⟨vs1,a1.grown hne ho hg h1 h2 h3 h4 h5,a2.grown hg (fun k hk=>Or.inr (Nat.le_trans hbase (ho.lt k hk).1)),a3⟩
theorem HAft.below {w1:World} {H':Hs} (h:HAft w hb tb cap vs H' w1) (hne:H'.ts≠[]) (hb1:Below w1.heap.size w1 w'):HAft w hb tb cap vs H' w':=by
 obtain⟨vs1,a1,a2,a3⟩:=h;exact⟨vs1,a1.below hb1 (a1.tbl hne),a2.trans (Kept.of_below (S:=ownOf hb tb vs) hb1) (fun _ _ q=>q),a3⟩
theorem HAft.alloc {w1:World} {H':Hs} (h:HAft w hb tb cap vs H' w1) (hne:H'.ts≠[]) (o:Obj):HAft w hb tb cap vs H' (w1.alloc o):=h.below hne ((Below.refl _ _).alloc (Nat.le_refl _) _)
theorem HostAt.set_frames (h:HostAt w hb tb cap H vs) (n:Int):HAft w hb tb cap vs {H with frames:=n} (w.setCell ⟨hb,1,none⟩ (.int .i64 n)):=by
 refine⟨vs,⟨h.host.set 1 _,h.len,?_,h.boxes,h.logs⟩,(Kept.refl _ _).setCell ⟨hb,1,none⟩ _ (Or.inl (Or.inl rfl)),fun k q=>Or.inl q⟩;intro i x v hx hv;have ht:=h.ten i x v hx hv;have hk:∀k,k≠hb→(w.setCell ⟨hb,1,none⟩ (.int .i64 n)).heap[k]? =w.heap[k]? :=fun k hk=>Below.heap_setCell _ _ _ _ hk;refine⟨ht.slot.keep (hk tb ?_),own_block ht.nodes fun k hk'=>hk k ?_,ht.box.keep fun k hk'=>hk k ?_,own_block ht.log fun k hk'=>hk k ?_⟩
 ·obtain⟨cur,q,_⟩:=ht.slot;exact q.ne h.host (by decide)
 ·rintro rfl;exact h.host.ne_own ht.nodes (by decide) hk'.symm
 ·rintro rfl;obtain⟨cur,q⟩:=ht.box.blk hk';exact q.ne h.host (by decide) rfl
 ·rintro rfl;exact h.host.ne_own ht.log (by decide) hk'.symm
theorem upTo_ne {f:Nat→Tn→Tn} {k:Nat} {l:List Tn} (h:l≠[]):upTo f k l≠[]:=by
 intro e;have:=congrArg List.length e;rw[upTo_length] at this;exact h (List.eq_nil_of_length_eq_zero (by simpa using this))
set_option maxRecDepth 100000 in
theorem frame_any (h:HostAt w hb tb cap H vs) (hne:H.ts≠[]) (dao:Option Addr) (dcap:Nat) (dl:List (List Int)) (hfit:Fit H dl) (hdl:dl.length≤maxLen) (hd:DrsK (ownOf hb tb vs) w dao dl): Calls Tryz.prog 38 #[.pointer (some ⟨hb,0,none⟩),.slice dao dl.length dcap] w fun e w'=>e= .returned (.int .i64 H.frameE)∧HAft w hb tb cap vs (H.frame dl) w':=by
 obtain⟨i0,hi,hz0,hz1,hz2⟩:=info_parts info95;have HH:Hid (HostAt w hb tb cap H vs):=h;have c1:w.cell? ⟨hb,1,none⟩=some (.int .i64 H.frames):=by rw[h.host.cell 1];rfl
 have f1:=h.host.free 1;by_cases h200:200≤H.frames
 ·have HE:Hid (H.frameE=9∧H.frame dl=H):=by unfold Hid Hs.frameE Hs.frame;rw[if_pos h200,if_pos h200];exact⟨rfl,rfl⟩
  clear h hd;go_enter Tryz.func38,Tryz.ntmps38;go_wp2;go_ret;rw[HE.out.1,HE.out.2];exact⟨rfl,HAft.refl HH.out⟩
 ·have HE:Hid (H.frameE=0∧H.frame dl={H with frames:=H.frames+1,ts:=H.posted dl (H.post dl).length}):=by unfold Hid Hs.frameE Hs.frame;rw[if_neg h200,if_neg h200,posted_all];exact⟨rfl,rfl⟩
  obtain⟨n1,hn1⟩:∃n1,n1=H.frames+1:=⟨_,rfl⟩;have hr:=hfit.frames;have hw1:IntKind.i64.wrap (H.frames+1)=n1:=by rw[IntKind.wrap_i64,hn1];omega
  have hn10:0≤n1:=by omega
  have hn11:n1≤1000000:=by omega
  obtain⟨hr0,hr1⟩:=hfit.route;obtain⟨fc,hfc⟩:∃fc:Nat→Tn→Tn,fc=fun _ x=>x.come n1 H.route:=⟨_,rfl⟩;obtain⟨fr,hfr⟩:∃fr:Nat→Tn→Tn,fr=fun i x=>x.turn n1 H.route (drawsOf dl i):=⟨_,rfl⟩;have HFc:Hid (∀i x,fc i x=x.come n1 H.route):=by intro i x;rw[hfc]
  have HFr:Hid (∀i x,fr i x=x.turn n1 H.route (drawsOf dl i)):=by intro i x;rw[hfr]
  obtain⟨N,hN⟩:∃N,N=H.ts.length:=⟨_,rfl⟩;have HN:Hid (H.ts.length=N):=hN.symm;obtain⟨C,hC⟩:∃C,C=H.came:=⟨_,rfl⟩;have HCa:Hid (upTo fc N H.ts=C):=by unfold Hid;rw[hN,upTo_all,hC,hfc,hn1];rfl
  have HCl:Hid (C.length=N):=by unfold Hid;rw[hC,hN];simp[Hs.came]
  have HTu:Hid (upTo fr N C=H.turned dl):=by unfold Hid;rw[←HCl.out,upTo_all,hC,hfr,hn1];rfl
  obtain⟨pt,hpt⟩:∃pt:Nat→List Lt,pt=postTo C n1 H.route dl:=⟨_,rfl⟩;have HPt:Hid (∀k x,C[k]? =some x→pt (k+1)=pt k++lettersOf k (x.gives n1 H.route (drawsOf dl k))):=by intro k x hx;rw[hpt];show postTo C n1 H.route dl k++_=_;rw[hx]
  have HP0:Hid (pt 0=[]):=by unfold Hid;rw[hpt];rfl
  have HPo:Hid (pt N=H.post dl):=by unfold Hid;rw[hpt,hN,hC,hn1];rfl
  have HOkC:Hid (∀x∈C,x.ok∧∀i,(x.gives n1 H.route (drawsOf dl i)).length≤4):=by intro x hx;rw[hC] at hx;rw[hn1];exact⟨hfit.came x hx,fun i=>hfit.gives x hx i⟩
  have HOkS:Hid (∀x∈H.ts,x.box.length≤100000∧0≤x.routes∧x.routes≤255):=hfit.start;have HOkP:Hid (∀k,∀x∈H.posted dl k,x.box.length≤100000∧x.log.length≤100000∧0≤x.sub∧x.sub≤255):=hfit.posted;have HOkL:Hid (∀L∈H.post dl,(0≤L.1∧L.1≤200)∧0≤L.2.1∧L.2.1≤255):=hfit.post;have HPs:Hid (∀k L,(H.post dl)[k]? =some L→H.posted dl (k+1)=deliver n1 (H.posted dl k) L):=by intro k L hL;rw[hn1];exact posted_step H dl hL
  have hN4:N≤4:=by rw[hN];exact hfit.len
  have HNe:Hid (H.ts≠[]):=hne;have HNC:Hid (C≠[]):=by intro e;have h1:=HCl.out;rw[e] at h1;have h2:=HN.out;exact HNe.out (List.eq_nil_of_length_eq_zero (by rw[h2,←h1];rfl))
  have HDr:Hid (DrsK (ownOf hb tb vs) w dao dl):=hd;have HF0:Hid (HAft w hb tb cap vs {H with frames:=n1} (w.setCell ⟨hb,1,none⟩ (.int .i64 n1))):=h.set_frames n1;have c2:w.cell? ⟨hb,2,none⟩=some (.slice (some ⟨tb,0,none⟩) N cap):=by rw[h.host.cell 2,hN];rfl
  have HEn:Hid (H.frame dl={H with frames:=n1,ts:=H.posted dl (H.post dl).length}):=by unfold Hid;rw[HE.out.2,hn1]
  have HPz:Hid (H.posted dl 0=H.turned dl):=posted_zero H dl;have HPl:Hid (∀k,(H.posted dl k).length=N):=by intro k;rw[posted_length];exact hN.symm
  clear h hd hfit hne hn1 hN hfc hfr hC hpt;go_enter Tryz.func38,Tryz.ntmps38;go_upto_region 5 with fail
  go_loopw [30] (fun i wr=>∃k:Nat,k≤N∧i= .int .i64 k∧Hid (HAft w hb tb cap vs {H with frames:=n1,ts:=upTo fc k H.ts} wr))
   (fun i _=>N-(intOf i).toNat)
  case atStart=>exact⟨0,Nat.zero_le _,rfl,by rw[upTo_zero];exact HF0.out⟩
  case round=>
   obtain⟨k,hk,rfl,HA⟩:=hrel;clear c1 c2 f1;by_cases hlt:k<N
   ·obtain⟨x,hx⟩:∃x,H.ts[k]? =some x:=⟨H.ts[k]'(by have:=HN.out;omega),List.getElem?_eq_getElem (by have:=HN.out;omega)⟩;obtain⟨vs1,a1,a2,a3⟩:=HA.out;have hx1:({H with frames:=n1,ts:=upTo fc k H.ts}:Hs).ts[k]? =some x:=by show(upTo fc k H.ts)[k]? =_;rw[upTo_get];exact hx
    obtain⟨v,hv,ht⟩:=a1.at hx1;have hlen:(upTo fc k H.ts).length=N:=by rw[upTo_length];exact HN.out
    have r2:wr.cell? ⟨hb,2,none⟩=some (.slice (some ⟨tb,0,none⟩) N cap):=by rw[a1.host.cell 2,←hlen];rfl
    have r1:wr.cell? ⟨hb,1,none⟩=some (.int .i64 n1):=by rw[a1.host.cell 1];rfl
    have r0:wr.cell? ⟨hb,0,none⟩=some (.int .u8 H.route):=by rw[a1.host.cell 0];rfl
    have hki:(k:Int)<(N:Int):=by omega
    have hk0:(0:Int)≤(k:Int):=by omega
    have HC:Hid (∀u,Below wr.heap.size wr u→Calls Tryz.prog 45 #[.pointer (some ⟨tb,k*21,none⟩),.int .i64 n1,.int .u8 H.route] u fun e w'=>e= .returned (.tuple #[])∧HAft w hb tb cap vs {H with frames:=n1,ts:=upTo fc (k+1) H.ts} w'):=by intro u hu;obtain⟨o1,o2,o3⟩:=HOkS.out x (List.mem_of_getElem? hx);have htu:=ht.below hu;have hho:=a1.below hu ht.slot.lt;refine(come_any htu n1 H.route o1 o2 o3 hr0 hr1).mono ?_;rintro e w2 ⟨rfl,nv',bv',lv',b1,b2,b3,b4⟩;obtain⟨q1,q2,q3⟩:=hho.upd hx1 hv b1 b2 b3 b4;refine⟨rfl,?_⟩;rw[←upTo_step fc hx,HFc.out];exact HAft.trans a2 a3 (HAft.trans (Kept.of_below hu) (fun k q=>Or.inl q) ⟨_,q1,q2,q3⟩)
    clear hx hx1 hv ht hlen a1 a2 a3;go_upto_region 7 with fail
    go_region_with (go_at_call 45;refine(HC.out _ (by first|exact Below.refl _ _|exact(Below.refl _ _).drew)).mono ?_;rintro e w2 ⟨rfl,ha⟩;have HA2:Hid (HAft w hb tb cap vs {H with frames:=n1,ts:=upTo fc (k+1) H.ts} w2):=ha;clear ha)
    all_goals
     go_wp2;go_roundw
     case rel=>exact⟨k+1,by omega,by go_num,HA2.out⟩
     case measure=>simp[intOf];omega
   ·have hkn:k=N:=by omega
    have hki:¬(k:Int)<(N:Int):=by omega
    have HA1:Hid (HAft w hb tb cap vs {H with frames:=n1,ts:=C} wr):=by have q:=HA.out;rw[hkn,HCa.out] at q;exact q
    obtain⟨vs0,b1,b2,b3⟩:=HA1.out;have r2:wr.cell? ⟨hb,2,none⟩=some (.slice (some ⟨tb,0,none⟩) N cap):=by rw[b1.host.cell 2];show some (Value.slice _ C.length _)=_;rw[HCl.out]
    clear b1 b2 b3 HA HF0 HFc hkn;go_upto_region 11 with fail
    go_loopw [6,54] (fun p i wr=>∃(k m pc:Nat) (po:Option Addr),k≤N∧i= .int .i64 k∧p= .slice po m pc∧m≤4*k∧Hid ((pt k).length=m)∧Hid (HAft w hb tb cap vs {H with frames:=n1,ts:=upTo fr k C} wr)∧Hid (wr.ownsRow w.heap.size 110 3 (.slice po m pc) m (ltCells (pt k))))
     (fun _ i _=>N-(intOf i).toNat)
    case atStart=>refine⟨0,0,0,none,Nat.zero_le _,rfl,rfl,Nat.le_refl _,by rw[HP0.out];rfl,by rw[upTo_zero];exact HA1.out,?_⟩;rw[HP0.out];exact World.ownsRow_nil _ _ _ _
    case round=>
     obtain⟨k,m,pc,po,hk,rfl,rfl,hm4,HLn,HA,HP⟩:=hrel;clear r2 HA1;by_cases hlt:k<N
     ·obtain⟨x,hx⟩:∃x,C[k]? =some x:=⟨C[k]'(by have:=HCl.out;omega),List.getElem?_eq_getElem (by have:=HCl.out;omega)⟩;obtain⟨vs1,a1,a2,a3⟩:=HA.out;have hx1:({H with frames:=n1,ts:=upTo fr k C}:Hs).ts[k]? =some x:=by show(upTo fr k C)[k]? =_;rw[upTo_get];exact hx
      have hok:=HOkC.out x (List.mem_of_getElem? hx);have HPk:=HPt.out k x hx;obtain⟨S,hS⟩:∃S,S=x.gives n1 H.route (drawsOf dl k):=⟨_,rfl⟩;rw[←hS] at HPk;have HPk':Hid (pt (k+1)=pt k++lettersOf k S):=HPk;have hS4:S.length≤4:=by rw[hS];exact hok.2 k
      obtain⟨M,hM⟩:∃M,M=S.length:=⟨_,rfl⟩;have HM:Hid (S.length=M):=hM.symm;have hnu:upTo fr k C≠[]:=upTo_ne HNC.out;have HC:Hid (Calls Tryz.prog 46 #[.pointer (some ⟨hb,0,none⟩),.int .i64 k,.slice dao dl.length dcap] wr fun e w'=>∃gv,e= .returned gv∧HAft w hb tb cap vs {H with frames:=n1,ts:=upTo fr (k+1) C} w'∧w'.ownsRow 0 108 2 gv M (sendCells S)∧w'.ownsRow w.heap.size 110 3 (.slice po m pc) m (ltCells (pt k))):=by
       have q:=runTenant_any a1 k hx1 (by show(upTo fr k C).length≤_;rw[upTo_length,HCl.out];omega) hok.1 hn10 hn11 hr0 hr1 dao dcap dl hdl (HDr.out.step a2 a3);refine q.mono ?_;rintro e w2 ⟨gv,rfl,ha,ho⟩;refine⟨gv,rfl,?_,?_,?_⟩
       ·rw[←upTo_step fr hx,HFr.out];exact HAft.trans a2 a3 ha
       ·rw[hM,hS];exact own_zero ho
       ·obtain⟨vs2,d1,d2,d3⟩:=ha;exact a1.kept_own hnu d2 HP.out (by decide) (by decide) (by decide) (by decide) (by decide)
      rw[←hM] at hS4;have hki:(k:Int)<(N:Int):=by omega
      have hk0:(0:Int)≤(k:Int):=by omega
      clear hx hx1 a1 a2 a3 hok HPk hS hM hnu;go_wp2_with fail;refine HC.out.mono ?_;rintro e w2 ⟨gv,rfl,ha,ho,hp⟩;have HA2:Hid (HAft w hb tb cap vs {H with frames:=n1,ts:=upTo fr (k+1) C} w2):=ha;have HO2:Hid (w2.ownsRow 0 108 2 gv M (sendCells S)):=ho;have HP2:Hid (w2.ownsRow w.heap.size 110 3 (.slice po m pc) m (ltCells (pt k))):=hp;obtain⟨so,sc,rfl⟩:=own_is ho;clear ha ho hp HC HA HP;go_wp2_with fail;go_loopw [6,63] (fun p j wr=>∃(q m2 pc2:Nat) (po2:Option Addr),q≤M∧j= .int .i64 q∧p= .slice po2 m2 pc2∧m2≤16∧Hid (m2=m+q)∧Hid (HAft w hb tb cap vs {H with frames:=n1,ts:=upTo fr (k+1) C} wr)∧Hid (wr.ownsRow 0 108 2 (.slice so M sc) M (sendCells S))∧Hid (wr.ownsRow w.heap.size 110 3 (.slice po2 m2 pc2) m2 (ltCells (pt k++lettersOf k (S.take q)))))
       (fun _ j _=>M-(intOf j).toNat)
      case atStart=>refine⟨0,m,pc,po,Nat.zero_le _,rfl,rfl,by omega,rfl,HA2.out,HO2.out,?_⟩;rw[show lettersOf k (S.take 0)=[] from rfl,List.append_nil];exact HP2.out
      case round=>
       obtain⟨q,m2,pc2,po2,hq,rfl,rfl,hm2,HM2,HAq,HSq,HPq⟩:=hrel;clear HA2 HO2 HP2;by_cases hlq:q<M
       ·obtain⟨sd,hsd⟩:∃y,S[q]? =some y:=⟨S[q]'(by have:=HM.out;omega),List.getElem?_eq_getElem (by have:=HM.out;omega)⟩;obtain⟨s0,s1⟩:=sendCells_at S q _ hsd;obtain⟨gd,rfl,d0,d1⟩:=own_pair HSq.out s0 s1;have HTk:Hid (lettersOf k (S.take (q+1))=lettersOf k (S.take q)++[((k:Int),sd.1,sd.2)]):=by unfold Hid lettersOf;rw[List.take_add_one,hsd];simp
        obtain⟨t,v⟩:=sd;simp only at d0 d1 HTk;have hqi:(q:Int)<(M:Int):=by omega
        have hq0:(0:Int)≤(q:Int):=by omega
        have hgd:gd<wr.heap.size:=World.block_lt_of_cell? _ _ d0;have hsz:w.heap.size≤wr.heap.size:=by obtain⟨_,_,z,_⟩:=HAq.out;exact z.size
        have HNw:Hid (∀jj u,[Value.int .i64 (k:Int),.int .u8 t,.int .u16 v][jj]? =some u→((wr.alloc (.cells #[.int .u8 t,.int .u16 v] 108)).alloc (.cells #[.int .i64 (k:Int),.int .u8 t,.int .u16 v] 110)).cell? ((⟨wr.heap.size+1,0,none⟩:Addr).add jj)=some u):=Tr.new_three1 wr _ _ _ _ _;clear hsd s0 s1;go_wp2_with (at_builtin;refine wpList_append_own_at _ rfl (.tmp 67) (.tmp 71) 104 rfl w.heap.size 110 i0 (.agg #[.int .i64 0,.int .u8 0,.int .u16 0]) 3 16 Tryz.underlying104 hi hz0 hz1 hz2 rfl (by decide) _ m2 _ rfl ((HPq.out.alloc _).alloc _) ⟨wr.heap.size+1,0,none⟩ 1 1 [.int .i64 (k:Int),.int .u8 t,.int .u16 v] rfl rfl HNw.out (by intro u hu;simp at hu;rcases hu with rfl|rfl|rfl<;>rfl) (by unfold maxLen;omega) (by omega) (by simp;omega) ?_);intro g1 w1 ho1 hg1 _ _;obtain⟨go1,gc1,rfl⟩:=own_is ho1;have hnu:upTo fr (k+1) C≠[]:=upTo_ne HNC.out;have HAn:Hid (HAft w hb tb cap vs {H with frames:=n1,ts:=upTo fr (k+1) C} w1):=((HAq.out.alloc hnu _).alloc hnu _).grown hnu (Nat.le_refl _) ((HPq.out.alloc _).alloc _) hg1 (by decide) (by decide) (by decide) (by decide) (by decide);have HPn:Hid (w1.ownsRow w.heap.size 110 3 (.slice go1 (m2+1) gc1) (m2+1) (ltCells (pt k++lettersOf k (S.take (q+1))))):=by unfold Hid;rw[HTk.out,←List.append_assoc,ltCells_snoc];exact ho1
        have HSn:Hid (w1.ownsRow 0 108 2 (.slice (some ⟨gd,0,none⟩) M sc) M (sendCells S)):=by refine own_block ((HSq.out.alloc (.cells #[.int .u8 t,.int .u16 v] 108)).alloc (.cells #[.int .i64 (k:Int),.int .u8 t,.int .u16 v] 110)) fun z hz=>?_;obtain⟨cz,hbz⟩:=own_blk ((HSq.out.alloc (.cells #[.int .u8 t,.int .u16 v] 108)).alloc (.cells #[.int .i64 (k:Int),.int .u8 t,.int .u16 v] 110)) hz;refine hg1.block z hbz.lt (fun e=>?_);exact hbz.ne_own ((HPq.out.alloc (.cells #[.int .u8 t,.int .u16 v] 108)).alloc (.cells #[.int .i64 (k:Int),.int .u8 t,.int .u16 v] 110)) (by decide) e
        clear ho1 hg1 HAq HSq HPq HNw hnu;go_wp2;go_roundw
        case rel=>exact⟨q+1,m2+1,gc1,go1,by omega,by go_num,rfl,by have:=HM2.out;omega,by have:=HM2.out;show m2+1=m+(q+1);omega,HAn,HSn,HPn⟩
        case measure=>simp[intOf];omega
       ·have hqm:q=M:=by omega
        subst hqm;have hqi:¬(q:Int)<(q:Int):=by omega
        have HPn:Hid (wr.ownsRow w.heap.size 110 3 (.slice po2 m2 pc2) m2 (ltCells (pt (k+1)))):=by have z:=HPq.out;rw[List.take_of_length_le (by rw[HM.out];exact Nat.le_refl _)] at z;unfold Hid;rw[HPk'.out];exact z
        have HLn2:Hid ((pt (k+1)).length=m2):=by unfold Hid;rw[HPk'.out,List.length_append,HLn.out,HM2.out];simp[lettersOf,HM.out]
        go_wp2;go_roundw
        case rel=>exact⟨k+1,m2,pc2,po2,by omega,by go_num,rfl,by have:=HM2.out;omega,HLn2,HAq,HPn⟩
        case measure=>simp[intOf];omega
     ·have hkn:k=N:=by omega
      have HA3:Hid (HAft w hb tb cap vs {H with frames:=n1,ts:=H.posted dl 0} wr):=by have q:=HA.out;rw[hkn,HTu.out] at q;unfold Hid;rw[HPz.out];exact q
      have HP3:Hid (wr.ownsRow w.heap.size 110 3 (.slice po m pc) m (ltCells (H.post dl))):=by have q:=HP.out;rw[hkn,HPo.out] at q;exact q
      have HL3:Hid ((H.post dl).length=m):=by have q:=HLn.out;rw[hkn,HPo.out] at q;exact q
      have hki:¬(k:Int)<(N:Int):=by omega
      have hm16:m≤16:=by omega
      clear HA HP HLn HPt HP0 HPo HTu HFr HOkC HDr;go_upto_region 21 with fail
      go_loopw [77] (fun i wr=>∃k:Nat,k≤m∧i= .int .i64 k∧Hid (HAft w hb tb cap vs {H with frames:=n1,ts:=H.posted dl k} wr)∧Hid (wr.ownsRow w.heap.size 110 3 (.slice po m pc) m (ltCells (H.post dl))))
       (fun i _=>m-(intOf i).toNat)
      case atStart=>exact⟨0,Nat.zero_le _,rfl,HA3.out,HP3.out⟩
      case round=>
       obtain⟨j,hj,rfl,HA,HP⟩:=hrel;clear HA3 HP3;by_cases hlj:j<m
       ·obtain⟨L,hL⟩:∃L,(H.post dl)[j]? =some L:=⟨(H.post dl)[j]'(by have:=HL3.out;omega),List.getElem?_eq_getElem (by have:=HL3.out;omega)⟩;obtain⟨s0,s1,s2⟩:=ltCells_at (H.post dl) j _ hL;obtain⟨gp,rfl,p0,p1,p2⟩:=own_three HP.out s0 s1 s2;obtain⟨⟨o1,o2⟩,o3,o4⟩:=HOkL.out L (List.mem_of_getElem? hL);have HPj:=HPs.out j L hL;obtain⟨snd,t,v⟩:=L;simp only at p0 p1 p2 o1 o2 o3 o4;have hji:(j:Int)<(m:Int):=by omega
        have hj0:(0:Int)≤(j:Int):=by omega
        have hgp:gp<wr.heap.size:=World.block_lt_of_cell? _ _ p0;have hnp:H.posted dl j≠[]:=by intro e;have h1:=HPl.out j;rw[e] at h1;have h2:=HN.out;exact HNe.out (List.eq_nil_of_length_eq_zero (by rw[h2,←h1];rfl))
        have HC:Hid (∀ob,Calls Tryz.prog 47 #[.pointer (some ⟨hb,0,none⟩),.agg #[.int .i64 snd,.int .u8 t,.int .u16 v]] (wr.alloc ob) fun e w'=>e= .returned (.tuple #[])∧HAft w hb tb cap vs {H with frames:=n1,ts:=H.posted dl (j+1)} w'∧w'.ownsRow w.heap.size 110 3 (.slice (some ⟨gp,0,none⟩) m pc) m (ltCells (H.post dl))):=by
         intro ob;obtain⟨vs1,a1,a2,a3⟩:=HA.out.alloc hnp ob;refine(deliver_any a1 hnp (snd,t,v) o1 o2 o3 o4 (by show(H.posted dl j).length≤_;rw[HPl.out];omega) (HOkP.out j)).mono ?_;rintro e w2 ⟨rfl,ha⟩;refine⟨rfl,?_,?_⟩
         ·rw[HPj];exact HAft.trans a2 a3 ha
         ·obtain⟨vs2,d1,d2,d3⟩:=ha;exact a1.kept_own hnp d2 (HP.out.alloc ob) (by decide) (by decide) (by decide) (by decide) (by decide)
        clear hL s0 s1 s2 HPj hnp;go_wp2_with fail;refine(HC.out _).mono ?_;rintro e w2 ⟨rfl,ha,hp⟩;have HA2:Hid (HAft w hb tb cap vs {H with frames:=n1,ts:=H.posted dl (j+1)} w2):=ha;have HP2:Hid (w2.ownsRow w.heap.size 110 3 (.slice (some ⟨gp,0,none⟩) m pc) m (ltCells (H.post dl))):=hp;clear ha hp HA HP HC;go_wp2;go_roundw
        case rel=>exact⟨j+1,by omega,by go_num,HA2,HP2⟩
        case measure=>simp[intOf];omega
       ·have hjm:j=m:=by omega
        subst hjm;have hji:¬(j:Int)<(j:Int):=by omega
        go_wp2;go_ret;rw[HE.out.1,HEn.out,HL3.out];exact⟨rfl,HA.out⟩
end
def nilVs:Vs:=(.slice none 0 0,.slice none 0 0,.slice none 0 0)
def Mf.cells (m:Mf):List Value:=tnCells m.tn (.slice none 0 0) (.slice none 0 0) (.slice none 0 0)
def newCells (l:List Mf):List Value:=l.flatMap Mf.cells
theorem newCells_snoc (l:List Mf) (m:Mf):newCells (l++[m])=newCells l++m.cells:=by simp[newCells]
theorem newCells_slot:∀(l:List Mf) (i:Nat) (m:Mf),l[i]? =some m→((newCells l).drop (i*21)).take 21=m.cells
 |[],i,m,h=>by simp at h
 |y::r,0,m,h=>by
  simp at h;subst h;have e:newCells (y::r)=y.cells++newCells r:=rfl;rw[e];have:y.cells.length=21:=rfl;simp[this]
 |y::r,i+1,m,h=>by have e:newCells (y::r)=y.cells++newCells r:=rfl;have e2:y.cells.length=21:=rfl;rw[e,List.drop_append,e2,List.drop_eq_nil_of_le (by rw[e2];omega),List.nil_append,show(i+1)*21-21=i*21 by omega];exact newCells_slot r i m (by simpa using h)
theorem new_host {w:World} {hb tb cap base:Nat} {ms:List Mf} (hh:Blk w hb #[.int .u8 0,.int .i64 0,.slice (some ⟨tb,0,none⟩) ms.length cap] 86) (ho:w.ownsRow base 88 21 (.slice (some ⟨tb,0,none⟩) ms.length cap) ms.length (newCells ms)): HostAt w hb tb cap (newHs ms) (ms.map fun _=>nilVs):=by
 refine⟨?_,by simp[newHs],?_,?_,?_⟩
 ·have:(newHs ms).ts.length=ms.length:=by simp[newHs]
  rw[this];exact hh
 ·intro i x v hx hv;simp only[newHs,List.getElem?_map] at hx hv;cases hm:ms[i]? with
  |none=>rw[hm] at hx;simp at hx
  |some m=>
   rw[hm] at hx hv;have e1:m.tn=x:=by simpa using hx
   have e2:nilVs=v:=by simpa using hv
   subst e1;subst e2;refine⟨?_,World.ownsRow_nil _ _ _ _,Or.inl ⟨rfl,rfl⟩,World.ownsRow_nil _ _ _ _⟩;rcases ho.2 with ⟨hv,h0⟩|⟨g,cp,cur,hv,_,hb2,h1,h2,h3,h4⟩
   ·have:=(List.getElem?_eq_some_iff.1 hm).1;omega
   ·simp only[Value.slice.injEq,Option.some.injEq,Addr.mk.injEq,and_true,true_and] at hv;obtain⟨rfl,rfl⟩:=hv;refine⟨cur,hb2,?_,rfl⟩;have hi:=(List.getElem?_eq_some_iff.1 hm).1;show(cur.toList.drop (i*21)).take 21=m.cells;rw[←newCells_slot ms i m hm,←h4];apply List.ext_getElem?;intro j;rw[List.getElem?_take,List.getElem?_take,List.getElem?_drop,List.getElem?_drop];by_cases hj:j<21
    ·rw[if_pos hj,if_pos hj,List.getElem?_take,if_pos (by omega)]
    ·rw[if_neg hj,if_neg hj]
 ·intro i j v u hv hu _ k hk;have hv2:=List.mem_of_getElem? hv;simp only[List.mem_map] at hv2;obtain⟨_,_,rfl⟩:=hv2;simp[nilVs,Value.ownBlock] at hk
 ·intro i j v u hv hu _ k hk;have hv2:=List.mem_of_getElem? hv;simp only[List.mem_map] at hv2;obtain⟨_,_,rfl⟩:=hv2;simp[nilVs,Value.ownBlock] at hk
theorem info84:(Tryz.prog.info? 88).map (fun i=>(i.zero,i.size,i.bytes))=some (some (.agg #[.string ⟨#[]⟩,.int .i64 0,.int .u8 0,.int .u8 0,.int .u8 0,.int .i64 0,.int .i64 0,.int .u8 0,.int .u16 0,.int .u16 0,.int .u16 0,.int .u16 0,.int .u16 0,.int .u16 0,.int .u16 0,.int .u16 0,.slice none 0 0,.slice none 0 0,.slice none 0 0,.int .i64 0,.int .u8 0]),21,160):=by kernel_rfl
theorem new_cells2 (w:World) (o:Obj) (cs:Array Value) (t:TypeId):∀j u,cs.toList[j]? =some u→(((w.alloc o).alloc (.cells cs t)).drew).cell? ((⟨w.heap.size+1,0,none⟩:Addr).add j)=some u:=by
 intro j u hj;have hb:=Blk.new (w.alloc o) cs t;rw[Addr.add_lit,Nat.zero_add];have e:(w.alloc o).heap.size=w.heap.size+1:=by simp
 rw[e] at hb;have:=hb.cell j;simp only[Array.getElem?_toList] at hj;rw[hj] at this;exact this
set_option maxRecDepth 100000 in
theorem new_any (b off ncap:Nat) (ms:List Mf) (w:World) (hl0:1≤ms.length) (hl4:ms.length≤4) (hg:∀m∈ms,m.good) (hr:MfRow w b off ms) (hb:b<w.heap.size): Calls Tryz.prog 10 #[.slice (some ⟨b,off,none⟩) ms.length ncap] w fun e w'=>∃hb' tb cap vs,e= .returned (.tuple #[.pointer (some ⟨hb',0,none⟩),.int .i64 0])∧HostAt w' hb' tb cap (newHs ms) vs∧(∀k,ownOf hb' tb vs k→w.heap.size≤k)∧Below w.heap.size w w':=by
 obtain⟨i0,hi,hz0,hz1,hz2⟩:=info_parts info84;have HI:Hid (Calls Tryz.prog 33 #[.slice (some ⟨b,off,none⟩) ms.length ncap] w fun e w'=>e= .returned (.bool true)∧Below w.heap.size w w'):=isManifest_good b off ncap ms w hl0 hl4 hg hr hb;obtain⟨n,hn⟩:∃n,n=ms.length:=⟨_,rfl⟩;have Hn:Hid (ms.length=n):=hn.symm;have HR:Hid (MfRow w b off ms):=hr;rw[←hn] at hl0 hl4 HI ⊢;clear hn hg hr;go_enter Tryz.func10,Tryz.ntmps10;go_wp2_with fail;refine HI.out.mono ?_;rintro e w1 ⟨rfl,hb1⟩;have HB1:Hid (Below w.heap.size w w1):=hb1;have hs1:=hb1.size;clear hb1 HI;obtain⟨hp,hhp⟩:∃hp,hp=w1.heap.size:=⟨_,rfl⟩;go_wp2_with fail;rw[←hhp];have HHp:Hid (w1.heap.size=hp):=hhp.symm;have hshp:w.heap.size≤hp:=by omega
 clear hhp;go_loopw [14] (fun i wr=>∃(k tc:Nat) (ta:Option Addr),k≤n∧i= .int .i64 k∧Hid (Below w.heap.size w wr)∧Hid (Blk wr hp #[.int .u8 0,.int .i64 0,.slice ta k tc] 86)∧Hid (wr.ownsRow w.heap.size 88 21 (.slice ta k tc) k (newCells (ms.take k))))
  (fun i _=>n-(intOf i).toNat)
 case atStart=>refine⟨0,0,none,Nat.zero_le _,rfl,HB1.out.alloc hs1 _,?_,World.ownsRow_nil _ _ _ _⟩;rw[←HHp.out];exact Blk.new w1 _ 86
 case round=>
  obtain⟨k,tc,ta,hk,rfl,HB,HH,HO⟩:=hrel;have hsz:=HB.out.size;by_cases hlt:k<n
  ·obtain⟨m,hm⟩:∃m,ms[k]? =some m:=⟨ms[k]'(by have:=Hn.out;omega),List.getElem?_eq_getElem (by have:=Hn.out;omega)⟩;have hrow:=(HR.out.below HB.out hb) k m hm;have HTk:Hid (newCells (ms.take (k+1))=newCells (ms.take k)++m.cells):=by unfold Hid;rw[List.take_add_one,hm];exact newCells_snoc _ _
   have hone:Hid (∀u∈m.cells,u.oneCell'=true):=fun u hu=>List.all_eq_true.1 (show m.cells.all (fun u=>u.oneCell')=true from rfl) u hu;have hmc:m.cells=[.string m.prog,.int .i64 m.fuel,.int .u8 m.routes,.int .u8 m.pub,.int .u8 m.sub,.int .i64 m.share,.int .i64 m.back,.int .u8 0,.int .u16 0,.int .u16 0,.int .u16 0,.int .u16 0,.int .u16 0,.int .u16 0,.int .u16 0,.int .u16 0,.slice none 0 0,.slice none 0 0,.slice none 0 0,.int .i64 0,.int .u8 0]:=rfl;rw[hmc] at HTk hone;obtain⟨pr,fu,ro,pu,su,sh,ba⟩:=m;have c0:wr.cell? ⟨b,off+k*7,none⟩=some (.string pr):=hrow 0 _ rfl;have c1:wr.cell? ⟨b,off+k*7+1,none⟩=some (.int .i64 fu):=hrow 1 _ rfl;have c2:wr.cell? ⟨b,off+k*7+2,none⟩=some (.int .u8 ro):=hrow 2 _ rfl;have c3:wr.cell? ⟨b,off+k*7+3,none⟩=some (.int .u8 pu):=hrow 3 _ rfl;have c4:wr.cell? ⟨b,off+k*7+4,none⟩=some (.int .u8 su):=hrow 4 _ rfl;have c5:wr.cell? ⟨b,off+k*7+5,none⟩=some (.int .i64 sh):=hrow 5 _ rfl;have c6:wr.cell? ⟨b,off+k*7+6,none⟩=some (.int .i64 ba):=hrow 6 _ rfl;simp only at HTk hone;have hki:(k:Int)<(n:Int):=by omega
   have hk0:(0:Int)≤(k:Int):=by omega
   have d2:wr.cell? ⟨hp,2,none⟩=some (.slice ta k tc):=by rw[HH.out.cell 2];rfl
   have hhl:=HH.out.lt;have hbw:b<wr.heap.size:=by omega
   have hnp:¬hp=wr.heap.size:=by omega
   have hnp1:¬hp=wr.heap.size+1:=by omega
   obtain⟨news,hnews⟩:∃news:Array Value,news=#[.string pr,.int .i64 fu,.int .u8 ro,.int .u8 pu,.int .u8 su,.int .i64 sh,.int .i64 ba,.int .u8 0,.int .u16 0,.int .u16 0,.int .u16 0,.int .u16 0,.int .u16 0,.int .u16 0,.int .u16 0,.int .u16 0,.slice none 0 0,.slice none 0 0,.slice none 0 0,.int .i64 0,.int .u8 0]:=⟨_,rfl⟩;have HNw:Hid (∀j u,([.string pr,.int .i64 fu,.int .u8 ro,.int .u8 pu,.int .u8 su,.int .i64 sh,.int .i64 ba,.int .u8 0,.int .u16 0,.int .u16 0,.int .u16 0,.int .u16 0,.int .u16 0,.int .u16 0,.int .u16 0,.int .u16 0,.slice none 0 0,.slice none 0 0,.slice none 0 0,.int .i64 0,.int .u8 0]:List Value)[j]? =some u→(((wr.alloc (.cells #[.string pr,.int .i64 fu,.int .u8 ro,.int .u8 pu,.int .u8 su,.int .i64 sh,.int .i64 ba] 37)).alloc (.cells #[.string pr,.int .i64 fu,.int .u8 ro,.int .u8 pu,.int .u8 su,.int .i64 sh,.int .i64 ba,.int .u8 0,.int .u16 0,.int .u16 0,.int .u16 0,.int .u16 0,.int .u16 0,.int .u16 0,.int .u16 0,.int .u16 0,.slice none 0 0,.slice none 0 0,.slice none 0 0,.int .i64 0,.int .u8 0] 88)).drew).cell? ((⟨wr.heap.size+1,0,none⟩:Addr).add j)=some u):=by have q:=new_cells2 wr (.cells #[.string pr,.int .i64 fu,.int .u8 ro,.int .u8 pu,.int .u8 su,.int .i64 sh,.int .i64 ba] 37) news 88;rw[hnews] at q;exact q
   have HOd:Hid ((((wr.alloc (.cells #[.string pr,.int .i64 fu,.int .u8 ro,.int .u8 pu,.int .u8 su,.int .i64 sh,.int .i64 ba] 37)).alloc (.cells #[.string pr,.int .i64 fu,.int .u8 ro,.int .u8 pu,.int .u8 su,.int .i64 sh,.int .i64 ba,.int .u8 0,.int .u16 0,.int .u16 0,.int .u16 0,.int .u16 0,.int .u16 0,.int .u16 0,.int .u16 0,.int .u16 0,.slice none 0 0,.slice none 0 0,.slice none 0 0,.int .i64 0,.int .u8 0] 88)).drew).ownsRow w.heap.size 88 21 (.slice ta k tc) k (newCells (ms.take k))):=(HO.out.alloc _).alloc _;have HKEY:Hid (∀v3 w3,World.ownsRow w3 w.heap.size 88 21 v3 (k+1) (newCells (ms.take k)++[.string pr,.int .i64 fu,.int .u8 ro,.int .u8 pu,.int .u8 su,.int .i64 sh,.int .i64 ba,.int .u8 0,.int .u16 0,.int .u16 0,.int .u16 0,.int .u16 0,.int .u16 0,.int .u16 0,.int .u16 0,.int .u16 0,.slice none 0 0,.slice none 0 0,.slice none 0 0,.int .i64 0,.int .u8 0])→World.grownBy (((wr.alloc (.cells #[.string pr,.int .i64 fu,.int .u8 ro,.int .u8 pu,.int .u8 su,.int .i64 sh,.int .i64 ba] 37)).alloc (.cells #[.string pr,.int .i64 fu,.int .u8 ro,.int .u8 pu,.int .u8 su,.int .i64 sh,.int .i64 ba,.int .u8 0,.int .u16 0,.int .u16 0,.int .u16 0,.int .u16 0,.int .u16 0,.int .u16 0,.int .u16 0,.int .u16 0,.slice none 0 0,.slice none 0 0,.slice none 0 0,.int .i64 0,.int .u8 0] 88)).drew) w3 (Value.ownBlock (.slice ta k tc))→∃to3 tc3,v3= .slice to3 (k+1) tc3∧w3.cell? ⟨hp,2,none⟩=some (.slice ta k tc)∧w3.frozen? ⟨hp,2,none⟩=false∧Hid (Below w.heap.size w (w3.setCell ⟨hp,2,none⟩ (.slice to3 (k+1) tc3)))∧Hid (Blk (w3.setCell ⟨hp,2,none⟩ (.slice to3 (k+1) tc3)) hp #[.int .u8 0,.int .i64 0,.slice to3 (k+1) tc3] 86)∧Hid ((w3.setCell ⟨hp,2,none⟩ (.slice to3 (k+1) tc3)).ownsRow w.heap.size 88 21 (.slice to3 (k+1) tc3) (k+1) (newCells (ms.take (k+1))))):=by
    intro v3 w3 ho3 hg3;obtain⟨to3,tc3,rfl⟩:=own_is ho3;have hh0:=HH.out;have hh1:Blk (((wr.alloc (.cells #[.string pr,.int .i64 fu,.int .u8 ro,.int .u8 pu,.int .u8 su,.int .i64 sh,.int .i64 ba] 37)).alloc (.cells #[.string pr,.int .i64 fu,.int .u8 ro,.int .u8 pu,.int .u8 su,.int .i64 sh,.int .i64 ba,.int .u8 0,.int .u16 0,.int .u16 0,.int .u16 0,.int .u16 0,.int .u16 0,.int .u16 0,.int .u16 0,.int .u16 0,.slice none 0 0,.slice none 0 0,.slice none 0 0,.int .i64 0,.int .u8 0] 88)).drew) hp #[.int .u8 0,.int .i64 0,.slice ta k tc] 86:=by have q:=hh0.below (B:=wr.heap.size) ((((Below.refl wr.heap.size wr).alloc (Nat.le_refl _) (.cells #[.string pr,.int .i64 fu,.int .u8 ro,.int .u8 pu,.int .u8 su,.int .i64 sh,.int .i64 ba] 37)).alloc (by simp) (.cells #[.string pr,.int .i64 fu,.int .u8 ro,.int .u8 pu,.int .u8 su,.int .i64 sh,.int .i64 ba,.int .u8 0,.int .u16 0,.int .u16 0,.int .u16 0,.int .u16 0,.int .u16 0,.int .u16 0,.int .u16 0,.int .u16 0,.slice none 0 0,.slice none 0 0,.slice none 0 0,.int .i64 0,.int .u8 0] 88)).drew) hhl;exact q
    have hh3:Blk w3 hp #[.int .u8 0,.int .i64 0,.slice ta k tc] 86:=hh1.grown hg3 (fun e=>hh1.ne_own HOd.out (by decide) e);refine⟨to3,tc3,rfl,by rw[hh3.cell 2];rfl,hh3.free 2,?_,hh3.set 2 _,?_⟩
    ·refine Below.setCell ?_ (by simp only;omega) _;have hB0:Below w.heap.size w (((wr.alloc (.cells #[.string pr,.int .i64 fu,.int .u8 ro,.int .u8 pu,.int .u8 su,.int .i64 sh,.int .i64 ba] 37)).alloc (.cells #[.string pr,.int .i64 fu,.int .u8 ro,.int .u8 pu,.int .u8 su,.int .i64 sh,.int .i64 ba,.int .u8 0,.int .u16 0,.int .u16 0,.int .u16 0,.int .u16 0,.int .u16 0,.int .u16 0,.int .u16 0,.int .u16 0,.slice none 0 0,.slice none 0 0,.slice none 0 0,.int .i64 0,.int .u8 0] 88)).drew):=((HB.out.alloc hsz _).alloc (by simp;omega) _).drew;exact hB0.grown hg3 (by simp;omega) (fun z hz=>(HO.out.lt z hz).1)
    ·refine ownsRow_setCell_other ?_ (fun e=>?_) _
     ·rw[HTk.out];exact ho3
     ·exact hh3.ne_own ho3 (by decide) e.symm
   clear hm hrow hmc hnews;go_wp2_with fail;go_region_law (refine step_append_mine rfl (.tmp 22) (.tmp 25) 84 rfl w.heap.size 88 i0 (.agg #[.string ⟨#[]⟩,.int .i64 0,.int .u8 0,.int .u8 0,.int .u8 0,.int .i64 0,.int .i64 0,.int .u8 0,.int .u16 0,.int .u16 0,.int .u16 0,.int .u16 0,.int .u16 0,.int .u16 0,.int .u16 0,.int .u16 0,.slice none 0 0,.slice none 0 0,.slice none 0 0,.int .i64 0,.int .u8 0]) 21 160 Tryz.underlying84 hi hz0 hz1 hz2 rfl (by decide) (.slice ta k tc) k (newCells (ms.take k)) (by simp[Act.eval]) HOd.out ⟨wr.heap.size+1,0,none⟩ 1 1 [.string pr,.int .i64 fu,.int .u8 ro,.int .u8 pu,.int .u8 su,.int .i64 sh,.int .i64 ba,.int .u8 0,.int .u16 0,.int .u16 0,.int .u16 0,.int .u16 0,.int .u16 0,.int .u16 0,.int .u16 0,.int .u16 0,.slice none 0 0,.slice none 0 0,.slice none 0 0,.int .i64 0,.int .u8 0] (by simp[Act.eval]) rfl HNw.out hone.out (by unfold maxLen;omega) (by omega) (by simp;omega) ?_;intro v3 w3 hown3 hg3;obtain⟨to3,tc3,hv3,q2,p2,HB3,HH3,HO3⟩:=HKEY.out v3 w3 hown3 hg3;rw[hv3];clear hown3 hg3 hv3)
   all_goals
    go_wp2;go_roundw
    case rel=>exact⟨k+1,tc3,to3,by omega,by go_num,HB3,HH3,HO3⟩
    case measure=>simp[intOf];omega
  ·have hkn:k=n:=by omega
   have HOn:Hid (wr.ownsRow w.heap.size 88 21 (.slice ta n tc) n (newCells ms)):=by have q:=HO.out;rw[hkn,List.take_of_length_le (by rw[Hn.out];exact Nat.le_refl _)] at q;exact q
   subst hkn;have hki:¬(k:Int)<(k:Int):=by omega
   go_wp2;go_ret2;obtain⟨g,rfl⟩:∃g,ta=some ⟨g,0,none⟩:=by
    rcases HOn.out.2 with ⟨h,h0⟩|⟨g,cp,cur,hv,_⟩
    ·omega
    ·simp only[Value.slice.injEq] at hv;exact⟨g,hv.1⟩
   refine⟨hp,rfl,g,tc,ms.map fun _=>nilVs,?_,?_,HB.out⟩
   ·have q1:=HH.out;have q2:=HOn.out;rw[←Hn.out] at q1 q2;exact new_host q1 q2
   ·intro z hz;rcases hz with rfl|rfl|⟨v,hv,q⟩
    ·omega
    ·exact(HOn.out.lt _ rfl).1
    ·simp only[List.mem_map] at hv;obtain⟨_,_,rfl⟩:=hv;simp[nilVs,Value.ownBlock] at q
end Go.Proofs.YtidaflmmldefcaaGreat
