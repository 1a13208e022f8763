/- Parts of the proof of Hosts: JSpotB. -/
import Derived.Test.YtidaflmmldefcaaGreatQ06
import Derived.ArgAppend
import Derived.Test.YtidaflmmldefcaaGreatQ05
set_option maxHeartbeats 1000000
namespace Go.Proofs.YtidaflmmldefcaaGreat
open Go.RowKit
set_option linter.unusedVariables false
def i64z (l:List Int):List Value:=l.map (Value.int .i64)
def stail (sv dv:Value) (M:H.Mach):List Value:=[.string M.text,.int .i64 M.chars,sv,dv,.int .i64 M.fault,.int .i64 M.draws,.int .i64 M.next]
def scells (pv sv dv:Value) (M:H.Mach):List Value:=pv::(i64z M.cells++stail sv dv M)
def PileAt (w:World) (base:Nat) (pv:Value) (st:List Int):Prop:=w.ownsRow base 3 1 pv st.length (i64z st)∨∃g cur,pv= .slice (some ⟨g,0,none⟩) st.length st.length∧base≤g∧Blk w g cur 3∧cur.toList.take st.length=i64z st∧st.length≤cur.size
structure SB (w:World) (base b:Nat) (pv sv dv:Value) (M:H.Mach):Prop where
 hb:base≤b
 hc:M.cells.length=8
 hst:M.st.length≤8
 blk:Blk w b (scells pv sv dv M).toArray 145
 pile:PileAt w base pv M.st
 shows:w.ownsRow base 132 2 sv M.shows.length (showCells M.shows)
 sends:w.ownsRow base 108 2 dv M.sends.length (sendCells M.sends)
structure SFr (base:Nat) (w w':World):Prop where
 os:w'.os=w.os
 tape:w'.tape=w.tape
 output:w'.output=w.output
 size:w.heap.size≤w'.heap.size
 low:∀k,k<base→w'.heap[k]? =w.heap[k]?
 row:∀k cs t,Blk w k cs t→t≠145→t≠132→t≠108→t≠3→Blk w' k cs t
theorem SFr.refl (base:Nat) (w:World):SFr base w w:=⟨rfl,rfl,rfl,Nat.le_refl _,fun _ _=>rfl,fun _ _ _ h _ _ _ _=>h⟩
theorem SFr.trans {base:Nat} {a b c:World} (h:SFr base a b) (k:SFr base b c):SFr base a c:=⟨k.os.trans h.os,k.tape.trans h.tape,k.output.trans h.output,Nat.le_trans h.size k.size,fun i hi=>(k.low i hi).trans (h.low i hi),fun i cs t hb h1 h2 h3 h4=>k.row i cs t (h.row i cs t hb h1 h2 h3 h4) h1 h2 h3 h4⟩
theorem SFr.drewN {base:Nat} {a w:World} (h:SFr base a w) (n:Nat):SFr base a (w.drewN n):=⟨h.os,h.tape,h.output,h.size,h.low,h.row⟩
theorem SFr.drew {base:Nat} {a w:World} (h:SFr base a w):SFr base a w.drew:=⟨h.os,h.tape,h.output,h.size,h.low,h.row⟩
theorem SFr.alloc {base:Nat} {a w:World} (h:SFr base a w) (hb:base≤w.heap.size) (o:Obj):SFr base a (w.alloc o):=h.trans ⟨rfl,rfl,rfl,by simp,fun k hk=>Below.heap_alloc _ _ _ (by omega),fun k cs t hk _ _ _ _=>hk.alloc o⟩
theorem SFr.setCell {base:Nat} {a w:World} (h:SFr base a w) {p:Addr} {cs:Array Value} {t:TypeId} (hk:Blk w p.block cs t) (hp:base≤p.block) (ht:t=145∨t=132∨t=108∨t=3) (u:Value):SFr base a (w.setCell p u):=h.trans ⟨rfl,rfl,rfl,by simp[World.setCell],fun k hl=>Below.heap_setCell _ _ _ _ (by omega),fun k cs' t' hb h1 h2 h3 h4=>hb.other p u (by
  intro e;subst e;unfold Blk at hb hk;rw[hb] at hk;simp at hk;have e2:=hk.2;rcases ht with h|h|h|h
  ·exact h1 (e2.trans h)
  ·exact h2 (e2.trans h)
  ·exact h3 (e2.trans h)
  ·exact h4 (e2.trans h))⟩
theorem SFr.below {base:Nat} {w w':World} (h:SFr base w w'):Below base w w':=⟨h.os,h.tape,h.output,h.size,h.low⟩
theorem SFr.of_below {base:Nat} {a w w':World} (h:SFr base a w) (hb:Below w.heap.size w w') (hs:base≤w.heap.size):SFr base a w':=h.trans ⟨hb.os,hb.tape,hb.output,hb.size,fun k hk=>hb.block k (by omega),fun k cs t hk _ _ _ _=>hk.below hb hk.lt⟩
theorem SFr.app {w w1:World} {base e n s:Nat} {v:Value} {xs:List Value} (ho:w.ownsRow base e s v n xs) (he:e=132∨e=108∨e=3) (hg:w.grownBy w1 v.ownBlock) (hb:base≤w.heap.size):SFr base w w1:=⟨hg.os,hg.tape,hg.output,hg.size,fun k hk=>hg.block k (by omega) (fun e'=>by have:=(ho.lt k e'.symm).1;omega),fun k cs t hk h1 h2 h3 h4=>hk.grown hg (hk.ne_own ho (by rcases he with rfl|rfl|rfl<;>assumption))⟩
theorem SFr.app_new {w w1:World} {base:Nat} (hg:w.grownBy w1 none) (hb:base≤w.heap.size):SFr base w w1:=⟨hg.os,hg.tape,hg.output,hg.size,fun k hk=>hg.block k (by omega) (by simp),fun k cs t hk h1 h2 h3 h4=>hk.grown hg (by simp)⟩
def SAft (w:World) (base b:Nat) (M':H.Mach) (w':World):Prop:=(∃pv sv dv,SB w' base b pv sv dv M')∧SFr base w w'
theorem i64z_length (l:List Int):(i64z l).length=l.length:=by simp[i64z]
theorem i64z_at {l:List Int} {i:Nat} (hi:i<l.length):(i64z l)[i]? =some (.int .i64 (l.getD i 0)):=by
 simp[i64z,List.getD,List.getElem?_eq_getElem hi]
section
variable {w : World} {base b : Nat} {pv sv dv : Value} {M : H.Mach}
theorem PileAt.shape {st:List Int} (h:PileAt w base pv st):∃ao cap,pv= .slice ao st.length cap∧(ao=none→st.length=0)∧(∀a,ao=some a→a=⟨a.block,0,none⟩∧base≤a.block∧st.length≤cap):=by
 rcases h with h|⟨g,cur,hv,hg,hk,ht,hl⟩
 ·rcases h.2 with ⟨hv,hn⟩|⟨g,cap,cur,hv,hg,hk,hn,_⟩
  ·exact⟨none,0,by rw[hn];exact hv,fun _=>hn,fun a ha=>by simp at ha⟩
  ·exact⟨some ⟨g,0,none⟩,cap,hv,fun h=>by simp at h,fun a ha=>by simp at ha;subst ha;exact⟨rfl,hg,hn⟩⟩
 ·exact⟨some ⟨g,0,none⟩,_,hv,fun h=>by simp at h,fun a ha=>by simp at ha;subst ha;exact⟨rfl,hg,Nat.le_refl _⟩⟩
theorem PileAt.cell {st:List Int} {g c:Nat} (h:PileAt w base (.slice (some ⟨g,0,none⟩) st.length c) st) (i:Nat) (hi:i<st.length):w.cell? ⟨g,i,none⟩=some (.int .i64 (st.getD i 0)):=by
 rcases h with h|⟨g',cur,hv,hg,hk,ht,hl⟩
 ·exact(h.cellAt i (by omega)).trans (i64z_at hi)
 ·simp at hv;obtain⟨rfl,_⟩:=hv;rw[hk.cell i,←i64z_at hi,←ht,List.getElem?_take,if_pos hi,Array.getElem?_toList]
theorem PileAt.keep {st:List Int} {w':World} (h:PileAt w base pv st) (hk:∀g cur,pv.ownBlock=some g→Blk w g cur 3→Blk w' g cur 3):PileAt w' base pv st:=by
 rcases h with h|⟨g,cur,hv,hg,hb,ht,hl⟩
 ·left;refine⟨h.1,?_⟩;rcases h.2 with ⟨hv,hn⟩|⟨g,cap,cur,hv,hg,hh,r⟩
  ·exact .inl ⟨hv,hn⟩
  ·exact .inr ⟨g,cap,cur,hv,hg,hk g cur (by rw[hv];rfl) hh,r⟩
 ·exact .inr ⟨g,cur,hv,hg,hk g cur (by rw[hv];rfl) hb,ht,hl⟩
theorem PileAt.other {st:List Int} (h:PileAt w base pv st) {p:Addr} {cs:Array Value} {t:TypeId} (hp:Blk w p.block cs t) (ht:t≠3) (u:Value):PileAt (w.setCell p u) base pv st:=h.keep fun g cur _ hb=>hb.other p u (by
  intro e;subst e;unfold Blk at hb hp;rw[hb] at hp;simp at hp;exact ht hp.2.symm)
theorem PileAt.alloc {st:List Int} (h:PileAt w base pv st) (o:Obj):PileAt (w.alloc o) base pv st:=h.keep fun g cur _ hb=>hb.alloc o
theorem PileAt.below {st:List Int} (h:PileAt w base pv st) {w':World} (hb:Below w.heap.size w w'):PileAt w' base pv st:=h.keep fun g cur _ hk=>hk.below hb hk.lt
theorem PileAt.grown {st:List Int} (h:PileAt w base pv st) {w':World} {e s n:Nat} {v:Value} {xs:List Value} (ho:w.ownsRow base e s v n xs) (he:(3:Nat)≠e) (hg:w.grownBy w' v.ownBlock):PileAt w' base pv st:=h.keep fun g cur _ hk=>hk.grown hg (hk.ne_own ho he)
theorem scells_tail (hc:M.cells.length=8) (i:Nat):(scells pv sv dv M)[9+i]? =(stail sv dv M)[i]? :=by
 unfold scells;rw[show 9+i=(8+i)+1 by omega,List.getElem?_cons_succ,List.getElem?_append_right (by simp[i64z,hc])];simp[i64z,hc]
theorem SB.free (h:SB w base b pv sv dv M) (i:Nat):w.frozen? ⟨b,i,none⟩=false:=h.blk.free i
theorem SB.at (h:SB w base b pv sv dv M) (i:Nat):w.cell? ⟨b,i,none⟩=(scells pv sv dv M)[i]? :=by rw[h.blk.cell i];simp
theorem SB.c0 (h:SB w base b pv sv dv M):w.cell? ⟨b,0,none⟩=some pv:=by rw[h.at];rfl
theorem SB.ccell (h:SB w base b pv sv dv M) (i:Nat) (hi:i<8):w.cell? ⟨b,1+i,none⟩=some (.int .i64 (M.cells.getD i 0)):=by
 have hc:=h.hc;rw[h.at];unfold scells;rw[show 1+i=i+1 by omega,List.getElem?_cons_succ,List.getElem?_append_left (by simp[i64z,hc,hi])];exact i64z_at (by omega)
theorem SB.c9 (h:SB w base b pv sv dv M):w.cell? ⟨b,9,none⟩=some (.string M.text):=by rw[h.at];exact scells_tail h.hc 0
theorem SB.c10 (h:SB w base b pv sv dv M):w.cell? ⟨b,10,none⟩=some (.int .i64 (M.chars:Int)):=by rw[h.at];exact scells_tail h.hc 1
theorem SB.c11 (h:SB w base b pv sv dv M):w.cell? ⟨b,11,none⟩=some sv:=by rw[h.at];exact scells_tail h.hc 2
theorem SB.c12 (h:SB w base b pv sv dv M):w.cell? ⟨b,12,none⟩=some dv:=by rw[h.at];exact scells_tail h.hc 3
theorem SB.c13 (h:SB w base b pv sv dv M):w.cell? ⟨b,13,none⟩=some (.int .i64 M.fault):=by rw[h.at];exact scells_tail h.hc 4
theorem SB.c14 (h:SB w base b pv sv dv M):w.cell? ⟨b,14,none⟩=some (.int .i64 (M.draws:Int)):=by rw[h.at];exact scells_tail h.hc 5
theorem SB.c15 (h:SB w base b pv sv dv M):w.cell? ⟨b,15,none⟩=some (.int .i64 M.next):=by rw[h.at];exact scells_tail h.hc 6
theorem SB.lt (h:SB w base b pv sv dv M):base≤w.heap.size:=by
 have:=h.blk.lt;have:=h.hb;omega
theorem SB.fr_set (h:SB w base b pv sv dv M) {a:World} (hf:SFr base a w) (i:Nat) (u:Value):SFr base a (w.setCell ⟨b,i,none⟩ u):=hf.setCell (p:=⟨b,i,none⟩) h.blk h.hb (.inl rfl) u
theorem SB.keep_own {e:Nat} (h:SB w base b pv sv dv M) (he:(145:Nat)≠e) {v:Value} {n:Nat} {xs:List Value} (ho:w.ownsRow base e 2 v n xs) (i:Nat) (u:Value):(w.setCell ⟨b,i,none⟩ u).ownsRow base e 2 v n xs:=ownsRow_setCell_other ho (fun e'=>h.blk.ne_own ho he e'.symm) u
theorem scells_set_tail (hc:M.cells.length=8) (i:Nat) (u:Value):(scells pv sv dv M).set (9+i) u=pv::(i64z M.cells++(stail sv dv M).set i u):=by
 unfold scells;rw[show 9+i=(8+i)+1 by omega,List.set_cons_succ,List.set_append_right _ _ (by simp[i64z,hc])];simp[i64z,hc]
theorem SB.set_tail (h:SB w base b pv sv dv M) (i:Nat) (u:Value) (M':H.Mach) (ht:(stail sv dv M).set i u=stail sv dv M') (hst:M'.st=M.st) (hcl:M'.cells=M.cells) (hsh:M'.shows=M.shows) (hse:M'.sends=M.sends): SB (w.setCell ⟨b,9+i,none⟩ u) base b pv sv dv M':=⟨h.hb,by rw[hcl];exact h.hc,by rw[hst];exact h.hst,blk_list (9+i) u h.blk (by rw[scells_set_tail h.hc,ht];unfold scells;rw[hcl]),by rw[hst];exact h.pile.other (p:=⟨b,9+i,none⟩) h.blk (by decide) u,by rw[hsh];exact h.keep_own (by decide) h.shows _ _,by rw[hse];exact h.keep_own (by decide) h.sends _ _⟩
theorem SB.set_text (h:SB w base b pv sv dv M) (s:ByteArray):SB (w.setCell ⟨b,9,none⟩ (.string s)) base b pv sv dv {M with text:=s}:=h.set_tail 0 _ _ rfl rfl rfl rfl rfl
theorem SB.set_chars (h:SB w base b pv sv dv M) (n:Nat):SB (w.setCell ⟨b,10,none⟩ (.int .i64 (n:Int))) base b pv sv dv {M with chars:=n}:=h.set_tail 1 _ _ rfl rfl rfl rfl rfl
theorem SB.set_fault (h:SB w base b pv sv dv M) (n:Int):SB (w.setCell ⟨b,13,none⟩ (.int .i64 n)) base b pv sv dv {M with fault:=n}:=h.set_tail 4 _ _ rfl rfl rfl rfl rfl
theorem SB.set_draws (h:SB w base b pv sv dv M) (n:Nat):SB (w.setCell ⟨b,14,none⟩ (.int .i64 (n:Int))) base b pv sv dv {M with draws:=n}:=h.set_tail 5 _ _ rfl rfl rfl rfl rfl
theorem SB.set_next (h:SB w base b pv sv dv M) (n:Int):SB (w.setCell ⟨b,15,none⟩ (.int .i64 n)) base b pv sv dv {M with next:=n}:=h.set_tail 6 _ _ rfl rfl rfl rfl rfl
theorem SB.set_cell (h:SB w base b pv sv dv M) (i:Nat) (hi:i<8) (v:Int):SB (w.setCell ⟨b,1+i,none⟩ (.int .i64 v)) base b pv sv dv {M with cells:=M.cells.set i v}:=by
 have hc:=h.hc;refine⟨h.hb,by simp[hc],h.hst,?_,h.pile.other (p:=⟨b,1+i,none⟩) h.blk (by decide) _,h.keep_own (by decide) h.shows _ _,h.keep_own (by decide) h.sends _ _⟩;refine blk_list (1+i) _ h.blk ?_;unfold scells;rw[show 1+i=i+1 by omega,List.set_cons_succ,List.set_append_left _ _ (by simp[i64z,hc,hi])];simp[i64z,List.map_set,stail]
theorem SB.other (h:SB w base b pv sv dv M) (n:Nat) (x:Bool):SB w base b pv sv dv {M with steps:=n,ended:=x}:=⟨h.hb,h.hc,h.hst,h.blk,h.pile,h.shows,h.sends⟩
theorem SB.set_pile {w1:World} {pv1:Value} {st:List Int} (h:SB w base b pv sv dv M) (hl:st.length≤8) (b1:Blk w1 b (scells pv sv dv M).toArray 145) (hp:PileAt w1 base pv1 st) (o1:w1.ownsRow base 132 2 sv M.shows.length (showCells M.shows)) (o2:w1.ownsRow base 108 2 dv M.sends.length (sendCells M.sends)): SB (w1.setCell ⟨b,0,none⟩ pv1) base b pv1 sv dv {M with st:=st}:=⟨h.hb,h.hc,hl,blk_list 0 _ b1 rfl,hp.other (p:=⟨b,0,none⟩) b1 (by decide) _,ownsRow_setCell_other o1 (fun e=>b1.ne_own o1 (by decide) e.symm) _,ownsRow_setCell_other o2 (fun e=>b1.ne_own o2 (by decide) e.symm) _⟩
theorem SB.drewN (h:SB w base b pv sv dv M) (n:Nat):SB (w.drewN n) base b pv sv dv M:=⟨h.hb,h.hc,h.hst,h.blk,h.pile,h.shows,h.sends⟩
theorem SB.drew (h:SB w base b pv sv dv M):SB w.drew base b pv sv dv M:=⟨h.hb,h.hc,h.hst,h.blk,h.pile,h.shows,h.sends⟩
theorem SB.alloc (h:SB w base b pv sv dv M) (o:Obj):SB (w.alloc o) base b pv sv dv M:=⟨h.hb,h.hc,h.hst,h.blk.alloc o,h.pile.alloc o,h.shows.alloc o,h.sends.alloc o⟩
theorem SB.of_below (h:SB w base b pv sv dv M) {w':World} (hb:Below w.heap.size w w'):SB w' base b pv sv dv M:=⟨h.hb,h.hc,h.hst,h.blk.below hb h.blk.lt,h.pile.below hb,own_below' h.shows hb (Nat.le_refl _),own_below' h.sends hb (Nat.le_refl _)⟩
theorem SB.app_own {w1:World} {pv1:Value} (h:SB w base b pv sv dv M) (v:Int) (hl:M.st.length<8) (ho:w.ownsRow base 3 1 pv M.st.length (i64z M.st)) (hown:w1.ownsRow base 3 1 pv1 (M.st.length+1) (i64z M.st++[.int .i64 v])) (hg:w.grownBy w1 pv.ownBlock): Blk w1 b (scells pv sv dv M).toArray 145∧SB (w1.setCell ⟨b,0,none⟩ pv1) base b pv1 sv dv {M with st:=M.st++[v]}∧SFr base w (w1.setCell ⟨b,0,none⟩ pv1):=by
 have b1:=h.blk.grown hg (h.blk.ne_own ho (by decide));have o1:=h.shows.kept hg (own_two h.shows ho (by decide));have o2:=h.sends.kept hg (own_two h.sends ho (by decide));refine⟨b1,h.set_pile (by simp;omega) b1 (.inl ?_) o1 o2,(SFr.app ho (.inr (.inr rfl)) hg h.lt).setCell (p:=⟨b,0,none⟩) b1 h.hb (.inl rfl) _⟩;have e:i64z (M.st++[v])=i64z M.st++[.int .i64 v]:=by simp[i64z]
 rw[e,List.length_append];exact hown
theorem SB.app_new {w1:World} {pv1:Value} (h:SB w base b pv sv dv M) (v:Int) (hl:M.st.length<8) (hown:w1.ownsRow w.heap.size 3 1 pv1 (M.st.length+1) (i64z M.st++[.int .i64 v])) (hg:w.grownBy w1 none): Blk w1 b (scells pv sv dv M).toArray 145∧SB (w1.setCell ⟨b,0,none⟩ pv1) base b pv1 sv dv {M with st:=M.st++[v]}∧SFr base w (w1.setCell ⟨b,0,none⟩ pv1):=by
 have b1:=h.blk.grown hg (by simp);have k1:∀{e s n:Nat} {v:Value} {xs:List Value},w.ownsRow base e s v n xs→w1.ownsRow base e s v n xs:=by
  intro e s n v xs ho;refine⟨ho.1,?_⟩;rcases ho.2 with h2|⟨g,cap,cur,hv,hg',hh,r⟩
  ·exact .inl h2
  ·exact .inr ⟨g,cap,cur,hv,hg',by rw[hg.block g (lt_of_block hh) (by simp)];exact hh,r⟩
 have hown':w1.ownsRow base 3 1 pv1 (M.st.length+1) (i64z M.st++[.int .i64 v]):=by
  refine⟨hown.1,?_⟩;rcases hown.2 with h2|⟨g,cap,cur,hv,hg',r⟩
  ·exact .inl h2
  ·exact .inr ⟨g,cap,cur,hv,Nat.le_trans h.lt hg',r⟩
 refine⟨b1,h.set_pile (by simp;omega) b1 (.inl ?_) (k1 h.shows) (k1 h.sends),(SFr.app_new hg h.lt).setCell (p:=⟨b,0,none⟩) b1 h.hb (.inl rfl) _⟩;have e:i64z (M.st++[v])=i64z M.st++[.int .i64 v]:=by simp[i64z]
 rw[e,List.length_append];exact hown'
theorem PileAt.head {st:List Int} {g c:Nat} (h:PileAt w base (.slice (some ⟨g,0,none⟩) st.length c) st) (k:Nat) (hk:k≤st.length):PileAt w base (.slice (some ⟨g,0,none⟩) k k) (st.take k):=by
 have hm:min k st.length=k:=by omega
 rcases h with h|⟨g',cur,hv,hg,hb,ht,hl⟩
 ·rcases h.2 with ⟨hv,hn⟩|⟨g',cap,cur,hv,hg,hh,hn,_,hsz,ht⟩
  ·simp at hv
  ·simp at hv;obtain⟨rfl,_⟩:=hv;refine .inr ⟨g,cur,by simp[hm],hg,hh,?_,by simp;omega⟩;simp only[List.length_take,hm];rw[Nat.mul_one] at ht;have:cur.toList.take k=(cur.toList.take st.length).take k:=by rw[List.take_take,hm]
   rw[this,ht];simp[i64z,List.map_take]
 ·simp at hv;obtain⟨rfl,_⟩:=hv;refine .inr ⟨g,cur,by simp[hm],hg,hb,?_,by simp;omega⟩;simp only[List.length_take,hm];have:cur.toList.take k=(cur.toList.take st.length).take k:=by rw[List.take_take,hm]
  rw[this,ht];simp[i64z,List.map_take]
theorem SB.take (h:SB w base b pv sv dv M) {g c:Nat} (hv:pv= .slice (some ⟨g,0,none⟩) M.st.length c) (k:Nat) (hk:k≤M.st.length):SB (w.setCell ⟨b,0,none⟩ (.slice (some ⟨g,0,none⟩) k k)) base b (.slice (some ⟨g,0,none⟩) k k) sv dv {M with st:=M.st.take k}:=by
 have hp:=h.pile;rw[hv] at hp;have:=h.hst;exact h.set_pile (by simp;omega) h.blk (hp.head k hk) h.shows h.sends
end
theorem info3s:(Tryz.prog.info? 3).map (fun i=>(i.zero,i.size,i.bytes))=some (some (.int .i64 0),1,8):=by kernel_rfl
set_option maxRecDepth 100000
theorem lay_full {w:World} {base b:Nat} {pv sv dv:Value} {M:H.Mach} (h:SB w base b pv sv dv M) (v:Int) (hl:8≤M.st.length): Calls Tryz.prog 77 #[.pointer (some ⟨b,0,none⟩),.int .i64 v] w fun e w'=>e= .returned (.tuple #[])∧SAft w base b (H.push v M) w':=by
 have c0:=h.c0;have c13:=h.c13;have fz:=h.free 13;obtain⟨ao,cap,hv,_⟩:=h.pile.shape;rw[hv] at c0;have hl2:(8:Int)≤(M.st.length:Int):=by omega
 go_enter Tryz.func77,Tryz.ntmps77;go_wp2;exact bodyPost_ret (v:= .tuple #[]) (by simp[results,Tryz.results77]) rfl ⟨rfl,by rw[push_eq_full hl];exact⟨⟨_,_,_,h.set_fault 2⟩,h.fr_set (SFr.refl _ _) _ _⟩⟩
theorem lay_own {w:World} {base b:Nat} {pv sv dv:Value} {M:H.Mach} (h:SB w base b pv sv dv M) (v:Int) (hl:M.st.length<8) (ho:w.ownsRow base 3 1 pv M.st.length (i64z M.st)): Calls Tryz.prog 77 #[.pointer (some ⟨b,0,none⟩),.int .i64 v] w fun e w'=>e= .returned (.tuple #[])∧SAft w base b (H.push v M) w':=by
 obtain⟨i0,hi,hz0,hz1,hz2⟩:=info_parts info3s;have HP:Hid (SB w base b pv sv dv M):=h;have HE:Hid (H.push v M={M with st:=M.st++[v]}):=push_eq_room hl;have hlt:=h.lt;have hbl:=h.blk.lt;obtain⟨ao,cv,hpv⟩:=own_shape ho;have HPV:Hid (pv= .slice ao M.st.length cv):=hpv;have HL:Hid (M.st.length<8):=hl;have c0:=h.c0;have f0:=h.free 0;rw[hpv] at c0 ho;have HO:Hid (w.ownsRow base 3 1 (.slice ao M.st.length cv) M.st.length (i64z M.st)):=ho;obtain⟨n,hn⟩:∃n,n=M.st.length:=⟨_,rfl⟩;rw[←hn] at c0 HO hl;have Hn:Hid (n=M.st.length):=hn;have hl2:¬(8:Int)≤(n:Int):=by omega
 clear h hpv ho hn;go_enter Tryz.func77,Tryz.ntmps77;go_wp2_with (at_builtin;refine wpList_append_own _ rfl (.tmp 17) (.tmp 19) 49 rfl base 3 i0 (.int .i64 0) 1 8 Tryz.underlying49 hi hz0 hz1 hz2 rfl (by decide) _ _ _ rfl (HO.out.alloc _) ⟨w.heap.size,0,none⟩ 1 1 [.int .i64 v] rfl rfl (new_one _ _ _) (by intro u hu;simp at hu;subst hu;rfl) (by unfold maxLen;omega) (by omega) (by simp;omega) ?_);intro v3 w3 hown3 hg3 _;obtain⟨ao3,c3,hv3⟩:=own_shape hown3;have hma:=(HP.out.alloc (.cells #[.int .i64 v] 3)).app_own v (pv1:=v3) (w1:=w3) HL.out (by rw[HPV.out];have:=HO.out.alloc (.cells #[.int .i64 v] 3);rw[Hn.out] at this;exact this) (by rw[←Hn.out];exact hown3) (by rw[HPV.out,←Hn.out];exact hg3);have HB3:=hma.1;have hm3:=hma.2.1;have hf3:=hma.2.2;rw[hv3] at hm3 hf3 ⊢;have d0:w3.cell? ⟨b,0,none⟩=some pv:=by rw[HB3.cell 0,List.getElem?_toArray];rfl
 have e0:=HB3.free 0;rw[HPV.out] at d0;have HM3:Hid (SB (w3.setCell ⟨b,0,none⟩ (.slice ao3 (n+1) c3)) base b (.slice ao3 (n+1) c3) sv dv {M with st:=M.st++[v]}):=hm3;have HF3:Hid (SFr base w (w3.setCell ⟨b,0,none⟩ (.slice ao3 (n+1) c3))):=((SFr.refl base w).alloc hlt _).trans hf3;clear hma HB3 hm3 hf3 hv3 hown3 hg3 HO c0 f0;go_wp2;go_end0;exact⟨rfl,by rw[HE.out];exact⟨⟨_,_,_,HM3.out⟩,HF3.out⟩⟩
theorem lay_new {w:World} {base b:Nat} {pv sv dv:Value} {M:H.Mach} (h:SB w base b pv sv dv M) (v:Int) (hl:M.st.length<8) {g:Nat} (hpv:pv= .slice (some ⟨g,0,none⟩) M.st.length M.st.length): Calls Tryz.prog 77 #[.pointer (some ⟨b,0,none⟩),.int .i64 v] w fun e w'=>e= .returned (.tuple #[])∧SAft w base b (H.push v M) w':=by
 obtain⟨i0,hi,hz0,hz1,hz2⟩:=info_parts info3s;have HP:Hid (SB w base b pv sv dv M):=h;have HE:Hid (H.push v M={M with st:=M.st++[v]}):=push_eq_room hl;have hlt:=h.lt;have hbl:=h.blk.lt;have HPV:Hid (pv= .slice (some ⟨g,0,none⟩) M.st.length M.st.length):=hpv;have HL:Hid (M.st.length<8):=hl;have c0:=h.c0;have f0:=h.free 0;rw[hpv] at c0;have HC:Hid (∀bb,some (⟨g,0,none⟩:Addr)=some bb→∀j u,(i64z M.st)[j]? =some u→(w.alloc (.cells #[.int .i64 v] 3)).cell? (bb.add j)=some u):=by
  intro bb hbb j u hj;simp at hbb;subst hbb;have hj2:j<M.st.length:=by have:=(List.getElem?_eq_some_iff.1 hj).1;rw[i64z_length] at this;exact this
  have hp:=(h.alloc (.cells #[.int .i64 v] 3)).pile;rw[hpv] at hp;have hcc:=hp.cell j hj2;rw[i64z_at hj2] at hj;have ea:(⟨g,0,none⟩:Addr).add j=⟨g,j,none⟩:=by
   simp only[Addr.add,Nat.zero_add];split
   ·rename_i h0;subst h0;rfl
   ·rfl
  rw[ea,hcc];exact hj
 obtain⟨n,hn⟩:∃n,n=M.st.length:=⟨_,rfl⟩;rw[←hn] at c0 hl;have Hn:Hid (n=M.st.length):=hn;have HN:Hid ((i64z M.st).length=n*1):=by unfold Hid;rw[i64z_length,hn,Nat.mul_one]
 have hl2:¬(8:Int)≤(n:Int):=by omega
 clear h hpv hn;go_enter Tryz.func77,Tryz.ntmps77;go_wp2_with (at_builtin;refine wpList_append_grows _ rfl (.tmp 17) (.tmp 19) 49 rfl 3 i0 (.int .i64 0) 1 8 Tryz.underlying49 hi hz0 hz1 hz2 rfl (by decide) (some ⟨g,0,none⟩) n n (i64z M.st) rfl (by simp) HN.out HC.out ⟨w.heap.size,0,none⟩ 1 1 [.int .i64 v] rfl rfl (new_one _ _ _) (by intro u hu;simp at hu;subst hu;rfl) (by omega) (by unfold maxLen;omega) (by omega) ?_);intro v3 w3 hown3 hg3;obtain⟨ao3,c3,hv3⟩:=own_shape hown3;have hma:=(HP.out.alloc (.cells #[.int .i64 v] 3)).app_new v (pv1:=v3) (w1:=w3) HL.out (by rw[←Hn.out,show(w.alloc (.cells #[.int .i64 v] 3)).heap.size=w.heap.size+1 by simp];exact hown3) hg3;have HB3:=hma.1;have hm3:=hma.2.1;have hf3:=hma.2.2;rw[hv3] at hm3 hf3 ⊢;have d0:w3.cell? ⟨b,0,none⟩=some pv:=by rw[HB3.cell 0,List.getElem?_toArray];rfl
 have e0:=HB3.free 0;rw[HPV.out] at d0;have HM3:Hid (SB (w3.setCell ⟨b,0,none⟩ (.slice ao3 (n+1) c3)) base b (.slice ao3 (n+1) c3) sv dv {M with st:=M.st++[v]}):=hm3;have HF3:Hid (SFr base w (w3.setCell ⟨b,0,none⟩ (.slice ao3 (n+1) c3))):=((SFr.refl base w).alloc hlt _).trans hf3;clear hma HB3 hm3 hf3 hv3 hown3 hg3 c0 f0 HC;go_wp2;go_end0;exact⟨rfl,by rw[HE.out];exact⟨⟨_,_,_,HM3.out⟩,HF3.out⟩⟩
theorem lay_any {w:World} {base b:Nat} {pv sv dv:Value} {M:H.Mach} (h:SB w base b pv sv dv M) (v:Int): Calls Tryz.prog 77 #[.pointer (some ⟨b,0,none⟩),.int .i64 v] w fun e w'=>e= .returned (.tuple #[])∧SAft w base b (H.push v M) w':=by
 by_cases hl:8≤M.st.length
 ·exact lay_full h v hl
 ·rcases h.pile with ho|⟨g,cur,hv,_⟩
  ·exact lay_own h v (by omega) ho
  ·exact lay_new h v (by omega) hv
end Go.Proofs.YtidaflmmldefcaaGreat
namespace Go.Proofs.YtidaflmmldefcaaGreat
open Go.RowKit
set_option linter.unusedVariables false
set_option maxRecDepth 100000
theorem take_few {w:World} {base b:Nat} {pv sv dv:Value} {M:H.Mach} (h:SB w base b pv sv dv M) (n:Nat) (hn:n≤2) (hl:M.st.length<n): Calls Tryz.prog 78 #[.pointer (some ⟨b,0,none⟩),.int .i64 n] w fun e w'=>e= .returned (.tuple #[.slice none 0 0,.bool false])∧SAft w base b {M with fault:=2} w':=by
 have c0:=h.c0;have c13:=h.c13;have fz:=h.free 13;obtain⟨ao,cap,hv,_⟩:=h.pile.shape;rw[hv] at c0;have hl2:(M.st.length:Int)-(n:Int)<0:=by omega
 have hw:IntKind.i64.wrap ((M.st.length:Int)-(n:Int))=(M.st.length:Int)-(n:Int):=by rw[IntKind.wrap_i64];omega
 go_enter Tryz.func78,Tryz.ntmps78;go_wp2;go_ret2;exact⟨rfl,⟨⟨_,_,_,h.set_fault 2⟩,h.fr_set (SFr.refl _ _) _ _⟩⟩
theorem take_some {w:World} {base b:Nat} {pv sv dv:Value} {M:H.Mach} (h:SB w base b pv sv dv M) (k n:Nat) (hn:0<n) (hl:M.st.length=k+n): Calls Tryz.prog 78 #[.pointer (some ⟨b,0,none⟩),.int .i64 n] w fun e w'=>∃g c,e= .returned (.tuple #[.slice (some ⟨g,k,none⟩) n c,.bool true])∧(∀i,i<n→w'.cell? ⟨g,k+i,none⟩=some (.int .i64 (M.st.getD (k+i) 0)))∧SAft w base b {M with st:=M.st.take k} w':=by
 have hst:=h.hst;have c0:=h.c0;have f0:=h.free 0;obtain⟨ao,cap,hv,hno,hso⟩:=h.pile.shape;cases ao with
 |none=>have:=hno rfl;omega
 |some a=>
  obtain⟨ha,hba,hcap⟩:=hso a rfl;obtain⟨g,hg⟩:∃g,g=a.block:=⟨_,rfl⟩;rw[←hg] at ha;subst ha;have hp:=h.pile;rw[hv] at hp;have HC0:=hp.cell;have HT:=h.take hv k (by omega);have HF:=h.fr_set (SFr.refl _ _) 0 (.slice (some ⟨g,0,none⟩) k k);have hgb:g≠b:=by intro e;have h1:=h.c0;have h2:=HC0 0 (by omega);rw[e,h1,hv] at h2;simp at h2
  have HC:Hid (∀i,i<n→(w.setCell ⟨b,0,none⟩ (.slice (some ⟨g,0,none⟩) k k)).cell? ⟨g,k+i,none⟩=some (.int .i64 (M.st.getD (k+i) 0))):=by intro i hi;have hq:=HT.pile;have:=HC0 (k+i) (by omega);rw[←this];simp[World.cell?,Below.heap_setCell w ⟨b,0,none⟩ _ g hgb]
  have HS:Hid (SAft w base b {M with st:=M.st.take k} (w.setCell ⟨b,0,none⟩ (.slice (some ⟨g,0,none⟩) k k))):=⟨⟨_,_,_,HT⟩,HF⟩;rw[hv,hl] at c0;rw[hl] at hcap;have hw:IntKind.i64.wrap (((k+n:Nat):Int)-(n:Int))=(k:Int):=by rw[IntKind.wrap_i64];omega
  have h0:¬(k:Int)<0:=by omega
  have h1:(k:Int)≤((k+n:Nat):Int):=by omega
  have h2:(k:Int)≤(cap:Int):=by omega
  have h3:¬cap=k:=by omega
  have h4:k+n-k=n:=by omega
  clear HC0 HT HF hp hno hso;go_enter Tryz.func78,Tryz.ntmps78;go_wp2;go_ret2;exact⟨g,cap-k,rfl,HC.out,HS.out⟩
end Go.Proofs.YtidaflmmldefcaaGreat
