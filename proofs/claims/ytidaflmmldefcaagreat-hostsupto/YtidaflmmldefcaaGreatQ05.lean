/- Parts of the proof of Hosts: MBlk, Push, Meth, Comb, Meth2, MApp. -/
import Derived.Test.YtidaflmmldefcaaGreatQ01
import Derived.Test.YtidaflmmldefcaaGreatQ04
import Derived.Test.YtidaflmmldefcaaGreatProg
import Derived.Deep.QuietTactic
import Derived.BigQuiet
import Derived.BigRegion
import Derived.RegionTactic
import Derived.Laws.ShiftsVar
import Derived.Deep.RegionWith
import Derived.Deep.RegionLaw
set_option maxHeartbeats 1000000
namespace Go.Proofs.YtidaflmmldefcaaGreat
open Go.RowKit
set_option linter.unusedVariables false
def u16s (l:List Int):List Value:=l.map (Value.int .u16)
def mtail (sv dv:Value) (M:H.Mach):List Value:=[.string M.text,.int .i64 M.chars,sv,dv,.int .i64 M.next,.int .i64 M.steps,.int .i64 M.draws,.bool M.ended,.int .u8 M.fault]
def mcells (pile:List Int) (h:Nat) (sv dv:Value) (M:H.Mach):List Value:=u16s pile++(.int .i64 (h:Int)::(u16s M.cells++mtail sv dv M))
def showCells (l:List (Int×ByteArray)):List Value:=l.flatMap fun x=>[.int .u16 x.1,.string x.2]
def sendCells (l:List (Int×Int)):List Value:=l.flatMap fun x=>[.int .u8 x.1,.int .u16 x.2]
structure MB (w:World) (base b:Nat) (pile:List Int) (sv dv:Value) (M:H.Mach):Prop where
 hb:base≤b
 hp:pile.length=8
 hst:M.st.length≤8
 htk:pile.take M.st.length=M.st
 hc:M.cells.length=8
 blk:Blk w b (mcells pile M.st.length sv dv M).toArray 152
 shows:w.ownsRow base 132 2 sv M.shows.length (showCells M.shows)
 sends:w.ownsRow base 108 2 dv M.sends.length (sendCells M.sends)
structure Fr (base:Nat) (w w':World):Prop where
 os:w'.os=w.os
 tape:w'.tape=w.tape
 output:w'.output=w.output
 size:w.heap.size≤w'.heap.size
 low:∀k,k<base→w'.heap[k]? =w.heap[k]?
 row:∀k cs t,Blk w k cs t→t≠152→t≠132→t≠108→Blk w' k cs t
theorem Fr.refl (base:Nat) (w:World):Fr base w w:=⟨rfl,rfl,rfl,Nat.le_refl _,fun _ _=>rfl,fun _ _ _ h _ _ _=>h⟩
theorem Fr.trans {base:Nat} {a b c:World} (h:Fr base a b) (k:Fr base b c):Fr base a c:=⟨k.os.trans h.os,k.tape.trans h.tape,k.output.trans h.output,Nat.le_trans h.size k.size,fun i hi=>(k.low i hi).trans (h.low i hi),fun i cs t hb h1 h2 h3=>k.row i cs t (h.row i cs t hb h1 h2 h3) h1 h2 h3⟩
theorem Fr.drewN {base:Nat} {a w:World} (h:Fr base a w) (n:Nat):Fr base a (w.drewN n):=⟨h.os,h.tape,h.output,h.size,h.low,h.row⟩
theorem Fr.drew {base:Nat} {a w:World} (h:Fr base a w):Fr base a w.drew:=⟨h.os,h.tape,h.output,h.size,h.low,h.row⟩
theorem Fr.alloc {base:Nat} {a w:World} (h:Fr base a w) (hb:base≤w.heap.size) (o:Obj):Fr base a (w.alloc o):=h.trans ⟨rfl,rfl,rfl,by simp,fun k hk=>Below.heap_alloc _ _ _ (by omega),fun k cs t hk _ _ _=>hk.alloc o⟩
theorem Fr.setCell {base:Nat} {a w:World} (h:Fr base a w) {p:Addr} {cs:Array Value} {t:TypeId} (hk:Blk w p.block cs t) (hp:base≤p.block) (ht:t=152∨t=132∨t=108) (u:Value):Fr base a (w.setCell p u):=h.trans ⟨rfl,rfl,rfl,by simp[World.setCell],fun k hl=>Below.heap_setCell _ _ _ _ (by omega),fun k cs' t' hb h1 h2 h3=>hb.other p u (by
  intro e;subst e;unfold Blk at hb hk;rw[hb] at hk;simp at hk;have e2:=hk.2;rcases ht with h|h|h
  ·exact h1 (e2.trans h)
  ·exact h2 (e2.trans h)
  ·exact h3 (e2.trans h))⟩
theorem Fr.below {base:Nat} {w w':World} (h:Fr base w w'):Below base w w':=⟨h.os,h.tape,h.output,h.size,h.low⟩
theorem Fr.of_below {base:Nat} {a w w':World} (h:Fr base a w) (hb:Below w.heap.size w w') (hs:base≤w.heap.size):Fr base a w':=h.trans ⟨hb.os,hb.tape,hb.output,hb.size,fun k hk=>hb.block k (by omega),fun k cs t hk _ _ _=>hk.below hb hk.lt⟩
section
variable {w : World} {base b : Nat} {pile : List Int} {sv dv : Value} {M : H.Mach}
theorem mcells_hi (hp:pile.length=8) (h i:Nat):(mcells pile h sv dv M)[8+(i+1)]? =(u16s M.cells++mtail sv dv M)[i]? :=by
 unfold mcells;rw[List.getElem?_append_right (by simp[u16s,hp])];simp[u16s,hp]
theorem mcells_tail (hp:pile.length=8) (hc:M.cells.length=8) (h i:Nat):(mcells pile h sv dv M)[17+i]? =(mtail sv dv M)[i]? :=by
 rw[show 17+i=8+((8+i)+1) by omega,mcells_hi hp,List.getElem?_append_right (by simp[u16s,hc])];simp[u16s,hc]
theorem MB.free (h:MB w base b pile sv dv M) (i:Nat):w.frozen? ⟨b,i,none⟩=false:=h.blk.free i
theorem MB.at (h:MB w base b pile sv dv M) (i:Nat):w.cell? ⟨b,i,none⟩=(mcells pile M.st.length sv dv M)[i]? :=by
 rw[h.blk.cell i];simp
theorem MB.c8 (h:MB w base b pile sv dv M):w.cell? ⟨b,8,none⟩=some (.int .i64 (M.st.length:Int)):=by
 rw[h.at];unfold mcells;rw[List.getElem?_append_right (by simp[u16s,h.hp])];simp[u16s,h.hp]
theorem MB.cpile (h:MB w base b pile sv dv M) (i:Nat) (hi:i<8):w.cell? ⟨b,i,none⟩=some (.int .u16 (pile.getD i 0)):=by
 have hp:=h.hp;rw[h.at];unfold mcells;rw[List.getElem?_append_left (by simp[u16s,hp,hi])];simp[u16s,List.getD,List.getElem?_eq_getElem (show i<pile.length by omega)]
theorem MB.ccell (h:MB w base b pile sv dv M) (i:Nat) (hi:i<8):w.cell? ⟨b,9+i,none⟩=some (.int .u16 (M.cells.getD i 0)):=by
 have hc:=h.hc;rw[h.at,show 9+i=8+(i+1) by omega,mcells_hi h.hp,List.getElem?_append_left (by simp[u16s,hc,hi])];simp[u16s,List.getD,List.getElem?_eq_getElem (show i<M.cells.length by omega)]
theorem MB.c17 (h:MB w base b pile sv dv M):w.cell? ⟨b,17,none⟩=some (.string M.text):=by rw[h.at];exact mcells_tail h.hp h.hc _ 0
theorem MB.c18 (h:MB w base b pile sv dv M):w.cell? ⟨b,18,none⟩=some (.int .i64 (M.chars:Int)):=by rw[h.at];exact mcells_tail h.hp h.hc _ 1
theorem MB.c19 (h:MB w base b pile sv dv M):w.cell? ⟨b,19,none⟩=some sv:=by rw[h.at];exact mcells_tail h.hp h.hc _ 2
theorem MB.c20 (h:MB w base b pile sv dv M):w.cell? ⟨b,20,none⟩=some dv:=by rw[h.at];exact mcells_tail h.hp h.hc _ 3
theorem MB.c21 (h:MB w base b pile sv dv M):w.cell? ⟨b,21,none⟩=some (.int .i64 M.next):=by rw[h.at];exact mcells_tail h.hp h.hc _ 4
theorem MB.c22 (h:MB w base b pile sv dv M):w.cell? ⟨b,22,none⟩=some (.int .i64 (M.steps:Int)):=by rw[h.at];exact mcells_tail h.hp h.hc _ 5
theorem MB.c23 (h:MB w base b pile sv dv M):w.cell? ⟨b,23,none⟩=some (.int .i64 (M.draws:Int)):=by rw[h.at];exact mcells_tail h.hp h.hc _ 6
theorem MB.c24 (h:MB w base b pile sv dv M):w.cell? ⟨b,24,none⟩=some (.bool M.ended):=by rw[h.at];exact mcells_tail h.hp h.hc _ 7
theorem MB.c25 (h:MB w base b pile sv dv M):w.cell? ⟨b,25,none⟩=some (.int .u8 M.fault):=by rw[h.at];exact mcells_tail h.hp h.hc _ 8
theorem MB.fr_set (h:MB w base b pile sv dv M) {a:World} (hf:Fr base a w) (i:Nat) (u:Value):Fr base a (w.setCell ⟨b,i,none⟩ u):=hf.setCell (p:=⟨b,i,none⟩) h.blk h.hb (.inl rfl) u
theorem MB.keep_own {e:Nat} (h:MB w base b pile sv dv M) (he:(152:Nat)≠e) {v:Value} {n:Nat} {xs:List Value} (ho:w.ownsRow base e 2 v n xs) (i:Nat) (u:Value):(w.setCell ⟨b,i,none⟩ u).ownsRow base e 2 v n xs:=ownsRow_setCell_other ho (fun e'=>h.blk.ne_own ho he e'.symm) u
theorem blk_list {w:World} {b t:Nat} {l l':List Value} (i:Nat) (u:Value) (h:Blk w b l.toArray t) (he:l.set i u=l'):Blk (w.setCell ⟨b,i,none⟩ u) b l'.toArray t:=by
 have:=h.set i u;rw[List.setIfInBounds_toArray,he] at this;exact this
theorem mcells_set_hi (hp:pile.length=8) (h i:Nat) (u:Value):(mcells pile h sv dv M).set (8+(i+1)) u=u16s pile++(.int .i64 (h:Int)::(u16s M.cells++mtail sv dv M).set i u):=by
 unfold mcells;rw[List.set_append_right _ _ (by simp[u16s,hp])];simp[u16s,hp]
theorem mcells_set_tail (hp:pile.length=8) (hc:M.cells.length=8) (h i:Nat) (u:Value):(mcells pile h sv dv M).set (17+i) u=u16s pile++(.int .i64 (h:Int)::(u16s M.cells++(mtail sv dv M).set i u)):=by
 rw[show 17+i=8+((8+i)+1) by omega,mcells_set_hi hp,List.set_append_right _ _ (by simp[u16s,hc])];simp[u16s,hc]
theorem MB.set_tail (h:MB w base b pile sv dv M) (i:Nat) (u:Value) (M':H.Mach) (ht:(mtail sv dv M).set i u=mtail sv dv M') (hst:M'.st=M.st) (hcl:M'.cells=M.cells) (hsh:M'.shows=M.shows) (hse:M'.sends=M.sends): MB (w.setCell ⟨b,17+i,none⟩ u) base b pile sv dv M':=⟨h.hb,h.hp,by rw[hst];exact h.hst,by rw[hst];exact h.htk,by rw[hcl];exact h.hc,blk_list (17+i) u h.blk (by rw[mcells_set_tail h.hp h.hc,ht,hst];unfold mcells;rw[hcl]),by rw[hsh];exact h.keep_own (by decide) h.shows _ _,by rw[hse];exact h.keep_own (by decide) h.sends _ _⟩
theorem MB.set_text (h:MB w base b pile sv dv M) (s:ByteArray):MB (w.setCell ⟨b,17,none⟩ (.string s)) base b pile sv dv {M with text:=s}:=h.set_tail 0 _ _ rfl rfl rfl rfl rfl
theorem MB.set_chars (h:MB w base b pile sv dv M) (n:Nat):MB (w.setCell ⟨b,18,none⟩ (.int .i64 (n:Int))) base b pile sv dv {M with chars:=n}:=h.set_tail 1 _ _ rfl rfl rfl rfl rfl
theorem MB.set_next (h:MB w base b pile sv dv M) (n:Int):MB (w.setCell ⟨b,21,none⟩ (.int .i64 n)) base b pile sv dv {M with next:=n}:=h.set_tail 4 _ _ rfl rfl rfl rfl rfl
theorem MB.set_steps (h:MB w base b pile sv dv M) (n:Nat):MB (w.setCell ⟨b,22,none⟩ (.int .i64 (n:Int))) base b pile sv dv {M with steps:=n}:=h.set_tail 5 _ _ rfl rfl rfl rfl rfl
theorem MB.set_draws (h:MB w base b pile sv dv M) (n:Nat):MB (w.setCell ⟨b,23,none⟩ (.int .i64 (n:Int))) base b pile sv dv {M with draws:=n}:=h.set_tail 6 _ _ rfl rfl rfl rfl rfl
theorem MB.set_ended (h:MB w base b pile sv dv M) (x:Bool):MB (w.setCell ⟨b,24,none⟩ (.bool x)) base b pile sv dv {M with ended:=x}:=h.set_tail 7 _ _ rfl rfl rfl rfl rfl
theorem MB.set_fault (h:MB w base b pile sv dv M) (n:Int):MB (w.setCell ⟨b,25,none⟩ (.int .u8 n)) base b pile sv dv {M with fault:=n}:=h.set_tail 8 _ _ rfl rfl rfl rfl rfl
theorem MB.set_cell (h:MB w base b pile sv dv M) (i:Nat) (hi:i<8) (v:Int):MB (w.setCell ⟨b,9+i,none⟩ (.int .u16 v)) base b pile sv dv {M with cells:=M.cells.set i v}:=by
 have hc:=h.hc;refine⟨h.hb,h.hp,h.hst,h.htk,by simp[hc],?_,h.keep_own (by decide) h.shows _ _,h.keep_own (by decide) h.sends _ _⟩;refine blk_list (9+i) _ h.blk ?_;rw[show 9+i=8+(i+1) by omega,mcells_set_hi h.hp,List.set_append_left _ _ (by simp[u16s,hc,hi])];simp[mcells,u16s,List.map_set,mtail]
theorem MB.set_pop (h:MB w base b pile sv dv M) (hn:M.st.length≠0):MB (w.setCell ⟨b,8,none⟩ (.int .i64 ((M.st.length:Int)-1))) base b pile sv dv {M with st:=M.st.dropLast}:=by
 have hst:=h.hst;refine⟨h.hb,h.hp,by simp;omega,?_,h.hc,?_,h.keep_own (by decide) h.shows _ _,h.keep_own (by decide) h.sends _ _⟩
 ·simp only[List.length_dropLast];rw[List.dropLast_eq_take,←h.htk];simp only[List.take_take,List.length_take,h.hp];congr 1;omega
 ·refine blk_list 8 _ h.blk ?_;unfold mcells;rw[List.set_append_right _ _ (by simp[u16s,h.hp])];simp only[u16s,List.length_map,h.hp,Nat.sub_self,List.set_cons_zero,List.length_dropLast];rw[show((M.st.length-1:Nat):Int)=(M.st.length:Int)-1 by omega];rfl
theorem MB.set_push (h:MB w base b pile sv dv M) (hl:M.st.length<8) (v:Int): MB ((w.setCell ⟨b,M.st.length,none⟩ (.int .u16 v)).setCell ⟨b,8,none⟩ (.int .i64 ((M.st.length:Int)+1))) base b (pile.set M.st.length v) sv dv {M with st:=M.st++[v]}:=by
 have hp:=h.hp;have b1:Blk (w.setCell ⟨b,M.st.length,none⟩ (.int .u16 v)) b (mcells (pile.set M.st.length v) M.st.length sv dv M).toArray 152:=by refine blk_list _ _ h.blk ?_;unfold mcells;rw[List.set_append_left _ _ (by simp[u16s,hp,hl])];simp[u16s,List.map_set]
 have o1:=h.keep_own (by decide) h.shows M.st.length (.int .u16 v);have o2:=h.keep_own (by decide) h.sends M.st.length (.int .u16 v);refine⟨h.hb,by simp[hp],by simp;omega,?_,h.hc,?_,ownsRow_setCell_other o1 (fun e=>b1.ne_own o1 (by decide) e.symm) _,ownsRow_setCell_other o2 (fun e=>b1.ne_own o2 (by decide) e.symm) _⟩
 ·simp only[List.length_append,List.length_cons,List.length_nil];have ht:=h.htk;rw[List.take_succ_eq_append_getElem (by simp;omega)];simp;rw[List.take_set_of_le (by omega)];exact ht
 ·refine blk_list 8 _ b1 ?_;unfold mcells;rw[List.set_append_right _ _ (by simp[u16s,hp])];simp only[u16s,List.length_map,List.length_set,hp,Nat.sub_self,List.set_cons_zero,List.length_append,List.length_cons,List.length_nil];rfl
theorem MB.drewN (h:MB w base b pile sv dv M) (n:Nat):MB (w.drewN n) base b pile sv dv M:=⟨h.hb,h.hp,h.hst,h.htk,h.hc,h.blk,h.shows,h.sends⟩
theorem MB.drew (h:MB w base b pile sv dv M):MB w.drew base b pile sv dv M:=⟨h.hb,h.hp,h.hst,h.htk,h.hc,h.blk,h.shows,h.sends⟩
theorem MB.alloc (h:MB w base b pile sv dv M) (o:Obj):MB (w.alloc o) base b pile sv dv M:=⟨h.hb,h.hp,h.hst,h.htk,h.hc,h.blk.alloc o,h.shows.alloc o,h.sends.alloc o⟩
theorem MB.of_below (h:MB w base b pile sv dv M) {w':World} (hb:Below w.heap.size w w'):MB w' base b pile sv dv M:=⟨h.hb,h.hp,h.hst,h.htk,h.hc,h.blk.below hb h.blk.lt,own_below' h.shows hb (Nat.le_refl _),own_below' h.sends hb (Nat.le_refl _)⟩
theorem MB.top (h:MB w base b pile sv dv M) (hn:M.st.length≠0):pile.getD (M.st.length-1) 0=H.popV M:=by
 unfold H.popV;have hp:=h.hp;have hst:=h.hst;have ht:=h.htk;conv=>rhs;rw[←ht]
 simp only[List.getD,List.getElem?_take,List.length_take,hp];rw[if_pos (by omega)];congr 2;omega
end
def After (w:World) (base b:Nat) (sv dv:Value) (M':H.Mach) (w':World):Prop:=(∃pile,MB w' base b pile sv dv M')∧Fr base w w'
theorem push_eq_full {v:Int} {M:H.Mach} (hl:8≤M.st.length):H.push v M={M with fault:=2}:=by unfold H.push;rw[if_pos hl]
theorem push_eq_room {v:Int} {M:H.Mach} (hl:M.st.length<8):H.push v M={M with st:=M.st++[v]}:=by unfold H.push;rw[if_neg (by omega)]
theorem pop_eq_none {M:H.Mach} (hl:M.st.length=0):H.popM M={M with fault:=2}:=by unfold H.popM;rw[if_pos hl]
theorem pop_eq_some {M:H.Mach} (hl:M.st.length≠0):H.popM M={M with st:=M.st.dropLast}:=by unfold H.popM;rw[if_neg hl]
theorem popV_none {M:H.Mach} (hl:M.st.length=0):H.popV M=0:=by
 unfold H.popV;rw[List.eq_nil_of_length_eq_zero hl];rfl
theorem push_full {w:World} {base b:Nat} {pile:List Int} {sv dv:Value} {M:H.Mach} (h:MB w base b pile sv dv M) (v:Int) (hl:8≤M.st.length): Calls Tryz.prog 90 #[.pointer (some ⟨b,0,none⟩),.int .u16 v] w fun e w'=>e= .returned (.tuple #[])∧After w base b sv dv (H.push v M) w':=by
 have c8:=h.c8;have c25:=h.c25;have fz:=h.free 25;have hl2:(8:Int)≤(M.st.length:Int):=by omega
 go_enter Tryz.func90,Tryz.ntmps90;go_wp2;exact bodyPost_ret (v:= .tuple #[]) (by simp[results,Tryz.results90]) rfl ⟨rfl,by rw[push_eq_full hl];exact⟨⟨_,h.set_fault 2⟩,h.fr_set (Fr.refl _ _) _ _⟩⟩
theorem push_room {w:World} {base b:Nat} {pile:List Int} {sv dv:Value} {M:H.Mach} (h:MB w base b pile sv dv M) (v:Int) (hl:M.st.length<8): Calls Tryz.prog 90 #[.pointer (some ⟨b,0,none⟩),.int .u16 v] w fun e w'=>e= .returned (.tuple #[])∧After w base b sv dv (H.push v M) w':=by
 have HP:Hid (∀w',Fr base w w'→MB w' base b (pile.set M.st.length v) sv dv {M with st:=M.st++[v]}→After w base b sv dv (H.push v M) w'):=fun w' hf hm=>by rw[push_eq_room hl];exact⟨⟨_,hm⟩,hf⟩
 have c8:=h.c8;have cp:=h.cpile M.st.length hl;have HM:Hid (MB ((w.setCell ⟨b,M.st.length,none⟩ (.int .u16 v)).setCell ⟨b,8,none⟩ (.int .i64 ((M.st.length:Int)+1))) base b (pile.set M.st.length v) sv dv {M with st:=M.st++[v]}):=h.set_push hl v;have HF:Hid (Fr base w ((w.setCell ⟨b,M.st.length,none⟩ (.int .u16 v)).setCell ⟨b,8,none⟩ (.int .i64 ((M.st.length:Int)+1)))):=(h.fr_set (Fr.refl _ _) M.st.length (.int .u16 v)).setCell (p:=⟨b,8,none⟩) (h.blk.set M.st.length _) h.hb (.inl rfl) _;have f8:=h.free 8;have fn:=h.free M.st.length;generalize M.st.length=n at*;have hl2:¬(8:Int)≤(n:Int):=by omega
 have hi:(n:Int)<8:=by omega
 have h0:(0:Int)≤(n:Int):=by omega
 have hne:¬n=8:=by omega
 have hne2:¬8=n:=by omega
 go_enter Tryz.func90,Tryz.ntmps90;go_wp2;go_region
 all_goals go_wp2
 all_goals go_end0
 exact⟨rfl,HP.out _ HF.out.drew HM.out.drew⟩
theorem push_any {w:World} {base b:Nat} {pile:List Int} {sv dv:Value} {M:H.Mach} (h:MB w base b pile sv dv M) (v:Int): Calls Tryz.prog 90 #[.pointer (some ⟨b,0,none⟩),.int .u16 v] w fun e w'=>e= .returned (.tuple #[])∧After w base b sv dv (H.push v M) w':=by
 by_cases hl:8≤M.st.length
 ·exact push_full h v hl
 ·exact push_room h v (by omega)
theorem pop_none {w:World} {base b:Nat} {pile:List Int} {sv dv:Value} {M:H.Mach} (h:MB w base b pile sv dv M) (hl:M.st.length=0): Calls Tryz.prog 91 #[.pointer (some ⟨b,0,none⟩)] w fun e w'=>e= .returned (.int .u16 (H.popV M))∧After w base b sv dv (H.popM M) w':=by
 have c8:=h.c8;rw[hl] at c8;have c25:=h.c25;have fz:=h.free 25;have HP:Hid (H.popV M=0):=popV_none hl;have HL:Hid (M.st.length=0):=hl;clear hl;go_enter Tryz.func91,Tryz.ntmps91;go_wp2;go_ret;exact⟨by rw[HP.out];rfl,by rw[pop_eq_none HL.out];exact⟨⟨_,h.set_fault 2⟩,h.fr_set (Fr.refl _ _) _ _⟩⟩
theorem pop_some {w:World} {base b:Nat} {pile:List Int} {sv dv:Value} {M:H.Mach} (h:MB w base b pile sv dv M) (hl:M.st.length≠0): Calls Tryz.prog 91 #[.pointer (some ⟨b,0,none⟩)] w fun e w'=>e= .returned (.int .u16 (H.popV M))∧After w base b sv dv (H.popM M) w':=by
 have hst:=h.hst;have c8:=h.c8;have cp:=h.cpile (M.st.length-1) (by omega);rw[h.top hl] at cp;have f8:=h.free 8;have HM:Hid (MB (w.setCell ⟨b,8,none⟩ (.int .i64 ((M.st.length:Int)-1))) base b pile sv dv {M with st:=M.st.dropLast}):=h.set_pop hl;have HF:Hid (Fr base w (w.setCell ⟨b,8,none⟩ (.int .i64 ((M.st.length:Int)-1)))):=h.fr_set (Fr.refl _ _) _ _;have HP:Hid (∀w',Fr base w w'→MB w' base b pile sv dv {M with st:=M.st.dropLast}→After w base b sv dv (H.popM M) w'):=fun w' hf hm=>by rw[pop_eq_some hl];exact⟨⟨_,hm⟩,hf⟩
 obtain⟨n,hn⟩:∃n:Nat,n+1=M.st.length:=⟨M.st.length-1,by omega⟩;rw[←hn] at c8 cp HM HF hst;rw[show n+1-1=n by omega] at cp;rw[show((n+1:Nat):Int)=(n:Int)+1 by omega] at c8;rw[show((n+1:Nat):Int)-1=(n:Int) by omega] at HM HF;clear hn hl;have hi:(n:Int)<8:=by omega
 have hi2:n<8:=by omega
 have h0:(0:Int)≤(n:Int):=by omega
 have hne:¬n=8:=by omega
 have hne2:¬8=n:=by omega
 go_enter Tryz.func91,Tryz.ntmps91;go_wp2;go_quiet (fail);go_wp2;go_ret;exact⟨rfl,HP.out _ (HF.out.drewN _) (HM.out.drewN _)⟩
theorem pop_any {w:World} {base b:Nat} {pile:List Int} {sv dv:Value} {M:H.Mach} (h:MB w base b pile sv dv M): Calls Tryz.prog 91 #[.pointer (some ⟨b,0,none⟩)] w fun e w'=>e= .returned (.int .u16 (H.popV M))∧After w base b sv dv (H.popM M) w':=by
 by_cases hl:M.st.length=0
 ·exact pop_none h hl
 ·exact pop_some h hl
theorem popM_next (M:H.Mach):(H.popM M).next=M.next:=by unfold H.popM;split<;>rfl
theorem popM_chars (M:H.Mach):(H.popM M).chars=M.chars:=by unfold H.popM;split<;>rfl
theorem popM_text (M:H.Mach):(H.popM M).text=M.text:=by unfold H.popM;split<;>rfl
theorem popM_shows (M:H.Mach):(H.popM M).shows=M.shows:=by unfold H.popM;split<;>rfl
theorem popM_sends (M:H.Mach):(H.popM M).sends=M.sends:=by unfold H.popM;split<;>rfl
theorem jump_eq0 {a:Int} {M:H.Mach} (h:H.popV M=0):H.jumpIf a M=H.popM M:=by unfold H.jumpIf;rw[if_pos h]
theorem jump_eq1 {a:Int} {M:H.Mach} (h:H.popV M≠0):H.jumpIf a M={H.popM M with next:=M.next+a}:=by unfold H.jumpIf;rw[if_neg h,popM_next]
theorem jumpIf_any {w:World} {base b:Nat} {pile:List Int} {sv dv:Value} {M:H.Mach} (h:MB w base b pile sv dv M) (a:Int) (h1: -1000≤a) (h2:a≤1000) (h3: -1000≤M.next) (h4:M.next≤1000): Calls Tryz.prog 92 #[.pointer (some ⟨b,0,none⟩),.int .i64 a] w fun e w'=>e= .returned (.tuple #[])∧After w base b sv dv (H.jumpIf a M) w':=by
 have HP:Hid (MB w base b pile sv dv M):=h;obtain⟨nx,hnx⟩:∃nx,nx=M.next:=⟨_,rfl⟩;rw[←hnx] at h3 h4;have Hnx:Hid (nx=M.next):=hnx;clear h hnx;go_enter Tryz.func92,Tryz.ntmps92;go_wp2_with fail;refine(pop_any HP.out).mono ?_;rintro e w1 ⟨rfl,⟨pile1,hm1⟩,hf1⟩;have HM1:Hid (MB w1 base b pile1 sv dv (H.popM M)):=hm1;have HF1:Hid (Fr base w w1):=hf1;have c21:=hm1.c21;rw[popM_next,←Hnx.out] at c21;have f21:=hm1.free 21;obtain⟨v,hv⟩:∃v,v=H.popV M:=⟨_,rfl⟩;have Hv:Hid (v=H.popV M):=hv;rw[←hv];clear hm1 hf1 hv;by_cases hz:v=0
 ·have HE:Hid (H.jumpIf a M=H.popM M):=jump_eq0 (by rw[←Hv.out];exact hz);subst hz;go_wp2;go_end0;exact⟨rfl,by rw[HE.out];exact⟨⟨_,HM1.out⟩,HF1.out⟩⟩
 ·have hb:(v !=0)=true:=by simpa using hz
  have HE:Hid (H.jumpIf a M={H.popM M with next:=nx+a}):=by unfold Hid;rw[Hnx.out];exact jump_eq1 (by rw[←Hv.out];exact hz)
  clear hz;go_wp2;go_end0;exact⟨rfl,by rw[HE.out];exact⟨⟨_,HM1.out.set_next _⟩,HM1.out.fr_set HF1.out _ _⟩⟩
def U16Row (w:World) (b off:Nat) (l:List Int):Prop:=∀i x,l[i]? =some x→w.cell? ⟨b,off+i,none⟩=some (.int .u16 x)
theorem draw_eq0 {ds:List Int} {M:H.Mach} (h:ds.length≤M.draws):H.draw ds M=H.push 0 M:=by unfold H.draw;rw[if_neg (by omega)]
theorem draw_eq1 {ds:List Int} {M:H.Mach} (h:M.draws<ds.length):H.draw ds M=H.push (ds.getD M.draws 0) {M with draws:=M.draws+1}:=by unfold H.draw;rw[if_pos h]
theorem draw_any {w:World} {base b:Nat} {pile:List Int} {sv dv:Value} {M:H.Mach} (h:MB w base b pile sv dv M) (ao:Option Addr) (bd off n cap:Nat) (ds:List Int) (hn:ds.length=n) (hmax:n≤maxLen) (hao:0<n→ao=some ⟨bd,off,none⟩) (hrow:U16Row w bd off ds): Calls Tryz.prog 93 #[.pointer (some ⟨b,0,none⟩),.slice ao n cap] w fun e w'=>e= .returned (.tuple #[])∧After w base b sv dv (H.draw ds M) w':=by
 have HP:Hid (MB w base b pile sv dv M):=h;have c23:=h.c23;have f23:=h.free 23;obtain⟨k,hk⟩:∃k,k=M.draws:=⟨_,rfl⟩;rw[←hk] at c23;have Hk:Hid (k=M.draws):=hk;have Hn:Hid (ds.length=n):=hn;have HR:Hid (U16Row w bd off ds):=hrow;have HA:Hid (0<n→ao=some ⟨bd,off,none⟩):=hao;unfold maxLen at hmax;clear h hk hn hrow hao;by_cases hlt:k<n
 ·obtain rfl:=HA.out (by omega);have hx:ds[k]? =some (ds.getD k 0):=by have:=Hn.out;simp[List.getD,List.getElem?_eq_getElem (show k<ds.length by omega)]
  have cd:=HR.out k _ hx;have HE:Hid (H.draw ds M=H.push (ds.getD k 0) {M with draws:=k+1}):=by unfold Hid;rw[Hk.out];exact draw_eq1 (by rw[←Hk.out];have:=Hn.out;omega)
  generalize ds.getD k 0=x at*;clear hx;have hi:(k:Int)<(n:Int):=by omega
  go_enter Tryz.func93,Tryz.ntmps93;go_wp2_with fail;have hm:MB (w.setCell ⟨b,23,none⟩ (.int .i64 ((k:Int)+1))) base b pile sv dv {M with draws:=k+1}:=HP.out.set_draws (k+1);refine(push_any (M:={M with draws:=k+1}) (by exact hm) x).mono ?_;rintro e w1 ⟨rfl,hm1,hf1⟩;have HF:Hid (Fr base w w1):=(HP.out.fr_set (Fr.refl _ _) _ _).trans hf1;have HM:Hid (∃pile,MB w1 base b pile sv dv (H.push x {M with draws:=k+1})):=hm1;clear hm hm1 hf1 cd;go_wp2;go_end0;exact⟨rfl,by rw[HE.out];exact⟨HM.out,HF.out⟩⟩
 ·have HE:Hid (H.draw ds M=H.push 0 M):=draw_eq0 (by rw[←Hk.out];have:=Hn.out;omega);have hi:¬(k:Int)<(n:Int):=by omega
  go_enter Tryz.func93,Tryz.ntmps93;go_wp2_with fail;refine(push_any HP.out 0).mono ?_;rintro e w1 ⟨rfl,hm1,hf1⟩;have HF:Hid (Fr base w w1):=hf1;have HM:Hid (∃pile,MB w1 base b pile sv dv (H.push 0 M)):=hm1;clear hm1 hf1;go_wp2;go_end0;exact⟨rfl,by rw[HE.out];exact⟨HM.out,HF.out⟩⟩
theorem double_eq0 {M:H.Mach} (h:(H.popM M).fault≠0):H.double M=H.popM M:=by unfold H.double;rw[if_neg h]
theorem double_eq1 {M:H.Mach} (h:(H.popM M).fault=0):H.double M=H.push (H.popV M) (H.push (H.popV M) (H.popM M)):=by unfold H.double;rw[if_pos h]
theorem double_any {w:World} {base b:Nat} {pile:List Int} {sv dv:Value} {M:H.Mach} (h:MB w base b pile sv dv M): Calls Tryz.prog 97 #[.pointer (some ⟨b,0,none⟩)] w fun e w'=>e= .returned (.tuple #[])∧After w base b sv dv (H.double M) w':=by
 have HP:Hid (MB w base b pile sv dv M):=h;clear h;go_enter Tryz.func97,Tryz.ntmps97;go_wp2_with fail;refine(pop_any HP.out).mono ?_;rintro e w1 ⟨rfl,⟨pile1,hm1⟩,hf1⟩;have HM1:Hid (MB w1 base b pile1 sv dv (H.popM M)):=hm1;have HF1:Hid (Fr base w w1):=hf1;have c25:=hm1.c25;clear hm1 hf1;generalize hv:H.popV M=v;have Hv:Hid (H.popV M=v):=hv;clear hv;generalize hft:(H.popM M).fault=ft at c25;have Hft:Hid ((H.popM M).fault=ft):=hft;clear hft;by_cases hz:ft=0
 ·have HE:Hid (H.double M=H.push v (H.push v (H.popM M))):=by unfold Hid;rw[←Hv.out];exact double_eq1 (by rw[Hft.out];exact hz)
  subst hz;go_wp2_with fail;refine(push_any HM1.out v).mono ?_;rintro e w2 ⟨rfl,⟨pile2,hm2⟩,hf2⟩;have HM2:Hid (MB w2 base b pile2 sv dv (H.push v (H.popM M))):=hm2;have HF2:Hid (Fr base w w2):=HF1.out.trans hf2;clear hm2 hf2 HM1 HF1 c25;go_wp2_with fail;refine(push_any HM2.out v).mono ?_;rintro e w3 ⟨rfl,hm3,hf3⟩;have HM3:Hid (∃pile,MB w3 base b pile sv dv (H.push v (H.push v (H.popM M)))):=hm3;have HF3:Hid (Fr base w w3):=HF2.out.trans hf3;clear hm3 hf3 HM2 HF2;go_wp2;go_end0;exact⟨rfl,by rw[HE.out];exact⟨HM3.out,HF3.out⟩⟩
 ·have HE:Hid (H.double M=H.popM M):=double_eq0 (by rw[Hft.out];exact hz);have hb:(ft !=0)=true:=by simpa using hz
  clear hz;go_wp2;exact bodyPost_ret (v:= .tuple #[]) (by simp[results,Tryz.results97]) rfl ⟨rfl,by rw[HE.out];exact⟨⟨_,HM1.out⟩,HF1.out⟩⟩
theorem ret_u16 {a b:Int} (h:a=b):Ending.returned (.int .u16 a)= .returned (.int .u16 b):=by rw[h]
theorem truth_any (x:Bool) (w:World):Calls Tryz.prog 106 #[.bool x] w fun e w'=>e= .returned (.int .u16 (H.yes x))∧w=w':=by
 cases x
 ·go_enter Tryz.func106,Tryz.ntmps106;go_wp2;go_ret;exact⟨rfl,rfl⟩
 ·go_enter Tryz.func106,Tryz.ntmps106;go_wp2;go_ret;exact⟨rfl,rfl⟩
theorem char_sur (v:Int) (w:World) (h1:55296≤v) (h2:v≤57343):Calls Tryz.prog 101 #[.int .u16 v] w fun e w'=>e= .returned (.string (Utf8.encode v))∧w=w':=by
 have e:Hid (Utf8.encode v=⟨#[239,191,189]⟩):=by
  unfold Hid Utf8.encode;have hv:Utf8.valid v=false:=by simp[Utf8.valid];omega
  simp only[hv,Bool.false_eq_true,if_false];decide
 go_enter Tryz.func101,Tryz.ntmps101;go_wp2;go_ret;exact⟨by rw[e.out];rfl,rfl⟩
theorem char_oth (v:Int) (w:World) (h0:0≤v) (h3:v≤65535) (h:v<55296∨57343<v):Calls Tryz.prog 101 #[.int .u16 v] w fun e w'=>e= .returned (.string (Utf8.encode v))∧w=w':=by
 have hw:IntKind.i32.wrap v=v:=by rw[IntKind.wrap_i32];omega
 rcases h with h|h
 ·have h1:decide (55296≤v)=false:=by simp;omega
  go_enter Tryz.func101,Tryz.ntmps101;go_wp2;go_ret;exact⟨rfl,rfl⟩
 ·have h1:¬v≤57343:=by omega
  have h2:55296≤v:=by omega
  go_enter Tryz.func101,Tryz.ntmps101;go_wp2;go_ret;exact⟨rfl,rfl⟩
theorem char_any (v:Int) (w:World) (h0:0≤v) (h3:v≤65535):Calls Tryz.prog 101 #[.int .u16 v] w fun e w'=>e= .returned (.string (Utf8.encode v))∧w=w':=by
 by_cases h:55296≤v∧v≤57343
 ·exact char_sur v w h.1 h.2
 ·exact char_oth v w h0 h3 (by omega)
theorem wrap_i16 (x:Int):IntKind.i16.wrap x=if 32768≤x%65536 then x%65536-65536 else x%65536:=by
 simp[IntKind.wrap,IntKind.bits,IntKind.signed]
theorem wrap_s16 (x:Int) (h0:0≤x) (h1:x≤65535):IntKind.i16.wrap x=H.s16 x:=by
 rw[wrap_i16];unfold H.s16;split<;>split<;>omega
theorem comb_4 (a b:Int) (w:World) (ha:0≤a) (ha2:a≤65535) (hb:0≤b) (hb2:b≤65535):Calls Tryz.prog 102 #[.int .u8 4,.int .u16 a,.int .u16 b] w fun e w'=>e= .returned (.int .u16 (H.combine 4 a b))∧w=w':=by
 have HE:Hid (IntKind.u16.wrap (a+b)=H.combine 4 a b):=by unfold Hid;rw[IntKind.wrap_u16];rfl
 go_enter Tryz.func102,Tryz.ntmps102;go_wp2_with (go_at_call 106;refine(truth_any _ _).mono ?_;rintro e w' ⟨rfl,rfl⟩);go_ret;exact⟨ret_u16 HE.out,rfl⟩
theorem comb_5 (a b:Int) (w:World) (ha:0≤a) (ha2:a≤65535) (hb:0≤b) (hb2:b≤65535):Calls Tryz.prog 102 #[.int .u8 5,.int .u16 a,.int .u16 b] w fun e w'=>e= .returned (.int .u16 (H.combine 5 a b))∧w=w':=by
 have HE:Hid (IntKind.u16.wrap (a-b)=H.combine 5 a b):=by unfold Hid;rw[IntKind.wrap_u16];rfl
 go_enter Tryz.func102,Tryz.ntmps102;go_wp2_with (go_at_call 106;refine(truth_any _ _).mono ?_;rintro e w' ⟨rfl,rfl⟩);go_ret;exact⟨ret_u16 HE.out,rfl⟩
theorem comb_6 (a b:Int) (w:World) (ha:0≤a) (ha2:a≤65535) (hb:0≤b) (hb2:b≤65535):Calls Tryz.prog 102 #[.int .u8 6,.int .u16 a,.int .u16 b] w fun e w'=>e= .returned (.int .u16 (H.combine 6 a b))∧w=w':=by
 have HE:Hid (IntKind.u16.wrap (a*b)=H.combine 6 a b):=by unfold Hid;rw[IntKind.wrap_u16];rfl
 go_enter Tryz.func102,Tryz.ntmps102;go_wp2_with (go_at_call 106;refine(truth_any _ _).mono ?_;rintro e w' ⟨rfl,rfl⟩);go_ret;exact⟨ret_u16 HE.out,rfl⟩
theorem comb_8 (a b:Int) (w:World) (ha:0≤a) (ha2:a≤65535) (hb:0≤b) (hb2:b≤65535):Calls Tryz.prog 102 #[.int .u8 8,.int .u16 a,.int .u16 b] w fun e w'=>e= .returned (.int .u16 (H.combine 8 a b))∧w=w':=by
 have HE:Hid (bits BinOp.and IntKind.u16 a b=H.combine 8 a b):=by unfold Hid;rw[u16_and a b ha (by omega) hb (by omega)];rfl
 go_enter Tryz.func102,Tryz.ntmps102;go_wp2_with (go_at_call 106;refine(truth_any _ _).mono ?_;rintro e w' ⟨rfl,rfl⟩);go_ret;exact⟨ret_u16 HE.out,rfl⟩
theorem comb_9 (a b:Int) (w:World) (ha:0≤a) (ha2:a≤65535) (hb:0≤b) (hb2:b≤65535):Calls Tryz.prog 102 #[.int .u8 9,.int .u16 a,.int .u16 b] w fun e w'=>e= .returned (.int .u16 (H.combine 9 a b))∧w=w':=by
 have HE:Hid (bits BinOp.xor IntKind.u16 a b=H.combine 9 a b):=by unfold Hid;rw[u16_xor a b ha (by omega) hb (by omega)];rfl
 go_enter Tryz.func102,Tryz.ntmps102;go_wp2_with (go_at_call 106;refine(truth_any _ _).mono ?_;rintro e w' ⟨rfl,rfl⟩);go_ret;exact⟨ret_u16 HE.out,rfl⟩
theorem comb_10 (a b:Int) (w:World) (ha:0≤a) (ha2:a≤65535) (hb:0≤b) (hb2:b≤65535):Calls Tryz.prog 102 #[.int .u8 10,.int .u16 a,.int .u16 b] w fun e w'=>e= .returned (.int .u16 (H.combine 10 a b))∧w=w':=by
 have HE:Hid (IntKind.u16.wrap (a*2^(b%16).toNat)=H.combine 10 a b):=by unfold Hid;rw[IntKind.wrap_u16];rfl
 go_enter Tryz.func102,Tryz.ntmps102;go_wp2_with (go_at_call 106;refine(truth_any _ _).mono ?_;rintro e w' ⟨rfl,rfl⟩);go_ret;exact⟨ret_u16 HE.out,rfl⟩
theorem comb_11 (a b:Int) (w:World) (ha:0≤a) (ha2:a≤65535) (hb:0≤b) (hb2:b≤65535):Calls Tryz.prog 102 #[.int .u8 11,.int .u16 a,.int .u16 b] w fun e w'=>e= .returned (.int .u16 (H.combine 11 a b))∧w=w':=by
 have HE:Hid (a/2^(b%16).toNat=H.combine 11 a b):=by unfold Hid;rfl
 go_enter Tryz.func102,Tryz.ntmps102;go_wp2_with (go_at_call 106;refine(truth_any _ _).mono ?_;rintro e w' ⟨rfl,rfl⟩);go_ret;exact⟨ret_u16 HE.out,rfl⟩
theorem comb_12 (a b:Int) (w:World) (ha:0≤a) (ha2:a≤65535) (hb:0≤b) (hb2:b≤65535):Calls Tryz.prog 102 #[.int .u8 12,.int .u16 a,.int .u16 b] w fun e w'=>e= .returned (.int .u16 (H.combine 12 a b))∧w=w':=by
 have HE:Hid (IntKind.u16.wrap (IntKind.i16.wrap a/2^(b%16).toNat)=H.combine 12 a b):=by unfold Hid;rw[IntKind.wrap_u16,wrap_s16 a ha ha2];rfl
 go_enter Tryz.func102,Tryz.ntmps102;go_wp2_with (go_at_call 106;refine(truth_any _ _).mono ?_;rintro e w' ⟨rfl,rfl⟩);go_ret;exact⟨ret_u16 HE.out,rfl⟩
theorem comb_13 (a b:Int) (w:World) (ha:0≤a) (ha2:a≤65535) (hb:0≤b) (hb2:b≤65535):Calls Tryz.prog 102 #[.int .u8 13,.int .u16 a,.int .u16 b] w fun e w'=>e= .returned (.int .u16 (H.combine 13 a b))∧w=w':=by
 have HE:Hid (H.yes (decide (a<b))=H.combine 13 a b):=by unfold Hid;rfl
 go_enter Tryz.func102,Tryz.ntmps102;go_wp2_with (go_at_call 106;refine(truth_any _ _).mono ?_;rintro e w' ⟨rfl,rfl⟩);go_ret;exact⟨ret_u16 HE.out,rfl⟩
theorem comb_14 (a b:Int) (w:World) (ha:0≤a) (ha2:a≤65535) (hb:0≤b) (hb2:b≤65535):Calls Tryz.prog 102 #[.int .u8 14,.int .u16 a,.int .u16 b] w fun e w'=>e= .returned (.int .u16 (H.combine 14 a b))∧w=w':=by
 have HE:Hid (H.yes (decide (IntKind.i16.wrap a<IntKind.i16.wrap b))=H.combine 14 a b):=by unfold Hid;rw[wrap_s16 a ha ha2,wrap_s16 b hb hb2];rfl
 go_enter Tryz.func102,Tryz.ntmps102;go_wp2_with (go_at_call 106;refine(truth_any _ _).mono ?_;rintro e w' ⟨rfl,rfl⟩);go_ret;exact⟨ret_u16 HE.out,rfl⟩
theorem comb_15 (a b:Int) (w:World) (ha:0≤a) (ha2:a≤65535) (hb:0≤b) (hb2:b≤65535):Calls Tryz.prog 102 #[.int .u8 15,.int .u16 a,.int .u16 b] w fun e w'=>e= .returned (.int .u16 (H.combine 15 a b))∧w=w':=by
 have HE:Hid (H.yes (a==b)=H.combine 15 a b):=by unfold Hid;show H.yes _=H.yes _;congr 1
 go_enter Tryz.func102,Tryz.ntmps102;go_wp2_with (go_at_call 106;refine(truth_any _ _).mono ?_;rintro e w' ⟨rfl,rfl⟩);go_ret;exact⟨ret_u16 HE.out,rfl⟩
theorem comb_any (op a b:Int) (w:World) (h4:4≤op) (h15:op≤15) (h7:op≠7) (ha:0≤a) (ha2:a≤65535) (hb:0≤b) (hb2:b≤65535):Calls Tryz.prog 102 #[.int .u8 op,.int .u16 a,.int .u16 b] w fun e w'=>e= .returned (.int .u16 (H.combine op a b))∧w=w':=by
 rcases(show op=4∨op=5∨op=6∨op=8∨op=9∨op=10∨op=11∨op=12∨op=13∨op=14∨op=15 by omega) with rfl|rfl|rfl|rfl|rfl|rfl|rfl|rfl|rfl|rfl|rfl
 ·exact comb_4 a b w ha ha2 hb hb2
 ·exact comb_5 a b w ha ha2 hb hb2
 ·exact comb_6 a b w ha ha2 hb hb2
 ·exact comb_8 a b w ha ha2 hb hb2
 ·exact comb_9 a b w ha ha2 hb hb2
 ·exact comb_10 a b w ha ha2 hb hb2
 ·exact comb_11 a b w ha ha2 hb hb2
 ·exact comb_12 a b w ha ha2 hb hb2
 ·exact comb_13 a b w ha ha2 hb hb2
 ·exact comb_14 a b w ha ha2 hb hb2
 ·exact comb_15 a b w ha ha2 hb hb2
theorem yes_range (x:Bool):0≤H.yes x∧H.yes x≤65535:=by cases x<;>decide
theorem comb_range (op a b:Int) (ha:0≤a) (ha2:a≤65535) (hb:0≤b) (hb2:b≤65535):0≤H.combine op a b∧H.combine op a b≤65535:=by
 unfold H.combine;by_cases h4:op=4
 ·rw[if_pos h4];omega
 rw[if_neg h4];by_cases h5:op=5
 ·rw[if_pos h5];omega
 rw[if_neg h5];by_cases h6:op=6
 ·rw[if_pos h6];have:=Int.emod_nonneg (a*b) (show(65536:Int)≠0 by decide);have:=Int.emod_lt_of_pos (a*b) (show(0:Int)<65536 by decide);omega
 rw[if_neg h6];by_cases h8:op=8
 ·rw[if_pos h8];have:a.toNat&&&b.toNat<2^16:=Nat.and_lt_two_pow _ (by omega);omega
 rw[if_neg h8];by_cases h9:op=9
 ·rw[if_pos h9];have:a.toNat^^^b.toNat<2^16:=Nat.xor_lt_two_pow (by omega) (by omega);omega
 rw[if_neg h9];by_cases h10:op=10
 ·rw[if_pos h10];have:=Int.emod_nonneg (a*2^(b%16).toNat) (show(65536:Int)≠0 by decide);have:=Int.emod_lt_of_pos (a*2^(b%16).toNat) (show(0:Int)<65536 by decide);omega
 rw[if_neg h10];by_cases h11:op=11
 ·rw[if_pos h11];have hp:(0:Int)<2^(b%16).toNat:=Int.pow_pos (by decide);have h1:=Int.ediv_nonneg ha (Int.le_of_lt hp);have h2:=Int.ediv_le_self (2^(b%16).toNat) ha;omega
 rw[if_neg h11];by_cases h12:op=12
 ·rw[if_pos h12];have:=Int.emod_nonneg (H.s16 a/2^(b%16).toNat) (show(65536:Int)≠0 by decide);have:=Int.emod_lt_of_pos (H.s16 a/2^(b%16).toNat) (show(0:Int)<65536 by decide);omega
 rw[if_neg h12];by_cases h13:op=13
 ·rw[if_pos h13];exact yes_range _
 rw[if_neg h13];by_cases h14:op=14
 ·rw[if_pos h14];exact yes_range _
 rw[if_neg h14];by_cases h15:op=15
 ·rw[if_pos h15];exact yes_range _
 rw[if_neg h15];omega
def InR (l:List Int):Prop:=∀v∈l,0≤v∧v≤65535
theorem popM_st (M:H.Mach):(H.popM M).st=M.st.dropLast:=by
 unfold H.popM;split
 ·rename_i h;rw[List.eq_nil_of_length_eq_zero h];rfl
 ·rfl
theorem InR.pop {M:H.Mach} (h:InR M.st):InR (H.popM M).st:=by
 rw[popM_st];intro v hv;exact h v ((List.dropLast_sublist _).subset hv)
theorem InR.popV {M:H.Mach} (h:InR M.st):0≤H.popV M∧H.popV M≤65535:=by
 unfold H.popV;by_cases hl:M.st.length=0
 ·rw[List.eq_nil_of_length_eq_zero hl];decide
 ·have:M.st.getD (M.st.length-1) 0=M.st[M.st.length-1]'(by omega):=by simp[List.getD,List.getElem?_eq_getElem (show M.st.length-1<M.st.length by omega)]
  rw[this];exact h _ (List.getElem_mem _)
theorem reckon_eq0 {op:Int} {M:H.Mach} (h:(H.popM (H.popM M)).fault≠0):H.reckon op M=H.popM (H.popM M):=by unfold H.reckon;rw[if_neg h]
theorem reckon_eq1 {op:Int} {M:H.Mach} (h:(H.popM (H.popM M)).fault=0) (h7:op≠7):H.reckon op M=H.push (H.combine op (H.popV (H.popM M)) (H.popV M)) (H.popM (H.popM M)):=by unfold H.reckon;rw[if_pos h,if_neg h7]
theorem reckon_eq2 {M:H.Mach} (h:(H.popM (H.popM M)).fault=0) (hz:H.popV M=0):H.reckon 7 M={H.popM (H.popM M) with fault:=3}:=by unfold H.reckon;rw[if_pos h,if_pos rfl,if_pos hz]
theorem reckon_eq3 {M:H.Mach} (h:(H.popM (H.popM M)).fault=0) (hz:H.popV M≠0):H.reckon 7 M=H.push (H.popV (H.popM M)/H.popV M) (H.popM (H.popM M)):=by unfold H.reckon;rw[if_pos h,if_pos rfl,if_neg hz]
theorem reckon_any {w:World} {base b:Nat} {pile:List Int} {sv dv:Value} {M:H.Mach} (h:MB w base b pile sv dv M) (hr:InR M.st) (op:Int) (h4:4≤op) (h15:op≤15): Calls Tryz.prog 98 #[.pointer (some ⟨b,0,none⟩),.int .u8 op] w fun e w'=>e= .returned (.tuple #[])∧After w base b sv dv (H.reckon op M) w':=by
 have HP:Hid (MB w base b pile sv dv M):=h;obtain⟨r1,r2⟩:=hr.popV;obtain⟨r3,r4⟩:=hr.pop.popV;clear h hr;go_enter Tryz.func98,Tryz.ntmps98;go_wp2_with fail;refine(pop_any HP.out).mono ?_;rintro e w1 ⟨rfl,⟨pile1,hm1⟩,hf1⟩;have HM1:Hid (MB w1 base b pile1 sv dv (H.popM M)):=hm1;have HF1:Hid (Fr base w w1):=hf1;clear hm1 hf1;go_wp2_with fail;refine(pop_any HM1.out).mono ?_;rintro e w2 ⟨rfl,⟨pile2,hm2⟩,hf2⟩;have HM2:Hid (MB w2 base b pile2 sv dv (H.popM (H.popM M))):=hm2;have HF2:Hid (Fr base w w2):=HF1.out.trans hf2;have c25:=hm2.c25;have f25:=hm2.free 25;clear hm2 hf2 HM1 HF1;obtain⟨y,hy⟩:∃y,y=H.popV M:=⟨_,rfl⟩;obtain⟨x,hx⟩:∃x,x=H.popV (H.popM M):=⟨_,rfl⟩;rw[←hy] at r1 r2 ⊢;rw[←hx] at r3 r4 ⊢;have Hy:Hid (y=H.popV M):=hy;have Hx:Hid (x=H.popV (H.popM M)):=hx;obtain⟨ft,hft⟩:∃ft,ft=(H.popM (H.popM M)).fault:=⟨_,rfl⟩;rw[←hft] at c25;have Hft:Hid (ft=(H.popM (H.popM M)).fault):=hft;clear hy hx hft;by_cases hz:ft=0
 ·have HZ:Hid ((H.popM (H.popM M)).fault=0):=by unfold Hid;rw[←Hft.out];exact hz
  subst hz;by_cases h7:op=7
  ·subst h7;by_cases hy0:y=0
   ·have HE:Hid (H.reckon 7 M={H.popM (H.popM M) with fault:=3}):=reckon_eq2 HZ.out (by rw[←Hy.out];exact hy0);subst hy0;go_wp2;exact bodyPost_ret (v:= .tuple #[]) (by simp[results,Tryz.results98]) rfl ⟨rfl,by rw[HE.out];exact⟨⟨_,HM2.out.set_fault 3⟩,HM2.out.fr_set HF2.out _ _⟩⟩
   ·have HE:Hid (H.reckon 7 M=H.push (x/y) (H.popM (H.popM M))):=by unfold Hid;rw[Hx.out,Hy.out];exact reckon_eq3 HZ.out (by rw[←Hy.out];exact hy0)
    have hb:(y==0)=false:=by simpa using hy0
    have hy1:0<y:=by omega
    have hq0:=Int.ediv_nonneg r3 r1;have hq1:=Int.ediv_le_self y r3;have hqe:IntKind.u16.wrap (x.tdiv y)=x/y:=by rw[IntKind.wrap_u16,Int.tdiv_eq_ediv_of_nonneg r3];omega
    clear hy0 hq0 hq1;go_wp2_with fail;refine(push_any HM2.out (x/y)).mono ?_;rintro e w3 ⟨rfl,hm3,hf3⟩;have HM3:Hid (∃pile,MB w3 base b pile sv dv (H.push (x/y) (H.popM (H.popM M)))):=hm3;have HF3:Hid (Fr base w w3):=HF2.out.trans hf3;clear hm3 hf3 HM2 HF2;go_wp2;go_end0;exact⟨rfl,by rw[HE.out];exact⟨HM3.out,HF3.out⟩⟩
  ·have HE:Hid (H.reckon op M=H.push (H.combine op x y) (H.popM (H.popM M))):=by unfold Hid;rw[Hx.out,Hy.out];exact reckon_eq1 HZ.out h7
   have hb:(op !=7)=true:=by simpa using h7
   have H7:Hid (op≠7):=h7;clear h7;go_wp2_with fail;refine(comb_any op x y _ h4 h15 H7.out r3 r4 r1 r2).mono ?_;rintro e w3 ⟨rfl,rfl⟩;go_wp2_with fail;refine(push_any HM2.out (H.combine op x y)).mono ?_;rintro e w3 ⟨rfl,hm3,hf3⟩;have HM3:Hid (∃pile,MB w3 base b pile sv dv (H.push (H.combine op x y) (H.popM (H.popM M)))):=hm3;have HF3:Hid (Fr base w w3):=HF2.out.trans hf3;clear hm3 hf3 HM2 HF2;go_wp2;exact bodyPost_ret (v:= .tuple #[]) (by simp[results,Tryz.results98]) rfl ⟨rfl,by rw[HE.out];exact⟨HM3.out,HF3.out⟩⟩
 ·have HE:Hid (H.reckon op M=H.popM (H.popM M)):=reckon_eq0 (by rw[←Hft.out];exact hz);have hb:(ft !=0)=true:=by simpa using hz
  clear hz;go_wp2;exact bodyPost_ret (v:= .tuple #[]) (by simp[results,Tryz.results98]) rfl ⟨rfl,by rw[HE.out];exact⟨⟨_,HM2.out⟩,HF2.out⟩⟩
theorem char_eq0 {M:H.Mach} (h:(H.popM M).fault≠0):H.char M=H.popM M:=by unfold H.char;rw[if_neg h]
theorem char_eq1 {M:H.Mach} (h:(H.popM M).fault=0) (h6:6≤M.chars):H.char M={H.popM M with fault:=4}:=by unfold H.char;rw[if_pos h,if_pos h6]
theorem char_eq2 {M:H.Mach} (h:(H.popM M).fault=0) (h6:¬6≤M.chars):H.char M={H.popM M with text:=M.text++Utf8.encode (H.popV M),chars:=M.chars+1}:=by unfold H.char;rw[if_pos h,if_neg h6]
theorem charM_any {w:World} {base b:Nat} {pile:List Int} {sv dv:Value} {M:H.Mach} (h:MB w base b pile sv dv M) (hr:InR M.st) (ht:M.text.size≤1000): Calls Tryz.prog 94 #[.pointer (some ⟨b,0,none⟩)] w fun e w'=>e= .returned (.tuple #[])∧After w base b sv dv (H.char M) w':=by
 have HP:Hid (MB w base b pile sv dv M):=h
 obtain⟨r1,r2⟩:=hr.popV
 clear h hr
 go_enter Tryz.func94,Tryz.ntmps94
 go_wp2_with fail
 refine(pop_any HP.out).mono ?_
 rintro e w1 ⟨rfl,⟨pile1,hm1⟩,hf1⟩
 have HM1:Hid (MB w1 base b pile1 sv dv (H.popM M)):=hm1
 have HF1:Hid (Fr base w w1):=hf1
 have c25:=hm1.c25
 have f25:=hm1.free 25
 have c18:=hm1.c18
 have f18:=hm1.free 18
 have c17:=hm1.c17
 have f17:=hm1.free 17
 rw[popM_chars] at c18
 rw[popM_text] at c17
 clear hm1 hf1
 obtain⟨y,hy⟩:∃y,y=H.popV M:=⟨_,rfl⟩
 rw[←hy] at r1 r2 ⊢
 have Hy:Hid (y=H.popV M):=hy
 obtain⟨ft,hft⟩:∃ft,ft=(H.popM M).fault:=⟨_,rfl⟩
 rw[←hft] at c25
 have Hft:Hid (ft=(H.popM M).fault):=hft
 obtain⟨n,hn⟩:∃n,n=M.chars:=⟨_,rfl⟩
 rw[←hn] at c18
 have Hn:Hid (n=M.chars):=hn
 obtain⟨tx,htx⟩:∃tx,tx=M.text:=⟨_,rfl⟩
 rw[←htx] at c17 ht
 have Htx:Hid (tx=M.text):=htx
 clear hy hft hn htx
 by_cases hz:ft=0
 ·have HZ:Hid ((H.popM M).fault=0):=by unfold Hid;rw[←Hft.out];exact hz
  subst hz
  by_cases h6:6≤n
  ·have HE:Hid (H.char M={H.popM M with fault:=4}):=char_eq1 HZ.out (by rw[←Hn.out];exact h6)
   have h6':(6:Int)≤(n:Int):=by omega
   go_wp2
   exact bodyPost_ret (v:= .tuple #[]) (by simp[results,Tryz.results94]) rfl ⟨rfl,by rw[HE.out];exact⟨⟨_,HM1.out.set_fault 4⟩,HM1.out.fr_set HF1.out _ _⟩⟩
  ·have HE:Hid (H.char M={H.popM M with text:=tx++Utf8.encode y,chars:=n+1}):=by unfold Hid;rw[Hn.out,Htx.out,Hy.out];exact char_eq2 HZ.out (by rw[←Hn.out];exact h6)
   have h6':¬(6:Int)≤(n:Int):=by omega
   have HM2:Hid (MB (w1.setCell ⟨b,17,none⟩ (.string (tx++Utf8.encode y))) base b pile1 sv dv {H.popM M with text:=tx++Utf8.encode y}):=HM1.out.set_text _
   have HF2:Hid (Fr base w (w1.setCell ⟨b,17,none⟩ (.string (tx++Utf8.encode y)))):=HM1.out.fr_set HF1.out _ _
   have hsz:(Utf8.encode y).size≤4:=by
    unfold Utf8.encode
    simp only
    repeat' split
    all_goals simp[ByteArray.size]
   go_wp2_with fail
   go_region_with (go_at_call 101;refine(char_any _ _ r1 r2).mono ?_;rintro e w' ⟨rfl,rfl⟩)
   all_goals go_wp2
   all_goals go_end0
   all_goals exact⟨rfl,by rw[HE.out];exact⟨⟨_,(HM2.out.set_chars (n+1)).drew⟩,(HM2.out.fr_set HF2.out _ _).drew⟩⟩
 ·have HE:Hid (H.char M=H.popM M):=char_eq0 (by rw[←Hft.out];exact hz)
  have hb:(ft !=0)=true:=by simpa using hz
  clear hz
  go_wp2
  exact bodyPost_ret (v:= .tuple #[]) (by simp[results,Tryz.results94]) rfl ⟨rfl,by rw[HE.out];exact⟨⟨_,HM1.out⟩,HF1.out⟩⟩
def Aft (w:World) (base b:Nat) (M':H.Mach) (w':World):Prop:=(∃pile sv dv,MB w' base b pile sv dv M')∧Fr base w w'
theorem After.aft {w:World} {base b:Nat} {sv dv:Value} {M':H.Mach} {w':World} (h:After w base b sv dv M' w'):Aft w base b M' w':=by
 obtain⟨⟨p,hm⟩,hf⟩:=h;exact⟨⟨p,sv,dv,hm⟩,hf⟩
theorem own_two {w:World} {base e1 e2 s1 s2 n1 n2:Nat} {v1 v2:Value} {x1 x2:List Value} (h1:w.ownsRow base e1 s1 v1 n1 x1) (h2:w.ownsRow base e2 s2 v2 n2 x2) (he:e1≠e2):v1.ownBlock=none∨v1.ownBlock≠v2.ownBlock:=by
 rcases h1.2 with ⟨hv,_⟩|⟨g,cap,cur,hv,_,hh,_⟩
 ·subst hv;exact .inl rfl
 ·right;have hb:Blk w g cur e1:=hh;have:=hb.ne_own h2 he;subst hv;exact this
theorem Fr.app {w w1:World} {base e n:Nat} {v:Value} {xs:List Value} (ho:w.ownsRow base e 2 v n xs) (he:e=132∨e=108) (hg:w.grownBy w1 v.ownBlock) (hb:base≤w.heap.size):Fr base w w1:=⟨hg.os,hg.tape,hg.output,hg.size,fun k hk=>hg.block k (by omega) (fun e'=>by have:=(ho.lt k e'.symm).1;omega),fun k cs t hk h1 h2 h3=>hk.grown hg (hk.ne_own ho (by rcases he with rfl|rfl<;>assumption))⟩
theorem MB.lt {w:World} {base b:Nat} {pile:List Int} {sv dv:Value} {M:H.Mach} (h:MB w base b pile sv dv M):base≤w.heap.size:=by
 have:=h.blk.lt;have:=h.hb;omega
theorem MB.app_sends {w w1:World} {base b:Nat} {pile:List Int} {sv dv dv1:Value} {M:H.Mach} (h:MB w base b pile sv dv M) (t v:Int) (hown:w1.ownsRow base 108 2 dv1 (M.sends.length+1) (sendCells M.sends++[.int .u8 t,.int .u16 v])) (hg:w.grownBy w1 dv.ownBlock): Blk w1 b (mcells pile M.st.length sv dv M).toArray 152∧MB (w1.setCell ⟨b,20,none⟩ dv1) base b pile sv dv1 {M with sends:=M.sends++[(t,v)]}∧Fr base w (w1.setCell ⟨b,20,none⟩ dv1):=by
 have b1:=h.blk.grown hg (h.blk.ne_own h.sends (by decide));have o1:w1.ownsRow base 132 2 sv M.shows.length (showCells M.shows):=h.shows.kept hg (own_two h.shows h.sends (by decide));refine⟨b1,⟨h.hb,h.hp,h.hst,h.htk,h.hc,?_,ownsRow_setCell_other o1 (fun e=>b1.ne_own o1 (by decide) e.symm) _,?_⟩,?_⟩
 ·refine blk_list 20 _ b1 ?_;rw[show(20:Nat)=17+3 from rfl,mcells_set_tail h.hp h.hc];rfl
 ·have e:sendCells (M.sends++[(t,v)])=sendCells M.sends++[.int .u8 t,.int .u16 v]:=by simp[sendCells]
  simp only[e,List.length_append,List.length_cons,List.length_nil];exact ownsRow_setCell_other hown (fun e=>b1.ne_own hown (by decide) e.symm) _
 ·exact(Fr.app h.sends (.inr rfl) hg h.lt).setCell (p:=⟨b,20,none⟩) b1 h.hb (.inl rfl) _
theorem MB.app_shows {w w1:World} {base b:Nat} {pile:List Int} {sv dv sv1:Value} {M:H.Mach} (h:MB w base b pile sv dv M) (k:Int) (s:ByteArray) (hown:w1.ownsRow base 132 2 sv1 (M.shows.length+1) (showCells M.shows++[.int .u16 k,.string s])) (hg:w.grownBy w1 sv.ownBlock): Blk w1 b (mcells pile M.st.length sv dv M).toArray 152∧MB (w1.setCell ⟨b,19,none⟩ sv1) base b pile sv1 dv {M with shows:=M.shows++[(k,s)]}∧Fr base w (w1.setCell ⟨b,19,none⟩ sv1):=by
 have b1:=h.blk.grown hg (h.blk.ne_own h.shows (by decide));have o1:w1.ownsRow base 108 2 dv M.sends.length (sendCells M.sends):=h.sends.kept hg (own_two h.sends h.shows (by decide));refine⟨b1,⟨h.hb,h.hp,h.hst,h.htk,h.hc,?_,?_,ownsRow_setCell_other o1 (fun e=>b1.ne_own o1 (by decide) e.symm) _⟩,?_⟩
 ·refine blk_list 19 _ b1 ?_;rw[show(19:Nat)=17+2 from rfl,mcells_set_tail h.hp h.hc];rfl
 ·have e:showCells (M.shows++[(k,s)])=showCells M.shows++[.int .u16 k,.string s]:=by simp[showCells]
  simp only[e,List.length_append,List.length_cons,List.length_nil];exact ownsRow_setCell_other hown (fun e=>b1.ne_own hown (by decide) e.symm) _
 ·exact(Fr.app h.shows (.inl rfl) hg h.lt).setCell (p:=⟨b,19,none⟩) b1 h.hb (.inl rfl) _
theorem info85:(Tryz.prog.info? 108).map (fun i=>(i.zero,i.size,i.bytes))=some (some (.agg #[.int .u8 0,.int .u16 0]),2,4):=by kernel_rfl
theorem info62:(Tryz.prog.info? 132).map (fun i=>(i.zero,i.size,i.bytes))=some (some (.agg #[.int .u16 0,.string ⟨#[]⟩]),2,24):=by kernel_rfl
theorem own_shape {w:World} {base e size n:Nat} {v:Value} {xs:List Value} (h:w.ownsRow base e size v n xs):∃ao cap,v= .slice ao n cap:=by
 rcases h.2 with ⟨hv,hn⟩|⟨g,cap,cur,hv,_⟩
 ·subst hn;exact⟨none,0,hv⟩
 ·exact⟨_,cap,hv⟩
theorem send_eq0 {t:Int} {M:H.Mach} (h:(H.popM M).fault≠0):H.send t M=H.popM M:=by unfold H.send;rw[if_neg h]
theorem send_eq1 {t:Int} {M:H.Mach} (h:(H.popM M).fault=0) (h4:4≤M.sends.length):H.send t M={H.popM M with fault:=5}:=by unfold H.send;rw[if_pos h,if_pos h4]
theorem send_eq2 {t:Int} {M:H.Mach} (h:(H.popM M).fault=0) (h4:¬4≤M.sends.length):H.send t M={H.popM M with sends:=(H.popM M).sends++[(t,H.popV M)]}:=by unfold H.send;rw[if_pos h,if_neg h4,popM_sends]
set_option maxRecDepth 100000 in
theorem send_any {w:World} {base b:Nat} {pile:List Int} {sv dv:Value} {M:H.Mach} (h:MB w base b pile sv dv M) (t:Int): Calls Tryz.prog 96 #[.pointer (some ⟨b,0,none⟩),.int .u8 t] w fun e w'=>e= .returned (.tuple #[])∧Aft w base b (H.send t M) w':=by
 obtain⟨i0,hi,hz0,hz1,hz2⟩:=info_parts info85;have HP:Hid (MB w base b pile sv dv M):=h;clear h;go_enter Tryz.func96,Tryz.ntmps96;go_wp2_with fail;refine(pop_any HP.out).mono ?_;rintro e w1 ⟨rfl,⟨pile1,hm1⟩,hf1⟩;have HM1:Hid (MB w1 base b pile1 sv dv (H.popM M)):=hm1;have HF1:Hid (Fr base w w1):=hf1;obtain⟨ao,cv,hdv⟩:=own_shape hm1.sends;have HDV:Hid (dv= .slice ao (H.popM M).sends.length cv):=hdv;have c25:=hm1.c25;have f25:=hm1.free 25;have c20:=hm1.c20;have f20:=hm1.free 20;rw[hdv] at c20;have hlt:=hm1.lt;clear hm1 hf1 hdv;obtain⟨y,hy⟩:∃y,y=H.popV M:=⟨_,rfl⟩;rw[←hy];have Hy:Hid (y=H.popV M):=hy;obtain⟨ft,hft⟩:∃ft,ft=(H.popM M).fault:=⟨_,rfl⟩;rw[←hft] at c25;have Hft:Hid (ft=(H.popM M).fault):=hft;obtain⟨n,hn⟩:∃n,n=(H.popM M).sends.length:=⟨_,rfl⟩;rw[←hn] at c20;have Hn:Hid (n=(H.popM M).sends.length):=hn;clear hy hft hn;by_cases hz:ft=0
 ·have HZ:Hid ((H.popM M).fault=0):=by unfold Hid;rw[←Hft.out];exact hz
  subst hz;by_cases h4:4≤n
  ·have HE:Hid (H.send t M={H.popM M with fault:=5}):=send_eq1 HZ.out (by rw[←popM_sends,←Hn.out];exact h4);have h4':(4:Int)≤(n:Int):=by omega
   go_wp2;exact bodyPost_ret (v:= .tuple #[]) (by simp[results,Tryz.results96]) rfl ⟨rfl,by rw[HE.out];exact⟨⟨_,_,_,HM1.out.set_fault 5⟩,HM1.out.fr_set HF1.out _ _⟩⟩
  ·have HE:Hid (H.send t M={H.popM M with sends:=(H.popM M).sends++[(t,y)]}):=by unfold Hid;rw[Hy.out];exact send_eq2 HZ.out (by rw[←popM_sends,←Hn.out];exact h4)
   have h4':¬(4:Int)≤(n:Int):=by omega
   have HO:Hid (w1.ownsRow base 108 2 (.slice ao n cv) n (sendCells (H.popM M).sends)):=by have h:=HM1.out.sends;rw[HDV.out,←Hn.out] at h;exact h
   go_wp2_with (at_builtin;refine wpList_append_own _ rfl (.tmp 25) (.tmp 29) 105 rfl base 108 i0 (.agg #[.int .u8 0,.int .u16 0]) 2 4 Tryz.underlying105 hi hz0 hz1 hz2 rfl (by decide) _ _ _ rfl (HO.out.alloc _) ⟨w1.heap.size,0,none⟩ 1 1 [.int .u8 t,.int .u16 y] rfl rfl (new_two _ _ _ _) (by intro u hu;simp at hu;rcases hu with rfl|rfl<;>rfl) (by unfold maxLen;omega) (by omega) (by simp;omega) ?_);intro v3 w3 hown3 hg3 _;obtain⟨ao3,c3,hv3⟩:=own_shape hown3;have hma:=(HM1.out.alloc (.cells #[.int .u8 t,.int .u16 y] 108)).app_sends t y (dv1:=v3) (w1:=w3) (by rw[←Hn.out];exact hown3) (by rw[HDV.out,←Hn.out];exact hg3);have HB3:=hma.1;have hm3:=hma.2.1;have hf3:=hma.2.2;rw[hv3] at hm3 hf3 ⊢;have d20:w3.cell? ⟨b,20,none⟩=some dv:=by rw[HB3.cell 20,List.getElem?_toArray];exact mcells_tail HM1.out.hp HM1.out.hc _ 3
   have e20:=HB3.free 20;rw[HDV.out] at d20;have HM3:Hid (MB (w3.setCell ⟨b,20,none⟩ (.slice ao3 (n+1) c3)) base b pile1 sv (.slice ao3 (n+1) c3) {H.popM M with sends:=(H.popM M).sends++[(t,y)]}):=hm3;have HF3:Hid (Fr base w (w3.setCell ⟨b,20,none⟩ (.slice ao3 (n+1) c3))):=(HF1.out.alloc hlt _).trans hf3;clear hma HB3 hm3 hf3 hv3 hown3 hg3 HO c20 f20 c25 f25;go_wp2;go_end0;exact⟨rfl,by rw[HE.out];exact⟨⟨_,_,_,HM3.out⟩,HF3.out⟩⟩
 ·have HE:Hid (H.send t M=H.popM M):=send_eq0 (by rw[←Hft.out];exact hz);have hb:(ft !=0)=true:=by simpa using hz
  clear hz;go_wp2;exact bodyPost_ret (v:= .tuple #[]) (by simp[results,Tryz.results96]) rfl ⟨rfl,by rw[HE.out];exact⟨⟨_,_,_,HM1.out⟩,HF1.out⟩⟩
end Go.Proofs.YtidaflmmldefcaaGreat
