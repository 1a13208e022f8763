/- Parts of the proof of Hosts: SpotK, RCopy. -/
import Derived.Test.YtidaflmmldefcaaGreatQ34
import Derived.Test.YtidaflmmldefcaaGreatQ09
namespace Go.Proofs.YtidaflmmldefcaaGreat
set_option linter.unusedVariables false
namespace H
structure Fk (M N:Mach):Prop where
 ended:N.ended=M.ended
 fault:0≤M.fault∧M.fault≤6→0≤N.fault∧N.fault≤6
theorem Fk.refl (M:Mach):Fk M M:=⟨rfl,id⟩
theorem Fk.trans {M N O:Mach} (h:Fk M N) (k:Fk N O):Fk M O:=⟨k.ended.trans h.ended,fun x=>k.fault (h.fault x)⟩
theorem Fk.push (v:Int) (M:Mach):Fk M (push v M):=by
 unfold H.push;split
 ·exact⟨rfl,fun _=>by simp⟩
 ·exact⟨rfl,id⟩
theorem Fk.pop (M:Mach):Fk M (popM M):=by
 unfold popM;split
 ·exact⟨rfl,fun _=>by simp⟩
 ·exact⟨rfl,id⟩
theorem Fk.doOp (M:Mach) (o a:Int) (I:Inp) (h0:o≠0):Fk M (doOp o a I M):=by
 have hp:=Fk.pop M;unfold H.doOp;rw[if_neg h0];by_cases e1:o=1
 ·rw[if_pos e1];exact Fk.push _ _
 rw[if_neg e1];by_cases e2:o=2
 ·rw[if_pos e2];exact Fk.push _ _
 rw[if_neg e2];by_cases e3:o=3
 ·rw[if_pos e3];exact⟨hp.ended,hp.fault⟩
 rw[if_neg e3];by_cases e16:o=16
 ·rw[if_pos e16];exact⟨rfl,id⟩
 rw[if_neg e16];by_cases e17:o=17
 ·rw[if_pos e17];unfold jumpIf;split
  ·exact hp
  ·exact⟨hp.ended,hp.fault⟩
 rw[if_neg e17];by_cases e18:o=18
 ·rw[if_pos e18];exact Fk.push _ _
 rw[if_neg e18];by_cases e19:o=19
 ·rw[if_pos e19];exact Fk.push _ _
 rw[if_neg e19];by_cases e20:o=20
 ·rw[if_pos e20];exact Fk.push _ _
 rw[if_neg e20];by_cases e21:o=21
 ·rw[if_pos e21];exact Fk.push _ _
 rw[if_neg e21];by_cases e22:o=22
 ·rw[if_pos e22];unfold draw;split
  ·have h1:Fk M {M with draws:=M.draws+1}:=⟨rfl,id⟩;exact h1.trans (Fk.push _ _)
  ·exact Fk.push _ _
 rw[if_neg e22];by_cases e23:o=23
 ·rw[if_pos e23];unfold H.char;split
  ·split
   ·exact⟨hp.ended,fun _=>by simp⟩
   ·exact⟨hp.ended,hp.fault⟩
  ·exact hp
 rw[if_neg e23];by_cases e24:o=24
 ·rw[if_pos e24];unfold showM;split
  ·split
   ·exact⟨hp.ended,fun _=>by simp⟩
   ·split
    ·exact⟨hp.ended,fun _=>by simp⟩
    ·exact⟨hp.ended,hp.fault⟩
  ·exact hp
 rw[if_neg e24];by_cases e25:o=25
 ·rw[if_pos e25];unfold send;split
  ·split
   ·exact⟨hp.ended,fun _=>by simp⟩
   ·exact⟨hp.ended,hp.fault⟩
  ·exact hp
 rw[if_neg e25];by_cases e26:o=26
 ·rw[if_pos e26];unfold double;split
  ·exact(hp.trans (Fk.push _ _)).trans (Fk.push _ _)
  ·exact hp
 rw[if_neg e26];by_cases e27:o=27
 ·rw[if_pos e27];exact hp
 rw[if_neg e27];have hpp:=hp.trans (Fk.pop (popM M));unfold reckon;split
 ·split
  ·split
   ·exact⟨hpp.ended,fun _=>by simp⟩
   ·exact hpp.trans (Fk.push _ _)
  ·exact hpp.trans (Fk.push _ _)
 ·exact hpp
structure Rok (n F:Nat) (dl:Nat) (N:Mach):Prop where
 ok:MOk n N
 lists:LOk N
 draws:N.draws≤dl
 steps:N.steps≤F
 fault:0≤N.fault∧N.fault≤6
theorem adv_eq {prog:List (Int×Int)} {I:Inp} {N:Mach} {k:Nat} {o a:Int} (hn:N.next=k) (hx:prog[k]? =some (o,a)):adv prog I N=doOp o a I {N with steps:=N.steps+1,next:=N.next+1}:=by
 unfold adv step;have:prog.getD N.next.toNat (0,0)=(o,a):=by rw[hn,Int.toNat_natCast];simp[List.getD,hx]
 rw[this]
theorem Rok.adv {prog:List (Int×Int)} {N:Mach} {F:Nat} (v:InV) (hv:v.ok) {ds:List Int} (hd:InR ds) (hp:okFrom prog.length 0 prog=true) (h:Rok prog.length F ds.length N) (hlt:N.next<prog.length) (hs:N.steps<F):Rok prog.length F ds.length (H.adv prog (v.inp ds) N):=by
 have n0:=h.ok.next0;obtain⟨k,hk⟩:=Int.eq_ofNat_of_zero_le n0;obtain⟨x,hx⟩:∃x,prog[k]? =some x:=⟨prog[k]'(by omega),List.getElem?_eq_getElem (by omega)⟩;obtain⟨o,a⟩:=x;have hkp:=adv_kp prog (v.inp ds) N;refine⟨adv_ok hp h.ok hlt v hv hd,?_,hkp.2.1 h.draws,by rw[hkp.1];omega,?_⟩
 ·rw[adv_eq hk hx];have hl:LOk {N with steps:=N.steps+1,next:=N.next+1}:=h.lists.of_eq rfl rfl;exact hl.doOp h.ok.st _ _ _
 ·rw[adv_eq hk hx];by_cases h0:o=0
  ·subst h0;exact h.fault
  ·exact(Fk.doOp {N with steps:=N.steps+1,next:=N.next+1} o a (v.inp ds) h0).fault h.fault
def cellsIn (first:List Int) (i:Nat):List Int:=first.take i++List.replicate (8-i) 0
theorem cellsIn_all {first:List Int} (h:first.length=8):cellsIn first 8=first:=by unfold cellsIn;rw[List.take_of_length_le (by omega)];simp
theorem cellsIn_set {first:List Int} (h:first.length=8) {i:Nat} (hi:i<8):(cellsIn first i).set i (first.getD i 0)=cellsIn first (i+1):=by
 obtain⟨a,b,c,d,e,f,g,j,rfl⟩:=eight h;rcases(show i=0∨i=1∨i=2∨i=3∨i=4∨i=5∨i=6∨i=7 by omega) with rfl|rfl|rfl|rfl|rfl|rfl|rfl|rfl<;>rfl
def cellsOut (now first:List Int) (i:Nat):List Int:=now.take i++first.drop i
theorem cellsOut_all {now first:List Int} (h:now.length=8) (h2:first.length=8):cellsOut now first 8=now:=by unfold cellsOut;rw[List.take_of_length_le (by omega),List.drop_eq_nil_of_le (by omega),List.append_nil]
end H
end Go.Proofs.YtidaflmmldefcaaGreat
namespace Go.Proofs.YtidaflmmldefcaaGreat
open Go.RowKit
set_option linter.unusedVariables false
theorem SB.side {w:World} {base b:Nat} {pv sv dv:Value} {M:H.Mach} (h:SB w base b pv sv dv M) {q:Nat} {cs:Array Value} (hq:Blk w q cs 124) (i:Nat) (u:Value):SB (w.setCell ⟨q,i,none⟩ u) base b pv sv dv M:=by
 refine⟨h.hb,h.hc,h.hst,h.blk.other ⟨q,i,none⟩ u ?_,h.pile.other (p:=⟨q,i,none⟩) hq (by decide) u,ownsRow_setCell_other h.shows (fun e'=>hq.ne_own h.shows (by decide) e'.symm) u,ownsRow_setCell_other h.sends (fun e'=>hq.ne_own h.sends (by decide) e'.symm) u⟩;intro e;have hb:=h.blk;rw[show b=q from e] at hb;unfold Blk at hb hq;rw[hb] at hq;simp at hq
def outRow (sp dr:Nat) (cs:List Int) (sv dv:Value):Array Value:=#[.int .u8 0,.int .i64 (sp:Int),.int .i64 (dr:Int),.int .u16 (cs.getD 0 0),.int .u16 (cs.getD 1 0),.int .u16 (cs.getD 2 0),.int .u16 (cs.getD 3 0),.int .u16 (cs.getD 4 0),.int .u16 (cs.getD 5 0),.int .u16 (cs.getD 6 0),.int .u16 (cs.getD 7 0),sv,dv]
theorem outRow_copy (sp dr:Nat) {now first:List Int} (h:now.length=8) (h2:first.length=8) (sv dv:Value) {k:Nat} (hk:k<8):(outRow sp dr (H.cellsOut now first k) sv dv).setIfInBounds (3+k) (.int .u16 (now.getD k 0))=outRow sp dr (H.cellsOut now first (k+1)) sv dv:=by
 obtain⟨a,b,c,d,e,f,g,j,rfl⟩:=eight h;obtain⟨a',b',c',d',e',f',g',j',rfl⟩:=eight h2;rcases(show k=0∨k=1∨k=2∨k=3∨k=4∨k=5∨k=6∨k=7 by omega) with rfl|rfl|rfl|rfl|rfl|rfl|rfl|rfl<;>rfl
theorem outRow_at (sp dr:Nat) (cs:List Int) (sv dv:Value) {k:Nat} (hk:k<8):(outRow sp dr cs sv dv)[3+k]? =some (.int .u16 (cs.getD k 0)):=by
 rcases(show k=0∨k=1∨k=2∨k=3∨k=4∨k=5∨k=6∨k=7 by omega) with rfl|rfl|rfl|rfl|rfl|rfl|rfl|rfl<;>rfl
end Go.Proofs.YtidaflmmldefcaaGreat
