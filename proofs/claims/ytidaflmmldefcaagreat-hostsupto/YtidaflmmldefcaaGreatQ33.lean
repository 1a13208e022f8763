/- Parts of the proof of Hosts: SpotN. -/
import Derived.Test.YtidaflmmldefcaaGreatQ17
import Derived.Test.YtidaflmmldefcaaGreatQ32
import Derived.Test.YtidaflmmldefcaaGreatQ08
namespace Go.Proofs.YtidaflmmldefcaaGreat
set_option linter.unusedVariables false
namespace H
def sent (a v:Int) (M:Mach):Mach:={M with fault:=(if M.sends.length=4 then 5 else M.fault),sends:=M.sends++[(a,v)]}
def rone (op a v:Int) (M:Mach):Mach:=if op=3 then {M with cells:=M.cells.set a.toNat v}
 else if op=17 then (if 0<v then {M with next:=M.next+a} else M)
 else if op=23 then (if M.chars=6 then {M with fault:=4} else {M with text:=M.text++Utf8.encode v,chars:=M.chars+1})
 else if op=24 then shown v M
 else if op=25 then sent a v M
 else if op=26 then push v (push v M)
 else M
def takesOne (op:Int):Bool:=op==3||op==17||op==23||op==24||op==25||op==26||op==27
def rtwo (op:Int) (M:Mach):Mach:=if M.st.length<2 then {M with fault:=2}
 else if madeV op (popV (popM M)) (popV M)<0 then {popM (popM M) with fault:=3}
 else push (madeV op (popV (popM M)) (popV M)) (popM (popM M))
def rpass (op a:Int) (I:Inp) (M:Mach):Mach:=if op=0 then {M with ended:=true}
 else if op=1 then push a M
 else if op=2 then push (M.cells.getD a.toNat 0) M
 else if op=16 then {M with next:=M.next+a}
 else if op=18 then push I.what M
 else if op=19 then push I.arg M
 else if op=20 then push I.src M
 else if op=21 then push I.route M
 else if op=22 then draw I.draws M
 else if takesOne op then (if M.st.length=0 then {M with fault:=2} else rone op a (popV M) (popM M))
 else rtwo op M
structure Like (M N:Mach):Prop where
 fault:M.fault=N.fault
 draws:M.draws=N.draws
 steps:M.steps=N.steps
 all:N.fault=0→M=N
theorem Like.refl (M:Mach):Like M M:=⟨rfl,rfl,rfl,fun _=>rfl⟩
theorem Like.of_eq {M N:Mach} (h:M=N):Like M N:=by rw[h];exact Like.refl _
theorem Like.of_fault {M N:Mach} (h:M.fault=N.fault) (hd:M.draws=N.draws) (hs:M.steps=N.steps) (hz:N.fault≠0):Like M N:=⟨h,hd,hs,fun h0=>absurd h0 hz⟩
theorem popM_draws (M:Mach):(popM M).draws=M.draws:=by unfold popM;split<;>rfl
theorem popM_steps (M:Mach):(popM M).steps=M.steps:=by unfold popM;split<;>rfl
theorem popM_fault0 {M:Mach} (h:M.st.length=0):(popM M).fault=2:=by unfold popM;rw[if_pos h]
theorem popM_fault1 {M:Mach} (h:M.st.length≠0):(popM M).fault=M.fault:=by unfold popM;rw[if_neg h]
structure LOk (M:Mach):Prop where
 shows:M.shows.length≤8
 sends:M.sends.length≤4
 keys:∀x∈M.shows,0≤x.1∧x.1≤65535
theorem LOk.of_eq {M N:Mach} (h:LOk M) (e1:N.shows=M.shows) (e2:N.sends=M.sends):LOk N:=⟨by rw[e1];exact h.shows,by rw[e2];exact h.sends,by rw[e1];exact h.keys⟩
theorem push_shows (v:Int) (M:Mach):(push v M).shows=M.shows:=by unfold push;split<;>rfl
theorem push_sends (v:Int) (M:Mach):(push v M).sends=M.sends:=by unfold push;split<;>rfl
theorem LOk.push {M:Mach} (h:LOk M) (v:Int):LOk (push v M):=h.of_eq (push_shows _ _) (push_sends _ _)
theorem LOk.pop {M:Mach} (h:LOk M):LOk (popM M):=h.of_eq (popM_shows _) (popM_sends _)
theorem LOk.doOp {M:Mach} (h:LOk M) (hr:InR M.st) (o a:Int) (I:Inp):LOk (doOp o a I M):=by
 have hp:=h.pop;have hv:=hr.popV;unfold H.doOp;by_cases e0:o=0
 ·rw[if_pos e0];exact h.of_eq rfl rfl
 rw[if_neg e0];by_cases e1:o=1
 ·rw[if_pos e1];exact h.push _
 rw[if_neg e1];by_cases e2:o=2
 ·rw[if_pos e2];exact h.push _
 rw[if_neg e2];by_cases e3:o=3
 ·rw[if_pos e3];exact hp.of_eq rfl rfl
 rw[if_neg e3];by_cases e16:o=16
 ·rw[if_pos e16];exact h.of_eq rfl rfl
 rw[if_neg e16];by_cases e17:o=17
 ·rw[if_pos e17];unfold jumpIf;split
  ·exact hp
  ·exact hp.of_eq rfl rfl
 rw[if_neg e17];by_cases e18:o=18
 ·rw[if_pos e18];exact h.push _
 rw[if_neg e18];by_cases e19:o=19
 ·rw[if_pos e19];exact h.push _
 rw[if_neg e19];by_cases e20:o=20
 ·rw[if_pos e20];exact h.push _
 rw[if_neg e20];by_cases e21:o=21
 ·rw[if_pos e21];exact h.push _
 rw[if_neg e21];by_cases e22:o=22
 ·rw[if_pos e22];unfold draw;split
  ·have h':LOk {M with draws:=M.draws+1}:=h.of_eq rfl rfl;exact h'.push _
  ·exact h.push _
 rw[if_neg e22];by_cases e23:o=23
 ·rw[if_pos e23];unfold H.char;split
  ·split
   ·exact hp.of_eq rfl rfl
   ·exact hp.of_eq rfl rfl
  ·exact hp
 rw[if_neg e23];by_cases e24:o=24
 ·rw[if_pos e24];unfold showM;split
  ·split
   ·exact hp.of_eq rfl rfl
   ·rename_i h8;split
    ·exact hp.of_eq rfl rfl
    ·refine⟨by simp;omega,hp.sends,?_⟩;intro x hx;simp at hx;rcases hx with hx|rfl
     ·exact h.keys x hx
     ·exact hv
  ·exact hp
 rw[if_neg e24];by_cases e25:o=25
 ·rw[if_pos e25];unfold send;split
  ·split
   ·exact hp.of_eq rfl rfl
   ·rename_i h4;exact⟨hp.shows,by simp;omega,hp.keys⟩
  ·exact hp
 rw[if_neg e25];by_cases e26:o=26
 ·rw[if_pos e26];unfold double;split
  ·exact(hp.push _).push _
  ·exact hp
 rw[if_neg e26];by_cases e27:o=27
 ·rw[if_pos e27];exact hp
 rw[if_neg e27];unfold reckon;split
 ·split
  ·split
   ·exact hp.pop.of_eq rfl rfl
   ·exact hp.pop.push _
  ·exact hp.pop.push _
 ·exact hp.pop
theorem char_some {M:Mach} (h0:M.fault=0) (hl:M.st.length≠0) (h6:M.chars≤6):rone 23 0 (popV M) (popM M)=H.char M:=by
 have hf:(popM M).fault=0:=(popM_fault1 hl).trans h0;unfold rone H.char;rw[if_neg (by decide),if_neg (by decide),if_pos rfl,if_pos hf,popM_chars,popM_text];by_cases h:M.chars=6
 ·rw[if_pos h,if_pos (by omega),←popM_text M,←popM_chars M]
 ·rw[if_neg h,if_neg (by omega)]
theorem like_pass {n:Nat} {M:Mach} (hM:MOk n M) (hL:LOk M) (h0:M.fault=0) (o a:Int) (ho:0≤o) (ha:alone o a=true) (I:Inp):Like (rpass o a I M) (doOp o a I M):=by
 have h27:=alone_op o a ha;have hv:=hM.st.popV;have hz:∀x:Int,o=x→x≠1→x≠2→x≠3→x≠16→x≠17→x≠25→a=0:=by intro x hx h1 h2 h3 h16 h17 h25;subst hx;simp[alone,h1,h2,h3,h16,h17,h25] at ha;exact ha.2
 have few:∀N:Mach,M.st.length=0→N.fault=2→N.draws=M.draws→N.steps=M.steps→Like {M with fault:=2} N:=fun N _ h1 h2 h3=>Like.of_fault h1.symm h2.symm h3.symm (by rw[h1];decide);rcases(show o=0∨o=1∨o=2∨o=3∨(4≤o∧o≤15)∨o=16∨o=17∨o=18∨o=19∨o=20∨o=21∨o=22∨o=23∨o=24∨o=25∨o=26∨o=27 by omega) with rfl|rfl|rfl|rfl|⟨h4,h15⟩|rfl|rfl|rfl|rfl|rfl|rfl|rfl|rfl|rfl|rfl|rfl|rfl
 ·exact Like.refl _
 ·exact Like.refl _
 ·exact Like.refl _
 ·show Like (if M.st.length=0 then {M with fault:=2} else rone 3 a (popV M) (popM M)) {popM M with cells:=M.cells.set a.toNat (popV M)};by_cases hl:M.st.length=0
  ·rw[if_pos hl];exact few _ hl (popM_fault0 hl) (popM_draws M) (popM_steps M)
  ·rw[if_neg hl];refine Like.of_eq ?_;show({popM M with cells:=(popM M).cells.set a.toNat (popV M)}:Mach)=_;rw[popM_cells]
 ·have e1:rpass o a I M=rtwo o M:=by
   unfold rpass;rw[if_neg (by omega),if_neg (by omega),if_neg (by omega),if_neg (by omega),if_neg (by omega),if_neg (by omega),if_neg (by omega),if_neg (by omega),if_neg (by omega)];have:takesOne o=false:=by unfold takesOne;simp;omega
   rw[this];rfl
  have e2:H.doOp o a I M=reckon o M:=by unfold H.doOp;rw[if_neg (by omega),if_neg (by omega),if_neg (by omega),if_neg (by omega),if_neg (by omega),if_neg (by omega),if_neg (by omega),if_neg (by omega),if_neg (by omega),if_neg (by omega),if_neg (by omega),if_neg (by omega),if_neg (by omega),if_neg (by omega),if_neg (by omega),if_neg (by omega)]
  rw[e1,e2];have hlen:(popM M).st.length=M.st.length-1:=by rw[popM_st];simp
  unfold rtwo;by_cases hl:M.st.length<2
  ·rw[if_pos hl];have hf:(popM (popM M)).fault=2:=popM_fault0 (by omega);rw[reckon_eq0 (by rw[hf];decide)];exact Like.of_fault hf.symm (by show M.draws=_;rw[popM_draws,popM_draws]) (by show M.steps=_;rw[popM_steps,popM_steps]) (by rw[hf];decide)
  ·rw[if_neg hl];have hf:(popM (popM M)).fault=0:=by rw[popM_fault1 (by omega),popM_fault1 (by omega)];exact h0
   have hx:=hM.st.pop.popV;refine Like.of_eq ?_;by_cases h7:o=7
   ·subst h7;by_cases hy:popV M=0
    ·rw[reckon_eq2 hf hy];have:madeV 7 (popV (popM M)) (popV M)= -1:=by unfold madeV;rw[if_pos rfl,if_pos hy]
     rw[this,if_pos (by decide)]
    ·rw[reckon_eq3 hf hy];have:madeV 7 (popV (popM M)) (popV M)=popV (popM M)/popV M:=by unfold madeV;rw[if_pos rfl,if_neg hy]
     have h1:=Int.ediv_nonneg hx.1 hv.1;rw[this,if_neg (by omega)]
   ·rw[reckon_eq1 hf h7];have:madeV o (popV (popM M)) (popV M)=combine o (popV (popM M)) (popV M):=by unfold madeV;rw[if_neg h7]
    have h1:=comb_range o (popV (popM M)) (popV M) hx.1 hx.2 hv.1 hv.2;rw[this,if_neg (by omega)]
 ·exact Like.refl _
 ·show Like (if M.st.length=0 then {M with fault:=2} else rone 17 a (popV M) (popM M)) (jumpIf a M);by_cases hl:M.st.length=0
  ·rw[if_pos hl,jump_eq0 (popV_none hl)];exact few _ hl (popM_fault0 hl) (popM_draws M) (popM_steps M)
  ·rw[if_neg hl];refine Like.of_eq ?_;show(if 0<popV M then {popM M with next:=(popM M).next+a} else popM M)=_;by_cases hy:popV M=0
   ·rw[if_neg (by omega),jump_eq0 hy]
   ·rw[if_pos (by omega),jump_eq1 hy,popM_next]
 ·exact Like.refl _
 ·exact Like.refl _
 ·exact Like.refl _
 ·exact Like.refl _
 ·exact Like.refl _
 ·show Like (if M.st.length=0 then {M with fault:=2} else rone 23 a (popV M) (popM M)) (H.char M);obtain rfl:=hz 23 rfl (by decide) (by decide) (by decide) (by decide) (by decide) (by decide);by_cases hl:M.st.length=0
  ·rw[if_pos hl,char_eq0 (by rw[popM_fault0 hl];decide)];exact few _ hl (popM_fault0 hl) (popM_draws M) (popM_steps M)
  ·rw[if_neg hl];exact Like.of_eq (char_some h0 hl hM.chars)
 ·show Like (if M.st.length=0 then {M with fault:=2} else shown (popV M) (popM M)) (showM M);by_cases hl:M.st.length=0
  ·rw[if_pos hl,show_eq0 (by rw[popM_fault0 hl];decide)];exact few _ hl (popM_fault0 hl) (popM_draws M) (popM_steps M)
  ·rw[if_neg hl];have hf:(popM M).fault=0:=(popM_fault1 hl).trans h0;have hs:=hL.shows;unfold shown;rw[popM_shows,popM_text];by_cases h8:M.shows.length=8
   ·rw[show_eq1 hf (by omega),if_pos h8];exact Like.of_fault rfl rfl rfl (by show(5:Int)≠0;decide)
   ·rw[if_neg h8];cases hk:hasKey (popV M) M.shows with
    |true=>rw[show_eq2 hf (by omega) hk];exact Like.of_fault rfl rfl rfl (by show(6:Int)≠0;decide)
    |false=>rw[show_eq3 hf (by omega) hk];refine Like.of_eq ?_;rw[popM_shows];rfl
 ·show Like (if M.st.length=0 then {M with fault:=2} else sent a (popV M) (popM M)) (send a M);by_cases hl:M.st.length=0
  ·rw[if_pos hl,send_eq0 (by rw[popM_fault0 hl];decide)];exact few _ hl (popM_fault0 hl) (popM_draws M) (popM_steps M)
  ·rw[if_neg hl];have hf:(popM M).fault=0:=(popM_fault1 hl).trans h0;have hs:=hL.sends;unfold sent;rw[popM_sends];by_cases h4:M.sends.length=4
   ·rw[send_eq1 hf (by omega),if_pos h4];exact Like.of_fault rfl rfl rfl (by show(5:Int)≠0;decide)
   ·rw[send_eq2 hf (by omega),if_neg h4,popM_sends];exact Like.refl _
 ·show Like (if M.st.length=0 then {M with fault:=2} else push (popV M) (push (popV M) (popM M))) (double M);by_cases hl:M.st.length=0
  ·rw[if_pos hl,double_eq0 (by rw[popM_fault0 hl];decide)];exact few _ hl (popM_fault0 hl) (popM_draws M) (popM_steps M)
  ·rw[if_neg hl,double_eq1 ((popM_fault1 hl).trans h0)];exact Like.refl _
 ·show Like (if M.st.length=0 then {M with fault:=2} else popM M) (popM M);by_cases hl:M.st.length=0
  ·rw[if_pos hl];exact few _ hl (popM_fault0 hl) (popM_draws M) (popM_steps M)
  ·rw[if_neg hl];exact Like.refl _
end H
end Go.Proofs.YtidaflmmldefcaaGreat
