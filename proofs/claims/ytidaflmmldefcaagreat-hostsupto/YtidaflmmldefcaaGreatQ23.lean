/- Parts of the proof of Hosts: JRef. -/
import Derived.Test.YtidaflmmldefcaaGreatQ09
import Derived.Deep.QuietTactic
import Derived.BigQuiet
set_option maxHeartbeats 8000000
namespace Go.Proofs.YtidaflmmldefcaaGreat
open Go.RowKit
set_option linter.unusedVariables false
namespace H
def shp (op:Int):Int:=if op=1 then 119 else if op=2∨op=3 then 99 else if op=16∨op=17 then 106 else if op=25 then 116 else 45
end H
def shT:ByteArray:=⟨#[45,119,99,99,45,45,45,45,45,45,45,45,45,45,45,45,106,106,45,45,45,45,45,45,45,116,45,45]⟩
theorem shp_at (op:Int) (h0:0≤op) (h1:op<28) (w:World):(Instr.index 9 (.string ⟨#[45,119,99,99,45,45,45,45,45,45,45,45,45,45,45,45,106,106,45,45,45,45,45,45,45,116,45,45]⟩) (.int .i64 op)).run Tryz.prog w= .ok (.int .u8 (H.shp op)) w:=by
 obtain⟨k,rfl⟩:=Int.eq_ofNat_of_zero_le h0;have hk:k<28:=by omega
 have e:∀i:Nat,i<28→(shT.data.getD i 0).toNat=(H.shp (i:Int)).toNat∧0≤H.shp (i:Int):=by decide
 have hs:shT.size=28:=rfl;have hlt:k<shT.size:=by omega
 have:=run_index_string (P:=Tryz.prog) w 9 shT .i64 (k:Int) Tryz.underlying9;rw[dif_pos ⟨by omega,by rw[hs];omega⟩] at this;show(Instr.index 9 (.string shT) (.int .i64 (k:Int))).run Tryz.prog w=_;rw[this];have h2:=e k hk;have h3:(shT[(k:Int).toNat]'(by omega)).toNat=(shT.data.getD k 0).toNat:=by simp only[Int.toNat_natCast];rw[Array.getD_eq_getD_getElem?,Array.getElem?_eq_getElem (by exact hlt)];rfl
 rw[h3,h2.1,Int.toNat_of_nonneg h2.2]
theorem size_any (op:Int) (w:World):Calls Tryz.prog 41 #[.int .u8 (H.shp op)] w fun e w'=>e= .returned (.int .i64 (H.wid op))∧w=w':=by
 by_cases h1:op=1
 ·subst h1;show Calls Tryz.prog 41 #[.int .u8 119] w _;go_enter Tryz.func41,Tryz.ntmps41;go_wp2;go_ret;exact⟨rfl,rfl⟩
 by_cases h2:op=2∨op=3
 ·have e:H.shp op=99:=by unfold H.shp;rw[if_neg h1,if_pos h2]
  have ew:H.wid op=1:=by unfold H.wid;rw[if_neg h1,if_pos (by omega)]
  rw[e,ew];go_enter Tryz.func41,Tryz.ntmps41;go_wp2;go_ret;exact⟨rfl,rfl⟩
 by_cases h3:op=16∨op=17
 ·have e:H.shp op=106:=by unfold H.shp;rw[if_neg h1,if_neg h2,if_pos h3]
  have ew:H.wid op=1:=by unfold H.wid;rw[if_neg h1,if_pos (by omega)]
  rw[e,ew];go_enter Tryz.func41,Tryz.ntmps41;go_wp2;go_ret;exact⟨rfl,rfl⟩
 by_cases h4:op=25
 ·have e:H.shp op=116:=by unfold H.shp;rw[if_neg h1,if_neg h2,if_neg h3,if_pos h4]
  have ew:H.wid op=1:=by unfold H.wid;rw[if_neg h1,if_pos (by omega)]
  rw[e,ew];go_enter Tryz.func41,Tryz.ntmps41;go_wp2;go_ret;exact⟨rfl,rfl⟩
 ·have e:H.shp op=45:=by unfold H.shp;rw[if_neg h1,if_neg h2,if_neg h3,if_neg h4]
  have ew:H.wid op=0:=by unfold H.wid;rw[if_neg h1,if_neg (by omega)]
  rw[e,ew];go_enter Tryz.func41,Tryz.ntmps41;go_wp2;go_ret;exact⟨rfl,rfl⟩
theorem may_out (op a:Int) (w:World) (h:28≤op):Calls Tryz.prog 42 #[.int .i64 op,.int .i64 a] w fun e w'=>e= .returned (.bool (H.alone op a))∧w=w':=by
 have e:H.alone op a=false:=by unfold H.alone;rw[if_neg (by omega),if_neg (by omega),if_neg (by omega),if_neg (by omega)];simp;omega
 rw[e];have h1:decide (op<0)=false:=by simp;omega
 clear e;go_enter Tryz.func42,Tryz.ntmps42;go_wp2;go_ret;exact⟨rfl,rfl⟩
theorem may_1 (a:Int) (w:World):Calls Tryz.prog 42 #[.int .i64 1,.int .i64 a] w fun e w'=>e= .returned (.bool (H.alone 1 a))∧w=w':=by
 have e:H.alone 1 a=decide (0≤a∧a≤65535):=by simp[H.alone]
 rw[e];clear e;have hsx:∀W,(Instr.index 9 (.string ⟨#[45,119,99,99,45,45,45,45,45,45,45,45,45,45,45,45,106,106,45,45,45,45,45,45,45,116,45,45]⟩) (.int .i64 1)).run Tryz.prog W= .ok (.int .u8 119) W:=fun W=>shp_at 1 (by decide) (by decide) W;by_cases h0:0≤a
 ·by_cases h2:a≤65535
  ·rw[show decide (0≤a∧a≤65535)=true by simp[h0,h2]];have h3:a<65536:=by omega
   go_enter Tryz.func42,Tryz.ntmps42;go_wp2;go_ret;exact⟨rfl,rfl⟩
  ·rw[show decide (0≤a∧a≤65535)=false by simp;omega];have h3:¬a<65536:=by omega
   go_enter Tryz.func42,Tryz.ntmps42;go_wp2;go_ret;exact⟨rfl,rfl⟩
 ·rw[show decide (0≤a∧a≤65535)=false by simp;omega];go_enter Tryz.func42,Tryz.ntmps42;go_wp2;go_ret;exact⟨rfl,rfl⟩
theorem may_2 (a:Int) (w:World):Calls Tryz.prog 42 #[.int .i64 2,.int .i64 a] w fun e w'=>e= .returned (.bool (H.alone 2 a))∧w=w':=by
 have e:H.alone 2 a=decide (0≤a∧a<8):=by simp[H.alone]
 rw[e];clear e;have hsx:∀W,(Instr.index 9 (.string ⟨#[45,119,99,99,45,45,45,45,45,45,45,45,45,45,45,45,106,106,45,45,45,45,45,45,45,116,45,45]⟩) (.int .i64 2)).run Tryz.prog W= .ok (.int .u8 99) W:=fun W=>shp_at 2 (by decide) (by decide) W;by_cases h0:0≤a
 ·by_cases h2:a<8
  ·rw[show decide (0≤a∧a<8)=true by simp[h0,h2]];have h3:a<8:=by omega
   go_enter Tryz.func42,Tryz.ntmps42;go_wp2;go_ret;exact⟨rfl,rfl⟩
  ·rw[show decide (0≤a∧a<8)=false by simp;omega];have h3:¬a<8:=by omega
   go_enter Tryz.func42,Tryz.ntmps42;go_wp2;go_ret;exact⟨rfl,rfl⟩
 ·rw[show decide (0≤a∧a<8)=false by simp;omega];go_enter Tryz.func42,Tryz.ntmps42;go_wp2;go_ret;exact⟨rfl,rfl⟩
theorem may_3 (a:Int) (w:World):Calls Tryz.prog 42 #[.int .i64 3,.int .i64 a] w fun e w'=>e= .returned (.bool (H.alone 3 a))∧w=w':=by
 have e:H.alone 3 a=decide (0≤a∧a<8):=by simp[H.alone]
 rw[e];clear e;have hsx:∀W,(Instr.index 9 (.string ⟨#[45,119,99,99,45,45,45,45,45,45,45,45,45,45,45,45,106,106,45,45,45,45,45,45,45,116,45,45]⟩) (.int .i64 3)).run Tryz.prog W= .ok (.int .u8 99) W:=fun W=>shp_at 3 (by decide) (by decide) W;by_cases h0:0≤a
 ·by_cases h2:a<8
  ·rw[show decide (0≤a∧a<8)=true by simp[h0,h2]];have h3:a<8:=by omega
   go_enter Tryz.func42,Tryz.ntmps42;go_wp2;go_ret;exact⟨rfl,rfl⟩
  ·rw[show decide (0≤a∧a<8)=false by simp;omega];have h3:¬a<8:=by omega
   go_enter Tryz.func42,Tryz.ntmps42;go_wp2;go_ret;exact⟨rfl,rfl⟩
 ·rw[show decide (0≤a∧a<8)=false by simp;omega];go_enter Tryz.func42,Tryz.ntmps42;go_wp2;go_ret;exact⟨rfl,rfl⟩
theorem may_16 (a:Int) (w:World):Calls Tryz.prog 42 #[.int .i64 16,.int .i64 a] w fun e w'=>e= .returned (.bool (H.alone 16 a))∧w=w':=by
 have e:H.alone 16 a=decide (-128≤a∧a≤127):=by simp[H.alone]
 rw[e];clear e;have hsx:∀W,(Instr.index 9 (.string ⟨#[45,119,99,99,45,45,45,45,45,45,45,45,45,45,45,45,106,106,45,45,45,45,45,45,45,116,45,45]⟩) (.int .i64 16)).run Tryz.prog W= .ok (.int .u8 106) W:=fun W=>shp_at 16 (by decide) (by decide) W;by_cases h0: -128≤a
 ·by_cases h2:a≤127
  ·rw[show decide (-128≤a∧a≤127)=true by simp[h0,h2]];have h3:a<128:=by omega
   go_enter Tryz.func42,Tryz.ntmps42;go_wp2;go_ret;exact⟨rfl,rfl⟩
  ·rw[show decide (-128≤a∧a≤127)=false by simp;omega];have h3:¬a<128:=by omega
   go_enter Tryz.func42,Tryz.ntmps42;go_wp2;go_ret;exact⟨rfl,rfl⟩
 ·rw[show decide (-128≤a∧a≤127)=false by simp;omega];go_enter Tryz.func42,Tryz.ntmps42;go_wp2;go_ret;exact⟨rfl,rfl⟩
theorem may_17 (a:Int) (w:World):Calls Tryz.prog 42 #[.int .i64 17,.int .i64 a] w fun e w'=>e= .returned (.bool (H.alone 17 a))∧w=w':=by
 have e:H.alone 17 a=decide (-128≤a∧a≤127):=by simp[H.alone]
 rw[e];clear e;have hsx:∀W,(Instr.index 9 (.string ⟨#[45,119,99,99,45,45,45,45,45,45,45,45,45,45,45,45,106,106,45,45,45,45,45,45,45,116,45,45]⟩) (.int .i64 17)).run Tryz.prog W= .ok (.int .u8 106) W:=fun W=>shp_at 17 (by decide) (by decide) W;by_cases h0: -128≤a
 ·by_cases h2:a≤127
  ·rw[show decide (-128≤a∧a≤127)=true by simp[h0,h2]];have h3:a<128:=by omega
   go_enter Tryz.func42,Tryz.ntmps42;go_wp2;go_ret;exact⟨rfl,rfl⟩
  ·rw[show decide (-128≤a∧a≤127)=false by simp;omega];have h3:¬a<128:=by omega
   go_enter Tryz.func42,Tryz.ntmps42;go_wp2;go_ret;exact⟨rfl,rfl⟩
 ·rw[show decide (-128≤a∧a≤127)=false by simp;omega];go_enter Tryz.func42,Tryz.ntmps42;go_wp2;go_ret;exact⟨rfl,rfl⟩
theorem may_25 (a:Int) (w:World):Calls Tryz.prog 42 #[.int .i64 25,.int .i64 a] w fun e w'=>e= .returned (.bool (H.alone 25 a))∧w=w':=by
 have e:H.alone 25 a=decide (0≤a∧a<4):=by simp[H.alone]
 rw[e];clear e;have hsx:∀W,(Instr.index 9 (.string ⟨#[45,119,99,99,45,45,45,45,45,45,45,45,45,45,45,45,106,106,45,45,45,45,45,45,45,116,45,45]⟩) (.int .i64 25)).run Tryz.prog W= .ok (.int .u8 116) W:=fun W=>shp_at 25 (by decide) (by decide) W;by_cases h0:0≤a
 ·by_cases h2:a<4
  ·rw[show decide (0≤a∧a<4)=true by simp[h0,h2]];have h3:a<4:=by omega
   go_enter Tryz.func42,Tryz.ntmps42;go_wp2;go_ret;exact⟨rfl,rfl⟩
  ·rw[show decide (0≤a∧a<4)=false by simp;omega];have h3:¬a<4:=by omega
   go_enter Tryz.func42,Tryz.ntmps42;go_wp2;go_ret;exact⟨rfl,rfl⟩
 ·rw[show decide (0≤a∧a<4)=false by simp;omega];go_enter Tryz.func42,Tryz.ntmps42;go_wp2;go_ret;exact⟨rfl,rfl⟩
theorem may_any (op a:Int) (w:World) (hop:0≤op):Calls Tryz.prog 42 #[.int .i64 op,.int .i64 a] w fun e w'=>e= .returned (.bool (H.alone op a))∧w=w':=by
 by_cases h28:28≤op
 ·exact may_out op a w h28
 by_cases h1:op=1
 ·subst h1;exact may_1 a w
 by_cases h2:op=2
 ·subst h2;exact may_2 a w
 by_cases h3:op=3
 ·subst h3;exact may_3 a w
 by_cases h16:op=16
 ·subst h16;exact may_16 a w
 by_cases h17:op=17
 ·subst h17;exact may_17 a w
 by_cases h25:op=25
 ·subst h25;exact may_25 a w
 have e:H.alone op a=decide (a=0):=by simp[H.alone,h1,h2,h3,h16,h17,h25];omega
 rw[e];clear e;have es:H.shp op=45:=by unfold H.shp;rw[if_neg h1,if_neg (by omega),if_neg (by omega),if_neg h25]
 have hsx:∀W,(Instr.index 9 (.string ⟨#[45,119,99,99,45,45,45,45,45,45,45,45,45,45,45,45,106,106,45,45,45,45,45,45,45,116,45,45]⟩) (.int .i64 op)).run Tryz.prog W= .ok (.int .u8 45) W:=fun W=>by rw[shp_at op hop (by omega) W,es]
 have g1:decide (op<0)=false:=by simp;omega
 have g2:¬28≤op:=h28;clear es h1 h2 h3 h16 h17 h25 h28;by_cases h0:a=0
 ·subst h0;rw[show decide ((0:Int)=0)=true by simp];go_enter Tryz.func42,Tryz.ntmps42;go_wp2;go_ret;exact⟨rfl,rfl⟩
 ·rw[show decide (a=0)=false by simp[h0]];have b0:(a==0)=false:=by simpa using h0
  clear h0;go_enter Tryz.func42,Tryz.ntmps42;go_wp2;go_ret;exact⟨rfl,rfl⟩
namespace H
def strayI (n:Nat):Nat→List (Int×Int)→Int
 |_,[]=> -1
 |i,x::r=>if lands n i x.1 x.2=true then strayI n (i+1) r else i
def begins:Nat→List (Int×Int)→List Nat
 |_,[]=>[]
 |p,x::r=>p::begins (p+1+wid x.1) r
theorem strayI_step (n:Nat) (l:List (Int×Int)) (k:Nat) (x:Int×Int) (h:l[k]? =some x): strayI n k (l.drop k)=if lands n k x.1 x.2=true then strayI n (k+1) (l.drop (k+1)) else (k:Int):=by
 rw[drop_cons l k x h];rfl
theorem stray_strayI (n:Nat):∀(l:List (Int×Int)) (i p:Nat),(strayI n i l= -1∧stray n i p l=none)∨∃j:Nat,strayI n i l=((i+j:Nat):Int)∧j<l.length∧stray n i p l=(begins p l)[j]? ∧(begins p l)[j]?.isSome=true
 |[],i,p=> .inl ⟨rfl,rfl⟩
 |x::r,i,p=>by
  simp only[strayI,stray,begins];by_cases h:lands n i x.1 x.2=true
  ·rw[if_pos h,if_pos h];rcases stray_strayI n r (i+1) (p+1+wid x.1) with ⟨h1,h2⟩|⟨j,h1,h2,h3,h4⟩
   ·exact .inl ⟨h1,h2⟩
   ·refine .inr ⟨j+1,by rw[h1];congr 1;omega,by simp;omega,by simpa using h3,by simpa using h4⟩
  ·rw[if_neg h,if_neg h];exact .inr ⟨0,rfl,by simp,rfl,rfl⟩
theorem begins_snoc:∀(l:List (Int×Int)) (p:Nat) (x:Int×Int),begins p (l++[x])=begins p l++[p+(encAll l).length]
 |[],p,x=>by simp[begins,encAll]
 |y::r,p,x=>by
  simp only[List.cons_append,begins,begins_snoc r];simp[encAll,enc_length];omega
end H
theorem shp_ne (o:Int) (hj:¬(o=16∨o=17)):(H.shp o==106)=false:=by
 unfold H.shp;by_cases h1:o=1
 ·rw[if_pos h1];rfl
 rw[if_neg h1];by_cases h2:o=2∨o=3
 ·rw[if_pos h2];rfl
 rw[if_neg h2,if_neg hj];by_cases h4:o=25
 ·rw[if_pos h4];rfl
 ·rw[if_neg h4];rfl
theorem strays_any (g n cv:Nat) (l:List (Int×Int)) (w:World) (h64:n≤64) (hn:l.length=n) (hrow:InsRow w g 0 l) (hal:∀x∈l,H.alone x.1 x.2=true∧0≤x.1): Calls Tryz.prog 43 #[.slice (some ⟨g,0,none⟩) n cv] w fun e w'=>e= .returned (.int .i64 (H.strayI n 0 l))∧w=w':=by
 have HR:Hid (InsRow w g 0 l):=hrow;have Hn:Hid (l.length=n):=hn;have HA:Hid (∀x∈l,H.alone x.1 x.2=true∧0≤x.1):=hal;clear hrow hn hal;go_enter Tryz.func43,Tryz.ntmps43;go_wp2;go_loop [3] (fun i=>∃k:Nat,k≤n∧i= .int .i64 k∧H.strayI n 0 l=H.strayI n k (l.drop k)) (fun i=>n-(intOf i).toNat);case atStart=>exact⟨0,Nat.zero_le _,rfl,by simp⟩
 case round=>
  obtain⟨k,hk,rfl,hst⟩:=hrel;have HS:Hid (H.strayI n 0 l=H.strayI n k (l.drop k)):=hst;clear hst;by_cases hlt:k<n
  ·obtain⟨x,hx⟩:∃x,l[k]? =some x:=⟨l[k]'(by have:=Hn.out;omega),List.getElem?_eq_getElem (by have:=Hn.out;omega)⟩;obtain⟨o,a⟩:=x;obtain⟨c0,c1⟩:=HR.out k _ hx;rw[Nat.zero_add] at c0 c1;obtain⟨ha,ho⟩:=HA.out _ (List.mem_of_getElem? hx);simp only at ha ho c0 c1;have h27:=H.alone_op o a ha;have HT:Hid (H.strayI n 0 l=if H.lands n k o a=true then H.strayI n (k+1) (l.drop (k+1)) else (k:Int)):=HS.out.trans (H.strayI_step n l k (o,a) hx);have hwo:wrap64 o=o:=by unfold wrap64;omega
   have hsx:∀W,(Instr.index 9 (.string ⟨#[45,119,99,99,45,45,45,45,45,45,45,45,45,45,45,45,106,106,45,45,45,45,45,45,45,116,45,45]⟩) (.int .i64 o)).run Tryz.prog W= .ok (.int .u8 (H.shp o)) W:=fun W=>shp_at o ho (by omega) W;by_cases hj:o=16∨o=17
   ·have hb: -128≤a∧a≤127:=by rcases hj with rfl|rfl<;>simpa[H.alone] using ha
    obtain⟨hb0,hb1⟩:=hb;have es:H.shp o=106:=by unfold H.shp;rw[if_neg (by omega),if_neg (by omega),if_pos hj]
    rw[es] at hsx;have el:H.lands n k o a=decide (0≤(k:Int)+1+a∧(k:Int)+1+a≤n):=by unfold H.lands;rw[if_pos hj]
    rw[el] at HT;clear hx ha es el HS hj;by_cases h0:(k:Int)+1+a<0
    ·have hv:Hid (H.strayI n 0 l=(k:Int)):=by unfold Hid;rw[HT.out,if_neg (by simp;omega)]
     go_wp2;go_ret;exact⟨ret_int hv.out.symm,rfl⟩
    ·by_cases h1:(n:Int)<(k:Int)+1+a
     ·have hv:Hid (H.strayI n 0 l=(k:Int)):=by unfold Hid;rw[HT.out,if_neg (by simp;omega)]
      have g0:decide ((k:Int)+1+a<0)=false:=by simp;omega
      clear h0;go_wp2;go_ret;exact⟨ret_int hv.out.symm,rfl⟩
     ·have hv:Hid (H.strayI n 0 l=H.strayI n (k+1) (l.drop (k+1))):=by unfold Hid;rw[HT.out,if_pos (by simp;omega)]
      have g0:decide ((k:Int)+1+a<0)=false:=by simp;omega
      have g1:decide ((n:Int)<(k:Int)+1+a)=false:=by simp;omega
      clear h0 h1;go_wp2;go_round;case rel=>exact⟨k+1,by omega,by go_num,hv.out⟩
      case measure=>simp[intOf];omega
   ·have es:(H.shp o==106)=false:=shp_ne o hj;have el:H.lands n k o a=true:=lands_other (fun h=>hj (.inl h)) (fun h=>hj (.inr h));have hv:Hid (H.strayI n 0 l=H.strayI n (k+1) (l.drop (k+1))):=by unfold Hid;rw[HT.out,el];rfl
    obtain⟨a',ha'⟩:∃a',a'=wrap64 ((k:Int)+1+a):=⟨_,rfl⟩;clear hx ha el HS hj HT ha';go_wp2;go_round;case rel=>exact⟨k+1,by omega,by go_num,hv.out⟩
    case measure=>simp[intOf];omega
  ·have hv:Hid (H.strayI n 0 l= -1):=by unfold Hid;rw[HS.out,List.drop_of_length_le (by have:=Hn.out;omega)];rfl
   go_wp2;go_ret;exact⟨ret_int hv.out.symm,rfl⟩
theorem info3:(Tryz.prog.info? 3).map (fun i=>(i.zero,i.size,i.bytes))=some (some (.int .i64 0),1,8):=by kernel_rfl
def i64s (l:List Nat):List Value:=l.map fun(n:Nat)=>Value.int .i64 (n:Int)
theorem i64s_snoc (l:List Nat) (n:Nat):i64s (l++[n])=i64s l++[Value.int .i64 (n:Int)]:=by simp[i64s]
namespace H
def part (L:List Int) (p:Nat):Nat→Int
 |0=>0
 |k+1=>256*part L p k+at0 L (p+(k+1))
theorem part_range (L:List Int) (p:Nat) (hb:∀i,0≤at0 L i∧at0 L i≤255):∀k,k≤2→0≤part L p k∧part L p k≤65535:=by
 intro k hk;have b1:=hb (p+1);have b2:=hb (p+2);rcases(show k=0∨k=1∨k=2 by omega) with rfl|rfl|rfl
 ·show(0:Int)≤0∧(0:Int)≤65535;omega
 ·show 0≤256*0+at0 L (p+1)∧256*0+at0 L (p+1)≤65535;omega
 ·show 0≤256*(256*0+at0 L (p+1))+at0 L (p+2)∧256*(256*0+at0 L (p+1))+at0 L (p+2)≤65535;omega
theorem opnd_part (L:List Int) (p:Nat) (hb:∀i,0≤at0 L i∧at0 L i≤255) (o:Int) (ho:at0 L p=o): opnd L p=if (o=16∨o=17)∧127<part L p (wid o) then part L p (wid o)-256 else part L p (wid o):=by
 have b1:=hb (p+1);unfold opnd;rw[ho];by_cases h1:o=1
 ·subst h1;rw[if_pos rfl,if_neg (by omega)];show _=256*(256*0+at0 L (p+1))+at0 L (p+2);omega
 rw[if_neg h1];by_cases hj:o=16∨o=17
 ·have hw:wid o=1:=by unfold wid;rw[if_neg h1,if_pos (by omega)]
  have hp:part L p 1=at0 L (p+1):=by show 256*0+at0 L (p+1)=_;omega
  rw[if_pos hj,hw,hp];unfold sg;by_cases h:at0 L (p+1)<128
  ·rw[if_pos h,if_neg (by omega)]
  ·rw[if_neg h,if_pos ⟨hj,by omega⟩]
 rw[if_neg hj];by_cases h2:o=2∨o=3∨o=25
 ·have hw:wid o=1:=by unfold wid;rw[if_neg h1,if_pos (by omega)]
  rw[if_pos h2,if_neg (fun h=>hj h.1),hw];show _=256*0+at0 L (p+1);omega
 ·have hw:wid o=0:=by unfold wid;rw[if_neg h1,if_neg (by omega)]
  rw[if_neg h2,if_neg (fun h=>hj h.1),hw];rfl
end H
theorem own_other {w w':World} {base:Nat} {e:TypeId} {size:Nat} {v:Value} {n:Nat} {xs:List Value} (ho:w.ownsRow base e size v n xs)
 {base':Nat} {e':TypeId} {size':Nat} {v':Value} {n':Nat} {xs':List Value} (ho':w.ownsRow base' e' size' v' n' xs') (hne:e≠e') (hg:w.grownBy w' v'.ownBlock):w'.ownsRow base e size v n xs:=by
 obtain⟨h1,h2⟩:=ho;refine⟨h1,?_⟩;rcases h2 with h2|⟨g,cap,cur,hv,hb,hh,r⟩
 ·exact Or.inl h2
 ·have hB:Blk w g cur e:=hh;exact Or.inr ⟨g,cap,cur,hv,hb,hB.grown hg (hB.ne_own ho' hne),r⟩
set_option maxRecDepth 100000 in
theorem refDec_any (s:ByteArray) (w:World) (hs:s.size≤maxLen): Calls Tryz.prog 34 #[.string s] w fun e w'=>decEnd (H.bts s) w.heap.size w e w':=by
 obtain⟨i0,hi,hz0,hz1,hz2⟩:=info_parts info28;obtain⟨j0,hj9,hy0,hy1,hy2⟩:=info_parts info3;have HS:Hid (s.size≤maxLen):=hs;have HL:Hid ((H.bts s).length=s.size):=H.bts_length s;have HRg:Hid (∀i,0≤H.at0 (H.bts s) i∧H.at0 (H.bts s) i≤255):=H.at0_bts_range s;unfold maxLen at hs;go_enter Tryz.func34,Tryz.ntmps34;go_wp2;go_loopw [5,6,7] (fun v u i wr=>∃(p cv cb:Nat) (ao bo:Option Addr) (acc:List (Int×Int)),v= .slice ao acc.length cv∧u= .slice bo acc.length cb∧p≤s.size∧i= .int .i64 p∧wr.ownsRow w.heap.size 99 2 (.slice ao acc.length cv) acc.length (insCells acc)∧wr.ownsRow w.heap.size 3 1 (.slice bo acc.length cb) acc.length (i64s (H.begins 0 acc))∧Below w.heap.size w wr∧acc.length≤64∧(∀x∈acc,H.alone x.1 x.2=true∧0≤x.1)∧p=(H.encAll acc).length∧H.scanAt (H.bts s) 0 []=H.scanAt (H.bts s) p acc)
  (fun _ _ i _=>s.size-(intOf i).toNat)
 case atStart=>exact⟨0,0,0,none,none,[],rfl,rfl,Nat.zero_le _,rfl,World.ownsRow_nil _ _ _ _,(show World.ownsRow _ _ _ _ _ 0 [] from World.ownsRow_nil _ _ _ _),Below.refl _ _,by simp,by simp,rfl,rfl⟩
 case round=>
  obtain⟨p,cv,cb,ao,bo,acc,rfl,rfl,hp,rfl,hown,hbeg,hbel,h64,hal,hpe,hsc⟩:=hrel;have HO:Hid (wr.ownsRow w.heap.size 99 2 (.slice ao acc.length cv) acc.length (insCells acc)):=hown;have HG:Hid (wr.ownsRow w.heap.size 3 1 (.slice bo acc.length cb) acc.length (i64s (H.begins 0 acc))):=hbeg;have HB:Hid (Below w.heap.size w wr):=hbel;have HC:Hid (H.scanAt (H.bts s) 0 []=H.scanAt (H.bts s) p acc):=hsc;have HA:Hid (∀x∈acc,H.alone x.1 x.2=true∧0≤x.1):=hal;have HPe:Hid (p=(H.encAll acc).length):=hpe;have hsz:=hbel.size;have hp3:p≤192:=by have:=(H.encAll_length acc).2;omega
  clear hown hbeg hbel hsc hal hpe;by_cases hlt:p<s.size
  ·have hat:=H.at0_bts s p hlt;obtain⟨o,ho⟩:∃o:Int,o=H.at0 (H.bts s) p:=⟨_,rfl⟩;have hor:=HRg.out p;rw[←ho] at hor hat;obtain⟨ho0,ho1⟩:=hor;have hat':((s[p].toNat:Nat):Int)=o:=hat.symm;have Ho:Hid (o=H.at0 (H.bts s) p):=ho;have hwo:wrap64 o=o:=by unfold wrap64;omega
   have hwl:=H.wid_le o;clear ho hat;by_cases hl:acc.length=64
   ·have hd:Hid (H.decode (H.bts s)=([],1,(p:Int))):=H.decode_bad _ [] p (HC.out.trans (H.scanAt_bad _ _ _ (by have:=HL.out;omega) (by rintro⟨_,h,_⟩;exact h hl)));have hl2:(64:Int)≤(acc.length:Int):=by omega
    clear HC HO HG;go_wp2;go_ret3;exact decEnd_bad hd.out HB.out
   have hl2:decide ((64:Int)≤(acc.length:Int))=false:=by simp;omega
   have hl3:decide (64≤acc.length)=false:=by simp;omega
   by_cases h28:28≤o
   ·have hd:Hid (H.decode (H.bts s)=([],1,(p:Int))):=H.decode_bad _ [] p (HC.out.trans (H.scanAt_bad _ _ _ (by have:=HL.out;omega) (by rintro⟨_,_,h⟩;rw[←Ho.out] at h;have:=H.alone_op _ _ h;omega)));clear HC HO HG;go_wp2;go_ret3;exact decEnd_bad hd.out HB.out
   have hl4:decide (28≤o)=false:=by simp;omega
   have hsx:∀W,(Instr.index 9 (.string ⟨#[45,119,99,99,45,45,45,45,45,45,45,45,45,45,45,45,106,106,45,45,45,45,45,45,45,116,45,45]⟩) (.int .i64 o)).run Tryz.prog W= .ok (.int .u8 (H.shp o)) W:=fun W=>shp_at o ho0 (by omega) W;by_cases hw:s.size≤p+H.wid o
   ·have hd:Hid (H.decode (H.bts s)=([],1,(p:Int))):=H.decode_bad _ [] p (HC.out.trans (H.scanAt_bad _ _ _ (by have:=HL.out;omega) (by rintro⟨h,_,_⟩;rw[←Ho.out] at h;have:=HL.out;omega)));have hw2:(s.size:Int)≤(p:Int)+(H.wid o:Int):=by omega
    clear HC HO HG;go_wp2_with (go_at_call 41;refine(size_any o _).mono ?_;rintro e w' ⟨rfl,rfl⟩);go_ret3;exact decEnd_bad hd.out HB.out
   have hw2:decide ((s.size:Int)≤(p:Int)+(H.wid o:Int))=false:=by simp;omega
   have hw3:decide (s.size≤p+H.wid o)=false:=by simp;omega
   go_wp2_with (go_at_call 41;refine(size_any o _).mono ?_;rintro e w' ⟨rfl,rfl⟩);go_loop [10,11] (fun a k=>∃j:Nat,j≤H.wid o∧a= .int .i64 (H.part (H.bts s) p j)∧k= .int .i64 ((j+1:Nat):Int)) (fun _ k=>H.wid o+1-(intOf k).toNat);case atStart=>exact⟨0,Nat.zero_le _,rfl,rfl⟩
   case round=>
    obtain⟨j,hj,rfl,rfl⟩:=hrel;by_cases hjw:j<H.wid o
    ·have hlt2:p+(j+1)<s.size:=by omega
     have hrb:=HRg.out (p+(j+1));have hat2:=H.at0_bts s (p+(j+1)) hlt2;have hpr:=H.part_range (H.bts s) p HRg.out j (by omega);have hix:∀W,(Instr.index 9 (.string s) (.int .i64 ((p+(j+1):Nat):Int))).run Tryz.prog W= .ok (.int .u8 (H.at0 (H.bts s) (p+(j+1)))) W:=by intro W;rw[run_index_string (P:=Tryz.prog) W 9 s .i64 ((p+(j+1):Nat):Int) Tryz.underlying9,dif_pos ⟨by omega,by omega⟩,hat2];rfl
     obtain⟨b,hb⟩:∃b,b=H.at0 (H.bts s) (p+(j+1)):=⟨_,rfl⟩;obtain⟨A,hA⟩:∃A,A=H.part (H.bts s) p j:=⟨_,rfl⟩;have HBb:Hid (H.part (H.bts s) p (j+1)=256*A+b):=by unfold Hid;rw[hA,hb];rfl
     rw[←hb] at hix hrb;rw[←hA] at hpr ⊢;obtain⟨hr0,hr1⟩:=hrb;obtain⟨hp0,hp1⟩:=hpr;clear hat2 hA hb;have Hj1:Hid (j<H.wid o):=hjw;obtain⟨k,hk⟩:∃k:Int,k=((j+1:Nat):Int):=⟨_,rfl⟩;have HK:Hid (k=(j:Int)+1):=by unfold Hid;omega
     have hix:∀W,(Instr.index 9 (.string s) (.int .i64 ((p:Int)+k))).run Tryz.prog W= .ok (.int .u8 b) W:=by intro W;rw[show(p:Int)+k=((p+(j+1):Nat):Int) by omega];exact hix W
     rw[←hk];have hj1:k≤(H.wid o:Int):=by omega
     have hk0:1≤k:=by omega
     have hk1:k≤2:=by omega
     have hiw:wrap64 ((p:Int)+k)=(p:Int)+k:=by unfold wrap64;omega
     have hkw:wrap64 (k+1)=k+1:=by unfold wrap64;omega
     have haw:wrap64 (256*A)=256*A:=by unfold wrap64;omega
     have hbw:wrap64 b=b:=by unfold wrap64;omega
     have hcw:wrap64 (256*A+b)=256*A+b:=by unfold wrap64;omega
     clear hk hjw hlt2 hj;go_wp2;go_round;case rel=>exact⟨j+1,by have:=Hj1.out;omega,by rw[HBb.out],by rw[HK.out];rfl⟩
     case measure=>have:=Hj1.out;have:=HK.out;simp[intOf];omega
    ·have hje:j=H.wid o:=by omega
     subst hje;have hpr:=H.part_range (H.bts s) p HRg.out (H.wid o) (by omega);have hop:=H.opnd_part (H.bts s) p HRg.out o Ho.out.symm;obtain⟨A,hA⟩:∃A,A=H.part (H.bts s) p (H.wid o):=⟨_,rfl⟩;rw[←hA] at hpr hop ⊢;obtain⟨hp0,hp1⟩:=hpr;obtain⟨k,hk⟩:∃k:Int,k=((H.wid o+1:Nat):Int):=⟨_,rfl⟩;rw[←hk];have hj1:decide (k≤(H.wid o:Int))=false:=by simp;omega
     have hj2:¬k≤(H.wid o:Int):=by omega
     have h3:((H.shp o==106)=true∧H.shp o=106∧127<A∧H.opnd (H.bts s) p=A-256)∨(H.shp o=106∧¬127<A∧H.opnd (H.bts s) p=A)∨((H.shp o==106)=false∧H.opnd (H.bts s) p=A):=by
      by_cases hjj:o=16∨o=17
      ·have es:H.shp o=106:=by unfold H.shp;rw[if_neg (by omega),if_neg (by omega),if_pos hjj]
       by_cases h:127<A
       ·exact .inl ⟨by rw[es];rfl,es,h,by rw[hop,if_pos ⟨hjj,h⟩]⟩
       ·exact .inr (.inl ⟨es,h,by rw[hop,if_neg (fun x=>h x.2)]⟩)
      ·exact .inr (.inr ⟨shp_ne o hjj,by rw[hop,if_neg (fun x=>hjj x.1)]⟩)
     clear hk hjw hA hop;rcases h3 with ⟨-,es,hA1,hop⟩|⟨es,hA1,hop⟩|⟨es,hop⟩
     ·rw[es] at hsx ⊢;have haw:wrap64 (A-256)=A-256:=by unfold wrap64;omega
      have HOp:Hid (H.opnd (H.bts s) p=A-256):=hop;clear hop es;go_wp2_with fail;obtain⟨a,ha⟩:∃a,a=A-256:=⟨_,rfl⟩;have Ha:Hid (a=H.opnd (H.bts s) p):=by unfold Hid;rw[HOp.out,ha]
      rw[←ha];clear ha haw HOp;refine(may_any o a _ ho0).mono ?_;rintro e w' ⟨rfl,rfl⟩;cases halo:H.alone o a
      ·have hd:Hid (H.decode (H.bts s)=([],1,(p:Int))):=H.decode_bad _ [] p (HC.out.trans (H.scanAt_bad _ _ _ (by have:=HL.out;omega) (by rintro⟨_,_,h⟩;rw[←Ho.out,←Ha.out,halo] at h;cases h)));clear halo HC HO HG;go_wp2;go_ret3;exact decEnd_bad hd.out HB.out
      ·have Hal:Hid (H.alone o a=true):=halo;clear halo;go_wp2_with (at_builtin;refine wpList_append_own _ rfl (.tmp 72) (.tmp 78) 89 rfl w.heap.size 99 i0 (.agg #[.int .u8 0,.int .i64 0]) 2 16 Tryz.underlying89 hi hz0 hz1 hz2 rfl (by decide) _ _ _ rfl (HO.out.alloc _) ⟨wr.heap.size,0,none⟩ 1 1 [.int .u8 o,.int .i64 a] rfl rfl (new_two _ _ _ _) (by intro u hu;simp at hu;rcases hu with rfl|rfl<;>rfl) (by unfold maxLen;omega) (by omega) (by simp;omega) ?_);intro v3 w3 hown3 hg3 _;have hb3:Below w.heap.size w w3:=below_app (HB.out.alloc hsz _) hg3 (HO.out.alloc _) (Nat.le_refl _) (by simp;omega);have HG3:Hid (w3.ownsRow w.heap.size 3 1 (.slice bo acc.length cb) acc.length (i64s (H.begins 0 acc))):=own_other (HG.out.alloc _) (HO.out.alloc _) (by decide) hg3;obtain⟨g3,cap3,hv3⟩:∃g3 cap3,v3= .slice (some ⟨g3,0,none⟩) (acc.length+1) cap3:=by
        rcases hown3.2 with ⟨_,h⟩|⟨g3,cap3,_,h,_⟩
        ·omega
        ·exact⟨g3,cap3,h⟩
       have HV:Hid (v3= .slice (some ⟨g3,0,none⟩) (acc.length+1) cap3):=hv3;have HB3:Hid (Below w.heap.size w w3):=hb3;have hs3:=hb3.size;have HO3:Hid (w3.ownsRow w.heap.size 99 2 v3 (acc.length+1) (insCells acc++[.int .u8 o,.int .i64 a])):=hown3;clear hown3 hg3 hb3 HO HG HB hv3;go_wp2_with (at_builtin;refine wpList_append_own _ rfl (.tmp 80) (.tmp 82) 49 rfl w.heap.size 3 j0 (.int .i64 0) 1 8 Tryz.underlying49 hj9 hy0 hy1 hy2 rfl (by decide) _ _ _ rfl (HG3.out.alloc _) ⟨w3.heap.size,0,none⟩ 1 1 [.int .i64 p] rfl rfl (new_one _ _ _) (by intro u hu;simp at hu;subst hu;rfl) (by unfold maxLen;omega) (by omega) (by simp;omega) ?_);intro v4 w4 hown4 hg4 _;have hb4:Below w.heap.size w w4:=below_app (HB3.out.alloc hs3 _) hg4 (HG3.out.alloc _) (Nat.le_refl _) (by simp;omega);have HO4:Hid (w4.ownsRow w.heap.size 99 2 v3 (acc.length+1) (insCells acc++[.int .u8 o,.int .i64 a])):=own_other (HO3.out.alloc _) (HG3.out.alloc _) (by decide) hg4;obtain⟨g4,cap4,hv4⟩:∃g4 cap4,v4= .slice (some ⟨g4,0,none⟩) (acc.length+1) cap4:=by
        rcases hown4.2 with ⟨_,h⟩|⟨g4,cap4,_,h,_⟩
        ·omega
        ·exact⟨g4,cap4,h⟩
       have HV4:Hid (v4= .slice (some ⟨g4,0,none⟩) (acc.length+1) cap4):=hv4;have HB4:Hid (Below w.heap.size w w4):=hb4;have HG4:Hid (w4.ownsRow w.heap.size 3 1 v4 (acc.length+1) (i64s (H.begins 0 acc)++[.int .i64 p])):=hown4;clear hown4 hg4 hb4 HO3 HG3 HB3 hv4;go_wp2;go_roundw
       case rel=>
        refine⟨p+1+H.wid o,cap3,cap4,some ⟨g3,0,none⟩,some ⟨g4,0,none⟩,acc++[(o,a)],by rw[HV.out];simp,by rw[HV4.out];simp,by omega,by go_num,?_,?_,HB4.out,by simp;omega,?_,?_,?_⟩
        ·rw[insCells_snoc];have h:=HO4.out;rw[HV.out] at h;simpa using h
        ·rw[H.begins_snoc,i64s_snoc,Nat.zero_add,←HPe.out];have h:=HG4.out;rw[HV4.out] at h;simpa using h
        ·intro x hx;rcases List.mem_append.1 hx with h|h
         ·exact HA.out x h
         ·simp at h;subst h;exact⟨Hal.out,ho0⟩
        ·rw[H.encAll_snoc,List.length_append,←HPe.out,H.enc_length];show p+1+H.wid o=p+(1+H.wid o);omega
        ·rw[HC.out,Ho.out,Ha.out];exact H.scanAt_ok _ _ _ (by have:=HL.out;omega) (by rw[←Ho.out];have:=HL.out;omega) hl (by rw[←Ho.out,←Ha.out];exact Hal.out)
       case measure=>simp[intOf];omega
     ·rw[es] at hsx ⊢;have Ha:Hid (A=H.opnd (H.bts s) p):=hop.symm;clear hop es;have hA2:A≤127:=by omega
      clear hA1;go_wp2_with fail;refine(may_any o A _ ho0).mono ?_;rintro e w' ⟨rfl,rfl⟩;cases halo:H.alone o A
      ·have hd:Hid (H.decode (H.bts s)=([],1,(p:Int))):=H.decode_bad _ [] p (HC.out.trans (H.scanAt_bad _ _ _ (by have:=HL.out;omega) (by rintro⟨_,_,h⟩;rw[←Ho.out,←Ha.out,halo] at h;cases h)));clear halo HC HO HG;go_wp2;go_ret3;exact decEnd_bad hd.out HB.out
      ·have Hal:Hid (H.alone o A=true):=halo;clear halo;go_wp2_with (at_builtin;refine wpList_append_own _ rfl (.tmp 72) (.tmp 78) 89 rfl w.heap.size 99 i0 (.agg #[.int .u8 0,.int .i64 0]) 2 16 Tryz.underlying89 hi hz0 hz1 hz2 rfl (by decide) _ _ _ rfl (HO.out.alloc _) ⟨wr.heap.size,0,none⟩ 1 1 [.int .u8 o,.int .i64 A] rfl rfl (new_two _ _ _ _) (by intro u hu;simp at hu;rcases hu with rfl|rfl<;>rfl) (by unfold maxLen;omega) (by omega) (by simp;omega) ?_);intro v3 w3 hown3 hg3 _;have hb3:Below w.heap.size w w3:=below_app (HB.out.alloc hsz _) hg3 (HO.out.alloc _) (Nat.le_refl _) (by simp;omega);have HG3:Hid (w3.ownsRow w.heap.size 3 1 (.slice bo acc.length cb) acc.length (i64s (H.begins 0 acc))):=own_other (HG.out.alloc _) (HO.out.alloc _) (by decide) hg3;obtain⟨g3,cap3,hv3⟩:∃g3 cap3,v3= .slice (some ⟨g3,0,none⟩) (acc.length+1) cap3:=by
        rcases hown3.2 with ⟨_,h⟩|⟨g3,cap3,_,h,_⟩
        ·omega
        ·exact⟨g3,cap3,h⟩
       have HV:Hid (v3= .slice (some ⟨g3,0,none⟩) (acc.length+1) cap3):=hv3;have HB3:Hid (Below w.heap.size w w3):=hb3;have hs3:=hb3.size;have HO3:Hid (w3.ownsRow w.heap.size 99 2 v3 (acc.length+1) (insCells acc++[.int .u8 o,.int .i64 A])):=hown3;clear hown3 hg3 hb3 HO HG HB hv3;go_wp2_with (at_builtin;refine wpList_append_own _ rfl (.tmp 80) (.tmp 82) 49 rfl w.heap.size 3 j0 (.int .i64 0) 1 8 Tryz.underlying49 hj9 hy0 hy1 hy2 rfl (by decide) _ _ _ rfl (HG3.out.alloc _) ⟨w3.heap.size,0,none⟩ 1 1 [.int .i64 p] rfl rfl (new_one _ _ _) (by intro u hu;simp at hu;subst hu;rfl) (by unfold maxLen;omega) (by omega) (by simp;omega) ?_);intro v4 w4 hown4 hg4 _;have hb4:Below w.heap.size w w4:=below_app (HB3.out.alloc hs3 _) hg4 (HG3.out.alloc _) (Nat.le_refl _) (by simp;omega);have HO4:Hid (w4.ownsRow w.heap.size 99 2 v3 (acc.length+1) (insCells acc++[.int .u8 o,.int .i64 A])):=own_other (HO3.out.alloc _) (HG3.out.alloc _) (by decide) hg4;obtain⟨g4,cap4,hv4⟩:∃g4 cap4,v4= .slice (some ⟨g4,0,none⟩) (acc.length+1) cap4:=by
        rcases hown4.2 with ⟨_,h⟩|⟨g4,cap4,_,h,_⟩
        ·omega
        ·exact⟨g4,cap4,h⟩
       have HV4:Hid (v4= .slice (some ⟨g4,0,none⟩) (acc.length+1) cap4):=hv4;have HB4:Hid (Below w.heap.size w w4):=hb4;have HG4:Hid (w4.ownsRow w.heap.size 3 1 v4 (acc.length+1) (i64s (H.begins 0 acc)++[.int .i64 p])):=hown4;clear hown4 hg4 hb4 HO3 HG3 HB3 hv4;go_wp2;go_roundw
       case rel=>
        refine⟨p+1+H.wid o,cap3,cap4,some ⟨g3,0,none⟩,some ⟨g4,0,none⟩,acc++[(o,A)],by rw[HV.out];simp,by rw[HV4.out];simp,by omega,by go_num,?_,?_,HB4.out,by simp;omega,?_,?_,?_⟩
        ·rw[insCells_snoc];have h:=HO4.out;rw[HV.out] at h;simpa using h
        ·rw[H.begins_snoc,i64s_snoc,Nat.zero_add,←HPe.out];have h:=HG4.out;rw[HV4.out] at h;simpa using h
        ·intro x hx;rcases List.mem_append.1 hx with h|h
         ·exact HA.out x h
         ·simp at h;subst h;exact⟨Hal.out,ho0⟩
        ·rw[H.encAll_snoc,List.length_append,←HPe.out,H.enc_length];show p+1+H.wid o=p+(1+H.wid o);omega
        ·rw[HC.out,Ho.out,Ha.out];exact H.scanAt_ok _ _ _ (by have:=HL.out;omega) (by rw[←Ho.out];have:=HL.out;omega) hl (by rw[←Ho.out,←Ha.out];exact Hal.out)
       case measure=>simp[intOf];omega
     ·have Ha:Hid (A=H.opnd (H.bts s) p):=hop.symm;clear hop;go_wp2_with fail;refine(may_any o A _ ho0).mono ?_;rintro e w' ⟨rfl,rfl⟩;cases halo:H.alone o A
      ·have hd:Hid (H.decode (H.bts s)=([],1,(p:Int))):=H.decode_bad _ [] p (HC.out.trans (H.scanAt_bad _ _ _ (by have:=HL.out;omega) (by rintro⟨_,_,h⟩;rw[←Ho.out,←Ha.out,halo] at h;cases h)));clear halo HC HO HG;go_wp2;go_ret3;exact decEnd_bad hd.out HB.out
      ·have Hal:Hid (H.alone o A=true):=halo;clear halo;go_wp2_with (at_builtin;refine wpList_append_own _ rfl (.tmp 72) (.tmp 78) 89 rfl w.heap.size 99 i0 (.agg #[.int .u8 0,.int .i64 0]) 2 16 Tryz.underlying89 hi hz0 hz1 hz2 rfl (by decide) _ _ _ rfl (HO.out.alloc _) ⟨wr.heap.size,0,none⟩ 1 1 [.int .u8 o,.int .i64 A] rfl rfl (new_two _ _ _ _) (by intro u hu;simp at hu;rcases hu with rfl|rfl<;>rfl) (by unfold maxLen;omega) (by omega) (by simp;omega) ?_);intro v3 w3 hown3 hg3 _;have hb3:Below w.heap.size w w3:=below_app (HB.out.alloc hsz _) hg3 (HO.out.alloc _) (Nat.le_refl _) (by simp;omega);have HG3:Hid (w3.ownsRow w.heap.size 3 1 (.slice bo acc.length cb) acc.length (i64s (H.begins 0 acc))):=own_other (HG.out.alloc _) (HO.out.alloc _) (by decide) hg3;obtain⟨g3,cap3,hv3⟩:∃g3 cap3,v3= .slice (some ⟨g3,0,none⟩) (acc.length+1) cap3:=by
        rcases hown3.2 with ⟨_,h⟩|⟨g3,cap3,_,h,_⟩
        ·omega
        ·exact⟨g3,cap3,h⟩
       have HV:Hid (v3= .slice (some ⟨g3,0,none⟩) (acc.length+1) cap3):=hv3;have HB3:Hid (Below w.heap.size w w3):=hb3;have hs3:=hb3.size;have HO3:Hid (w3.ownsRow w.heap.size 99 2 v3 (acc.length+1) (insCells acc++[.int .u8 o,.int .i64 A])):=hown3;clear hown3 hg3 hb3 HO HG HB hv3;go_wp2_with (at_builtin;refine wpList_append_own _ rfl (.tmp 80) (.tmp 82) 49 rfl w.heap.size 3 j0 (.int .i64 0) 1 8 Tryz.underlying49 hj9 hy0 hy1 hy2 rfl (by decide) _ _ _ rfl (HG3.out.alloc _) ⟨w3.heap.size,0,none⟩ 1 1 [.int .i64 p] rfl rfl (new_one _ _ _) (by intro u hu;simp at hu;subst hu;rfl) (by unfold maxLen;omega) (by omega) (by simp;omega) ?_);intro v4 w4 hown4 hg4 _;have hb4:Below w.heap.size w w4:=below_app (HB3.out.alloc hs3 _) hg4 (HG3.out.alloc _) (Nat.le_refl _) (by simp;omega);have HO4:Hid (w4.ownsRow w.heap.size 99 2 v3 (acc.length+1) (insCells acc++[.int .u8 o,.int .i64 A])):=own_other (HO3.out.alloc _) (HG3.out.alloc _) (by decide) hg4;obtain⟨g4,cap4,hv4⟩:∃g4 cap4,v4= .slice (some ⟨g4,0,none⟩) (acc.length+1) cap4:=by
        rcases hown4.2 with ⟨_,h⟩|⟨g4,cap4,_,h,_⟩
        ·omega
        ·exact⟨g4,cap4,h⟩
       have HV4:Hid (v4= .slice (some ⟨g4,0,none⟩) (acc.length+1) cap4):=hv4;have HB4:Hid (Below w.heap.size w w4):=hb4;have HG4:Hid (w4.ownsRow w.heap.size 3 1 v4 (acc.length+1) (i64s (H.begins 0 acc)++[.int .i64 p])):=hown4;clear hown4 hg4 hb4 HO3 HG3 HB3 hv4;go_wp2;go_roundw
       case rel=>
        refine⟨p+1+H.wid o,cap3,cap4,some ⟨g3,0,none⟩,some ⟨g4,0,none⟩,acc++[(o,A)],by rw[HV.out];simp,by rw[HV4.out];simp,by omega,by go_num,?_,?_,HB4.out,by simp;omega,?_,?_,?_⟩
        ·rw[insCells_snoc];have h:=HO4.out;rw[HV.out] at h;simpa using h
        ·rw[H.begins_snoc,i64s_snoc,Nat.zero_add,←HPe.out];have h:=HG4.out;rw[HV4.out] at h;simpa using h
        ·intro x hx;rcases List.mem_append.1 hx with h|h
         ·exact HA.out x h
         ·simp at h;subst h;exact⟨Hal.out,ho0⟩
        ·rw[H.encAll_snoc,List.length_append,←HPe.out,H.enc_length];show p+1+H.wid o=p+(1+H.wid o);omega
        ·rw[HC.out,Ho.out,Ha.out];exact H.scanAt_ok _ _ _ (by have:=HL.out;omega) (by rw[←Ho.out];have:=HL.out;omega) hl (by rw[←Ho.out,←Ha.out];exact Hal.out)
       case measure=>simp[intOf];omega
  ·have hsc:Hid (H.scanAt (H.bts s) 0 []=(acc,none)):=HC.out.trans (H.scanAt_end _ _ _ (by have:=HL.out;omega));clear HC;by_cases hl0:acc.length=0
   ·have hd:Hid (H.decode (H.bts s)=([],1,0)):=H.decode_none _ (by rw[hsc.out,List.eq_nil_of_length_eq_zero hl0]);have hl1:(acc.length:Int)=0:=by omega
    clear HO HG hl0;go_wp2;go_ret3;exact decEnd_bad hd.out HB.out
   ·have hl1:((acc.length:Int)==0)=false:=by rw[beq_eq_false_iff_ne];omega
    obtain⟨n,hn⟩:∃n,n=acc.length:=⟨_,rfl⟩;have Hn:Hid (n=acc.length):=hn;have HG':Hid (wr.ownsRow w.heap.size 3 1 (.slice bo n cb) n (i64s (H.begins 0 acc))):=by have h:=HG.out;rw[←hn] at h;exact h
    have HO0:Hid (wr.ownsRow w.heap.size 99 2 (.slice ao n cv) n (insCells acc)):=by have h:=HO.out;rw[←hn] at h;exact h
    rw[←hn] at hl1 h64 ⊢;obtain⟨g,rfl⟩:∃g,ao=some ⟨g,0,none⟩:=by
     rcases HO.out.2 with ⟨_,h⟩|⟨g,c,_,h,_⟩
     ·omega
     ·simp at h;exact⟨g,h.1⟩
    obtain⟨gb,rfl⟩:∃g,bo=some ⟨g,0,none⟩:=by
     rcases HG.out.2 with ⟨_,h⟩|⟨g,c,_,h,_⟩
     ·omega
     ·simp at h;exact⟨g,h.1⟩
    have HR:Hid (InsRow wr g 0 acc):=own_insRow HO0.out Hn.out.symm;have hn0:n≠0:=by omega
    clear HO HG hn hl0;rcases H.stray_strayI n acc 0 0 with ⟨hI,hS⟩|⟨j,hI,hj,hS,hq⟩
    ·have hd:Hid (H.decode (H.bts s)=(acc,0,0)):=H.decode_ok _ acc hsc.out (by have:=Hn.out;omega) (by rw[←Hn.out];exact hS);have HO3:Hid (wr.ownsRow w.heap.size 99 2 (.slice (some ⟨g,0,none⟩) n cv) acc.length (insCells acc)):=by have h:=HO0.out;have e:=Hn.out;unfold Hid;rw[←e];exact h
     have HI:Hid (H.strayI n 0 acc= -1):=hI;clear hI hS HO0 HG';go_wp2_with (go_at_call 43;refine(strays_any g n cv acc _ h64 Hn.out.symm HR.out HA.out).mono ?_;rintro e w' ⟨rfl,rfl⟩;rw[HI.out]);go_ret3;exact decEnd_ok hd.out HO3.out HB.out
    ·obtain⟨q,hq⟩:=Option.isSome_iff_exists.1 hq;have hd:Hid (H.decode (H.bts s)=([],1,(q:Int))):=H.decode_stray _ acc q hsc.out (by have:=Hn.out;omega) (by rw[←Hn.out,hS,hq]);have hcell:wr.cell? ⟨gb,j,none⟩=some (.int .i64 (q:Int)):=by have h:=HG'.out.cellAt (j*1) (by have:=Hn.out;omega);rw[Nat.mul_one] at h;rw[h];simp[i64s,hq]
     have HI:Hid (H.strayI n 0 acc=(j:Int)):=by unfold Hid;rw[hI,Nat.zero_add]
     have hjn:j<n:=by have:=Hn.out;omega
     clear hI hS HO0 HG' hq hj;go_wp2_with (go_at_call 43;refine(strays_any g n cv acc _ h64 Hn.out.symm HR.out HA.out).mono ?_;rintro e w' ⟨rfl,rfl⟩;rw[HI.out]);go_quiet (fail);go_wp2;go_ret3;exact decEnd_bad hd.out (below_drewN HB.out _)
end Go.Proofs.YtidaflmmldefcaaGreat
