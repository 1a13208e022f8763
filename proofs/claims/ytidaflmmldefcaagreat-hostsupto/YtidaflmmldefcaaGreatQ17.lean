/- Parts of the proof of Hosts: SpotM, JSpotW, RefA. -/
import Derived.Test.YtidaflmmldefcaaGreatQ04
import Derived.Test.YtidaflmmldefcaaGreatQ05
import Derived.WalkKit
import Derived.WalkSpells
import Derived.Test.YtidaflmmldefcaaGreatQ16
set_option maxHeartbeats 4000000
namespace Go.Proofs.YtidaflmmldefcaaGreat
set_option linter.unusedVariables false
namespace H
def bitN (v i:Nat):Nat:=v/2^i%2
theorem bitN_lt (v i:Nat):bitN v i<2:=Nat.mod_lt _ (by omega)
theorem mod_step (n i:Nat):n%2^(i+1)=n%2^i+2^i*bitN n i:=by
 unfold bitN;rw[Nat.pow_succ];exact Nat.mod_mul
theorem bitN_test (v i:Nat):bitN v i=if v.testBit i then 1 else 0:=by
 unfold bitN;rw[Nat.testBit_eq_decide_div_mod_eq];have:=Nat.mod_lt (v/2^i) (show 0<2 by omega);by_cases h:v/2^i%2=1
 ·simp[h]
 ·have h0:v/2^i%2=0:=by omega
  simp[h0]
theorem bitN_and (a b i:Nat):bitN (a&&&b) i=if bitN a i+bitN b i=2 then 1 else 0:=by
 rw[bitN_test,bitN_test a,bitN_test b,Nat.testBit_and];cases a.testBit i<;>cases b.testBit i<;>rfl
theorem bitN_xor (a b i:Nat):bitN (a^^^b) i=if bitN a i+bitN b i=1 then 1 else 0:=by
 rw[bitN_test,bitN_test a,bitN_test b,Nat.testBit_xor];cases a.testBit i<;>cases b.testBit i<;>rfl
theorem and_step (a b i:Nat):(a&&&b)%2^(i+1)=(a&&&b)%2^i+if bitN a i+bitN b i=2 then 2^i else 0:=by
 rw[mod_step,bitN_and];split<;>simp
theorem xor_step (a b i:Nat):(a^^^b)%2^(i+1)=(a^^^b)%2^i+if bitN a i+bitN b i=1 then 2^i else 0:=by
 rw[mod_step,bitN_xor];split<;>simp
theorem and_all {a b:Nat} (ha:a<65536):(a&&&b)%2^16=a&&&b:=Nat.mod_eq_of_lt (Nat.lt_of_le_of_lt Nat.and_le_left ha)
theorem xor_all {a b:Nat} (ha:a<65536) (hb:b<65536):(a^^^b)%2^16=a^^^b:=Nat.mod_eq_of_lt (Nat.xor_lt_two_pow (n:=16) ha hb)
theorem half_more (x:Int) (i:Nat):x/2^(i+1)=x/2^i/2:=by
 have hp:(0:Int)<2^i:=Int.pow_pos (by omega);rw[Int.pow_succ,Int.ediv_ediv,if_neg (by intro h;omega)];omega
theorem shl_more (a:Int) (i:Nat):(a*2^i)%65536*2%65536=(a*2^(i+1))%65536:=by
 rw[Int.pow_succ,←Int.mul_assoc];omega
theorem s16_range {a:Int} (h0:0≤a) (h1:a≤65535) (i:Nat): -32768≤s16 a/2^i∧s16 a/2^i≤32767:=by
 induction i with
 |zero=>unfold s16;simp;split<;>omega
 |succ i ih=>rw[half_more];omega
theorem sar_more {a:Int} (h0:0≤a) (h1:a≤65535) (i:Nat):(if 32768≤s16 a/2^i%65536 then s16 a/2^i%65536/2+32768 else s16 a/2^i%65536/2)=s16 a/2^(i+1)%65536:=by
 have h:=s16_range h0 h1 i;rw[half_more];generalize s16 a/2^i=x at h;split<;>omega
theorem sar_none {a:Int} (h0:0≤a) (h1:a≤65535):s16 a/2^0%65536=a:=by
 unfold s16;simp;split<;>omega
end H
end Go.Proofs.YtidaflmmldefcaaGreat
namespace Go.Proofs.YtidaflmmldefcaaGreat
open Go.RowKit
set_option linter.unusedVariables false
theorem ret_i64 {a b:Int} (h:a=b):Ending.returned (.int .i64 a)= .returned (.int .i64 b):=by rw[h]
theorem signed_any (v:Int) (w:World) (h0:0≤v) (h1:v≤65535):Calls Tryz.prog 88 #[.int .i64 v] w fun e w'=>e= .returned (.int .i64 (H.s16 v))∧w=w':=by
 by_cases h:32768≤v
 ·have HE:Hid (v-65536=H.s16 v):=by unfold Hid H.s16;rw[if_neg (by omega)]
  go_enter Tryz.func88,Tryz.ntmps88;go_wp2;go_ret;rw[←HE.out];exact⟨by first|rfl|exact ret_i64 (by rw[IntKind.wrap_i64];omega),rfl⟩
 ·have HE:Hid (v=H.s16 v):=by unfold Hid H.s16;rw[if_pos (by omega)]
  go_enter Tryz.func88,Tryz.ntmps88;go_wp2;go_ret;exact⟨ret_i64 HE.out,rfl⟩
theorem yes_any (x:Bool) (w:World):Calls Tryz.prog 87 #[.bool x] w fun e w'=>e= .returned (.int .i64 (H.yes x))∧w=w':=by
 cases x
 ·go_enter Tryz.func87,Tryz.ntmps87;go_wp2;go_ret;exact⟨rfl,rfl⟩
 ·go_enter Tryz.func87,Tryz.ntmps87;go_wp2;go_ret;exact⟨rfl,rfl⟩
set_option maxRecDepth 100000 in
theorem bit_any (v i:Nat) (w:World) (hv:v≤65535) (hi:i≤16):Calls Tryz.prog 57 #[.int .i64 v,.int .i64 i] w fun e w'=>e= .returned (.int .i64 (H.bitN v i))∧w=w':=by
 go_enter Tryz.func57,Tryz.ntmps57;go_wp2;go_loopw [0,1] (fun a b wr=>∃(u k:Nat),a= .int .i64 u∧b= .int .i64 k∧k≤i∧u≤65535∧wr=w∧Hid (u=v/2^(i-k)))
  (fun _ b _=>(intOf b).toNat)
 case atStart=>exact⟨v,i,rfl,rfl,Nat.le_refl _,hv,rfl,by unfold Hid;simp⟩
 case round=>
  obtain⟨u,k,rfl,rfl,hk,hu,rfl,HU⟩:=hrel;by_cases h0:0<k
  ·have HU2:Hid (u/2=v/2^(i-(k-1))):=by unfold Hid;rw[HU.out,show i-(k-1)=(i-k)+1 by omega,Nat.pow_succ,Nat.div_div_eq_div_mul]
   have hk0:(0:Int)<(k:Int):=by omega
   have hd:((u:Int)).tdiv 2=((u/2:Nat):Int):=by rw[Int.tdiv_eq_ediv_of_nonneg (by omega)];omega
   have hw1:IntKind.i64.wrap ((u/2:Nat):Int)=((u/2:Nat):Int):=by rw[IntKind.wrap_i64];omega
   clear HU;go_wp2;go_roundw
   case rel=>exact⟨u/2,k-1,rfl,by first|rfl|go_num|(congr 1;omega),by omega,by omega,by first|rfl|trivial,HU2⟩
   case measure=>simp[intOf];omega
  ·obtain rfl:k=0:=by omega
   have HE:Hid (((u%2:Nat):Int)=(H.bitN v i:Nat)):=by unfold Hid H.bitN;rw[HU.out,Nat.sub_zero]
   have hd:((u:Int)).tmod 2=((u%2:Nat):Int):=by rw[Int.tmod_eq_emod_of_nonneg (by omega)];omega
   clear HU;go_wp2;go_ret;exact⟨ret_i64 HE.out,rfl⟩
def H.join (c:Bool) (a b:Nat):Nat:=if c then a&&&b else a^^^b
theorem join_step (c:Bool) (a b i:Nat):H.join c a b%2^(i+1)=H.join c a b%2^i+if H.bitN a i+H.bitN b i=(if c then 2 else 1) then 2^i else 0:=by
 cases c
 ·exact H.xor_step a b i
 ·exact H.and_step a b i
theorem join_all (c:Bool) {a b:Nat} (ha:a<65536) (hb:b<65536):H.join c a b%2^16=H.join c a b:=by
 cases c
 ·exact H.xor_all ha hb
 ·exact H.and_all ha
set_option maxRecDepth 100000 in
theorem bits_any (a b:Nat) (c:Bool) (w:World) (ha:a≤65535) (hb:b≤65535):Calls Tryz.prog 85 #[.int .i64 a,.int .i64 b,.bool c] w fun e w'=>e= .returned (.int .i64 (H.join c a b))∧w=w':=by
 have HB:Hid (∀(v i:Nat) (u:World),v≤65535→i≤16→Calls Tryz.prog 57 #[.int .i64 v,.int .i64 i] u fun e w'=>e= .returned (.int .i64 (H.bitN v i))∧u=w'):=fun v i u hv hi=>bit_any v i u hv hi;go_enter Tryz.func85,Tryz.ntmps85;go_wp2_with fail;go_loopw [7,8,9] (fun vo vu vi wr=>∃(i out unit:Nat),vo= .int .i64 out∧vu= .int .i64 unit∧vi= .int .i64 i∧i≤16∧out<65536∧unit≤65536∧wr=w∧Hid (out=H.join c a b%2^i∧unit=2^i))
  (fun _ _ vi _=>16-(intOf vi).toNat)
 case atStart=>exact⟨0,0,1,rfl,rfl,rfl,by omega,by omega,by omega,rfl,by simp[Nat.mod_one],rfl⟩
 case round=>
  obtain⟨i,out,unit,rfl,rfl,rfl,hi,ho,hu,rfl,HO⟩:=hrel;by_cases hlt:i<16
  ·obtain⟨x,hx⟩:∃x,x=H.bitN a i:=⟨_,rfl⟩;obtain⟨y,hy⟩:∃y,y=H.bitN b i:=⟨_,rfl⟩;have hx2:x<2:=by rw[hx];exact H.bitN_lt _ _
   have hy2:y<2:=by rw[hy];exact H.bitN_lt _ _
   have C1:Hid (Calls Tryz.prog 57 #[.int .i64 a,.int .i64 i] wr fun e w'=>e= .returned (.int .i64 x)∧wr=w'):=by rw[hx];exact HB.out a i wr ha (by omega)
   have C2:Hid (Calls Tryz.prog 57 #[.int .i64 b,.int .i64 i] wr fun e w'=>e= .returned (.int .i64 y)∧wr=w'):=by rw[hy];exact HB.out b i wr hb (by omega)
   have hpow:unit*2=2^(i+1):=by rw[Nat.pow_succ,HO.out.2]
   have hle:2^(i+1)≤2^16:=Nat.pow_le_pow_right (by omega) (by omega);have hmod:=Nat.mod_lt (H.join c a b) (show 0<2^(i+1) from Nat.pow_pos (by omega));have HN:Hid ((if x+y=(if c then 2 else 1) then out+unit else out)=H.join c a b%2^(i+1)):=by
    unfold Hid;rw[join_step,←hx,←hy,←HO.out.1,←HO.out.2];by_cases hc:x+y=(if c then 2 else 1)
    ·rw[if_pos hc,if_pos hc]
    ·rw[if_neg hc,if_neg hc];rfl
   have HP:Hid (2*unit=2^(i+1)):=by unfold Hid;omega
   have hu2:2*unit≤65536:=by omega
   have hlt2:(if x+y=(if c then 2 else 1) then out+unit else out)<65536:=by rw[HN.out];omega
   have hii:(i:Int)<16:=by omega
   clear hx hy hpow hle hmod HO;cases c with
   |true=>
    by_cases h:x+y=(if true then 2 else 1)
    ·have HN2:Hid (out+unit=H.join true a b%2^(i+1)):=by unfold Hid;rw[←HN.out,if_pos h]
     have hl3:out+unit<65536:=by rw[if_pos h] at hlt2;exact hlt2
     have hb:((x:Int)+(y:Int)==2)=true:=by rw[beq_iff_eq];simp at h;omega
     clear h HN hlt2;go_wp2_with fail;refine C1.out.mono ?_;rintro e w' ⟨rfl,rfl⟩;go_wp2_with fail;refine C2.out.mono ?_;rintro e w' ⟨rfl,rfl⟩;clear C1 C2;go_wp2;go_roundw
     case rel=>exact⟨i+1,out+unit,2*unit,by first|rfl|go_num,by first|rfl|go_num,by go_num,by omega,hl3,hu2,by first|rfl|trivial,HN2.out,HP.out⟩
     case measure=>simp[intOf];omega
    ·have HN2:Hid (out=H.join true a b%2^(i+1)):=by unfold Hid;rw[←HN.out,if_neg h]
     have hb:((x:Int)+(y:Int)==2)=false:=by rw[beq_eq_false_iff_ne];simp at h;omega
     clear h HN hlt2;go_wp2_with fail;refine C1.out.mono ?_;rintro e w' ⟨rfl,rfl⟩;go_wp2_with fail;refine C2.out.mono ?_;rintro e w' ⟨rfl,rfl⟩;clear C1 C2;go_wp2;go_roundw
     case rel=>exact⟨i+1,out,2*unit,rfl,by first|rfl|go_num,by go_num,by omega,ho,hu2,by first|rfl|trivial,HN2.out,HP.out⟩
     case measure=>simp[intOf];omega
   |false=>
    by_cases h:x+y=(if false then 2 else 1)
    ·have HN2:Hid (out+unit=H.join false a b%2^(i+1)):=by unfold Hid;rw[←HN.out,if_pos h]
     have hl3:out+unit<65536:=by rw[if_pos h] at hlt2;exact hlt2
     have hb:((x:Int)+(y:Int)==1)=true:=by rw[beq_iff_eq];simp at h;omega
     clear h HN hlt2;go_wp2_with fail;refine C1.out.mono ?_;rintro e w' ⟨rfl,rfl⟩;go_wp2_with fail;refine C2.out.mono ?_;rintro e w' ⟨rfl,rfl⟩;clear C1 C2;go_wp2;go_roundw
     case rel=>exact⟨i+1,out+unit,2*unit,by first|rfl|go_num,by first|rfl|go_num,by go_num,by omega,hl3,hu2,by first|rfl|trivial,HN2.out,HP.out⟩
     case measure=>simp[intOf];omega
    ·have HN2:Hid (out=H.join false a b%2^(i+1)):=by unfold Hid;rw[←HN.out,if_neg h]
     have hb:((x:Int)+(y:Int)==1)=false:=by rw[beq_eq_false_iff_ne];simp at h;omega
     clear h HN hlt2;go_wp2_with fail;refine C1.out.mono ?_;rintro e w' ⟨rfl,rfl⟩;go_wp2_with fail;refine C2.out.mono ?_;rintro e w' ⟨rfl,rfl⟩;clear C1 C2;go_wp2;go_roundw
     case rel=>exact⟨i+1,out,2*unit,rfl,by first|rfl|go_num,by go_num,by omega,ho,hu2,by first|rfl|trivial,HN2.out,HP.out⟩
     case measure=>simp[intOf];omega
  ·obtain rfl:i=16:=by omega
   have HE:Hid (out=H.join c a b):=by unfold Hid;rw[HO.out.1];exact join_all c (by omega) (by omega)
   clear HO;go_wp2;go_ret;rw[HE.out];exact⟨rfl,rfl⟩
set_option maxRecDepth 100000 in
theorem shifted_10 (a:Int) (n:Nat) (w:World) (ha:0≤a) (ha2:a≤65535) (hn:n≤15):Calls Tryz.prog 86 #[.int .i64 10,.int .i64 a,.int .i64 n] w fun e w'=>e= .returned (.int .i64 ((a*2^n)%65536))∧w=w':=by
 go_enter Tryz.func86,Tryz.ntmps86;go_wp2_with fail;go_loopw [1,7] (fun vx vi wr=>∃(x:Int) (k:Nat),vx= .int .i64 x∧vi= .int .i64 k∧k≤n∧0≤x∧x≤65535∧wr=w∧Hid (x=(a*2^k)%65536))
  (fun _ vi _=>n-(intOf vi).toNat)
 case atStart=>exact⟨a,0,rfl,rfl,by omega,ha,ha2,rfl,by unfold Hid;simp;omega⟩
 case round=>
  obtain⟨x,k,rfl,rfl,hk,hx,hx2,rfl,HX⟩:=hrel;by_cases hlt:k<n
  ·have HN:Hid (x*2%65536=(a*2^(k+1))%65536):=by unfold Hid;rw[HX.out];exact H.shl_more a k
   have hii:(k:Int)<(n:Int):=by omega
   have hm:(x*2).tmod 65536=x*2%65536:=Int.tmod_eq_emod_of_nonneg (by omega);clear HX;go_wp2;go_roundw
   case rel=>exact⟨x*2%65536,k+1,by first|rfl|go_num,by go_num,by omega,by omega,by omega,by first|rfl|trivial,HN⟩
   case measure=>simp[intOf];omega
  ·obtain rfl:k=n:=by omega
   go_wp2;go_ret;exact⟨ret_i64 HX.out,rfl⟩
set_option maxRecDepth 100000 in
theorem shifted_11 (a:Int) (n:Nat) (w:World) (ha:0≤a) (ha2:a≤65535) (hn:n≤15):Calls Tryz.prog 86 #[.int .i64 11,.int .i64 a,.int .i64 n] w fun e w'=>e= .returned (.int .i64 (a/2^n))∧w=w':=by
 go_enter Tryz.func86,Tryz.ntmps86;go_wp2_with fail;go_loopw [1,7] (fun vx vi wr=>∃(x:Int) (k:Nat),vx= .int .i64 x∧vi= .int .i64 k∧k≤n∧0≤x∧x≤65535∧wr=w∧Hid (x=a/2^k))
  (fun _ vi _=>n-(intOf vi).toNat)
 case atStart=>exact⟨a,0,rfl,rfl,by omega,ha,ha2,rfl,by unfold Hid;simp⟩
 case round=>
  obtain⟨x,k,rfl,rfl,hk,hx,hx2,rfl,HX⟩:=hrel;by_cases hlt:k<n
  ·have HN:Hid (x/2=a/2^(k+1)):=by unfold Hid;rw[HX.out];exact(H.half_more a k).symm
   have hii:(k:Int)<(n:Int):=by omega
   have hm:x.tdiv 2=x/2:=Int.tdiv_eq_ediv_of_nonneg (by omega);have hw1:IntKind.i64.wrap (x/2)=x/2:=by rw[IntKind.wrap_i64];omega
   clear HX;go_wp2;go_roundw
   case rel=>exact⟨x/2,k+1,by first|rfl|go_num,by go_num,by omega,by omega,by omega,by first|rfl|trivial,HN⟩
   case measure=>simp[intOf];omega
  ·obtain rfl:k=n:=by omega
   go_wp2;go_ret;exact⟨ret_i64 HX.out,rfl⟩
set_option maxRecDepth 100000 in
theorem shifted_12 (a:Int) (n:Nat) (w:World) (ha:0≤a) (ha2:a≤65535) (hn:n≤15):Calls Tryz.prog 86 #[.int .i64 12,.int .i64 a,.int .i64 n] w fun e w'=>e= .returned (.int .i64 ((H.s16 a/2^n)%65536))∧w=w':=by
 go_enter Tryz.func86,Tryz.ntmps86;go_wp2_with fail;go_loopw [1,7] (fun vx vi wr=>∃(x:Int) (k:Nat),vx= .int .i64 x∧vi= .int .i64 k∧k≤n∧0≤x∧x≤65535∧wr=w∧Hid (x=(H.s16 a/2^k)%65536))
  (fun _ vi _=>n-(intOf vi).toNat)
 case atStart=>exact⟨a,0,rfl,rfl,by omega,ha,ha2,rfl,(H.sar_none ha ha2).symm⟩
 case round=>
  obtain⟨x,k,rfl,rfl,hk,hx,hx2,rfl,HX⟩:=hrel;by_cases hlt:k<n
  ·have HN:Hid ((if 32768≤x then x/2+32768 else x/2)=(H.s16 a/2^(k+1))%65536):=by unfold Hid;rw[HX.out];exact H.sar_more ha ha2 k
   have hii:(k:Int)<(n:Int):=by omega
   have hm:x.tdiv 2=x/2:=Int.tdiv_eq_ediv_of_nonneg (by omega);have hw1:IntKind.i64.wrap (x/2)=x/2:=by rw[IntKind.wrap_i64];omega
   clear HX;by_cases h:32768≤x
   ·have HN2:Hid (x/2+32768=(H.s16 a/2^(k+1))%65536):=by unfold Hid;rw[←HN.out,if_pos h]
    have hw2:IntKind.i64.wrap (x/2+32768)=x/2+32768:=by rw[IntKind.wrap_i64];omega
    clear HN;go_wp2;go_roundw
    case rel=>exact⟨x/2+32768,k+1,by first|rfl|go_num,by go_num,by omega,by omega,by omega,by first|rfl|trivial,HN2⟩
    case measure=>simp[intOf];omega
   ·have HN2:Hid (x/2=(H.s16 a/2^(k+1))%65536):=by unfold Hid;rw[←HN.out,if_neg h]
    clear HN;go_wp2;go_roundw
    case rel=>exact⟨x/2,k+1,by first|rfl|go_num,by go_num,by omega,by omega,by omega,by first|rfl|trivial,HN2⟩
    case measure=>simp[intOf];omega
  ·obtain rfl:k=n:=by omega
   go_wp2;go_ret;exact⟨ret_i64 HX.out,rfl⟩
def H.madeV (op a b:Int):Int:=if op=7 then (if b=0 then-1 else a/b) else H.combine op a b
set_option maxRecDepth 100000
theorem made_4 (a b:Int) (w:World) (ha:0≤a) (ha2:a≤65535) (hb:0≤b) (hb2:b≤65535):Calls Tryz.prog 80 #[.int .i64 4,.int .i64 a,.int .i64 b] w fun e w'=>e= .returned (.int .i64 (H.madeV 4 a b))∧w=w':=by
 have HE:Hid ((a+b)%65536=H.madeV 4 a b):=rfl;have hm:(a+b).tmod 65536=(a+b)%65536:=Int.tmod_eq_emod_of_nonneg (by omega);go_enter Tryz.func80,Tryz.ntmps80;go_wp2;go_ret;exact⟨ret_i64 (by first|exact HE.out|(rw[←HE.out];first|rfl|omega|(rw[IntKind.wrap_i64];omega))),rfl⟩
theorem made_5 (a b:Int) (w:World) (ha:0≤a) (ha2:a≤65535) (hb:0≤b) (hb2:b≤65535):Calls Tryz.prog 80 #[.int .i64 5,.int .i64 a,.int .i64 b] w fun e w'=>e= .returned (.int .i64 (H.madeV 5 a b))∧w=w':=by
 have HE:Hid ((a-b)%65536=H.madeV 5 a b):=rfl;have hm:(a+65536-b).tmod 65536=(a-b)%65536:=by rw[Int.tmod_eq_emod_of_nonneg (by omega)];omega
 have hw1:IntKind.i64.wrap (a+65536)=a+65536:=by rw[IntKind.wrap_i64];omega
 have hw2:IntKind.i64.wrap (a+65536-b)=a+65536-b:=by rw[IntKind.wrap_i64];omega
 go_enter Tryz.func80,Tryz.ntmps80;go_wp2;go_ret;exact⟨ret_i64 (by first|exact HE.out|(rw[←HE.out];first|rfl|omega|(rw[IntKind.wrap_i64];omega))),rfl⟩
theorem made_6 (a b:Int) (w:World) (ha:0≤a) (ha2:a≤65535) (hb:0≤b) (hb2:b≤65535):Calls Tryz.prog 80 #[.int .i64 6,.int .i64 a,.int .i64 b] w fun e w'=>e= .returned (.int .i64 (H.madeV 6 a b))∧w=w':=by
 have HE:Hid ((a*b)%65536=H.madeV 6 a b):=rfl;have h0:0≤a*b:=Int.mul_nonneg ha hb;have h1:a*b≤65535*65535:=Int.mul_le_mul ha2 hb2 hb (by omega);have hm:(a*b).tmod 65536=(a*b)%65536:=Int.tmod_eq_emod_of_nonneg h0;have hw1:IntKind.i64.wrap (a*b)=a*b:=by rw[IntKind.wrap_i64];omega
 go_enter Tryz.func80,Tryz.ntmps80;go_wp2;go_ret;exact⟨ret_i64 (by first|exact HE.out|(rw[←HE.out];first|rfl|omega|(rw[IntKind.wrap_i64];omega))),rfl⟩
theorem made_7 (a b:Int) (w:World) (ha:0≤a) (ha2:a≤65535) (hb:0≤b) (hb2:b≤65535):Calls Tryz.prog 80 #[.int .i64 7,.int .i64 a,.int .i64 b] w fun e w'=>e= .returned (.int .i64 (H.madeV 7 a b))∧w=w':=by
 by_cases h:b=0
 ·subst h;go_enter Tryz.func80,Tryz.ntmps80;go_wp2;go_ret;exact⟨rfl,rfl⟩
 ·have HE:Hid (a/b=H.madeV 7 a b):=by unfold Hid H.madeV;rw[if_pos rfl,if_neg h]
  have hbf:(b==0)=false:=by rw[beq_eq_false_iff_ne];exact h
  have hm:a.tdiv b=a/b:=Int.tdiv_eq_ediv_of_nonneg ha;have h0:0≤a/b:=Int.ediv_nonneg ha hb;have h1:a/b≤a:=Int.ediv_le_self b ha;have hw1:IntKind.i64.wrap (a/b)=a/b:=by rw[IntKind.wrap_i64];omega
  go_enter Tryz.func80,Tryz.ntmps80;go_wp2;go_ret;exact⟨ret_i64 (by first|exact HE.out|(rw[←HE.out];first|rfl|omega|(rw[IntKind.wrap_i64];omega))),rfl⟩
theorem made_8 (a b:Nat) (w:World) (ha2:a≤65535) (hb2:b≤65535):Calls Tryz.prog 80 #[.int .i64 8,.int .i64 a,.int .i64 b] w fun e w'=>e= .returned (.int .i64 (H.madeV 8 a b))∧w=w':=by
 have HE:Hid (((H.join true a b:Nat):Int)=H.madeV 8 a b):=rfl;have C:Hid (Calls Tryz.prog 85 #[.int .i64 a,.int .i64 b,.bool true] w fun e w'=>e= .returned (.int .i64 (H.join true a b))∧w=w'):=bits_any a b true w ha2 hb2;go_enter Tryz.func80,Tryz.ntmps80;go_wp2_with fail;refine C.out.mono ?_;rintro e w' ⟨rfl,rfl⟩;go_wp2;go_ret;exact⟨ret_i64 HE.out,rfl⟩
theorem made_9 (a b:Nat) (w:World) (ha2:a≤65535) (hb2:b≤65535):Calls Tryz.prog 80 #[.int .i64 9,.int .i64 a,.int .i64 b] w fun e w'=>e= .returned (.int .i64 (H.madeV 9 a b))∧w=w':=by
 have HE:Hid (((H.join false a b:Nat):Int)=H.madeV 9 a b):=rfl;have C:Hid (Calls Tryz.prog 85 #[.int .i64 a,.int .i64 b,.bool false] w fun e w'=>e= .returned (.int .i64 (H.join false a b))∧w=w'):=bits_any a b false w ha2 hb2;go_enter Tryz.func80,Tryz.ntmps80;go_wp2_with fail;refine C.out.mono ?_;rintro e w' ⟨rfl,rfl⟩;go_wp2;go_ret;exact⟨ret_i64 HE.out,rfl⟩
theorem made_10 (a b:Int) (w:World) (ha:0≤a) (ha2:a≤65535) (hb:0≤b) (hb2:b≤65535):Calls Tryz.prog 80 #[.int .i64 10,.int .i64 a,.int .i64 b] w fun e w'=>e= .returned (.int .i64 (H.madeV 10 a b))∧w=w':=by
 obtain⟨n,hn⟩:∃n:Nat,b.tmod 16=(n:Int):=⟨(b%16).toNat,by rw[Int.tmod_eq_emod_of_nonneg hb];omega⟩;have hn2:n≤15:=by rw[Int.tmod_eq_emod_of_nonneg hb] at hn;omega
 have HE:Hid ((a*2^n)%65536=H.madeV 10 a b):=by rw[Int.tmod_eq_emod_of_nonneg hb] at hn;unfold Hid H.madeV H.combine;simp[hn]
 have C:Hid (Calls Tryz.prog 86 #[.int .i64 10,.int .i64 a,.int .i64 n] w fun e w'=>e= .returned (.int .i64 ((a*2^n)%65536))∧w=w'):=shifted_10 a n w ha ha2 hn2;go_enter Tryz.func80,Tryz.ntmps80;go_wp2_with fail;refine C.out.mono ?_;rintro e w' ⟨rfl,rfl⟩;go_wp2;go_ret;exact⟨ret_i64 HE.out,rfl⟩
theorem made_11 (a b:Int) (w:World) (ha:0≤a) (ha2:a≤65535) (hb:0≤b) (hb2:b≤65535):Calls Tryz.prog 80 #[.int .i64 11,.int .i64 a,.int .i64 b] w fun e w'=>e= .returned (.int .i64 (H.madeV 11 a b))∧w=w':=by
 obtain⟨n,hn⟩:∃n:Nat,b.tmod 16=(n:Int):=⟨(b%16).toNat,by rw[Int.tmod_eq_emod_of_nonneg hb];omega⟩;have hn2:n≤15:=by rw[Int.tmod_eq_emod_of_nonneg hb] at hn;omega
 have HE:Hid (a/2^n=H.madeV 11 a b):=by rw[Int.tmod_eq_emod_of_nonneg hb] at hn;unfold Hid H.madeV H.combine;simp[hn]
 have C:Hid (Calls Tryz.prog 86 #[.int .i64 11,.int .i64 a,.int .i64 n] w fun e w'=>e= .returned (.int .i64 (a/2^n))∧w=w'):=shifted_11 a n w ha ha2 hn2;go_enter Tryz.func80,Tryz.ntmps80;go_wp2_with fail;refine C.out.mono ?_;rintro e w' ⟨rfl,rfl⟩;go_wp2;go_ret;exact⟨ret_i64 HE.out,rfl⟩
theorem made_12 (a b:Int) (w:World) (ha:0≤a) (ha2:a≤65535) (hb:0≤b) (hb2:b≤65535):Calls Tryz.prog 80 #[.int .i64 12,.int .i64 a,.int .i64 b] w fun e w'=>e= .returned (.int .i64 (H.madeV 12 a b))∧w=w':=by
 obtain⟨n,hn⟩:∃n:Nat,b.tmod 16=(n:Int):=⟨(b%16).toNat,by rw[Int.tmod_eq_emod_of_nonneg hb];omega⟩;have hn2:n≤15:=by rw[Int.tmod_eq_emod_of_nonneg hb] at hn;omega
 have HE:Hid ((H.s16 a/2^n)%65536=H.madeV 12 a b):=by rw[Int.tmod_eq_emod_of_nonneg hb] at hn;unfold Hid H.madeV H.combine;simp[hn]
 have C:Hid (Calls Tryz.prog 86 #[.int .i64 12,.int .i64 a,.int .i64 n] w fun e w'=>e= .returned (.int .i64 ((H.s16 a/2^n)%65536))∧w=w'):=shifted_12 a n w ha ha2 hn2;go_enter Tryz.func80,Tryz.ntmps80;go_wp2_with fail;refine C.out.mono ?_;rintro e w' ⟨rfl,rfl⟩;go_wp2;go_ret;exact⟨ret_i64 HE.out,rfl⟩
theorem made_13 (a b:Int) (w:World) (ha:0≤a) (ha2:a≤65535) (hb:0≤b) (hb2:b≤65535):Calls Tryz.prog 80 #[.int .i64 13,.int .i64 a,.int .i64 b] w fun e w'=>e= .returned (.int .i64 (H.madeV 13 a b))∧w=w':=by
 have HE:Hid (H.yes (decide (a<b))=H.madeV 13 a b):=rfl;have C:Hid (∀x:Bool,Calls Tryz.prog 87 #[.bool x] w fun e w'=>e= .returned (.int .i64 (H.yes x))∧w=w'):=fun x=>yes_any x w;go_enter Tryz.func80,Tryz.ntmps80;go_wp2_with fail;refine(C.out _).mono ?_;rintro e w' ⟨rfl,rfl⟩;go_wp2;go_ret;exact⟨ret_i64 HE.out,rfl⟩
theorem made_14 (a b:Int) (w:World) (ha:0≤a) (ha2:a≤65535) (hb:0≤b) (hb2:b≤65535):Calls Tryz.prog 80 #[.int .i64 14,.int .i64 a,.int .i64 b] w fun e w'=>e= .returned (.int .i64 (H.madeV 14 a b))∧w=w':=by
 have HE:Hid (H.yes (decide (H.s16 a<H.s16 b))=H.madeV 14 a b):=rfl;have C:Hid (∀x:Bool,Calls Tryz.prog 87 #[.bool x] w fun e w'=>e= .returned (.int .i64 (H.yes x))∧w=w'):=fun x=>yes_any x w;have A:Hid (Calls Tryz.prog 88 #[.int .i64 a] w fun e w'=>e= .returned (.int .i64 (H.s16 a))∧w=w'):=signed_any a w ha ha2;have B:Hid (Calls Tryz.prog 88 #[.int .i64 b] w fun e w'=>e= .returned (.int .i64 (H.s16 b))∧w=w'):=signed_any b w hb hb2;go_enter Tryz.func80,Tryz.ntmps80;go_wp2_with fail;refine A.out.mono ?_;rintro e w' ⟨rfl,rfl⟩;go_wp2_with fail;refine B.out.mono ?_;rintro e w' ⟨rfl,rfl⟩;go_wp2_with fail;refine(C.out _).mono ?_;rintro e w' ⟨rfl,rfl⟩;go_wp2;go_ret;exact⟨ret_i64 HE.out,rfl⟩
theorem made_15 (a b:Int) (w:World) (ha:0≤a) (ha2:a≤65535) (hb:0≤b) (hb2:b≤65535):Calls Tryz.prog 80 #[.int .i64 15,.int .i64 a,.int .i64 b] w fun e w'=>e= .returned (.int .i64 (H.madeV 15 a b))∧w=w':=by
 have HE:Hid (H.yes (a==b)=H.madeV 15 a b):=by
  unfold Hid H.madeV H.combine;by_cases h:a=b
  ·simp[h]
  ·have hf:(a==b)=false:=by rw[beq_eq_false_iff_ne];exact h
   simp[h,hf]
 have C:Hid (∀x:Bool,Calls Tryz.prog 87 #[.bool x] w fun e w'=>e= .returned (.int .i64 (H.yes x))∧w=w'):=fun x=>yes_any x w;go_enter Tryz.func80,Tryz.ntmps80;go_wp2_with fail;refine(C.out _).mono ?_;rintro e w' ⟨rfl,rfl⟩;go_wp2;go_ret;exact⟨ret_i64 HE.out,rfl⟩
theorem made_any (op a b:Int) (w:World) (h4:4≤op) (h15:op≤15) (ha:0≤a) (ha2:a≤65535) (hb:0≤b) (hb2:b≤65535):Calls Tryz.prog 80 #[.int .i64 op,.int .i64 a,.int .i64 b] w fun e w'=>e= .returned (.int .i64 (H.madeV op a b))∧w=w':=by
 obtain rfl|rfl|rfl|rfl|rfl|rfl|rfl|rfl|rfl|rfl|rfl|rfl:op=4∨op=5∨op=6∨op=7∨op=8∨op=9∨op=10∨op=11∨op=12∨op=13∨op=14∨op=15:=by omega
 ·exact made_4 a b w ha ha2 hb hb2
 ·exact made_5 a b w ha ha2 hb hb2
 ·exact made_6 a b w ha ha2 hb hb2
 ·exact made_7 a b w ha ha2 hb hb2
 ·obtain⟨m,rfl⟩:=Int.eq_ofNat_of_zero_le ha;obtain⟨n,rfl⟩:=Int.eq_ofNat_of_zero_le hb;exact made_8 m n w (by omega) (by omega)
 ·obtain⟨m,rfl⟩:=Int.eq_ofNat_of_zero_le ha;obtain⟨n,rfl⟩:=Int.eq_ofNat_of_zero_le hb;exact made_9 m n w (by omega) (by omega)
 ·exact made_10 a b w ha ha2 hb hb2
 ·exact made_11 a b w ha ha2 hb hb2
 ·exact made_12 a b w ha ha2 hb hb2
 ·exact made_13 a b w ha ha2 hb hb2
 ·exact made_14 a b w ha ha2 hb hb2
 ·exact made_15 a b w ha ha2 hb hb2
end Go.Proofs.YtidaflmmldefcaaGreat
namespace Go.Proofs.YtidaflmmldefcaaGreat
open Go.RowKit
set_option linter.unusedVariables false
theorem bitOf_nat (v k:Nat):bitOf (v:Int) (k:Int)=decide (((H.bitN v k:Nat):Int)=1):=by
 unfold bitOf H.bitN;have e:((v:Int)/2^((k:Int)).toNat%2)=((v/2^k%2:Nat):Int):=by have:((k:Int)).toNat=k:=rfl;rw[this];push_cast;rfl
 rw[e];by_cases h:((v/2^k%2:Nat):Int)=1
 ·simp[h]
 ·have h2:(((v/2^k%2:Nat):Int)==1)=false:=by rw[beq_eq_false_iff_ne];exact h
  rw[h2,decide_eq_false h]
theorem rhas_any (v k:Int) (w:World) (hv0:0≤v) (hv1:v≤255) (hk0:0≤k) (hk1:k≤16):Calls Tryz.prog 48 #[.int .u8 v,.int .i64 k] w fun e w'=>e= .returned (.bool (bitOf v k))∧w=w':=by
 obtain⟨a,rfl⟩:=Int.eq_ofNat_of_zero_le hv0;obtain⟨b,rfl⟩:=Int.eq_ofNat_of_zero_le hk0;have HB:Hid (Calls Tryz.prog 57 #[.int .i64 (a:Int),.int .i64 (b:Int)] w fun e w'=>e= .returned (.int .i64 ((H.bitN a b:Nat):Int))∧w=w'):=bit_any a b w (by omega) (by omega);have HE:=show Hid _ from bitOf_nat a b;have hw:IntKind.i64.wrap (a:Int)=(a:Int):=by rw[IntKind.wrap_i64];omega
 generalize H.bitN a b=q at HB HE;go_enter Tryz.func48,Tryz.ntmps48;go_wp2_with fail;refine HB.out.mono ?_;rintro e w' ⟨rfl,rfl⟩;by_cases hq:(q:Int)=1
 ·have hqb:((q:Int)==1)=true:=by simp[hq]
  go_wp2;go_ret;refine⟨?_,rfl⟩;rw[HE.out];simp[hq]
 ·have hqb:((q:Int)==1)=false:=by rw[beq_eq_false_iff_ne];exact hq
  go_wp2;go_ret;refine⟨?_,rfl⟩;rw[HE.out];simp[hq]
def isCnt (what by_:Int) (e:Ev):Bool:=e.what==what&&(decide (by_<0)||e.by_==by_)
theorem count_any {w:World} {ao:Option Addr} {cap:Nat} {l:List Ev} (what by_:Int) (h:BoxAt w (.slice ao l.length cap) l) (hl:l.length≤100000) (hok:∀e∈l,e.ok): Calls Tryz.prog 37 #[.slice ao l.length cap,.int .i64 what,.int .i64 by_] w fun e w'=>e= .returned (.int .i64 (l.countP (isCnt what by_):Int))∧w=w':=by
 obtain⟨n,hn⟩:∃n,n=l.length:=⟨_,rfl⟩;have HBx:Hid (BoxAt w (.slice ao n cap) l):=by unfold Hid;rw[hn];exact h
 have HOk:Hid (∀e∈l,e.ok):=hok;have Hn:Hid (l.length=n):=hn.symm;have HCt:Hid (l.countP (isCnt what by_)=(l.take n).countP (isCnt what by_)):=by unfold Hid;rw[hn,List.take_length]
 rw[←hn] at hl ⊢;clear h hn hok;go_enter Tryz.func37,Tryz.ntmps37;go_wp2_with fail;go_loopw [7,8] (fun c i wr=>∃k:Nat,k≤n∧i= .int .i64 k∧c= .int .i64 ((l.take k).countP (isCnt what by_):Int)∧wr=w)
  (fun _ i _=>n-(intOf i).toNat)
 case atStart=>exact⟨0,Nat.zero_le _,rfl,rfl,rfl⟩
 case round=>
  obtain⟨k,hk,rfl,rfl,rfl⟩:=hrel;by_cases hlt:k<n
  ·obtain⟨y,hy⟩:∃y,l[k]? =some y:=⟨l[k]'(by have:=Hn.out;omega),List.getElem?_eq_getElem (by have:=Hn.out;omega)⟩;obtain⟨g,of,c2,hv,hc⟩:=HBx.out.at hy;simp only[Value.slice.injEq] at hv;obtain⟨rfl,_,rfl⟩:=hv;have e0:=hc 0 (by decide);have e1:=hc 1 (by decide);simp[Ev.cells] at e0 e1;obtain⟨o1,o2,_,_⟩:=HOk.out y (List.mem_of_getElem? hy);have hki:(k:Int)<(n:Int):=by omega
   have hk0:(0:Int)≤(k:Int):=by omega
   have HC:Hid ((l.take (k+1)).countP (isCnt what by_)=(l.take k).countP (isCnt what by_)+(if isCnt what by_ y then 1 else 0)):=countP_step hy;have hcl:(l.take k).countP (isCnt what by_)≤k:=Nat.le_trans List.countP_le_length (by simp;omega);generalize (l.take k).countP (isCnt what by_)=q at*;obtain⟨y0,y1,y2,y3⟩:=y;simp only at e0 e1 o1 o2;have hw0:IntKind.i64.wrap y0=y0:=by rw[IntKind.wrap_i64];omega
   have hw1:IntKind.i64.wrap y1=y1:=by rw[IntKind.wrap_i64];omega
   clear hy hc o1 o2;by_cases h2:y0=what
   ·subst h2;by_cases hb:by_<0
    ·have hm:isCnt y0 by_ ⟨y0,y1,y2,y3⟩=true:=by simp[isCnt,hb]
     go_wp2;go_roundw
     case rel=>exact⟨k+1,by omega,by go_num,by rw[HC.out,hm];rfl,by first|rfl|trivial⟩
     case measure=>simp[intOf];omega
    ·by_cases h3:y1=by_
     ·subst h3;have hm:isCnt y0 y1 ⟨y0,y1,y2,y3⟩=true:=by simp[isCnt]
      go_wp2;go_roundw
      case rel=>exact⟨k+1,by omega,by go_num,by rw[HC.out,hm];rfl,by first|rfl|trivial⟩
      case measure=>simp[intOf];omega
     ·have hm:isCnt y0 by_ ⟨y0,y1,y2,y3⟩=false:=by simp[isCnt,h3];omega
      have hb3:(y1==by_)=false:=by rw[beq_eq_false_iff_ne];exact h3
      go_wp2;go_roundw
      case rel=>exact⟨k+1,by omega,by go_num,by rw[HC.out,hm];rfl,by first|rfl|trivial⟩
      case measure=>simp[intOf];omega
   ·have hm:isCnt what by_ ⟨y0,y1,y2,y3⟩=false:=by simp[isCnt,h2]
    have hb2:(y0==what)=false:=by rw[beq_eq_false_iff_ne];exact h2
    go_wp2;go_roundw
    case rel=>exact⟨k+1,by omega,by go_num,by rw[HC.out,hm];rfl,by first|rfl|trivial⟩
    case measure=>simp[intOf];omega
  ·have hkn:k=n:=by omega
   subst hkn;have hki:¬(k:Int)<(k:Int):=by omega
   go_wp2;go_ret;refine⟨?_,rfl⟩;rw[HCt.out];rfl
section
variable {w w' : World} {R : RB} {H : Hs} {held : List Int}
def RAft (w:World) (R:RB) (H':Hs) (held':List Int) (w':World):Prop:=∃nv bv lv,RefAt w' {R with nv:=nv,bv:=bv,lv:=lv} H' held'∧Kept (refOwn R) w w'∧∀k,refOwn {R with nv:=nv,bv:=bv,lv:=lv} k→refOwn R k∨w.heap.size≤k
theorem RAft.refl (h:RefAt w R H held):RAft w R H held w:=⟨R.nv,R.bv,R.lv,h,Kept.refl _ _,fun k q=>Or.inl q⟩
theorem rnavigate_any (h:RefAt w R H held) (r:Int) (h0:0≤r) (h1:r≤255): Calls Tryz.prog 14 #[.pointer (some ⟨R.rb,0,none⟩),.int .u8 r] w fun e w'=>e= .returned (.int .i64 (if 4≤r then 6 else 0))∧RAft w R (H.navigate r) held w':=by
 have HH:Hid (RefAt w R H held):=h;have c1:w.cell? ⟨R.rb,1,none⟩=some (.int .i64 H.route):=by rw[h.host.cell 1];rfl
 have f1:=h.host.free 1;by_cases h4:4≤r
 ·rw[if_pos h4];have hd:decide (3<r)=true:=by simp;omega
  have h3:3<r:=by omega
  have HE:Hid (H.navigate r=H):=by unfold Hid Hs.navigate;rw[if_pos h4]
  clear h;go_enter Tryz.func14,Tryz.ntmps14;go_wp2;go_ret;refine⟨rfl,?_⟩;rw[HE.out];exact RAft.refl HH.out
 ·rw[if_neg h4];have hd:decide (3<r)=false:=by simp;omega
  have h3:¬3<r:=by omega
  have hw:IntKind.i64.wrap r=r:=by rw[IntKind.wrap_i64];omega
  have HE:Hid (H.navigate r={H with route:=r}):=by unfold Hid Hs.navigate;rw[if_neg h4]
  clear h;go_enter Tryz.func14,Tryz.ntmps14;go_wp2;go_ret;refine⟨rfl,?_⟩;rw[HE.out];exact⟨R.nv,R.bv,R.lv,HH.out.set_route r,set_kept w R.rb 1 _ (Or.inl rfl),fun k q=>Or.inl q⟩
end
end Go.Proofs.YtidaflmmldefcaaGreat
