/- Parts of the proof of Hosts: LettT. -/
import Derived.Test.YtidaflmmldefcaaGreatQ28
set_option maxHeartbeats 8000000
namespace Go.Proofs.YtidaflmmldefcaaGreat.Tr
open Go.RowKit
set_option linter.unusedVariables false
structure Read (L:List Int) (p k:Nat) (v:Int):Prop where
 val:v=T.val L p (k-1)
 low:0≤v
 b1:k=1→v<128
 b2:k=2→v<8192
 b3:k=3→v<524288
 b4:k=4→v<33554432
 okay:∀j,1≤j→j<k→p+j<L.length∧T.at0 L (p+j)/64=2
theorem Read.start {L:List Int} {p:Nat} (h0:0≤T.val0 (T.at0 L p)) (h1:T.val0 (T.at0 L p)<128):Read L p 1 (T.val0 (T.at0 L p)):=⟨rfl,h0,fun _=>h1,by omega,by omega,by omega,by intro j h1 h2;omega⟩
theorem Read.step {L:List Int} {p k:Nat} {v d:Int} (h:Read L p k v) (hk:1≤k) (hk3:k≤3) (hp:p+k<L.length) (hd:T.at0 L (p+k)=d) (hd2:d/64=2):Read L p (k+1) (64*v+d%64):=by
 obtain⟨e,h0,b1,b2,b3,b4,ok⟩:=h;refine⟨?_,by omega,by omega,?_,?_,?_,?_⟩
 ·rw[e,←hd];show _=T.val L p k;obtain⟨j,rfl⟩:∃j,k=j+1:=⟨k-1,by omega⟩;rfl
 ·intro h;have:=b1 (by omega);omega
 ·intro h;have:=b2 (by omega);omega
 ·intro h;have:=b3 (by omega);omega
 ·intro j h1 h2;by_cases hj:j=k
  ·subst hj;rw[hd];exact⟨hp,hd2⟩
  ·exact ok j h1 (by omega)
theorem letters_next {L:List Int} {p f:Nat} {n:Int} {c:Nat} (hp:p<L.length) (hc:T.size L p=c) (h0:c≠0):T.lettersFrom L (f+1) p n=T.lettersFrom L f (p+c) (n+1):=by
 conv=>lhs;unfold T.lettersFrom
 rw[if_pos hp,if_neg (by omega),hc]
theorem letters_bad {L:List Int} {p f:Nat} {n:Int} (hp:p<L.length) (hc:T.size L p=0):T.lettersFrom L (f+1) p n= -1:=by
 unfold T.lettersFrom;rw[if_pos hp,if_pos hc]
theorem letters_end {L:List Int} {p f:Nat} {n:Int} (hp:¬p<L.length):T.lettersFrom L f p n=n:=by
 cases f with
 |zero=>rfl
 |succ f=>unfold T.lettersFrom;rw[if_neg hp]
set_option maxRecDepth 100000 in
theorem refLetters_any (s:ByteArray) (w:World) (hs:s.size≤4611686018427387904): Calls Tryz.prog 89 #[.string s] w fun e w'=>e= .returned (.int .i64 (T.lettersOf (T.bts s)))∧Below w.heap.size w w':=by
 have HL:Hid ((T.bts s).length=s.size):=T.bts_length s;go_enter Tryz.func89,Tryz.ntmps89;go_wp2;go_loopw [3,4] (fun m i wr=>∃(p n f:Nat),p≤s.size∧n≤p∧m= .int .i64 n∧i= .int .i64 p∧Below w.heap.size w wr∧Hid (T.lettersOf (T.bts s)=T.lettersFrom (T.bts s) f p n∧s.size≤p+f))
  (fun _ i _=>s.size-(intOf i).toNat)
 case atStart=>exact⟨0,0,s.size,Nat.zero_le _,Nat.le_refl _,rfl,rfl,Below.refl _ _,by unfold T.lettersOf;rw[HL.out];rfl,by omega⟩
 case round=>
  obtain⟨p,n,f0,hp,hn,rfl,rfl,hbel,HF0⟩:=hrel;have HB:Hid (Below w.heap.size w wr):=hbel;have hsz:=hbel.size;clear hbel;by_cases hlt:p<s.size
  ·obtain⟨f,HF⟩:∃f,Hid (T.lettersOf (T.bts s)=T.lettersFrom (T.bts s) (f+1) p n∧s.size≤p+(f+1)):=by have h:=HF0.out;obtain⟨f,rfl⟩:∃f,f0=f+1:=⟨f0-1,by omega⟩;exact⟨f,h⟩
   have e0:=T.at0_bts s p hlt;have HR:Hid (∀i,0≤T.at0 (T.bts s) i∧T.at0 (T.bts s) i≤255):=T.at0_bts_range s;have HPL:Hid (p<(T.bts s).length):=by unfold Hid;rw[HL.out];exact hlt
   obtain⟨c,hc⟩:∃c:Int,c=((s[p]).toNat:Int):=⟨_,rfl⟩;rw[←hc] at e0;have He:Hid (T.at0 (T.bts s) p=c):=e0;have hc0:0≤c∧c≤255:=by have:=HR.out p;rw[e0] at this;exact this
   have hwc:wrap64 ((s[p]).toNat:Int)=c:=by rw[←hc];unfold wrap64;omega
   have hi1:(p:Int)<(s.size:Int):=by omega
   clear e0 HF0 hc;by_cases hcase0:c<128
   ·have hm:T.more c=0:=by unfold T.more;rw[if_pos hcase0]
    have hv0:T.val0 c=c:=by unfold T.val0;rw[if_pos hcase0]
    have hst:Hid (Read (T.bts s) p 1 c):=by have:=Read.start (L:=T.bts s) (p:=p) (by rw[He.out,hv0];omega) (by rw[He.out,hv0];omega);rwa [He.out,hv0] at this
    have HM:Hid (T.more (T.at0 (T.bts s) p)=0):=by unfold Hid;rw[He.out,hm]
    clear hm hv0;go_wp2_with fail;go_loopw [7,8] (fun v i w2=>∃(k:Nat) (vv:Int),1≤k∧k≤1∧v= .int .i64 vv∧i= .int .i64 k∧wr=w2∧Hid (Read (T.bts s) p k vv))
     (fun _ i _=>5-(intOf i).toNat)
    case atStart=>exact⟨1,c,by omega,by omega,by first|rfl|go_num,rfl,rfl,hst⟩
    case round=>
     obtain⟨k,vv,hk1,hk4,rfl,rfl,rfl,HV⟩:=hrel;clear hwc;have hv0:=HV.out.low;have hvb:vv<33554432:=by
      have h1:=HV.out.b1;have h2:=HV.out.b2;have h3:=HV.out.b3;have h4:=HV.out.b4;rcases(show k=1∨k=2∨k=3∨k=4 by omega) with rfl|rfl|rfl|rfl
      ·have:=h1 rfl;omega
      ·have:=h2 rfl;omega
      ·have:=h3 rfl;omega
      ·have:=h4 rfl;omega
     by_cases hkm:k≤0
     ·omega
     ·obtain rfl:k=1:=by omega
      have HSZ:Hid (T.size (T.bts s) p=if T.badVal 0 vv then 0 else 1+0):=by have h:=T.size_val (T.bts s) p HPL.out HR.out (by rw[HM.out];intro j h1 h2;exact HV.out.okay j h1 (by omega));rw[HM.out] at h;rw[HV.out.val];exact h
      have hki:¬((1:Nat):Int)≤0:=by omega
      have hv128:=HV.out.b1 rfl;clear HV hst;by_cases hbad:T.badVal 0 vv=true
      ·have HZ:Hid (T.size (T.bts s) p=0):=by unfold Hid;rw[HSZ.out,if_pos hbad]
       have HT:Hid (T.lettersOf (T.bts s)= -1):=by unfold Hid;rw[HF.out.1,letters_bad HPL.out HZ.out]
       have hbb:vv<0∨1114111<vv∨55296≤vv∧vv≤57343:=by simp only[T.badVal,decide_eq_true_eq] at hbad;have:T.least 0=0:=rfl;omega
       clear hbad HSZ;have:=hv128;omega
      ·have HZ:Hid (T.size (T.bts s) p=1+0):=by unfold Hid;rw[HSZ.out,if_neg hbad]
       have hle:=T.size_le (T.bts s) p;rw[HZ.out,HL.out] at hle;have HT:Hid (T.lettersOf (T.bts s)=T.lettersFrom (T.bts s) f (p+(1+0)) ((n+1:Nat):Int)):=by unfold Hid;rw[HF.out.1,letters_next HPL.out HZ.out (by omega)];rfl
       have hbb:¬vv<0∧¬1114111<vv∧¬(55296≤vv∧vv≤57343):=by simp only[T.badVal,decide_eq_true_eq] at hbad;have:T.least 0=0:=rfl;omega
       obtain⟨b1,b2,b3⟩:=hbb;have hsf:=HF.out.2;clear hbad HSZ;by_cases b4:(55296:Int)≤vv
       ·omega
       ·clear b3;go_wp2;go_roundw
        case rel=>exact⟨p+(1+0),n+1,f,by omega,by omega,by go_num,by go_num,by have:=HB.out;(repeat (first|exact Below.refl _ _|assumption|refine Below.setCell ?_ (by first|exact Nat.le_refl _|omega|(simp;done)|(simp;omega)) _|refine below_drewN ?_ _|refine Below.drew ?_|refine Below.alloc ?_ (by first|exact Nat.le_refl _|omega|(simp;done)|(simp;omega)) _)),HT.out,by omega⟩
        case measure=>simp[intOf];omega
   by_cases hcase1:192≤c∧c<224
   ·have hm:T.more c=1:=by unfold T.more;rw[if_neg hcase0,if_pos hcase1.2]
    have hv0:T.val0 c=(c-192):=by unfold T.val0;rw[if_neg hcase0,if_pos hcase1.2]
    have hst:Hid (Read (T.bts s) p 1 (c-192)):=by have:=Read.start (L:=T.bts s) (p:=p) (by rw[He.out,hv0];omega) (by rw[He.out,hv0];omega);rwa [He.out,hv0] at this
    have HM:Hid (T.more (T.at0 (T.bts s) p)=1):=by unfold Hid;rw[He.out,hm]
    have g1:(192:Int)≤c:=by omega
    clear hm hv0;go_wp2_with fail;go_loopw [7,8] (fun v i w2=>∃(k:Nat) (vv:Int),1≤k∧k≤2∧v= .int .i64 vv∧i= .int .i64 k∧wr=w2∧Hid (Read (T.bts s) p k vv))
     (fun _ i _=>5-(intOf i).toNat)
    case atStart=>exact⟨1,(c-192),by omega,by omega,by first|rfl|go_num,rfl,rfl,hst⟩
    case round=>
     obtain⟨k,vv,hk1,hk4,rfl,rfl,rfl,HV⟩:=hrel;clear hwc;have hv0:=HV.out.low;have hvb:vv<33554432:=by
      have h1:=HV.out.b1;have h2:=HV.out.b2;have h3:=HV.out.b3;have h4:=HV.out.b4;rcases(show k=1∨k=2∨k=3∨k=4 by omega) with rfl|rfl|rfl|rfl
      ·have:=h1 rfl;omega
      ·have:=h2 rfl;omega
      ·have:=h3 rfl;omega
      ·have:=h4 rfl;omega
     by_cases hkm:k≤1
     ·have hki:(k:Int)≤1:=by omega
      by_cases hin:p+k<s.size
      ·have e1:=T.at0_bts s (p+k) hin;have hwd:wrap64 ((s[p+k]).toNat:Int)=((s[p+k]).toNat:Int):=by have:=(s[p+k]).toNat_lt;unfold wrap64;omega
       have hj1:(p:Int)+k<(s.size:Int):=by omega
       have hj2:¬(s.size:Int)≤(p:Int)+k:=by omega
       have hj0:(0:Int)≤(p:Int)+k:=by omega
       by_cases hcn:((s[p+k]).toNat:Int)/64=2
       ·have HV':Hid (Read (T.bts s) p (k+1) (64*vv+((s[p+k]).toNat:Int)%64)):=HV.out.step hk1 (by omega) (by rw[HL.out];exact hin) e1 hcn;clear e1 HV;go_wp2;go_roundw
        case rel=>exact⟨k+1,64*vv+((s[p+k]).toNat:Int)%64,by omega,by omega,by first|rfl|go_num,by go_num,trivial,HV'⟩
        case measure=>simp[intOf];omega
       ·have HZ:Hid (T.size (T.bts s) p=0):=T.size_short _ _ k hk1 (by rw[HM.out];exact hkm) (by rw[e1];exact fun h=>hcn h.2);have HT:Hid (T.lettersOf (T.bts s)= -1):=by unfold Hid;rw[HF.out.1,letters_bad HPL.out HZ.out]
        have hq1:(((s[p+k]).toNat:Int)/64==2)=false:=by rw[beq_eq_false_iff_ne];exact hcn
        clear e1 HV hcn;go_wp2
        ·go_ret;rw[HT.out];exact⟨rfl,HB.out⟩
        ·rename_i hx;have h8:=(s[p+k]).toNat_lt;have h9:wrap64 (((s[p+k]).toNat:Int)/64)=((s[p+k]).toNat:Int)/64:=by unfold wrap64;omega
         rw[h9,bne,hq1] at hx;cases hx
      ·have HZ:Hid (T.size (T.bts s) p=0):=T.size_short _ _ k hk1 (by rw[HM.out];exact hkm) (by rw[HL.out];exact fun h=>hin h.1);have HT:Hid (T.lettersOf (T.bts s)= -1):=by unfold Hid;rw[HF.out.1,letters_bad HPL.out HZ.out]
       have hj2:(s.size:Int)≤(p:Int)+k:=by omega
       clear HV;go_wp2;go_ret;rw[HT.out];exact⟨rfl,HB.out⟩
     ·obtain rfl:k=2:=by omega
      have HSZ:Hid (T.size (T.bts s) p=if T.badVal 1 vv then 0 else 1+1):=by have h:=T.size_val (T.bts s) p HPL.out HR.out (by rw[HM.out];intro j h1 h2;exact HV.out.okay j h1 (by omega));rw[HM.out] at h;rw[HV.out.val];exact h
      have hki:¬((2:Nat):Int)≤1:=by omega
      clear HV hst;by_cases hbad:T.badVal 1 vv=true
      ·have HZ:Hid (T.size (T.bts s) p=0):=by unfold Hid;rw[HSZ.out,if_pos hbad]
       have HT:Hid (T.lettersOf (T.bts s)= -1):=by unfold Hid;rw[HF.out.1,letters_bad HPL.out HZ.out]
       have hbb:vv<128∨1114111<vv∨55296≤vv∧vv≤57343:=by simp only[T.badVal,decide_eq_true_eq] at hbad;have:T.least 1=128:=rfl;omega
       clear hbad HSZ;by_cases b1:vv<128
       ·go_wp2;go_ret;rw[HT.out];exact⟨rfl,by have:=HB.out;(repeat (first|exact Below.refl _ _|assumption|refine Below.setCell ?_ (by first|exact Nat.le_refl _|omega|(simp;done)|(simp;omega)) _|refine below_drewN ?_ _|refine Below.drew ?_|refine Below.alloc ?_ (by first|exact Nat.le_refl _|omega|(simp;done)|(simp;omega)) _))⟩
       by_cases b2:1114111<vv
       ·go_wp2;go_ret;rw[HT.out];exact⟨rfl,by have:=HB.out;(repeat (first|exact Below.refl _ _|assumption|refine Below.setCell ?_ (by first|exact Nat.le_refl _|omega|(simp;done)|(simp;omega)) _|refine below_drewN ?_ _|refine Below.drew ?_|refine Below.alloc ?_ (by first|exact Nat.le_refl _|omega|(simp;done)|(simp;omega)) _))⟩
       ·have b3:(55296:Int)≤vv:=by omega
        have b4:vv≤57343:=by omega
        go_wp2;go_ret;rw[HT.out];exact⟨rfl,by have:=HB.out;(repeat (first|exact Below.refl _ _|assumption|refine Below.setCell ?_ (by first|exact Nat.le_refl _|omega|(simp;done)|(simp;omega)) _|refine below_drewN ?_ _|refine Below.drew ?_|refine Below.alloc ?_ (by first|exact Nat.le_refl _|omega|(simp;done)|(simp;omega)) _))⟩
      ·have HZ:Hid (T.size (T.bts s) p=1+1):=by unfold Hid;rw[HSZ.out,if_neg hbad]
       have hle:=T.size_le (T.bts s) p;rw[HZ.out,HL.out] at hle;have HT:Hid (T.lettersOf (T.bts s)=T.lettersFrom (T.bts s) f (p+(1+1)) ((n+1:Nat):Int)):=by unfold Hid;rw[HF.out.1,letters_next HPL.out HZ.out (by omega)];rfl
       have hbb:¬vv<128∧¬1114111<vv∧¬(55296≤vv∧vv≤57343):=by simp only[T.badVal,decide_eq_true_eq] at hbad;have:T.least 1=128:=rfl;omega
       obtain⟨b1,b2,b3⟩:=hbb;have hsf:=HF.out.2;clear hbad HSZ;by_cases b4:(55296:Int)≤vv
       ·have b5:¬vv≤57343:=by omega
        clear b3;go_wp2;go_roundw
        case rel=>exact⟨p+(1+1),n+1,f,by omega,by omega,by go_num,by go_num,by have:=HB.out;(repeat (first|exact Below.refl _ _|assumption|refine Below.setCell ?_ (by first|exact Nat.le_refl _|omega|(simp;done)|(simp;omega)) _|refine below_drewN ?_ _|refine Below.drew ?_|refine Below.alloc ?_ (by first|exact Nat.le_refl _|omega|(simp;done)|(simp;omega)) _)),HT.out,by omega⟩
        case measure=>simp[intOf];omega
       ·clear b3;go_wp2;go_roundw
        case rel=>exact⟨p+(1+1),n+1,f,by omega,by omega,by go_num,by go_num,by have:=HB.out;(repeat (first|exact Below.refl _ _|assumption|refine Below.setCell ?_ (by first|exact Nat.le_refl _|omega|(simp;done)|(simp;omega)) _|refine below_drewN ?_ _|refine Below.drew ?_|refine Below.alloc ?_ (by first|exact Nat.le_refl _|omega|(simp;done)|(simp;omega)) _)),HT.out,by omega⟩
        case measure=>simp[intOf];omega
   by_cases hcase2:224≤c∧c<240
   ·have hm:T.more c=2:=by unfold T.more;rw[if_neg hcase0,if_neg (by omega),if_pos hcase2.2]
    have hv0:T.val0 c=(c-224):=by unfold T.val0;rw[if_neg hcase0,if_neg (by omega),if_pos hcase2.2]
    have hst:Hid (Read (T.bts s) p 1 (c-224)):=by have:=Read.start (L:=T.bts s) (p:=p) (by rw[He.out,hv0];omega) (by rw[He.out,hv0];omega);rwa [He.out,hv0] at this
    have HM:Hid (T.more (T.at0 (T.bts s) p)=2):=by unfold Hid;rw[He.out,hm]
    have g1:(192:Int)≤c:=by omega
    have g2:¬c<224:=by omega
    have g3:(224:Int)≤c:=by omega
    clear hm hv0;go_wp2_with fail;go_loopw [7,8] (fun v i w2=>∃(k:Nat) (vv:Int),1≤k∧k≤3∧v= .int .i64 vv∧i= .int .i64 k∧wr=w2∧Hid (Read (T.bts s) p k vv))
     (fun _ i _=>5-(intOf i).toNat)
    case atStart=>exact⟨1,(c-224),by omega,by omega,by first|rfl|go_num,rfl,rfl,hst⟩
    case round=>
     obtain⟨k,vv,hk1,hk4,rfl,rfl,rfl,HV⟩:=hrel;clear hwc;have hv0:=HV.out.low;have hvb:vv<33554432:=by
      have h1:=HV.out.b1;have h2:=HV.out.b2;have h3:=HV.out.b3;have h4:=HV.out.b4;rcases(show k=1∨k=2∨k=3∨k=4 by omega) with rfl|rfl|rfl|rfl
      ·have:=h1 rfl;omega
      ·have:=h2 rfl;omega
      ·have:=h3 rfl;omega
      ·have:=h4 rfl;omega
     by_cases hkm:k≤2
     ·have hki:(k:Int)≤2:=by omega
      by_cases hin:p+k<s.size
      ·have e1:=T.at0_bts s (p+k) hin;have hwd:wrap64 ((s[p+k]).toNat:Int)=((s[p+k]).toNat:Int):=by have:=(s[p+k]).toNat_lt;unfold wrap64;omega
       have hj1:(p:Int)+k<(s.size:Int):=by omega
       have hj2:¬(s.size:Int)≤(p:Int)+k:=by omega
       have hj0:(0:Int)≤(p:Int)+k:=by omega
       by_cases hcn:((s[p+k]).toNat:Int)/64=2
       ·have HV':Hid (Read (T.bts s) p (k+1) (64*vv+((s[p+k]).toNat:Int)%64)):=HV.out.step hk1 (by omega) (by rw[HL.out];exact hin) e1 hcn;clear e1 HV;go_wp2;go_roundw
        case rel=>exact⟨k+1,64*vv+((s[p+k]).toNat:Int)%64,by omega,by omega,by first|rfl|go_num,by go_num,trivial,HV'⟩
        case measure=>simp[intOf];omega
       ·have HZ:Hid (T.size (T.bts s) p=0):=T.size_short _ _ k hk1 (by rw[HM.out];exact hkm) (by rw[e1];exact fun h=>hcn h.2);have HT:Hid (T.lettersOf (T.bts s)= -1):=by unfold Hid;rw[HF.out.1,letters_bad HPL.out HZ.out]
        have hq1:(((s[p+k]).toNat:Int)/64==2)=false:=by rw[beq_eq_false_iff_ne];exact hcn
        clear e1 HV hcn;go_wp2
        ·go_ret;rw[HT.out];exact⟨rfl,HB.out⟩
        ·rename_i hx;have h8:=(s[p+k]).toNat_lt;have h9:wrap64 (((s[p+k]).toNat:Int)/64)=((s[p+k]).toNat:Int)/64:=by unfold wrap64;omega
         rw[h9,bne,hq1] at hx;cases hx
      ·have HZ:Hid (T.size (T.bts s) p=0):=T.size_short _ _ k hk1 (by rw[HM.out];exact hkm) (by rw[HL.out];exact fun h=>hin h.1);have HT:Hid (T.lettersOf (T.bts s)= -1):=by unfold Hid;rw[HF.out.1,letters_bad HPL.out HZ.out]
       have hj2:(s.size:Int)≤(p:Int)+k:=by omega
       clear HV;go_wp2;go_ret;rw[HT.out];exact⟨rfl,HB.out⟩
     ·obtain rfl:k=3:=by omega
      have HSZ:Hid (T.size (T.bts s) p=if T.badVal 2 vv then 0 else 1+2):=by have h:=T.size_val (T.bts s) p HPL.out HR.out (by rw[HM.out];intro j h1 h2;exact HV.out.okay j h1 (by omega));rw[HM.out] at h;rw[HV.out.val];exact h
      have hki:¬((3:Nat):Int)≤2:=by omega
      clear HV hst;by_cases hbad:T.badVal 2 vv=true
      ·have HZ:Hid (T.size (T.bts s) p=0):=by unfold Hid;rw[HSZ.out,if_pos hbad]
       have HT:Hid (T.lettersOf (T.bts s)= -1):=by unfold Hid;rw[HF.out.1,letters_bad HPL.out HZ.out]
       have hbb:vv<2048∨1114111<vv∨55296≤vv∧vv≤57343:=by simp only[T.badVal,decide_eq_true_eq] at hbad;have:T.least 2=2048:=rfl;omega
       clear hbad HSZ;by_cases b1:vv<2048
       ·go_wp2;go_ret;rw[HT.out];exact⟨rfl,by have:=HB.out;(repeat (first|exact Below.refl _ _|assumption|refine Below.setCell ?_ (by first|exact Nat.le_refl _|omega|(simp;done)|(simp;omega)) _|refine below_drewN ?_ _|refine Below.drew ?_|refine Below.alloc ?_ (by first|exact Nat.le_refl _|omega|(simp;done)|(simp;omega)) _))⟩
       by_cases b2:1114111<vv
       ·go_wp2;go_ret;rw[HT.out];exact⟨rfl,by have:=HB.out;(repeat (first|exact Below.refl _ _|assumption|refine Below.setCell ?_ (by first|exact Nat.le_refl _|omega|(simp;done)|(simp;omega)) _|refine below_drewN ?_ _|refine Below.drew ?_|refine Below.alloc ?_ (by first|exact Nat.le_refl _|omega|(simp;done)|(simp;omega)) _))⟩
       ·have b3:(55296:Int)≤vv:=by omega
        have b4:vv≤57343:=by omega
        go_wp2;go_ret;rw[HT.out];exact⟨rfl,by have:=HB.out;(repeat (first|exact Below.refl _ _|assumption|refine Below.setCell ?_ (by first|exact Nat.le_refl _|omega|(simp;done)|(simp;omega)) _|refine below_drewN ?_ _|refine Below.drew ?_|refine Below.alloc ?_ (by first|exact Nat.le_refl _|omega|(simp;done)|(simp;omega)) _))⟩
      ·have HZ:Hid (T.size (T.bts s) p=1+2):=by unfold Hid;rw[HSZ.out,if_neg hbad]
       have hle:=T.size_le (T.bts s) p;rw[HZ.out,HL.out] at hle;have HT:Hid (T.lettersOf (T.bts s)=T.lettersFrom (T.bts s) f (p+(1+2)) ((n+1:Nat):Int)):=by unfold Hid;rw[HF.out.1,letters_next HPL.out HZ.out (by omega)];rfl
       have hbb:¬vv<2048∧¬1114111<vv∧¬(55296≤vv∧vv≤57343):=by simp only[T.badVal,decide_eq_true_eq] at hbad;have:T.least 2=2048:=rfl;omega
       obtain⟨b1,b2,b3⟩:=hbb;have hsf:=HF.out.2;clear hbad HSZ;by_cases b4:(55296:Int)≤vv
       ·have b5:¬vv≤57343:=by omega
        clear b3;go_wp2;go_roundw
        case rel=>exact⟨p+(1+2),n+1,f,by omega,by omega,by go_num,by go_num,by have:=HB.out;(repeat (first|exact Below.refl _ _|assumption|refine Below.setCell ?_ (by first|exact Nat.le_refl _|omega|(simp;done)|(simp;omega)) _|refine below_drewN ?_ _|refine Below.drew ?_|refine Below.alloc ?_ (by first|exact Nat.le_refl _|omega|(simp;done)|(simp;omega)) _)),HT.out,by omega⟩
        case measure=>simp[intOf];omega
       ·clear b3;go_wp2;go_roundw
        case rel=>exact⟨p+(1+2),n+1,f,by omega,by omega,by go_num,by go_num,by have:=HB.out;(repeat (first|exact Below.refl _ _|assumption|refine Below.setCell ?_ (by first|exact Nat.le_refl _|omega|(simp;done)|(simp;omega)) _|refine below_drewN ?_ _|refine Below.drew ?_|refine Below.alloc ?_ (by first|exact Nat.le_refl _|omega|(simp;done)|(simp;omega)) _)),HT.out,by omega⟩
        case measure=>simp[intOf];omega
   by_cases hcase3:240≤c∧c<248
   ·have hm:T.more c=3:=by unfold T.more;rw[if_neg hcase0,if_neg (by omega),if_neg (by omega)]
    have hv0:T.val0 c=(c-240):=by unfold T.val0;rw[if_neg hcase0,if_neg (by omega),if_neg (by omega)]
    have hst:Hid (Read (T.bts s) p 1 (c-240)):=by have:=Read.start (L:=T.bts s) (p:=p) (by rw[He.out,hv0];omega) (by rw[He.out,hv0];omega);rwa [He.out,hv0] at this
    have HM:Hid (T.more (T.at0 (T.bts s) p)=3):=by unfold Hid;rw[He.out,hm]
    have g1:(192:Int)≤c:=by omega
    have g2:¬c<224:=by omega
    have g3:(224:Int)≤c:=by omega
    have g4:¬c<240:=by omega
    have g5:(240:Int)≤c:=by omega
    clear hm hv0;go_wp2_with fail;go_loopw [7,8] (fun v i w2=>∃(k:Nat) (vv:Int),1≤k∧k≤4∧v= .int .i64 vv∧i= .int .i64 k∧wr=w2∧Hid (Read (T.bts s) p k vv))
     (fun _ i _=>5-(intOf i).toNat)
    case atStart=>exact⟨1,(c-240),by omega,by omega,by first|rfl|go_num,rfl,rfl,hst⟩
    case round=>
     obtain⟨k,vv,hk1,hk4,rfl,rfl,rfl,HV⟩:=hrel;clear hwc;have hv0:=HV.out.low;have hvb:vv<33554432:=by
      have h1:=HV.out.b1;have h2:=HV.out.b2;have h3:=HV.out.b3;have h4:=HV.out.b4;rcases(show k=1∨k=2∨k=3∨k=4 by omega) with rfl|rfl|rfl|rfl
      ·have:=h1 rfl;omega
      ·have:=h2 rfl;omega
      ·have:=h3 rfl;omega
      ·have:=h4 rfl;omega
     by_cases hkm:k≤3
     ·have hki:(k:Int)≤3:=by omega
      by_cases hin:p+k<s.size
      ·have e1:=T.at0_bts s (p+k) hin;have hwd:wrap64 ((s[p+k]).toNat:Int)=((s[p+k]).toNat:Int):=by have:=(s[p+k]).toNat_lt;unfold wrap64;omega
       have hj1:(p:Int)+k<(s.size:Int):=by omega
       have hj2:¬(s.size:Int)≤(p:Int)+k:=by omega
       have hj0:(0:Int)≤(p:Int)+k:=by omega
       by_cases hcn:((s[p+k]).toNat:Int)/64=2
       ·have HV':Hid (Read (T.bts s) p (k+1) (64*vv+((s[p+k]).toNat:Int)%64)):=HV.out.step hk1 (by omega) (by rw[HL.out];exact hin) e1 hcn;clear e1 HV;go_wp2;go_roundw
        case rel=>exact⟨k+1,64*vv+((s[p+k]).toNat:Int)%64,by omega,by omega,by first|rfl|go_num,by go_num,trivial,HV'⟩
        case measure=>simp[intOf];omega
       ·have HZ:Hid (T.size (T.bts s) p=0):=T.size_short _ _ k hk1 (by rw[HM.out];exact hkm) (by rw[e1];exact fun h=>hcn h.2);have HT:Hid (T.lettersOf (T.bts s)= -1):=by unfold Hid;rw[HF.out.1,letters_bad HPL.out HZ.out]
        have hq1:(((s[p+k]).toNat:Int)/64==2)=false:=by rw[beq_eq_false_iff_ne];exact hcn
        clear e1 HV hcn;go_wp2
        ·go_ret;rw[HT.out];exact⟨rfl,HB.out⟩
        ·rename_i hx;have h8:=(s[p+k]).toNat_lt;have h9:wrap64 (((s[p+k]).toNat:Int)/64)=((s[p+k]).toNat:Int)/64:=by unfold wrap64;omega
         rw[h9,bne,hq1] at hx;cases hx
      ·have HZ:Hid (T.size (T.bts s) p=0):=T.size_short _ _ k hk1 (by rw[HM.out];exact hkm) (by rw[HL.out];exact fun h=>hin h.1);have HT:Hid (T.lettersOf (T.bts s)= -1):=by unfold Hid;rw[HF.out.1,letters_bad HPL.out HZ.out]
       have hj2:(s.size:Int)≤(p:Int)+k:=by omega
       clear HV;go_wp2;go_ret;rw[HT.out];exact⟨rfl,HB.out⟩
     ·obtain rfl:k=4:=by omega
      have HSZ:Hid (T.size (T.bts s) p=if T.badVal 3 vv then 0 else 1+3):=by have h:=T.size_val (T.bts s) p HPL.out HR.out (by rw[HM.out];intro j h1 h2;exact HV.out.okay j h1 (by omega));rw[HM.out] at h;rw[HV.out.val];exact h
      have hki:¬((4:Nat):Int)≤3:=by omega
      clear HV hst;by_cases hbad:T.badVal 3 vv=true
      ·have HZ:Hid (T.size (T.bts s) p=0):=by unfold Hid;rw[HSZ.out,if_pos hbad]
       have HT:Hid (T.lettersOf (T.bts s)= -1):=by unfold Hid;rw[HF.out.1,letters_bad HPL.out HZ.out]
       have hbb:vv<65536∨1114111<vv∨55296≤vv∧vv≤57343:=by simp only[T.badVal,decide_eq_true_eq] at hbad;have:T.least 3=65536:=rfl;omega
       clear hbad HSZ;by_cases b1:vv<65536
       ·go_wp2;go_ret;rw[HT.out];exact⟨rfl,by have:=HB.out;(repeat (first|exact Below.refl _ _|assumption|refine Below.setCell ?_ (by first|exact Nat.le_refl _|omega|(simp;done)|(simp;omega)) _|refine below_drewN ?_ _|refine Below.drew ?_|refine Below.alloc ?_ (by first|exact Nat.le_refl _|omega|(simp;done)|(simp;omega)) _))⟩
       by_cases b2:1114111<vv
       ·go_wp2;go_ret;rw[HT.out];exact⟨rfl,by have:=HB.out;(repeat (first|exact Below.refl _ _|assumption|refine Below.setCell ?_ (by first|exact Nat.le_refl _|omega|(simp;done)|(simp;omega)) _|refine below_drewN ?_ _|refine Below.drew ?_|refine Below.alloc ?_ (by first|exact Nat.le_refl _|omega|(simp;done)|(simp;omega)) _))⟩
       ·omega
      ·have HZ:Hid (T.size (T.bts s) p=1+3):=by unfold Hid;rw[HSZ.out,if_neg hbad]
       have hle:=T.size_le (T.bts s) p;rw[HZ.out,HL.out] at hle;have HT:Hid (T.lettersOf (T.bts s)=T.lettersFrom (T.bts s) f (p+(1+3)) ((n+1:Nat):Int)):=by unfold Hid;rw[HF.out.1,letters_next HPL.out HZ.out (by omega)];rfl
       have hbb:¬vv<65536∧¬1114111<vv∧¬(55296≤vv∧vv≤57343):=by simp only[T.badVal,decide_eq_true_eq] at hbad;have:T.least 3=65536:=rfl;omega
       obtain⟨b1,b2,b3⟩:=hbb;have hsf:=HF.out.2;clear hbad HSZ;by_cases b4:(55296:Int)≤vv
       ·have b5:¬vv≤57343:=by omega
        clear b3;go_wp2;go_roundw
        case rel=>exact⟨p+(1+3),n+1,f,by omega,by omega,by go_num,by go_num,by have:=HB.out;(repeat (first|exact Below.refl _ _|assumption|refine Below.setCell ?_ (by first|exact Nat.le_refl _|omega|(simp;done)|(simp;omega)) _|refine below_drewN ?_ _|refine Below.drew ?_|refine Below.alloc ?_ (by first|exact Nat.le_refl _|omega|(simp;done)|(simp;omega)) _)),HT.out,by omega⟩
        case measure=>simp[intOf];omega
       ·omega
   have hno:Hid (T.size (T.bts s) p=0):=T.size_nolead _ _ (by rw[He.out];simp[T.isLead];omega);have HT:Hid (T.lettersOf (T.bts s)= -1):=by unfold Hid;rw[HF.out.1,letters_bad HPL.out hno.out]
   by_cases hc1:c<192
   ·go_wp2;go_ret;rw[HT.out];exact⟨rfl,HB.out⟩
   ·have g1:(192:Int)≤c:=by omega
    have g2:¬c<224:=by omega
    have g3:(224:Int)≤c:=by omega
    have g4:¬c<240:=by omega
    have g5:(240:Int)≤c:=by omega
    have g6:¬c<248:=by omega
    go_wp2;go_ret;rw[HT.out];exact⟨rfl,HB.out⟩
  ·have HT:Hid (T.lettersOf (T.bts s)=n):=by unfold Hid;rw[HF0.out.1,letters_end (by rw[HL.out];exact hlt)]
   go_wp2;go_ret;rw[HT.out];exact⟨rfl,HB.out⟩
end Go.Proofs.YtidaflmmldefcaaGreat.Tr
