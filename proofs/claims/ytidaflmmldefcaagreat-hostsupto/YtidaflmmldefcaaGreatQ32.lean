/- Parts of the proof of Hosts: LettR, JSpotO, SpotV, SpotQ. -/
import Derived.Test.YtidaflmmldefcaaGreatQ17
import Derived.Test.YtidaflmmldefcaaGreatQ05
import Derived.Laws.BytesArg
import Derived.Test.YtidaflmmldefcaaGreatQ31
import Derived.Deep.RegionWith
import Derived.Test.YtidaflmmldefcaaGreatQ06
import Derived.Test.YtidaflmmldefcaaGreatQ08
set_option maxHeartbeats 8000000
namespace Go.Proofs.YtidaflmmldefcaaGreat
open Go.RowKit Go.Lib
set_option linter.unusedVariables false
theorem enc_one {v:Int} (h0:0≤v) (h:v<128):Utf8.encode v=strOfNums [v]:=by
 unfold Utf8.encode;have hv:Utf8.valid v=true:=by simp[Utf8.valid];omega
 simp only[hv,if_true];rw[if_pos (show v.toNat<128 by omega)];rfl
theorem enc_two {v:Int} (h0:128≤v) (h:v<2048):Utf8.encode v=strOfNums [192+v/64,128+v%64]:=by
 unfold Utf8.encode;have hv:Utf8.valid v=true:=by simp[Utf8.valid];omega
 simp only[hv,if_true];rw[if_neg (show¬v.toNat<128 by omega),if_pos (show v.toNat<2048 by omega)];simp only[strOfNums,List.map_cons,List.map_nil];rw[show(192+v/64).toNat=192+v.toNat/64 by omega,show(128+v%64).toNat=128+v.toNat%64 by omega]
theorem enc_three {v:Int} (h0:2048≤v) (h:v<65536) (hs:v<55296∨57343<v):Utf8.encode v=strOfNums [224+v/4096,128+v/64%64,128+v%64]:=by
 unfold Utf8.encode;have hv:Utf8.valid v=true:=by simp[Utf8.valid];omega
 simp only[hv,if_true];rw[if_neg (show¬v.toNat<128 by omega),if_neg (show¬v.toNat<2048 by omega),if_pos (show v.toNat<65536 by omega)];simp only[strOfNums,List.map_cons,List.map_nil];rw[show(224+v/4096).toNat=224+v.toNat/4096 by omega,show(128+v/64%64).toNat=128+v.toNat/64%64 by omega,show(128+v%64).toNat=128+v.toNat%64 by omega]
theorem enc_sur {v:Int} (h1:55296≤v) (h2:v≤57343):Utf8.encode v=strOfNums [239,191,189]:=by
 unfold Utf8.encode;have hv:Utf8.valid v=false:=by simp[Utf8.valid];omega
 simp only[hv,Bool.false_eq_true,if_false];decide
theorem conv_l1 (w:World) (x:Int):(convert 173 9 (.slice (some ⟨w.heap.size,0,none⟩) 1 1)).run Tryz.prog (w.alloc (.cells #[.int .u8 x] 5))= .ok (.string (strOfNums [x])) (w.alloc (.cells #[.int .u8 x] 5)):=run_convert_bytes_arg (P:=Tryz.prog) _ 173 5 Tryz.underlying173 Tryz.underlying5 w.heap.size 0 1 1 [x] rfl (fun i hi=>by
  rw[Nat.zero_add];refine((Blk.new w #[.int .u8 x] 5).cell i).trans ?_;rcases(show i=0 by omega) with rfl;rfl) 9 Tryz.underlying9
theorem conv_l2 (w:World) (x y:Int):(convert 173 9 (.slice (some ⟨w.heap.size,0,none⟩) 2 2)).run Tryz.prog (w.alloc (.cells #[.int .u8 x,.int .u8 y] 5))= .ok (.string (strOfNums [x,y])) (w.alloc (.cells #[.int .u8 x,.int .u8 y] 5)):=run_convert_bytes_arg (P:=Tryz.prog) _ 173 5 Tryz.underlying173 Tryz.underlying5 w.heap.size 0 2 2 [x,y] rfl (fun i hi=>by
  rw[Nat.zero_add];refine((Blk.new w #[.int .u8 x,.int .u8 y] 5).cell i).trans ?_;rcases(show i=0∨i=1 by omega) with rfl|rfl<;>rfl) 9 Tryz.underlying9
theorem conv_l3 (w:World) (x y z:Int):(convert 173 9 (.slice (some ⟨w.heap.size,0,none⟩) 3 3)).run Tryz.prog (w.alloc (.cells #[.int .u8 x,.int .u8 y,.int .u8 z] 5))= .ok (.string (strOfNums [x,y,z])) (w.alloc (.cells #[.int .u8 x,.int .u8 y,.int .u8 z] 5)):=run_convert_bytes_arg (P:=Tryz.prog) _ 173 5 Tryz.underlying173 Tryz.underlying5 w.heap.size 0 3 3 [x,y,z] rfl (fun i hi=>by
  rw[Nat.zero_add];refine((Blk.new w #[.int .u8 x,.int .u8 y,.int .u8 z] 5).cell i).trans ?_;rcases(show i=0∨i=1∨i=2 by omega) with rfl|rfl|rfl<;>rfl) 9 Tryz.underlying9
set_option maxRecDepth 100000
theorem lett_one (v:Int) (w:World) (h0:0≤v) (h:v<128):Calls Tryz.prog 84 #[.int .i64 v] w fun e w'=>e= .returned (.string (Utf8.encode v))∧Below w.heap.size w w':=by
 have HE:Hid (Utf8.encode v=strOfNums [v]):=enc_one h0 h;have h1:¬55296≤v:=by omega
 have hw:IntKind.u8.wrap v=v:=by rw[IntKind.wrap_u8];omega
 have hconv:=conv_l1 w v;go_enter Tryz.func84,Tryz.ntmps84;go_wp2;go_ret;exact⟨by rw[HE.out];rfl,(Below.refl _ _).alloc (Nat.le_refl _) _⟩
theorem lett_two (v:Int) (w:World) (h0:128≤v) (h:v<2048):Calls Tryz.prog 84 #[.int .i64 v] w fun e w'=>e= .returned (.string (Utf8.encode v))∧Below w.heap.size w w':=by
 have HE:Hid (Utf8.encode v=strOfNums [192+v/64,128+v%64]):=enc_two h0 h;have h1:¬55296≤v:=by omega
 have h2:¬v<128:=by omega
 have hd:v.tdiv 64=v/64:=Int.tdiv_eq_ediv_of_nonneg (by omega);have hm:v.tmod 64=v%64:=Int.tmod_eq_emod_of_nonneg (by omega);have hw0:IntKind.i64.wrap (v/64)=v/64:=by rw[IntKind.wrap_i64];omega
 have hw1:IntKind.i64.wrap (192+v/64)=192+v/64:=by rw[IntKind.wrap_i64];omega
 have hw2:IntKind.i64.wrap (128+v%64)=128+v%64:=by rw[IntKind.wrap_i64];omega
 have hw3:IntKind.u8.wrap (192+v/64)=192+v/64:=by rw[IntKind.wrap_u8];omega
 have hw4:IntKind.u8.wrap (128+v%64)=128+v%64:=by rw[IntKind.wrap_u8];omega
 have hconv:=conv_l2 w (192+v/64) (128+v%64);go_enter Tryz.func84,Tryz.ntmps84;go_wp2;go_ret;exact⟨by rw[HE.out];rfl,(Below.refl _ _).alloc (Nat.le_refl _) _⟩
theorem lett_three (v:Int) (w:World) (h0:2048≤v) (h:v<55296):Calls Tryz.prog 84 #[.int .i64 v] w fun e w'=>e= .returned (.string (Utf8.encode v))∧Below w.heap.size w w':=by
 have HE:Hid (Utf8.encode v=strOfNums [224+v/4096,128+v/64%64,128+v%64]):=enc_three h0 (by omega) (.inl h);have h1:¬55296≤v:=by omega
 have h2:¬v<128:=by omega
 have h3:¬v<2048:=by omega
 have hd:v.tdiv 64=v/64:=Int.tdiv_eq_ediv_of_nonneg (by omega);have hd2:v.tdiv 4096=v/4096:=Int.tdiv_eq_ediv_of_nonneg (by omega);have hm:v.tmod 64=v%64:=Int.tmod_eq_emod_of_nonneg (by omega);have hm2:(v/64).tmod 64=v/64%64:=Int.tmod_eq_emod_of_nonneg (by omega);have hw0:IntKind.i64.wrap (v/64)=v/64:=by rw[IntKind.wrap_i64];omega
 have hw5:IntKind.i64.wrap (v/4096)=v/4096:=by rw[IntKind.wrap_i64];omega
 have hw1:IntKind.i64.wrap (224+v/4096)=224+v/4096:=by rw[IntKind.wrap_i64];omega
 have hw6:IntKind.i64.wrap (128+v/64%64)=128+v/64%64:=by rw[IntKind.wrap_i64];omega
 have hw2:IntKind.i64.wrap (128+v%64)=128+v%64:=by rw[IntKind.wrap_i64];omega
 have hw3:IntKind.u8.wrap (224+v/4096)=224+v/4096:=by rw[IntKind.wrap_u8];omega
 have hw7:IntKind.u8.wrap (128+v/64%64)=128+v/64%64:=by rw[IntKind.wrap_u8];omega
 have hw4:IntKind.u8.wrap (128+v%64)=128+v%64:=by rw[IntKind.wrap_u8];omega
 have hconv:=conv_l3 w (224+v/4096) (128+v/64%64) (128+v%64);go_enter Tryz.func84,Tryz.ntmps84;go_wp2;go_ret;exact⟨by rw[HE.out];rfl,(Below.refl _ _).alloc (Nat.le_refl _) _⟩
theorem lett_high (v:Int) (w:World) (h0:57343<v) (h:v≤65535):Calls Tryz.prog 84 #[.int .i64 v] w fun e w'=>e= .returned (.string (Utf8.encode v))∧Below w.heap.size w w':=by
 have HE:Hid (Utf8.encode v=strOfNums [224+v/4096,128+v/64%64,128+v%64]):=enc_three (by omega) (by omega) (.inr h0);have h1:55296≤v:=by omega
 have h1b:¬v≤57343:=by omega
 have h2:¬v<128:=by omega
 have h3:¬v<2048:=by omega
 have hd:v.tdiv 64=v/64:=Int.tdiv_eq_ediv_of_nonneg (by omega);have hd2:v.tdiv 4096=v/4096:=Int.tdiv_eq_ediv_of_nonneg (by omega);have hm:v.tmod 64=v%64:=Int.tmod_eq_emod_of_nonneg (by omega);have hm2:(v/64).tmod 64=v/64%64:=Int.tmod_eq_emod_of_nonneg (by omega);have hw0:IntKind.i64.wrap (v/64)=v/64:=by rw[IntKind.wrap_i64];omega
 have hw5:IntKind.i64.wrap (v/4096)=v/4096:=by rw[IntKind.wrap_i64];omega
 have hw1:IntKind.i64.wrap (224+v/4096)=224+v/4096:=by rw[IntKind.wrap_i64];omega
 have hw6:IntKind.i64.wrap (128+v/64%64)=128+v/64%64:=by rw[IntKind.wrap_i64];omega
 have hw2:IntKind.i64.wrap (128+v%64)=128+v%64:=by rw[IntKind.wrap_i64];omega
 have hw3:IntKind.u8.wrap (224+v/4096)=224+v/4096:=by rw[IntKind.wrap_u8];omega
 have hw7:IntKind.u8.wrap (128+v/64%64)=128+v/64%64:=by rw[IntKind.wrap_u8];omega
 have hw4:IntKind.u8.wrap (128+v%64)=128+v%64:=by rw[IntKind.wrap_u8];omega
 have hconv:=conv_l3 w (224+v/4096) (128+v/64%64) (128+v%64);go_enter Tryz.func84,Tryz.ntmps84;go_wp2;go_ret;exact⟨by rw[HE.out];rfl,(Below.refl _ _).alloc (Nat.le_refl _) _⟩
theorem lett_sur (v:Int) (w:World) (h1:55296≤v) (h2:v≤57343):Calls Tryz.prog 84 #[.int .i64 v] w fun e w'=>e= .returned (.string (Utf8.encode v))∧Below w.heap.size w w':=by
 have HE:Hid (Utf8.encode v=strOfNums [239,191,189]):=enc_sur h1 h2;have hconv:=conv_l3 w 239 191 189;go_enter Tryz.func84,Tryz.ntmps84;go_wp2;go_ret;exact⟨by rw[HE.out];rfl,(Below.refl _ _).alloc (Nat.le_refl _) _⟩
theorem lett_any (v:Int) (w:World) (h0:0≤v) (h:v≤65535):Calls Tryz.prog 84 #[.int .i64 v] w fun e w'=>e= .returned (.string (Utf8.encode v))∧Below w.heap.size w w':=by
 by_cases h1:v<128
 ·exact lett_one v w h0 h1
 by_cases h2:v<2048
 ·exact lett_two v w (by omega) h2
 by_cases h3:v<55296
 ·exact lett_three v w (by omega) h3
 by_cases h4:v≤57343
 ·exact lett_sur v w (by omega) h4
 ·exact lett_high v w (by omega) h
end Go.Proofs.YtidaflmmldefcaaGreat
namespace Go.Proofs.YtidaflmmldefcaaGreat
open Go.RowKit
set_option linter.unusedVariables false
set_option maxRecDepth 100000
theorem one_3 {w:World} {base b:Nat} {pv sv dv:Value} {M:H.Mach} (h:SB w base b pv sv dv M) (k:Nat) (hk:k<8) (v:Int): Calls Tryz.prog 79 #[.pointer (some ⟨b,0,none⟩),.int .i64 3,.int .i64 k,.int .i64 v] w fun e w'=>e= .returned (.tuple #[])∧SAft w base b {M with cells:=M.cells.set k v} w':=by
 have cc:=h.ccell k hk;have fc:=h.free (1+k);have HM:Hid (SB (w.setCell ⟨b,1+k,none⟩ (.int .i64 v)) base b pv sv dv {M with cells:=M.cells.set k v}):=h.set_cell k hk v;have HF:Hid (SFr base w (w.setCell ⟨b,1+k,none⟩ (.int .i64 v))):=h.fr_set (SFr.refl _ _) _ _;have hk0:(0:Int)≤(k:Int):=by omega
 have hk1:(k:Int)<8:=by omega
 clear h;go_enter Tryz.func79,Tryz.ntmps79;go_wp2;first|go_region|skip
 all_goals first|go_wp2|skip
 all_goals go_end0
 all_goals first|exact⟨rfl,⟨⟨_,_,_,HM.out⟩,HF.out⟩⟩|exact⟨rfl,⟨⟨_,_,_,HM.out.drew⟩,HF.out.drew⟩⟩
theorem one_17 {w:World} {base b:Nat} {pv sv dv:Value} {M:H.Mach} (h:SB w base b pv sv dv M) (a v:Int) (ha0: -128≤a) (ha1:a≤127) (hn0:0≤M.next) (hn1:M.next≤900): Calls Tryz.prog 79 #[.pointer (some ⟨b,0,none⟩),.int .i64 17,.int .i64 a,.int .i64 v] w fun e w'=>e= .returned (.tuple #[])∧SAft w base b (if 0<v then {M with next:=M.next+a} else M) w':=by
 have c15:=h.c15;have f15:=h.free 15;by_cases hv:0<v
 ·rw[if_pos hv];have HM:Hid (SB (w.setCell ⟨b,15,none⟩ (.int .i64 (M.next+a))) base b pv sv dv {M with next:=M.next+a}):=h.set_next _;have HF:Hid (SFr base w (w.setCell ⟨b,15,none⟩ (.int .i64 (M.next+a)))):=h.fr_set (SFr.refl _ _) _ _;obtain⟨nx,hnx⟩:∃nx,nx=M.next:=⟨_,rfl⟩;rw[←hnx] at c15 HM HF hn0 hn1 ⊢;have hw:IntKind.i64.wrap (nx+a)=nx+a:=by rw[IntKind.wrap_i64];omega
  clear h hnx;go_enter Tryz.func79,Tryz.ntmps79;go_wp2;first|go_region|skip
  all_goals first|go_wp2|skip
  all_goals go_end0
  all_goals first|exact⟨rfl,⟨⟨_,_,_,HM.out⟩,HF.out⟩⟩|exact⟨rfl,⟨⟨_,_,_,HM.out.drew⟩,HF.out.drew⟩⟩
 ·rw[if_neg hv];have HM:Hid (SB w base b pv sv dv M):=h;clear h;go_enter Tryz.func79,Tryz.ntmps79;go_wp2;go_end0;exact⟨rfl,⟨⟨_,_,_,HM.out⟩,SFr.refl _ _⟩⟩
theorem one_27 {w:World} {base b:Nat} {pv sv dv:Value} {M:H.Mach} (h:SB w base b pv sv dv M) (a v:Int): Calls Tryz.prog 79 #[.pointer (some ⟨b,0,none⟩),.int .i64 27,.int .i64 a,.int .i64 v] w fun e w'=>e= .returned (.tuple #[])∧SAft w base b M w':=by
 have HM:Hid (SB w base b pv sv dv M):=h;clear h;go_enter Tryz.func79,Tryz.ntmps79;go_wp2;go_end0;exact⟨rfl,⟨⟨_,_,_,HM.out⟩,SFr.refl _ _⟩⟩
theorem one_26 {w:World} {base b:Nat} {pv sv dv:Value} {M:H.Mach} (h:SB w base b pv sv dv M) (a v:Int): Calls Tryz.prog 79 #[.pointer (some ⟨b,0,none⟩),.int .i64 26,.int .i64 a,.int .i64 v] w fun e w'=>e= .returned (.tuple #[])∧SAft w base b (H.push v (H.push v M)) w':=by
 have HM:Hid (SB w base b pv sv dv M):=h;clear h;go_enter Tryz.func79,Tryz.ntmps79;go_wp2_with fail;refine(lay_any HM.out v).mono ?_;rintro e w1 ⟨rfl,⟨pv1,sv1,dv1,hm1⟩,hf1⟩;have HM1:Hid (SB w1 base b pv1 sv1 dv1 (H.push v M)):=hm1;have HF1:Hid (SFr base w w1):=hf1;clear hm1 hf1 HM;go_wp2_with fail;refine(lay_any HM1.out v).mono ?_;rintro e w2 ⟨rfl,hm2,hf2⟩;have HM2:Hid (SAft w base b (H.push v (H.push v M)) w2):=⟨hm2,HF1.out.trans hf2⟩;clear hm2 hf2 HM1 HF1;go_wp2;go_end0;exact⟨rfl,HM2.out⟩
theorem one_23 {w:World} {base b:Nat} {pv sv dv:Value} {M:H.Mach} (h:SB w base b pv sv dv M) (a v:Int) (h0:0≤v) (h1:v≤65535) (ht:M.text.size≤1000) (hc:M.chars≤6): Calls Tryz.prog 79 #[.pointer (some ⟨b,0,none⟩),.int .i64 23,.int .i64 a,.int .i64 v] w fun e w'=>e= .returned (.tuple #[])∧SAft w base b (if M.chars=6 then {M with fault:=4} else {M with text:=M.text++Utf8.encode v,chars:=M.chars+1}) w':=by
 have c9:=h.c9
 have f9:=h.free 9
 have c10:=h.c10
 have f10:=h.free 10
 have c13:=h.c13
 have f13:=h.free 13
 have hbl:=h.blk.lt
 have hlt:=h.lt
 by_cases h6:M.chars=6
 ·rw[if_pos h6]
  rw[h6] at c10
  have HM:Hid (SB (w.setCell ⟨b,13,none⟩ (.int .i64 4)) base b pv sv dv {M with fault:=4}):=h.set_fault 4
  have HF:Hid (SFr base w (w.setCell ⟨b,13,none⟩ (.int .i64 4))):=h.fr_set (SFr.refl _ _) _ _
  clear h
  go_enter Tryz.func79,Tryz.ntmps79
  go_wp2
  exact bodyPost_ret (v:= .tuple #[]) (by simp[results,Tryz.results79]) rfl ⟨rfl,⟨⟨_,_,_,HM.out⟩,HF.out⟩⟩
 ·rw[if_neg h6]
  have HP:Hid (SB w base b pv sv dv M):=h
  obtain⟨n,hn⟩:∃n,n=M.chars:=⟨_,rfl⟩
  rw[←hn] at c10 h6 hc ⊢
  obtain⟨tx,htx⟩:∃tx,tx=M.text:=⟨_,rfl⟩
  rw[←htx] at c9 ht ⊢
  have h6':((n:Int)==6)=false:=by rw[beq_eq_false_iff_ne];omega
  have hsz:(Utf8.encode v).size≤4:=by
   unfold Utf8.encode
   simp only
   repeat' split
   all_goals simp[ByteArray.size]
  have hw:IntKind.i64.wrap ((n:Int)+1)=(n:Int)+1:=by rw[IntKind.wrap_i64];omega
  have Hn:Hid (n=M.chars):=hn
  have Htx:Hid (tx=M.text):=htx
  clear h hn htx h6
  have HK:Hid (∀w1:World,Below w.heap.size w w1→w1.cell? ⟨b,9,none⟩=some (.string tx)∧w1.frozen? ⟨b,9,none⟩=false∧w1.cell? ⟨b,10,none⟩=some (.int .i64 (n:Int))∧w1.frozen? ⟨b,10,none⟩=false):=by
   intro w1 hb
   have h:=HP.out.of_below hb
   have k9:=h.c9
   have k10:=h.c10
   rw[←Htx.out] at k9
   rw[←Hn.out] at k10
   exact⟨k9,h.free 9,k10,h.free 10⟩
  have HR:Hid (∀w1:World,Below w.heap.size w w1→SAft w base b {M with text:=tx++Utf8.encode v,chars:=n+1} ((w1.setCell ⟨b,9,none⟩ (.string (tx++Utf8.encode v))).setCell ⟨b,10,none⟩ (.int .i64 ((n:Int)+1)))):=by
   intro w1 hb
   have h:=HP.out.of_below hb
   have h2:=h.set_text (tx++Utf8.encode v)
   exact⟨⟨_,_,_,h2.set_chars (n+1)⟩,h2.fr_set (h.fr_set ((SFr.refl base w).of_below hb hlt) _ _) _ _⟩
  go_enter Tryz.func79,Tryz.ntmps79
  go_wp2_with fail
  go_region_with (go_at_call 84;refine(lett_any _ _ h0 h1).mono ?_;rintro e w1 ⟨rfl,hb1⟩;have hb2:Hid (Below w.heap.size w w1):=⟨hb1.os,hb1.tape,hb1.output,hb1.size,hb1.block⟩;obtain⟨q9,p9,q10,p10⟩:=HK.out w1 hb2.out;clear hb1)
  all_goals go_wp2
  all_goals go_end0
  all_goals first|exact⟨rfl,HR.out _ hb2.out⟩|(have hq:=HR.out _ hb2.out;exact⟨rfl,⟨⟨_,_,_,hq.1.choose_spec.choose_spec.choose_spec.drew⟩,hq.2.drew⟩⟩)
end Go.Proofs.YtidaflmmldefcaaGreat
namespace Go.Proofs.YtidaflmmldefcaaGreat
open Go.RowKit
set_option linter.unusedVariables false
set_option maxRecDepth 100000
theorem SB.app_sends {w w1:World} {base b:Nat} {pv sv dv dv1:Value} {M:H.Mach} (h:SB w base b pv sv dv M) (t v:Int) (hown:w1.ownsRow base 108 2 dv1 (M.sends.length+1) (sendCells M.sends++[.int .u8 t,.int .u16 v])) (hg:w.grownBy w1 dv.ownBlock): Blk w1 b (scells pv sv dv M).toArray 145∧SB (w1.setCell ⟨b,12,none⟩ dv1) base b pv sv dv1 {M with sends:=M.sends++[(t,v)]}∧SFr base w (w1.setCell ⟨b,12,none⟩ dv1):=by
 have b1:=h.blk.grown hg (h.blk.ne_own h.sends (by decide));have o1:w1.ownsRow base 132 2 sv M.shows.length (showCells M.shows):=h.shows.kept hg (own_two h.shows h.sends (by decide));have p1:PileAt w1 base pv M.st:=h.pile.grown h.sends (by decide) hg;refine⟨b1,⟨h.hb,h.hc,h.hst,?_,p1.other (p:=⟨b,12,none⟩) b1 (by decide) _,ownsRow_setCell_other o1 (fun e=>b1.ne_own o1 (by decide) e.symm) _,?_⟩,?_⟩
 ·refine blk_list 12 _ b1 ?_;rw[show(12:Nat)=9+3 from rfl,scells_set_tail h.hc];rfl
 ·have e:sendCells (M.sends++[(t,v)])=sendCells M.sends++[.int .u8 t,.int .u16 v]:=by simp[sendCells]
  simp only[e,List.length_append,List.length_cons,List.length_nil];exact ownsRow_setCell_other hown (fun e=>b1.ne_own hown (by decide) e.symm) _
 ·exact(SFr.app h.sends (.inr (.inl rfl)) hg h.lt).setCell (p:=⟨b,12,none⟩) b1 h.hb (.inl rfl) _
theorem SB.app_shows {w w1:World} {base b:Nat} {pv sv dv sv1:Value} {M:H.Mach} (h:SB w base b pv sv dv M) (k:Int) (s:ByteArray) (hown:w1.ownsRow base 132 2 sv1 (M.shows.length+1) (showCells M.shows++[.int .u16 k,.string s])) (hg:w.grownBy w1 sv.ownBlock): Blk w1 b (scells pv sv dv M).toArray 145∧SB (w1.setCell ⟨b,11,none⟩ sv1) base b pv sv1 dv {M with shows:=M.shows++[(k,s)]}∧SFr base w (w1.setCell ⟨b,11,none⟩ sv1):=by
 have b1:=h.blk.grown hg (h.blk.ne_own h.shows (by decide));have o1:w1.ownsRow base 108 2 dv M.sends.length (sendCells M.sends):=h.sends.kept hg (own_two h.sends h.shows (by decide));have p1:PileAt w1 base pv M.st:=h.pile.grown h.shows (by decide) hg;refine⟨b1,⟨h.hb,h.hc,h.hst,?_,p1.other (p:=⟨b,11,none⟩) b1 (by decide) _,?_,ownsRow_setCell_other o1 (fun e=>b1.ne_own o1 (by decide) e.symm) _⟩,?_⟩
 ·refine blk_list 11 _ b1 ?_;rw[show(11:Nat)=9+2 from rfl,scells_set_tail h.hc];rfl
 ·have e:showCells (M.shows++[(k,s)])=showCells M.shows++[.int .u16 k,.string s]:=by simp[showCells]
  simp only[e,List.length_append,List.length_cons,List.length_nil];exact ownsRow_setCell_other hown (fun e=>b1.ne_own hown (by decide) e.symm) _
 ·exact(SFr.app h.shows (.inl rfl) hg h.lt).setCell (p:=⟨b,11,none⟩) b1 h.hb (.inl rfl) _
theorem send_step {w:World} {base b:Nat} {pv sv dv:Value} {M:H.Mach} (h:SB w base b pv sv dv M) (a v:Int) (ao:Option Addr) (n cv:Nat) (hdv:dv= .slice ao n cv) (hn:n=M.sends.length): ∀v3 w3,w3.ownsRow base 108 2 v3 (n+1) (sendCells M.sends++[.int .u8 a,.int .u16 v])→(w.alloc (.cells #[.int .u8 a,.int .u16 v] 108)).grownBy w3 (Value.slice ao n cv).ownBlock→∃ao3 c3,v3= .slice ao3 (n+1) c3∧w3.cell? ⟨b,12,none⟩=some (.slice ao n cv)∧w3.frozen? ⟨b,12,none⟩=false∧Hid (SAft w base b {M with sends:=M.sends++[(a,v)]} (w3.setCell ⟨b,12,none⟩ (.slice ao3 (n+1) c3))):=by
 intro v3 w3 hown3 hg3;obtain⟨ao3,c3,hv3⟩:=own_shape hown3;have hma:=(h.alloc (.cells #[.int .u8 a,.int .u16 v] 108)).app_sends a v (dv1:=v3) (w1:=w3) (by rw[←hn];exact hown3) (by rw[hdv];exact hg3);have HB3:=hma.1;refine⟨ao3,c3,hv3,?_,HB3.free 12,?_⟩
 ·rw[HB3.cell 12,List.getElem?_toArray,←hdv];exact scells_tail h.hc 3
 ·rw[←hv3];exact⟨⟨_,_,_,hma.2.1⟩,((SFr.refl base w).alloc h.lt _).trans hma.2.2⟩
theorem one_25 {w:World} {base b:Nat} {pv sv dv:Value} {M:H.Mach} (h:SB w base b pv sv dv M) (a v:Int) (ha0:0≤a) (ha1:a<4) (h0:0≤v) (h1:v≤65535) (hs:M.sends.length≤4): Calls Tryz.prog 79 #[.pointer (some ⟨b,0,none⟩),.int .i64 25,.int .i64 a,.int .i64 v] w fun e w'=>e= .returned (.tuple #[])∧SAft w base b {M with fault:=(if M.sends.length=4 then 5 else M.fault),sends:=M.sends++[(a,v)]} w':=by
 obtain⟨i0,hi,hz0,hz1,hz2⟩:=info_parts info85;have c12:=h.c12;have f12:=h.free 12;have c13:=h.c13;have f13:=h.free 13;have hbl:=h.blk.lt;have hlt:=h.lt;obtain⟨ao,cv,hdv⟩:=own_shape h.sends;have hw1:IntKind.u8.wrap a=a:=by rw[IntKind.wrap_u8];omega
 have hw2:IntKind.u16.wrap v=v:=by rw[IntKind.wrap_u16];omega
 by_cases h4:M.sends.length=4
 ·rw[if_pos h4];have h5:=h.set_fault 5;have hs5:=send_step h5 a v ao M.sends.length cv hdv rfl;have HO:Hid ((w.setCell ⟨b,13,none⟩ (.int .i64 5)).ownsRow base 108 2 (.slice ao M.sends.length cv) M.sends.length (sendCells M.sends)):=by have:=h5.sends;rw[hdv] at this;exact this
  have HSt:Hid (∀v3 w3,w3.ownsRow base 108 2 v3 (M.sends.length+1) (sendCells M.sends++[.int .u8 a,.int .u16 v])→((w.setCell ⟨b,13,none⟩ (.int .i64 5)).alloc (.cells #[.int .u8 a,.int .u16 v] 108)).grownBy w3 (Value.slice ao M.sends.length cv).ownBlock→∃ao3 c3,v3= .slice ao3 (M.sends.length+1) c3∧w3.cell? ⟨b,12,none⟩=some (.slice ao M.sends.length cv)∧w3.frozen? ⟨b,12,none⟩=false∧Hid (SAft w base b {M with fault:=5,sends:=M.sends++[(a,v)]} (w3.setCell ⟨b,12,none⟩ (.slice ao3 (M.sends.length+1) c3)))):=by intro v3 w3 q1 q2;obtain⟨ao3,c3,e1,e2,e3,e4⟩:=hs5 v3 w3 q1 q2;exact⟨ao3,c3,e1,e2,e3,⟨e4.out.1,(h.fr_set (SFr.refl _ _) _ _).trans e4.out.2⟩⟩
  rw[hdv] at c12;rw[h4] at c12 HO HSt;have hsz:(w.setCell ⟨b,13,none⟩ (.int .i64 5)).heap.size=w.heap.size:=by simp[World.setCell]
  clear h h5 hs5 hdv h4 hs;go_enter Tryz.func79,Tryz.ntmps79;go_wp2_with (at_builtin;refine wpList_append_own _ rfl (.tmp 137) (.tmp 143) 105 rfl base 108 i0 (.agg #[.int .u8 0,.int .u16 0]) 2 4 Tryz.underlying105 hi hz0 hz1 hz2 rfl (by decide) _ _ _ rfl (HO.out.alloc _) ⟨w.heap.size,0,none⟩ 1 1 [.int .u8 a,.int .u16 v] rfl rfl (by have:=new_two (w.setCell ⟨b,13,none⟩ (.int .i64 5)) (.int .u8 a) (.int .u16 v) 108;rw[hsz] at this;exact this) (by intro u hu;simp at hu;rcases hu with rfl|rfl<;>rfl) (by unfold maxLen;omega) (by omega) (by simp;omega) ?_);intro v3 w3 hown3 hg3 _;obtain⟨ao3,c3,hv3,q12,p12,HM3⟩:=HSt.out v3 w3 hown3 hg3;rw[hv3];clear hown3 hg3 hv3 HSt HO;go_wp2;go_end0;exact⟨rfl,HM3.out⟩
 ·rw[if_neg h4];have HO:Hid (w.ownsRow base 108 2 (.slice ao M.sends.length cv) M.sends.length (sendCells M.sends)):=by have:=h.sends;rw[hdv] at this;exact this
  have HSt:Hid (∀v3 w3,w3.ownsRow base 108 2 v3 (M.sends.length+1) (sendCells M.sends++[.int .u8 a,.int .u16 v])→(w.alloc (.cells #[.int .u8 a,.int .u16 v] 108)).grownBy w3 (Value.slice ao M.sends.length cv).ownBlock→∃ao3 c3,v3= .slice ao3 (M.sends.length+1) c3∧w3.cell? ⟨b,12,none⟩=some (.slice ao M.sends.length cv)∧w3.frozen? ⟨b,12,none⟩=false∧Hid (SAft w base b {M with sends:=M.sends++[(a,v)]} (w3.setCell ⟨b,12,none⟩ (.slice ao3 (M.sends.length+1) c3)))):=send_step h a v ao M.sends.length cv hdv rfl;rw[hdv] at c12;have HL:=show Hid (SAft w base b {M with sends:=M.sends++[(a,v)]}=SAft w base b {M with fault:=M.fault,sends:=M.sends++[(a,v)]}) from rfl;obtain⟨n,hn⟩:∃n,n=M.sends.length:=⟨_,rfl⟩;rw[←hn] at c12 HO HSt h4 hs;have hb:((n:Int)==4)=false:=by rw[beq_eq_false_iff_ne];omega
  clear h hdv h4 hn;go_enter Tryz.func79,Tryz.ntmps79;go_wp2_with (at_builtin;refine wpList_append_own _ rfl (.tmp 137) (.tmp 143) 105 rfl base 108 i0 (.agg #[.int .u8 0,.int .u16 0]) 2 4 Tryz.underlying105 hi hz0 hz1 hz2 rfl (by decide) _ _ _ rfl (HO.out.alloc _) ⟨w.heap.size,0,none⟩ 1 1 [.int .u8 a,.int .u16 v] rfl rfl (new_two _ _ _ _) (by intro u hu;simp at hu;rcases hu with rfl|rfl<;>rfl) (by unfold maxLen;omega) (by omega) (by simp;omega) ?_);intro v3 w3 hown3 hg3 _;obtain⟨ao3,c3,hv3,q12,p12,HM3⟩:=HSt.out v3 w3 hown3 hg3;rw[hv3];clear hown3 hg3 hv3 HSt HO;go_wp2;go_end0;exact⟨rfl,HM3.out⟩
end Go.Proofs.YtidaflmmldefcaaGreat
namespace Go.Proofs.YtidaflmmldefcaaGreat
open Go.RowKit
set_option linter.unusedVariables false
set_option maxRecDepth 100000
theorem show_step {w:World} {base b:Nat} {pv sv dv:Value} {M:H.Mach} (h:SB w base b pv sv dv M) (y:Int) (tx:ByteArray) (htx:tx=M.text) (ch:Nat) (hch:ch=M.chars) (ao:Option Addr) (n cv:Nat) (hsv:sv= .slice ao n cv) (hn:n=M.shows.length): ∀v3 w3,w3.ownsRow base 132 2 v3 (n+1) (showCells M.shows++[.int .u16 y,.string tx])→((w.alloc (.cells #[.int .u16 y,.string tx] 132)).drew).grownBy w3 (Value.slice ao n cv).ownBlock→∃ao3 c3,v3= .slice ao3 (n+1) c3∧w3.cell? ⟨b,11,none⟩=some (.slice ao n cv)∧w3.frozen? ⟨b,11,none⟩=false∧w3.cell? ⟨b,9,none⟩=some (.string tx)∧w3.frozen? ⟨b,9,none⟩=false∧w3.cell? ⟨b,10,none⟩=some (.int .i64 (ch:Int))∧w3.frozen? ⟨b,10,none⟩=false∧Hid (SAft w base b {M with shows:=M.shows++[(y,tx)],text:=⟨#[]⟩,chars:=0} (((w3.setCell ⟨b,11,none⟩ (.slice ao3 (n+1) c3)).setCell ⟨b,9,none⟩ (.string ⟨#[]⟩)).setCell ⟨b,10,none⟩ (.int .i64 0))):=by
 intro v3 w3 hown3 hg3;obtain⟨ao3,c3,hv3⟩:=own_shape hown3;have hma:=((h.alloc (.cells #[.int .u16 y,.string tx] 132)).drew).app_shows y tx (sv1:=v3) (w1:=w3) (by rw[←hn];exact hown3) (by rw[hsv];exact hg3);have HB3:=hma.1;refine⟨ao3,c3,hv3,?_,HB3.free 11,?_,HB3.free 9,?_,HB3.free 10,?_⟩
 ·rw[HB3.cell 11,List.getElem?_toArray,←hsv];exact scells_tail h.hc 2
 ·rw[HB3.cell 9,List.getElem?_toArray,htx];exact scells_tail h.hc 0
 ·rw[HB3.cell 10,List.getElem?_toArray,hch];exact scells_tail h.hc 1
 ·have hm:=hma.2.1;have hf:=hma.2.2;rw[hv3] at hm hf;have hm2:=hm.set_text ⟨#[]⟩;exact⟨⟨_,_,_,hm2.set_chars 0⟩,hm2.fr_set (hm.fr_set (((SFr.refl base w).alloc h.lt _).drew.trans hf) _ _) _ _⟩
theorem hasKey_take {l:List (Int×ByteArray)} {k:Nat} {x:Int×ByteArray} (v:Int) (h:l[k]? =some x):H.hasKey v (l.take (k+1))=(H.hasKey v (l.take k)||x.1==v):=by
 have hk:=(List.getElem?_eq_some_iff.1 h);rw[List.take_succ_eq_append_getElem hk.1,hk.2];simp[H.hasKey]
def H.shown (v:Int) (M:H.Mach):H.Mach:={M with fault:=(if M.shows.length=8 then 5 else if H.hasKey v M.shows then 6 else M.fault),shows:=M.shows++[(v,M.text)],text:=⟨#[]⟩,chars:=0}
def faultK (v:Int) (k:Nat) (M:H.Mach):Int:=if H.hasKey v (M.shows.take k) then 6 else M.fault
theorem one_24 {w:World} {base b:Nat} {pv sv dv:Value} {M:H.Mach} (h:SB w base b pv sv dv M) (a v:Int) (h0:0≤v) (h1:v≤65535) (hs:M.shows.length≤8) (hsr:∀x∈M.shows,0≤x.1∧x.1≤65535): Calls Tryz.prog 79 #[.pointer (some ⟨b,0,none⟩),.int .i64 24,.int .i64 a,.int .i64 v] w fun e w'=>e= .returned (.tuple #[])∧SAft w base b (H.shown v M) w':=by
 obtain⟨i0,hi,hz0,hz1,hz2⟩:=info_parts info62;have HP:Hid (SB w base b pv sv dv M):=h;have hlt:=h.lt;obtain⟨ao,cv,hsv⟩:=own_shape h.shows;have HSV:Hid (sv= .slice ao M.shows.length cv):=hsv;have HSR:Hid (∀x∈M.shows,0≤x.1∧x.1≤65535):=hsr;obtain⟨n,hn⟩:∃n,n=M.shows.length:=⟨_,rfl⟩;have Hn:Hid (n=M.shows.length):=hn;obtain⟨tx,htx⟩:∃tx,tx=M.text:=⟨_,rfl⟩;have Htx:Hid (tx=M.text):=htx;obtain⟨ch,hch⟩:∃ch,ch=M.chars:=⟨_,rfl⟩;have Hch:Hid (ch=M.chars):=hch;rw[←hn] at hs;have hw2:IntKind.u16.wrap v=v:=by rw[IntKind.wrap_u16];omega
 have hone:Hid (∀u∈[Value.int .u16 v,.string tx],u.oneCell'=true):=by unfold Hid;intro u hu;simp at hu;rcases hu with rfl|rfl<;>rfl
 have hm63:Hid (n+1≤maxLen):=by unfold Hid maxLen;omega
 have hbyt:Hid ((n+1)*24≤140737488355328):=by unfold Hid;omega
 clear h hsv hsr hn htx hch;go_enter Tryz.func79,Tryz.ntmps79;go_wp2_with fail;go_loopw [8] (fun i wr=>∃k:Nat,k≤n∧i= .int .i64 k∧(n=8→k=0)∧SB wr base b pv sv dv {M with fault:=faultK v k M}∧SFr base w wr)
  (fun i _=>n-(intOf i).toNat)
 case atStart=>exact⟨0,Nat.zero_le _,rfl,fun _=>rfl,HP.out,SFr.refl _ _⟩
 case round=>
  obtain⟨k,hk,rfl,hk8,hm,hf⟩:=hrel;have HM:Hid (SB wr base b pv sv dv {M with fault:=faultK v k M}):=hm;have HF:Hid (SFr base w wr):=hf;have c11:=hm.c11;rw[HSV.out,←Hn.out] at c11;have f13:=hm.free 13;have c13:=hm.c13;have hbl:=hm.blk.lt;have hltr:=hm.lt;clear hm hf;by_cases h8:n=8
  ·obtain rfl:=hk8 h8;subst h8;have HM5:Hid (SB (wr.setCell ⟨b,13,none⟩ (.int .i64 5)) base b pv sv dv {M with fault:=5}):=HM.out.set_fault 5;have hsz:(wr.setCell ⟨b,13,none⟩ (.int .i64 5)).heap.size=wr.heap.size:=by simp[World.setCell]
   have HF5:Hid (SFr base w (wr.setCell ⟨b,13,none⟩ (.int .i64 5))):=HM.out.fr_set HF.out _ _;have HE:Hid (∀w',SAft (wr.setCell ⟨b,13,none⟩ (.int .i64 5)) base b {M with fault:=5,shows:=M.shows++[(v,tx)],text:=⟨#[]⟩,chars:=0} w'→SAft w base b (H.shown v M) w'):=by intro w' hq;unfold H.shown;rw[if_pos Hn.out.symm,←Htx.out];exact⟨hq.1,HF5.out.trans hq.2⟩
   have r11:(wr.setCell ⟨b,13,none⟩ (.int .i64 5)).cell? ⟨b,11,none⟩=some (.slice ao 8 cv):=by have:=HM5.out.c11;rw[HSV.out,←Hn.out] at this;exact this
   have r9:(wr.setCell ⟨b,13,none⟩ (.int .i64 5)).cell? ⟨b,9,none⟩=some (.string tx):=by have:=HM5.out.c9;rw[Htx.out];exact this
   have HOd:Hid ((((wr.setCell ⟨b,13,none⟩ (.int .i64 5)).alloc (.cells #[.int .u16 v,.string tx] 132)).drew).ownsRow base 132 2 (.slice ao 8 cv) 8 (showCells M.shows)):=by have:=(HM5.out.alloc (.cells #[.int .u16 v,.string tx] 132)).shows;rw[HSV.out] at this;simp only[←Hn.out] at this;exact this
   have hnews:Hid (∀j u,[Value.int .u16 v,.string tx][j]? =some u→(((wr.setCell ⟨b,13,none⟩ (.int .i64 5)).alloc (.cells #[.int .u16 v,.string tx] 132)).drew).cell? ((⟨wr.heap.size,0,none⟩:Addr).add j)=some u):=by have:=new_two (wr.setCell ⟨b,13,none⟩ (.int .i64 5)) (.int .u16 v) (.string tx) 132;rw[hsz] at this;exact this
   have hbase:Hid (base≤(((wr.setCell ⟨b,13,none⟩ (.int .i64 5)).alloc (.cells #[.int .u16 v,.string tx] 132)).drew).heap.size):=by unfold Hid;simp;omega
   have HKEY:Hid (∀v3 w3,w3.ownsRow base 132 2 v3 (8+1) (showCells M.shows++[.int .u16 v,.string tx])→(((wr.setCell ⟨b,13,none⟩ (.int .i64 5)).alloc (.cells #[.int .u16 v,.string tx] 132)).drew).grownBy w3 (Value.slice ao 8 cv).ownBlock→∃ao3 c3,v3= .slice ao3 (8+1) c3∧w3.cell? ⟨b,11,none⟩=some (.slice ao 8 cv)∧w3.frozen? ⟨b,11,none⟩=false∧w3.cell? ⟨b,9,none⟩=some (.string tx)∧w3.frozen? ⟨b,9,none⟩=false∧w3.cell? ⟨b,10,none⟩=some (.int .i64 (ch:Int))∧w3.frozen? ⟨b,10,none⟩=false∧Hid (SAft (wr.setCell ⟨b,13,none⟩ (.int .i64 5)) base b {M with fault:=5,shows:=M.shows++[(v,tx)],text:=⟨#[]⟩,chars:=0} (((w3.setCell ⟨b,11,none⟩ (.slice ao3 (8+1) c3)).setCell ⟨b,9,none⟩ (.string ⟨#[]⟩)).setCell ⟨b,10,none⟩ (.int .i64 0)))):=show_step HM5.out v tx Htx.out ch Hch.out ao 8 cv (by rw[HSV.out,←Hn.out]) Hn.out;clear HM HF HM5 HF5 hk8;go_wp2_with fail;go_region_law (refine step_append_mine rfl (.tmp 104) (.tmp 112) 122 rfl base 132 i0 (.agg #[.int .u16 0,.string ⟨#[]⟩]) 2 24 Tryz.underlying122 hi hz0 hz1 hz2 rfl (by decide) (.slice ao 8 cv) 8 (showCells M.shows) (by simp[Act.eval]) HOd.out ⟨wr.heap.size,0,none⟩ 1 1 [.int .u16 v,.string tx] (by simp[Act.eval]) rfl hnews.out hone.out hm63.out hbyt.out hbase.out ?_;intro v3 w3 hown3 hg3;obtain⟨ao3,c3,hv3,q11,p11,q9,p9,q10,p10,HM3⟩:=HKEY.out v3 w3 hown3 hg3;rw[hv3];clear hown3 hg3 hv3)
   all_goals go_wp2
   all_goals go_end0
   all_goals exact⟨rfl,HE.out _ HM3.out⟩
  ·have hn8:(n:Int)<8:=by omega
   by_cases hkn:k<n
   ·obtain⟨x,hx⟩:∃x,M.shows[k]? =some x:=⟨M.shows[k]'(by have:=Hn.out;omega),List.getElem?_eq_getElem (by have:=Hn.out;omega)⟩;obtain⟨sk,st⟩:=x;obtain⟨g,rfl⟩:∃g,ao=some ⟨g,0,none⟩:=by
     have ho:=HM.out.shows;rw[HSV.out] at ho;rcases ho.2 with ⟨_,hq⟩|⟨g,c,_,hq,_⟩
     ·simp only at hq;have:=Hn.out;omega
     ·simp at hq;exact⟨g,hq.1⟩
    have hor:=HM.out.shows;rw[HSV.out] at hor;simp only[←Hn.out] at hor;have d0:=(hor.cellAt (k*2) (by omega)).trans (showCells_at _ k _ hx).1;have hr:=HSR.out _ (List.mem_of_getElem? hx);have hw3:IntKind.i64.wrap sk=sk:=by rw[IntKind.wrap_i64];simp only at hr;omega
    have HX:Hid (H.hasKey v (M.shows.take (k+1))=(H.hasKey v (M.shows.take k)||sk==v)):=hasKey_take v hx;have hk0:(k:Int)<(n:Int):=by omega
    have hw4:IntKind.i64.wrap ((k:Int)+1)=(k:Int)+1:=by rw[IntKind.wrap_i64];omega
    clear hor hx hr;by_cases hey:sk=v
    ·subst hey;have HM6:Hid (SB (wr.setCell ⟨b,13,none⟩ (.int .i64 6)) base b pv sv dv {M with fault:=faultK sk (k+1) M}):=by
      have e:faultK sk (k+1) M=6:=by unfold faultK;rw[HX.out];simp
      rw[e];exact HM.out.set_fault 6
     have HF6:Hid (SFr base w (wr.setCell ⟨b,13,none⟩ (.int .i64 6))):=HM.out.fr_set HF.out _ _;clear HX;go_wp2;go_roundw
     case rel=>exact⟨k+1,by omega,by go_num,by omega,HM6.out,HF6.out⟩
     case measure=>simp[intOf];omega
    ·have hb:(sk==v)=false:=by simpa using hey
     have HM6:Hid (SB wr base b pv sv dv {M with fault:=faultK v (k+1) M}):=by
      have e:faultK v (k+1) M=faultK v k M:=by unfold faultK;rw[HX.out,hb,Bool.or_false]
      rw[e];exact HM.out
     clear HX hey;go_wp2;go_roundw
     case rel=>exact⟨k+1,by omega,by go_num,by omega,HM6.out,HF.out⟩
     case measure=>simp[intOf];omega
   ·obtain rfl:k=n:=by omega
    have hk1:¬(k:Int)<(k:Int):=by omega
    have hb8:((k:Int)==8)=false:=by rw[beq_eq_false_iff_ne];omega
    have ef:faultK v k M=(if M.shows.length=8 then 5 else if H.hasKey v M.shows then 6 else M.fault):=by unfold faultK;rw[if_neg (show¬M.shows.length=8 by rw[←Hn.out];exact h8),Hn.out,List.take_length]
    have HE:Hid (∀w',SAft wr base b {M with fault:=faultK v k M,shows:=M.shows++[(v,tx)],text:=⟨#[]⟩,chars:=0} w'→SAft w base b (H.shown v M) w'):=by intro w' hq;unfold H.shown;rw[←ef,←Htx.out];exact⟨hq.1,HF.out.trans hq.2⟩
    have r9:wr.cell? ⟨b,9,none⟩=some (.string tx):=by have:=HM.out.c9;rw[Htx.out];exact this
    have HOd:Hid (((wr.alloc (.cells #[.int .u16 v,.string tx] 132)).drew).ownsRow base 132 2 (.slice ao k cv) k (showCells M.shows)):=by have:=(HM.out.alloc (.cells #[.int .u16 v,.string tx] 132)).shows;rw[HSV.out] at this;simp only[←Hn.out] at this;exact this
    have hnews:Hid (∀j u,[Value.int .u16 v,.string tx][j]? =some u→((wr.alloc (.cells #[.int .u16 v,.string tx] 132)).drew).cell? ((⟨wr.heap.size,0,none⟩:Addr).add j)=some u):=new_two _ _ _ _;have hbase:Hid (base≤((wr.alloc (.cells #[.int .u16 v,.string tx] 132)).drew).heap.size):=by unfold Hid;simp;omega
    have HKEY:Hid (∀v3 w3,w3.ownsRow base 132 2 v3 (k+1) (showCells M.shows++[.int .u16 v,.string tx])→((wr.alloc (.cells #[.int .u16 v,.string tx] 132)).drew).grownBy w3 (Value.slice ao k cv).ownBlock→∃ao3 c3,v3= .slice ao3 (k+1) c3∧w3.cell? ⟨b,11,none⟩=some (.slice ao k cv)∧w3.frozen? ⟨b,11,none⟩=false∧w3.cell? ⟨b,9,none⟩=some (.string tx)∧w3.frozen? ⟨b,9,none⟩=false∧w3.cell? ⟨b,10,none⟩=some (.int .i64 (ch:Int))∧w3.frozen? ⟨b,10,none⟩=false∧Hid (SAft wr base b {M with fault:=faultK v k M,shows:=M.shows++[(v,tx)],text:=⟨#[]⟩,chars:=0} (((w3.setCell ⟨b,11,none⟩ (.slice ao3 (k+1) c3)).setCell ⟨b,9,none⟩ (.string ⟨#[]⟩)).setCell ⟨b,10,none⟩ (.int .i64 0)))):=show_step HM.out v tx Htx.out ch Hch.out ao k cv (by rw[HSV.out,←Hn.out]) Hn.out;clear HM HF hk8 ef;go_wp2_with fail;go_region_law (refine step_append_mine rfl (.tmp 104) (.tmp 112) 122 rfl base 132 i0 (.agg #[.int .u16 0,.string ⟨#[]⟩]) 2 24 Tryz.underlying122 hi hz0 hz1 hz2 rfl (by decide) (.slice ao k cv) k (showCells M.shows) (by simp[Act.eval]) HOd.out ⟨wr.heap.size,0,none⟩ 1 1 [.int .u16 v,.string tx] (by simp[Act.eval]) rfl hnews.out hone.out hm63.out hbyt.out hbase.out ?_;intro v3 w3 hown3 hg3;obtain⟨ao3,c3,hv3,q11,p11,q9,p9,q10,p10,HM3⟩:=HKEY.out v3 w3 hown3 hg3;rw[hv3];clear hown3 hg3 hv3)
    all_goals go_wp2
    all_goals go_end0
    all_goals exact⟨rfl,HE.out _ HM3.out⟩
end Go.Proofs.YtidaflmmldefcaaGreat
namespace Go.Proofs.YtidaflmmldefcaaGreat
open Go.RowKit
set_option linter.unusedVariables false
set_option maxRecDepth 100000
def passArgs (b:Nat) (o a:Int) (v:InV):Array Value:=#[.pointer (some ⟨b,0,none⟩),.int .i64 o,.int .i64 a,.agg v.arr]
theorem pass_0 {w:World} {base b:Nat} {pv sv dv:Value} {M:H.Mach} (h:SB w base b pv sv dv M) (v:InV) (a:Int): Calls Tryz.prog 71 (passArgs b 0 a v) w fun e w'=>e= .returned (.tuple #[])∧SAft w base b M w':=by
 obtain⟨fuel,k0,k1,k2,k3,k4,k5,k6,k7,what,by_,arg,src,route,ao,n,cap⟩:=v;unfold passArgs InV.arr;simp only at*;obtain⟨o2,ho2⟩:∃o2,o2=Obj.cells #[.int .i64 fuel,.int .u16 k0,.int .u16 k1,.int .u16 k2,.int .u16 k3,.int .u16 k4,.int .u16 k5,.int .u16 k6,.int .u16 k7,.int .u8 what,.int .u8 by_,.int .u16 arg,.int .u8 src,.int .u8 route,.slice ao n cap] 128:=⟨_,rfl⟩;have hbl:=h.blk.lt;have hlt:=h.lt;have HM:Hid (SB (w.alloc o2) base b pv sv dv M):=h.alloc o2;have HF:Hid (SFr base w (w.alloc o2)):=(SFr.refl base w).alloc hlt o2;have hb1:¬b=w.heap.size:=by omega
 have hb3:¬w.heap.size=b:=by omega
 subst ho2;clear h;go_enter Tryz.func71,Tryz.ntmps71;go_wp2;go_end0;exact⟨rfl,⟨⟨_,_,_,HM.out⟩,HF.out⟩⟩
theorem pass_1 {w:World} {base b:Nat} {pv sv dv:Value} {M:H.Mach} (h:SB w base b pv sv dv M) (v:InV) (a:Int): Calls Tryz.prog 71 (passArgs b 1 a v) w fun e w'=>e= .returned (.tuple #[])∧SAft w base b (H.push a M) w':=by
 obtain⟨fuel,k0,k1,k2,k3,k4,k5,k6,k7,what,by_,arg,src,route,ao,n,cap⟩:=v;unfold passArgs InV.arr;simp only at*;obtain⟨o2,ho2⟩:∃o2,o2=Obj.cells #[.int .i64 fuel,.int .u16 k0,.int .u16 k1,.int .u16 k2,.int .u16 k3,.int .u16 k4,.int .u16 k5,.int .u16 k6,.int .u16 k7,.int .u8 what,.int .u8 by_,.int .u16 arg,.int .u8 src,.int .u8 route,.slice ao n cap] 128:=⟨_,rfl⟩;have hbl:=h.blk.lt;have hlt:=h.lt;have HM:Hid (SB (w.alloc o2) base b pv sv dv M):=h.alloc o2;have HF:Hid (SFr base w (w.alloc o2)):=(SFr.refl base w).alloc hlt o2;have hb1:¬b=w.heap.size:=by omega
 have hb3:¬w.heap.size=b:=by omega
 subst ho2;clear h;go_enter Tryz.func71,Tryz.ntmps71;go_wp2_with fail;refine(lay_any HM.out a).mono ?_;rintro e w1 ⟨rfl,ha⟩;have HA:Hid (SAft w base b _ w1):=⟨ha.1,HF.out.trans ha.2⟩;clear ha;go_wp2;go_end0;exact⟨rfl,HA.out⟩
theorem pass_2 {w:World} {base b:Nat} {pv sv dv:Value} {M:H.Mach} (h:SB w base b pv sv dv M) (v:InV) (k:Nat) (hk:k<8): Calls Tryz.prog 71 (passArgs b 2 (k:Int) v) w fun e w'=>e= .returned (.tuple #[])∧SAft w base b (H.push (M.cells.getD k 0) M) w':=by
 obtain⟨fuel,k0,k1,k2,k3,k4,k5,k6,k7,what,by_,arg,src,route,ao,n,cap⟩:=v;unfold passArgs InV.arr;simp only at*;obtain⟨o2,ho2⟩:∃o2,o2=Obj.cells #[.int .i64 fuel,.int .u16 k0,.int .u16 k1,.int .u16 k2,.int .u16 k3,.int .u16 k4,.int .u16 k5,.int .u16 k6,.int .u16 k7,.int .u8 what,.int .u8 by_,.int .u16 arg,.int .u8 src,.int .u8 route,.slice ao n cap] 128:=⟨_,rfl⟩;have hbl:=h.blk.lt;have hlt:=h.lt;have HM:Hid (SB (w.alloc o2) base b pv sv dv M):=h.alloc o2;have HF:Hid (SFr base w (w.alloc o2)):=(SFr.refl base w).alloc hlt o2;have hb1:¬b=w.heap.size:=by omega
 have hb3:¬w.heap.size=b:=by omega
 have rc:=h.ccell k hk;obtain⟨ck,hck⟩:∃ck,ck=M.cells.getD k 0:=⟨_,rfl⟩;rw[←hck] at rc ⊢;have hk0:(0:Int)≤(k:Int):=by omega
 have hk1:(k:Int)<8:=by omega
 clear hck;subst ho2;clear h;go_enter Tryz.func71,Tryz.ntmps71;go_wp2_with fail;first|(go_region_with (go_at_call 77;refine(lay_any HM.out.drew ck).mono ?_;rintro e w1 ⟨rfl,ha⟩))|(refine(lay_any HM.out ck).mono ?_;rintro e w1 ⟨rfl,ha⟩)
 have HA:Hid (SAft w base b _ w1):=⟨ha.1,by first|exact HF.out.trans ha.2|exact HF.out.drew.trans ha.2⟩;clear ha;go_wp2;go_end0;exact⟨rfl,HA.out⟩
theorem pass_16 {w:World} {base b:Nat} {pv sv dv:Value} {M:H.Mach} (h:SB w base b pv sv dv M) (v:InV) (a:Int) (ha0: -128≤a) (ha1:a≤127) (hn0:0≤M.next) (hn1:M.next≤900): Calls Tryz.prog 71 (passArgs b 16 a v) w fun e w'=>e= .returned (.tuple #[])∧SAft w base b {M with next:=M.next+a} w':=by
 obtain⟨fuel,k0,k1,k2,k3,k4,k5,k6,k7,what,by_,arg,src,route,ao,n,cap⟩:=v;unfold passArgs InV.arr;simp only at*;obtain⟨o2,ho2⟩:∃o2,o2=Obj.cells #[.int .i64 fuel,.int .u16 k0,.int .u16 k1,.int .u16 k2,.int .u16 k3,.int .u16 k4,.int .u16 k5,.int .u16 k6,.int .u16 k7,.int .u8 what,.int .u8 by_,.int .u16 arg,.int .u8 src,.int .u8 route,.slice ao n cap] 128:=⟨_,rfl⟩;have hbl:=h.blk.lt;have hlt:=h.lt;have HM:Hid (SB (w.alloc o2) base b pv sv dv M):=h.alloc o2;have HF:Hid (SFr base w (w.alloc o2)):=(SFr.refl base w).alloc hlt o2;have hb1:¬b=w.heap.size:=by omega
 have hb3:¬w.heap.size=b:=by omega
 obtain⟨nx,hnx⟩:∃nx,nx=M.next:=⟨_,rfl⟩;have c15:=h.c15;have f15:=h.free 15;rw[←hnx] at c15 hn0 hn1 ⊢;have hw:IntKind.i64.wrap (nx+a)=nx+a:=by rw[IntKind.wrap_i64];omega
 have HM6:Hid (SB ((w.setCell ⟨b,15,none⟩ (.int .i64 (nx+a))).alloc o2) base b pv sv dv {M with next:=nx+a}):=(h.set_next _).alloc o2;have HF6:Hid (SFr base w ((w.setCell ⟨b,15,none⟩ (.int .i64 (nx+a))).alloc o2)):=(h.fr_set (SFr.refl base w) _ _).alloc (by simp[World.setCell];omega) o2;clear hnx;subst ho2;clear h;go_enter Tryz.func71,Tryz.ntmps71;go_wp2;first|go_region|skip
 all_goals first|go_wp2|skip
 all_goals go_end0
 all_goals first|exact⟨rfl,⟨⟨_,_,_,HM6.out⟩,HF6.out⟩⟩|exact⟨rfl,⟨⟨_,_,_,HM6.out.drew⟩,HF6.out.drew⟩⟩
theorem pass_18 {w:World} {base b:Nat} {pv sv dv:Value} {M:H.Mach} (h:SB w base b pv sv dv M) (v:InV) (hv:v.ok) (a:Int): Calls Tryz.prog 71 (passArgs b 18 a v) w fun e w'=>e= .returned (.tuple #[])∧SAft w base b (H.push v.what M) w':=by
 obtain⟨fuel,k0,k1,k2,k3,k4,k5,k6,k7,what,by_,arg,src,route,ao,n,cap⟩:=v;unfold passArgs InV.arr;simp only at*;obtain⟨o2,ho2⟩:∃o2,o2=Obj.cells #[.int .i64 fuel,.int .u16 k0,.int .u16 k1,.int .u16 k2,.int .u16 k3,.int .u16 k4,.int .u16 k5,.int .u16 k6,.int .u16 k7,.int .u8 what,.int .u8 by_,.int .u16 arg,.int .u8 src,.int .u8 route,.slice ao n cap] 128:=⟨_,rfl⟩;have hbl:=h.blk.lt;have hlt:=h.lt;have HM:Hid (SB (w.alloc o2) base b pv sv dv M):=h.alloc o2;have HF:Hid (SFr base w (w.alloc o2)):=(SFr.refl base w).alloc hlt o2;have hb1:¬b=w.heap.size:=by omega
 have hb3:¬w.heap.size=b:=by omega
 obtain⟨⟨wh0,wh1⟩,⟨ar0,ar1⟩,⟨sr0,sr1⟩,⟨ro0,ro1⟩,hcs⟩:=hv;simp only at wh0 wh1 ar0 ar1 sr0 sr1 ro0 ro1;have e1:IntKind.i64.wrap what=what:=by rw[IntKind.wrap_i64];omega
 have e2:IntKind.i64.wrap arg=arg:=by rw[IntKind.wrap_i64];omega
 have e3:IntKind.i64.wrap src=src:=by rw[IntKind.wrap_i64];omega
 have e4:IntKind.i64.wrap route=route:=by rw[IntKind.wrap_i64];omega
 clear hcs;have HM2:Hid (SB ((w.alloc o2).alloc (.cells #[.int .i64 what,.int .i64 arg,.int .i64 src,.int .i64 route] 3)) base b pv sv dv M):=HM.out.alloc _;have HF2:Hid (SFr base w ((w.alloc o2).alloc (.cells #[.int .i64 what,.int .i64 arg,.int .i64 src,.int .i64 route] 3))):=HF.out.alloc (by simp;omega) _;subst ho2;clear h;go_enter Tryz.func71,Tryz.ntmps71;go_wp2_with fail;refine(lay_any HM2.out what).mono ?_;rintro e w1 ⟨rfl,ha⟩;have HA:Hid (SAft w base b _ w1):=⟨ha.1,HF2.out.trans ha.2⟩;clear ha;go_wp2;go_end0;exact⟨rfl,HA.out⟩
theorem pass_19 {w:World} {base b:Nat} {pv sv dv:Value} {M:H.Mach} (h:SB w base b pv sv dv M) (v:InV) (hv:v.ok) (a:Int): Calls Tryz.prog 71 (passArgs b 19 a v) w fun e w'=>e= .returned (.tuple #[])∧SAft w base b (H.push v.arg M) w':=by
 obtain⟨fuel,k0,k1,k2,k3,k4,k5,k6,k7,what,by_,arg,src,route,ao,n,cap⟩:=v;unfold passArgs InV.arr;simp only at*;obtain⟨o2,ho2⟩:∃o2,o2=Obj.cells #[.int .i64 fuel,.int .u16 k0,.int .u16 k1,.int .u16 k2,.int .u16 k3,.int .u16 k4,.int .u16 k5,.int .u16 k6,.int .u16 k7,.int .u8 what,.int .u8 by_,.int .u16 arg,.int .u8 src,.int .u8 route,.slice ao n cap] 128:=⟨_,rfl⟩;have hbl:=h.blk.lt;have hlt:=h.lt;have HM:Hid (SB (w.alloc o2) base b pv sv dv M):=h.alloc o2;have HF:Hid (SFr base w (w.alloc o2)):=(SFr.refl base w).alloc hlt o2;have hb1:¬b=w.heap.size:=by omega
 have hb3:¬w.heap.size=b:=by omega
 obtain⟨⟨wh0,wh1⟩,⟨ar0,ar1⟩,⟨sr0,sr1⟩,⟨ro0,ro1⟩,hcs⟩:=hv;simp only at wh0 wh1 ar0 ar1 sr0 sr1 ro0 ro1;have e1:IntKind.i64.wrap what=what:=by rw[IntKind.wrap_i64];omega
 have e2:IntKind.i64.wrap arg=arg:=by rw[IntKind.wrap_i64];omega
 have e3:IntKind.i64.wrap src=src:=by rw[IntKind.wrap_i64];omega
 have e4:IntKind.i64.wrap route=route:=by rw[IntKind.wrap_i64];omega
 clear hcs;have HM2:Hid (SB ((w.alloc o2).alloc (.cells #[.int .i64 what,.int .i64 arg,.int .i64 src,.int .i64 route] 3)) base b pv sv dv M):=HM.out.alloc _;have HF2:Hid (SFr base w ((w.alloc o2).alloc (.cells #[.int .i64 what,.int .i64 arg,.int .i64 src,.int .i64 route] 3))):=HF.out.alloc (by simp;omega) _;subst ho2;clear h;go_enter Tryz.func71,Tryz.ntmps71;go_wp2_with fail;refine(lay_any HM2.out arg).mono ?_;rintro e w1 ⟨rfl,ha⟩;have HA:Hid (SAft w base b _ w1):=⟨ha.1,HF2.out.trans ha.2⟩;clear ha;go_wp2;go_end0;exact⟨rfl,HA.out⟩
theorem pass_20 {w:World} {base b:Nat} {pv sv dv:Value} {M:H.Mach} (h:SB w base b pv sv dv M) (v:InV) (hv:v.ok) (a:Int): Calls Tryz.prog 71 (passArgs b 20 a v) w fun e w'=>e= .returned (.tuple #[])∧SAft w base b (H.push v.src M) w':=by
 obtain⟨fuel,k0,k1,k2,k3,k4,k5,k6,k7,what,by_,arg,src,route,ao,n,cap⟩:=v;unfold passArgs InV.arr;simp only at*;obtain⟨o2,ho2⟩:∃o2,o2=Obj.cells #[.int .i64 fuel,.int .u16 k0,.int .u16 k1,.int .u16 k2,.int .u16 k3,.int .u16 k4,.int .u16 k5,.int .u16 k6,.int .u16 k7,.int .u8 what,.int .u8 by_,.int .u16 arg,.int .u8 src,.int .u8 route,.slice ao n cap] 128:=⟨_,rfl⟩;have hbl:=h.blk.lt;have hlt:=h.lt;have HM:Hid (SB (w.alloc o2) base b pv sv dv M):=h.alloc o2;have HF:Hid (SFr base w (w.alloc o2)):=(SFr.refl base w).alloc hlt o2;have hb1:¬b=w.heap.size:=by omega
 have hb3:¬w.heap.size=b:=by omega
 obtain⟨⟨wh0,wh1⟩,⟨ar0,ar1⟩,⟨sr0,sr1⟩,⟨ro0,ro1⟩,hcs⟩:=hv;simp only at wh0 wh1 ar0 ar1 sr0 sr1 ro0 ro1;have e1:IntKind.i64.wrap what=what:=by rw[IntKind.wrap_i64];omega
 have e2:IntKind.i64.wrap arg=arg:=by rw[IntKind.wrap_i64];omega
 have e3:IntKind.i64.wrap src=src:=by rw[IntKind.wrap_i64];omega
 have e4:IntKind.i64.wrap route=route:=by rw[IntKind.wrap_i64];omega
 clear hcs;have HM2:Hid (SB ((w.alloc o2).alloc (.cells #[.int .i64 what,.int .i64 arg,.int .i64 src,.int .i64 route] 3)) base b pv sv dv M):=HM.out.alloc _;have HF2:Hid (SFr base w ((w.alloc o2).alloc (.cells #[.int .i64 what,.int .i64 arg,.int .i64 src,.int .i64 route] 3))):=HF.out.alloc (by simp;omega) _;subst ho2;clear h;go_enter Tryz.func71,Tryz.ntmps71;go_wp2_with fail;refine(lay_any HM2.out src).mono ?_;rintro e w1 ⟨rfl,ha⟩;have HA:Hid (SAft w base b _ w1):=⟨ha.1,HF2.out.trans ha.2⟩;clear ha;go_wp2;go_end0;exact⟨rfl,HA.out⟩
theorem pass_21 {w:World} {base b:Nat} {pv sv dv:Value} {M:H.Mach} (h:SB w base b pv sv dv M) (v:InV) (hv:v.ok) (a:Int): Calls Tryz.prog 71 (passArgs b 21 a v) w fun e w'=>e= .returned (.tuple #[])∧SAft w base b (H.push v.route M) w':=by
 obtain⟨fuel,k0,k1,k2,k3,k4,k5,k6,k7,what,by_,arg,src,route,ao,n,cap⟩:=v;unfold passArgs InV.arr;simp only at*;obtain⟨o2,ho2⟩:∃o2,o2=Obj.cells #[.int .i64 fuel,.int .u16 k0,.int .u16 k1,.int .u16 k2,.int .u16 k3,.int .u16 k4,.int .u16 k5,.int .u16 k6,.int .u16 k7,.int .u8 what,.int .u8 by_,.int .u16 arg,.int .u8 src,.int .u8 route,.slice ao n cap] 128:=⟨_,rfl⟩;have hbl:=h.blk.lt;have hlt:=h.lt;have HM:Hid (SB (w.alloc o2) base b pv sv dv M):=h.alloc o2;have HF:Hid (SFr base w (w.alloc o2)):=(SFr.refl base w).alloc hlt o2;have hb1:¬b=w.heap.size:=by omega
 have hb3:¬w.heap.size=b:=by omega
 obtain⟨⟨wh0,wh1⟩,⟨ar0,ar1⟩,⟨sr0,sr1⟩,⟨ro0,ro1⟩,hcs⟩:=hv;simp only at wh0 wh1 ar0 ar1 sr0 sr1 ro0 ro1;have e1:IntKind.i64.wrap what=what:=by rw[IntKind.wrap_i64];omega
 have e2:IntKind.i64.wrap arg=arg:=by rw[IntKind.wrap_i64];omega
 have e3:IntKind.i64.wrap src=src:=by rw[IntKind.wrap_i64];omega
 have e4:IntKind.i64.wrap route=route:=by rw[IntKind.wrap_i64];omega
 clear hcs;have HM2:Hid (SB ((w.alloc o2).alloc (.cells #[.int .i64 what,.int .i64 arg,.int .i64 src,.int .i64 route] 3)) base b pv sv dv M):=HM.out.alloc _;have HF2:Hid (SFr base w ((w.alloc o2).alloc (.cells #[.int .i64 what,.int .i64 arg,.int .i64 src,.int .i64 route] 3))):=HF.out.alloc (by simp;omega) _;subst ho2;clear h;go_enter Tryz.func71,Tryz.ntmps71;go_wp2_with fail;refine(lay_any HM2.out route).mono ?_;rintro e w1 ⟨rfl,ha⟩;have HA:Hid (SAft w base b _ w1):=⟨ha.1,HF2.out.trans ha.2⟩;clear ha;go_wp2;go_end0;exact⟨rfl,HA.out⟩
end Go.Proofs.YtidaflmmldefcaaGreat
