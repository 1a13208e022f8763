/- Parts of the proof of Hosts: UsedR, PlanM, TreeU, TextF. -/
import Derived.Test.YtidaflmmldefcaaGreatQ02
import Derived.Test.YtidaflmmldefcaaGreatQ01
import Derived.Laws.StructEq
import Derived.MapKept
import Derived.KernelRfl
set_option maxHeartbeats 1000000
namespace Go.Proofs.YtidaflmmldefcaaGreat.Tr
open Go.RowKit
set_option linter.unusedVariables false
theorem used_any (ao:Option Addr) (cap:Nat) (l:List T.Nd) (id:Int) (w:World) (hl:l.length≤maxLen) (ha:NodeAt w ao l) (hk:ndOk l): Calls Tryz.prog 73 #[.slice ao l.length cap,.int .i64 id] w fun e w'=>e= .returned (.bool (T.has l id))∧w=w':=by
 unfold maxLen at hl;obtain⟨n,hn⟩:∃n,n=l.length:=⟨_,rfl⟩;have Hn:Hid (l.length=n):=hn.symm;rw[←hn];rw[←hn] at hl;have HA:Hid (NodeAt w ao l):=ha;have HK:Hid (ndOk l):=hk;clear hn ha hk;go_enter Tryz.func73,Tryz.ntmps73;go_wp2;go_loopw [5] (fun i wr=>∃(k:Nat),k≤n∧i= .int .i64 k∧w=wr∧Hid (T.has l id=T.has (l.drop k) id))
  (fun i _=>n-(intOf i).toNat)
 case atStart=>exact⟨0,Nat.zero_le _,rfl,rfl,rfl⟩
 case round=>
  obtain⟨k,hk,rfl,rfl,HD⟩:=hrel;by_cases hlt:k<n
  ·obtain⟨y,hy⟩:∃x,l[k]? =some x:=⟨l[k]'(by have:=Hn.out;omega),List.getElem?_eq_getElem (by have:=Hn.out;omega)⟩;obtain⟨b,off,rfl,hbl,hr⟩:∃b off,ao=some ⟨b,off,none⟩∧b<w.heap.size∧NodeRow w b off l:=HA.out.resolve_left (by rintro rfl;simp at hy);have hyk:=(HK.out y (List.mem_of_getElem? hy)).1;obtain⟨y1,y2,y3⟩:=y;obtain⟨c0,c1,c2⟩:=hr k _ hy;simp only at c0 c1 c2;have hw1:wrap64 y1=y1:=by obtain⟨h0,h1,_⟩:=hyk;simp only at h0 h1;unfold wrap64;omega
   have HS:Hid (T.has l id=(decide (y1=id)||T.has (l.drop (k+1)) id)):=by unfold Hid;rw[HD.out,drop_cons l k _ hy];rfl
   clear hy hr hyk;by_cases h1:y1=id
   ·subst h1;have HT:Hid (T.has l y1=true):=by unfold Hid;rw[HS.out];simp
    go_wp2;go_ret;rw[HT.out];exact⟨rfl,rfl⟩
   ·have hb1:(y1==id)=false:=by rw[beq_eq_false_iff_ne];exact h1
    have HT:Hid (T.has l id=T.has (l.drop (k+1)) id):=by unfold Hid;rw[HS.out];simp[h1]
    clear h1;go_wp2;go_roundw
    case rel=>exact⟨k+1,by omega,by go_num,trivial,HT⟩
    case measure=>simp[intOf];omega
  ·have HT:Hid (T.has l id=false):=by unfold Hid;rw[HD.out,List.drop_of_length_le (by have:=Hn.out;omega)];rfl
   go_wp2;go_ret;rw[HT.out];exact⟨rfl,rfl⟩
def upTo (l:List T.Nd) (at_ k:Nat):List T.Nd:=if at_<k then (l.take k).eraseIdx at_ else l.take k
theorem upTo_length {l:List T.Nd} {at_ k:Nat} (hk:k≤l.length):(upTo l at_ k).length≤k:=by
 unfold upTo;split
 ·rw[List.length_eraseIdx];split<;>(rw[List.length_take];omega)
 ·rw[List.length_take];omega
theorem upTo_all {l:List T.Nd} {at_:Nat} (h:at_<l.length):upTo l at_ l.length=l.eraseIdx at_:=by
 unfold upTo;rw[if_pos h,List.take_length]
end Go.Proofs.YtidaflmmldefcaaGreat.Tr
namespace Go.Proofs.YtidaflmmldefcaaGreat.Tr
set_option linter.unusedVariables false
namespace T
theorem leastFrom_add (old next:List Nd) (g:Nat):∀(f:Nat) (i:Int),1≤i→leastFrom old next (f+g) i=if leastFrom old next f i=0 then leastFrom old next g (i+f) else leastFrom old next f i
 |0,i,_=>by simp[leastFrom]
 |f+1,i,hi=>by
  rw[show f+1+g=(f+g)+1 by omega];by_cases h:has old i=false∧has next i=false
  ·rw[leastFrom_take h.1 h.2,leastFrom_take h.1 h.2,if_neg (by omega)]
  ·rw[leastFrom_skip h,leastFrom_skip h,leastFrom_add old next g f (i+1) (by omega),show i+1+(f:Int)=i+((f+1:Nat):Int) by omega]
theorem least25 (old next:List Nd) (hl:old.length+next.length<25):1≤leastFrom old next 25 1∧leastFrom old next 25 1≤25:=by
 rcases leastFrom_spec old next 25 1 with ⟨_,h⟩|⟨h1,h2,_⟩
 ·exfalso;have:=pigeon 25 ((old++next).map (fun x=>x.1)) (by
   intro j j1 j2;have hj:=h j j1 j2;simp only[has,List.any_eq_true,decide_eq_true_eq] at hj;rw[List.mem_map];rcases hj with ⟨x,hx,he⟩|⟨x,hx,he⟩
   ·exact⟨x,by simp[hx],he⟩
   ·exact⟨x,by simp[hx],he⟩)
  simp at this;omega
 ·exact⟨h1,by omega⟩
theorem least_far (old next:List Nd) (hl:old.length+next.length<25) (h:16<leastFrom old next 25 1):leastFrom old next 16 1=0:=by
 have h1:leastFrom old next 25 1=if leastFrom old next 16 1=0 then leastFrom old next 9 17 else leastFrom old next 16 1:=leastFrom_add old next 9 16 1 (by omega)
 by_cases h0:leastFrom old next 16 1=0
 ·exact h0
 ·rw[if_neg h0] at h1;rcases leastFrom_spec old next 16 1 with ⟨h2,_⟩|⟨_,h2,_⟩
  ·exact h2
  ·omega
theorem least_near (old next:List Nd) (hl:old.length+next.length<25) (h:¬16<leastFrom old next 25 1):leastFrom old next 16 1=leastFrom old next 25 1:=by
 have h1:leastFrom old next 25 1=if leastFrom old next 16 1=0 then leastFrom old next 9 17 else leastFrom old next 16 1:=leastFrom_add old next 9 16 1 (by omega)
 by_cases h0:leastFrom old next 16 1=0
 ·rw[if_pos h0] at h1;have h3:=least25 old next hl
  rcases leastFrom_spec old next 9 17 with ⟨h2,_⟩|⟨h2,_⟩
  ·omega
  ·omega
 ·rw[if_neg h0] at h1;exact h1.symm
def lastId (key a:Int):List Nd→Int
 |[]=>a
 |x::r=>lastId key (if x.2.1=key then x.1 else a) r
theorem lastId_snoc (key:Int) (x:Nd):∀(l:List Nd) (a:Int),lastId key a (l++[x])=if x.2.1=key then x.1 else lastId key a l
 |[],a=>rfl
 |y::r,a=>by
  show lastId key _ (r++[x])=_;rw[lastId_snoc key x r];rfl
theorem lastId_none (key:Int):∀(l:List Nd) (a:Int),(∀x∈l,x.2.1≠key)→lastId key a l=a
 |[],a,_=>rfl
 |y::r,a,h=>by
  show lastId key _ r=a;rw[if_neg (h y (by simp))];exact lastId_none key r a fun x hx=>h x (by simp[hx])
theorem lastId_tree (key:Int):∀(l:List Nd),l.Pairwise apart→(l.find? (fun x=>decide (x.2.1=key))=none∧lastId key 0 l=0)∨(∃x,l.find? (fun x=>decide (x.2.1=key))=some x∧x∈l∧lastId key 0 l=x.1)
 |[],_=>Or.inl ⟨rfl,rfl⟩
 |y::r,h=>by
  rw[List.pairwise_cons] at h;by_cases hk:y.2.1=key
  ·refine Or.inr ⟨y,by simp[hk],by simp,?_⟩;show lastId key (if y.2.1=key then y.1 else 0) r=_;rw[if_pos hk];refine lastId_none key r _ fun x hx=>?_;have:=(h.1 x hx).2;omega
  ·have e:lastId key 0 (y::r)=lastId key 0 r:=by show lastId key (if y.2.1=key then y.1 else 0) r=_;rw[if_neg hk]
   rw[e];rcases lastId_tree key r h.2 with ⟨h1,h2⟩|⟨x,h1,h2,h3⟩
   ·exact Or.inl ⟨by simp[hk,h1],h2⟩
   ·exact Or.inr ⟨x,by simp[hk,h1],by simp[h2],h3⟩
def refId (key:Int) (old next:List Nd):Int:=if lastId key 0 old=0 then leastFrom old next 25 1 else lastId key 0 old
theorem refId_range {key:Int} {old next:List Nd} (ho:isTree old=true) (hl:next.length≤8):1≤refId key old next∧refId key old next≤25∧0≤lastId key 0 old∧lastId key 0 old≤16∧1≤leastFrom old next 25 1:=by
 rw[isTree_iff] at ho;have h25:=least25 old next (by omega)
 unfold refId;rcases lastId_tree key old ho.2.2 with ⟨_,h2⟩|⟨x,_,h2,h3⟩
 ·rw[if_pos h2];omega
 ·have:=ho.2.1 x h2;simp only[okNd,Bool.and_eq_true,decide_eq_true_eq] at this;rw[if_neg (by omega)];omega
theorem refId_far {key:Int} {old next:List Nd} (ho:isTree old=true) (hl:next.length≤8) (h:16<refId key old next):idFor key old next=0:=by
 have hr:=refId_range (key:=key) ho hl;rw[isTree_iff] at ho;unfold refId at h;rcases lastId_tree key old ho.2.2 with ⟨h1,h2⟩|⟨x,_,h2,h3⟩
 ·rw[if_pos h2] at h;rw[idFor_none h1];exact least_far old next (by omega) h
 ·have:=ho.2.1 x h2;simp only[okNd,Bool.and_eq_true,decide_eq_true_eq] at this;rw[if_neg (by omega)] at h;omega
theorem refId_near {key:Int} {old next:List Nd} (ho:isTree old=true) (hl:next.length≤8) (h:¬16<refId key old next):idFor key old next=refId key old next:=by
 have hr:=refId_range (key:=key) ho hl;rw[isTree_iff] at ho;unfold refId at h ⊢;rcases lastId_tree key old ho.2.2 with ⟨h1,h2⟩|⟨x,h1,h2,h3⟩
 ·rw[if_pos h2] at h ⊢;rw[idFor_none h1];exact least_near old next (by omega) h
 ·have:=ho.2.1 x h2;simp only[okNd,Bool.and_eq_true,decide_eq_true_eq] at this;rw[idFor_found h1,if_neg (by omega),h3]
theorem planFrom_pre (old:List Nd):∀(l:List Sh) (next:List Nd),∃t,planFrom old next l=next++t
 |[],next=>⟨[],by simp[planFrom]⟩
 |s::r,next=>by
  obtain⟨t,ht⟩:=planFrom_pre old r (next++[mkN old next s]);exact⟨mkN old next s::t,by unfold planFrom;rw[ht];simp⟩
theorem planFrom_append (old:List Nd):∀(l r:List Sh) (next:List Nd),planFrom old next (l++r)=planFrom old (planFrom old next l) r
 |[],r,next=>rfl
 |s::l,r,next=>planFrom_append old l r _
theorem planOk_far {old:List Nd} {shows:List Sh} {k:Nat} {s:Sh} (hs:shows[k]? =some s) (h:idFor s.1 old (plan old (shows.take k))=0):planOk old shows=false:=by
 have e:shows=shows.take k++(s::shows.drop (k+1)):=by have:=List.take_append_drop k shows;rw[List.drop_eq_getElem_cons (List.getElem?_eq_some_iff.1 hs).1,(List.getElem?_eq_some_iff.1 hs).2] at this;exact this.symm
 have hm:mkN old (plan old (shows.take k)) s∈plan old shows:=by
  obtain⟨t,ht⟩:=planFrom_pre old (shows.drop (k+1)) (plan old (shows.take k)++[mkN old (plan old (shows.take k)) s]);have e2:plan old shows=plan old (shows.take k)++[mkN old (plan old (shows.take k)) s]++t:=by
   rw[←ht];conv=>lhs;rw[e]
   unfold plan;rw[planFrom_append];rfl
  rw[e2];simp
 have hf:isTree (plan old shows)=false:=by
  cases hc:isTree (plan old shows) with
  |false=>rfl
  |true=>have:=isTree_ok hc _ hm;simp only[okNd,mkN,h,Bool.and_eq_true,decide_eq_true_eq] at this;omega
 unfold planOk;rw[hf];simp
end T
end Go.Proofs.YtidaflmmldefcaaGreat.Tr
namespace Go.Proofs.YtidaflmmldefcaaGreat.Tr
namespace T
def more (c:Int):Nat:=if c<128 then 0 else if c<224 then 1 else if c<240 then 2 else 3
def val0 (c:Int):Int:=if c<128 then c else if c<224 then c-192 else if c<240 then c-224 else c-240
def val (L:List Int) (p:Nat):Nat→Int
 |0=>val0 (at0 L p)
 |k+1=>64*val L p k+at0 L (p+(k+1))%64
def least (m:Nat):Int:=if m=0 then 0 else if m=1 then 128 else if m=2 then 2048 else 65536
def isLead (c:Int):Bool:=decide (c<128∨192≤c∧c<248)
def badVal (m:Nat) (v:Int):Bool:=decide (v<least m∨1114111<v∨55296≤v∧v≤57343)
theorem size_nolead (L : List Int) (p : Nat) (h : isLead (at0 L p) = false) : size L p = 0 := by
  simp only [isLead, decide_eq_false_iff_not] at h
  have hl : lead (at0 L p) = 0 := by unfold lead; repeat' split
                                     all_goals omega
  unfold size
  rw [hl]
  split
  · rfl
  · simp
theorem lead_more (c:Int):lead c=0∨lead c=more c+1:=by
 unfold lead more
 repeat' split
 all_goals omega
theorem size_of_lead0 (L:List Int) (p:Nat) (h:lead (at0 L p)=0):size L p=0:=by
 unfold size;rw[h]
 repeat' split
 all_goals rfl
theorem size_short (L:List Int) (p k:Nat) (h1:1≤k) (h2:k≤more (at0 L p)) (h:¬(p+k<L.length∧at0 L (p+k)/64=2)):size L p=0:=by
 rcases lead_more (at0 L p) with h0|h0
 ·exact size_of_lead0 L p h0
 ·by_cases hk:p+k<L.length
  ·refine size_bad L p k h1 (by omega) ?_;simp only[cont,decide_eq_false_iff_not];omega
  ·exact size_cut L p (by omega)
theorem size_val (L : List Int) (p : Nat) (hp : p < L.length) (hr : ∀ i, 0 ≤ at0 L i ∧ at0 L i ≤ 255)
    (h : ∀ k, 1 ≤ k → k ≤ more (at0 L p) → p + k < L.length ∧ at0 L (p + k) / 64 = 2) :
    size L p = if badVal (more (at0 L p)) (val L p (more (at0 L p))) then 0 else 1 + more (at0 L p) := by
  have r0 := hr p
  have l0 : least 0 = 0 := rfl
  have l1 : least 1 = 128 := rfl
  have l2 : least 2 = 2048 := rfl
  have l3 : least 3 = 65536 := rfl
  by_cases c1 : at0 L p < 128
  · have hm : more (at0 L p) = 0 := by unfold more; rw [if_pos c1]
    have hd : lead (at0 L p) = 1 := by unfold lead; rw [if_pos c1]
    rw [size_one L p (by omega) (by omega), hd, hm]
    show 1 = if badVal 0 (val0 (at0 L p)) = true then 0 else 1 + 0
    unfold val0
    rw [if_pos c1, if_neg (by simp only [badVal, decide_eq_true_eq]; omega)]
  by_cases c2 : at0 L p < 224
  · have hm : more (at0 L p) = 1 := by unfold more; rw [if_neg c1, if_pos c2]
    rw [hm] at h ⊢
    obtain ⟨a1, b1⟩ := h 1 (by omega) (by omega)
    have hv : val L p 1 = 64 * (at0 L p - 192) + at0 L (p + 1) % 64 := by
      show 64 * val0 (at0 L p) + at0 L (p + 1) % 64 = _
      unfold val0; rw [if_neg c1, if_pos c2]
    rw [hv]
    by_cases c3 : at0 L p < 194
    · rw [size_of_lead0 L p (by unfold lead; rw [if_neg c1, if_pos c3]), if_pos (by simp only [badVal, decide_eq_true_eq]; omega)]
    · have hd : lead (at0 L p) = 2 := by unfold lead; rw [if_neg c1, if_neg c3, if_pos c2]
      rw [size_pair L p (by omega) (by omega) (by intro j j1 j2; rw [hd] at j2; obtain rfl : j = 1 := by omega
                                                  simp only [cont, decide_eq_true_eq]; omega), hd]
      rw [if_pos (by unfold pair; rw [if_neg (by omega), if_neg (by omega), if_neg (by omega), if_neg (by omega)])]
      rw [if_neg (by simp only [badVal, decide_eq_true_eq]; omega)]
  by_cases c3 : at0 L p < 240
  · have hm : more (at0 L p) = 2 := by unfold more; rw [if_neg c1, if_neg c2, if_pos c3]
    rw [hm] at h ⊢
    obtain ⟨a1, b1⟩ := h 1 (by omega) (by omega)
    obtain ⟨a2, b2⟩ := h 2 (by omega) (by omega)
    have hv : val L p 2 = 64 * (64 * (at0 L p - 224) + at0 L (p + 1) % 64) + at0 L (p + 2) % 64 := by
      show 64 * (64 * val0 (at0 L p) + at0 L (p + 1) % 64) + at0 L (p + 2) % 64 = _
      unfold val0; rw [if_neg c1, if_neg c2, if_pos c3]
    rw [hv]
    have hd : lead (at0 L p) = 3 := by unfold lead; rw [if_neg c1, if_neg (by omega), if_neg c2, if_pos c3]
    rw [size_pair L p (by omega) (by omega) (by intro j j1 j2; rw [hd] at j2; rcases (show j = 1 ∨ j = 2 by omega) with rfl | rfl <;> (simp only [cont, decide_eq_true_eq]; omega)), hd]
    by_cases d1 : at0 L p = 224
    · by_cases d2 : 160 ≤ at0 L (p + 1)
      · rw [if_pos (by unfold pair; rw [if_pos d1]; simpa using d2), if_neg (by simp only [badVal, decide_eq_true_eq]; omega)]
      · rw [if_neg (by unfold pair; rw [if_pos d1]; simpa using d2), if_pos (by simp only [badVal, decide_eq_true_eq]; omega)]
    · by_cases d3 : at0 L p = 237
      · by_cases d2 : at0 L (p + 1) < 160
        · rw [if_pos (by unfold pair; rw [if_neg d1, if_pos d3]; simpa using d2), if_neg (by simp only [badVal, decide_eq_true_eq]; omega)]
        · rw [if_neg (by unfold pair; rw [if_neg d1, if_pos d3]; simpa using d2), if_pos (by simp only [badVal, decide_eq_true_eq]; omega)]
      · rw [if_pos (by unfold pair; rw [if_neg d1, if_neg d3, if_neg (by omega), if_neg (by omega)]), if_neg (by simp only [badVal, decide_eq_true_eq]; omega)]
  · have hm : more (at0 L p) = 3 := by unfold more; rw [if_neg c1, if_neg c2, if_neg c3]
    rw [hm] at h ⊢
    obtain ⟨a1, b1⟩ := h 1 (by omega) (by omega)
    obtain ⟨a2, b2⟩ := h 2 (by omega) (by omega)
    obtain ⟨a3, b3⟩ := h 3 (by omega) (by omega)
    have hv : val L p 3 = 64 * (64 * (64 * (at0 L p - 240) + at0 L (p + 1) % 64) + at0 L (p + 2) % 64) + at0 L (p + 3) % 64 := by
      show 64 * (64 * (64 * val0 (at0 L p) + at0 L (p + 1) % 64) + at0 L (p + 2) % 64) + at0 L (p + 3) % 64 = _
      unfold val0; rw [if_neg c1, if_neg c2, if_neg c3]
    rw [hv]
    by_cases c4 : at0 L p < 245
    · have hd : lead (at0 L p) = 4 := by unfold lead; rw [if_neg c1, if_neg (by omega), if_neg c2, if_neg c3, if_pos c4]
      rw [size_pair L p (by omega) (by omega) (by intro j j1 j2; rw [hd] at j2; rcases (show j = 1 ∨ j = 2 ∨ j = 3 by omega) with rfl | rfl | rfl <;> (simp only [cont, decide_eq_true_eq]; omega)), hd]
      by_cases d1 : at0 L p = 240
      · by_cases d2 : 144 ≤ at0 L (p + 1)
        · rw [if_pos (by unfold pair; rw [if_neg (by omega), if_neg (by omega), if_pos d1]; simpa using d2), if_neg (by simp only [badVal, decide_eq_true_eq]; omega)]
        · rw [if_neg (by unfold pair; rw [if_neg (by omega), if_neg (by omega), if_pos d1]; simpa using d2), if_pos (by simp only [badVal, decide_eq_true_eq]; omega)]
      · by_cases d3 : at0 L p = 244
        · by_cases d2 : at0 L (p + 1) < 144
          · rw [if_pos (by unfold pair; rw [if_neg (by omega), if_neg (by omega), if_neg d1, if_pos d3]; simpa using d2), if_neg (by simp only [badVal, decide_eq_true_eq]; omega)]
          · rw [if_neg (by unfold pair; rw [if_neg (by omega), if_neg (by omega), if_neg d1, if_pos d3]; simpa using d2), if_pos (by simp only [badVal, decide_eq_true_eq]; omega)]
        · rw [if_pos (by unfold pair; rw [if_neg (by omega), if_neg (by omega), if_neg d1, if_neg d3]), if_neg (by simp only [badVal, decide_eq_true_eq]; omega)]
    · rw [size_of_lead0 L p (by unfold lead; rw [if_neg c1, if_neg (by omega), if_neg c2, if_neg c3, if_neg c4]), if_pos (by simp only [badVal, decide_eq_true_eq]; omega)]
def lettersFrom (L:List Int):Nat→Nat→Int→Int
 |0,_,n=>n
 |f+1,p,n=>if p<L.length then (if size L p=0 then-1 else lettersFrom L f (p+size L p) (n+1)) else n
def lettersOf (L:List Int):Int:=lettersFrom L L.length 0 0
theorem lettersFrom_ge (L:List Int):∀(f p:Nat) (n:Int),0≤n→lettersFrom L f p n= -1∨n≤lettersFrom L f p n
 |0,p,n,_=>Or.inr (Int.le_refl _)
 |f+1,p,n,hn=>by
  unfold lettersFrom;by_cases h:p<L.length
  ·rw[if_pos h];by_cases hs:size L p=0
   ·rw[if_pos hs];exact Or.inl rfl
   ·rw[if_neg hs];rcases lettersFrom_ge L f (p+size L p) (n+1) (by omega) with h|h
    ·exact Or.inl h
    ·exact Or.inr (by omega)
  ·rw[if_neg h];exact Or.inr (Int.le_refl _)
theorem letters_text (L:List Int):∀(f k p:Nat) (n:Int),0≤n→p≤L.length→L.length≤p+f→textFrom L k p=decide (lettersFrom L f p n≠ -1∧lettersFrom L f p n≤n+k)
 |0,k,p,n,hn,hp,hf=>by
  have hpe:p=L.length:=by omega
  rw[textFrom_end L k p (by omega)];show decide (p=L.length)=decide (n≠ -1∧n≤n+k);rw[decide_eq_decide];constructor
  ·intro _;omega
  ·intro _;exact hpe
 |f+1,k,p,n,hn,hp,hf=>by
  by_cases h:p<L.length
  ·by_cases hs:size L p=0
   ·have e:lettersFrom L (f+1) p n= -1:=by unfold lettersFrom;rw[if_pos h,if_pos hs]
    rw[e];cases k with
    |zero=>simp[textFrom];omega
    |succ k=>rw[textFrom_bad L _ p (by omega) h hs];simp
   ·have e:lettersFrom L (f+1) p n=lettersFrom L f (p+size L p) (n+1):=by
     conv=>lhs;unfold lettersFrom
     rw[if_pos h,if_neg hs]
    rw[e];have hl:=(size_le L p).resolve_right hs;cases k with
    |zero=>have:=lettersFrom_ge L f (p+size L p) (n+1) (by omega);rw[show textFrom L 0 p=false by simp[textFrom];omega];symm;rw[decide_eq_false_iff_not];omega
    |succ k=>
     rw[textFrom_next L k p h hs,letters_text L f k (p+size L p) (n+1) (by omega) hl (by omega),decide_eq_decide];constructor
     ·intro h;omega
     ·intro h;omega
  ·have e:lettersFrom L (f+1) p n=n:=by unfold lettersFrom;rw[if_neg h]
   rw[e,textFrom_end L k p h,decide_eq_decide];constructor
   ·intro _;omega
   ·intro _;omega
theorem fine_text (L:List Int):isText L=decide (0≤lettersOf L∧lettersOf L≤6):=by
 unfold isText lettersOf;rw[letters_text L L.length 6 0 0 (by omega) (by omega) (by omega),decide_eq_decide];have:=lettersFrom_ge L L.length 0 0 (by omega);constructor
 ·intro h;omega
 ·intro h;omega
end T
end Go.Proofs.YtidaflmmldefcaaGreat.Tr
namespace Go.Proofs.YtidaflmmldefcaaGreat.Tr
open Go.RowKit
set_option linter.unusedVariables false
namespace T
def pk (c n:Int):Int:=(if c<0 then-(c+1) else c)%n
end T
theorem text_ne {a b:ByteArray} (h:a≠b):(a.toList==b.toList)=false:=by
 rw[←beq_toListBytes];cases e:(a==b) with
 |false=>rfl
 |true=>exact absurd ((Go.MapKept.bytes_beq a b).1 e) h
theorem ret_int {k:IntKind} {a b:Int} (h:a=b):Ending.returned (.int k a)= .returned (.int k b):=by rw[h]
end Go.Proofs.YtidaflmmldefcaaGreat.Tr
