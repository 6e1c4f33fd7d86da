import Derived.Deep.MidRow
import Derived.Deep.WholeRow
import Derived.Laws.ResultCell
import Derived.Deep.CutBlock
import Derived.Deep.DeepCutAuto
import Derived.Test.YtlppphmnegdhoabGreatDoorMz2
set_option linter.unusedVariables false
set_option maxRecDepth 100000
set_option maxHeartbeats 2000000
namespace Go.Proofs.YtlppphmnegdhoabGreatDoor
open Go.Proofs.Tryz
open Go.RowKit
open M
theorem AY(s:ByteArray)(k c:Nat)(w:World)(hs:s.size≤maxLen)(hk:k≤s.size)(hc:c<256):
  Calls prog 130 #[.string s,.int .i64 k,.int .u8 c] w fun e w'=>e= .returned (.bool (CH (s.data.toList.drop k) c))∧w'=w:=by
 unfold maxLen at hs;have h0:(0:Int)≤(k:Int):=by omega
 by_cases Ac:k<s.size
 ·have AV:(k:Int)<(s.size:Int):=by omega
  obtain⟨x,hx⟩ :∃x:Nat,s[k].toNat=x:=⟨_,rfl⟩
  have FT:x<256:=by rw[←hx];exact s[k].toNat_lt
  have HS:Hid (CH (s.data.toList.drop k) c=(x==c)):=by
   show _=_;rw[Ap s k Ac,←hx];rfl
  by_cases h:x=c
  ·have h1:((x:Int)==(c:Int))=true:=by simp[h]
   have HB:Hid (CH (s.data.toList.drop k) c=true):=by show _=_;rw[HS.out];simp[h]
   clear h
   go_enter func130,ntmps130
   go_wp2;go_ret;exact⟨ι (by rw[HB.out]),rfl⟩
  ·have h1:((x:Int)==(c:Int))=false:=by simp;omega
   have HB:Hid (CH (s.data.toList.drop k) c=false):=by show _=_;rw[HS.out];simp[h]
   clear h
   go_enter func130,ntmps130
   go_wp2;go_ret;exact⟨ι (by rw[HB.out]),rfl⟩
 ·have AV:¬(k:Int)<(s.size:Int):=by omega
  have HB:Hid (CH (s.data.toList.drop k) c=false):=by
   show _=_;rw[List.drop_of_length_le (by rw[Δ];omega)];rfl
  go_enter func130,ntmps130
  go_wp2;go_ret;exact⟨ι (by rw[HB.out]),rfl⟩
def EG(c:Nat)(l:List UInt8):Bool:=l.any (fun d=>d.toNat==c)
theorem Wv(c:Nat)(s:ByteArray)(w:World)(hs:s.size≤maxLen)(Il:c<256):
  Calls prog 235 #[.int .u8 c,.string s] w fun e w'=>e= .returned (.bool (EG c s.data.toList))∧w'=w:=by
 unfold maxLen at hs
 go_enter func235,ntmps235
 go_wp2
 go_loop [5] (fun i=>∃k:Nat,k≤s.size∧i= .int .i64 k∧Hid (EG c s.data.toList=EG c (s.data.toList.drop k))) (fun i=>s.size - (intOf i).toNat)
 case atStart=>exact⟨0,ε,rfl,by show _=_;rfl⟩
 case round=>
  obtain⟨k,hk,rfl,H⟩ :=hrel
  by_cases Ac:k<s.size
  ·have AV:(k:Int)<(s.size:Int):=by omega
   obtain⟨x,hx⟩ :∃x:Nat,s[k].toNat=x:=⟨_,rfl⟩
   have hc:x<256:=by rw[←hx];exact s[k].toNat_lt
   have HQ:Hid (EG c s.data.toList=((x==c) || EG c (s.data.toList.drop (k+1)))):=by
    show _=_;rw[H.out,Ap s k Ac,←hx]
    rfl
   clear H
   by_cases Ff:x=c
   ·have HB:Hid (EG c s.data.toList=true):=by show _=_;rw[HQ.out,Ff];simp
    have h1:((x:Int)==(c:Int))=true:=by simp[Ff]
    clear Ff;go_wp2;go_ret;exact⟨ι (by rw[HB.out]),rfl⟩
   ·have h1:((x:Int)==(c:Int))=false:=by simp;omega
    have HB:Hid (EG c s.data.toList=EG c (s.data.toList.drop (k+1))):=by
     have e:(x==c)=false:=by simpa using Ff
     show _=_;rw[HQ.out,e,Bool.false_or]
    clear HQ Ff;go_wp2
    go_round
    case rel=>exact⟨k+1,by omega,by go_num,HB.out⟩
    case measure=>simp[intOf];omega
  ·obtain rfl:k=s.size:=by omega
   have HB:Hid (EG c s.data.toList=false):=by
    show _=_;rw[H.out,List.drop_of_length_le (by rw[Δ];omega)];rfl
   clear H;go_wp2;go_ret;exact⟨ι (by rw[HB.out]),rfl⟩
def jO(s:ByteArray)(k:Nat)(e:Ending):Prop:=
 (∃(h:k<s.size),s[k].toNat≠10∧e= .returned (.tuple #[.int .u8 (Iu s[k]),.int .i64 ((k+1:Nat):Int),.bool true]))∨
 ((s.size≤k∨∃(h:k<s.size),s[k].toNat=10)∧e= .returned (.tuple #[.int .u8 0,.int .i64 k,.bool false]))
theorem TM(s:ByteArray)(k:Nat)(w:World)(hs:s.size≤maxLen)(hk:k≤s.size):
  Calls prog 234 #[.string s,.int .i64 k] w fun e w'=>jO s k e∧w'=w:=by
 unfold maxLen at hs;have h0:¬(k:Int)<0:=by omega
 by_cases Ac:k<s.size
 ·have AV:¬(s.size:Int)≤(k:Int):=by omega
  have E7:(k:Int)<(s.size:Int):=by omega
  obtain⟨x,hx⟩ :∃x:Nat,s[k].toNat=x:=⟨_,rfl⟩
  have FT:x<256:=by rw[←hx];exact s[k].toNat_lt
  by_cases h:x=10
  ·have HP:Hid (jO s k (.returned (.tuple #[.int .u8 0,.int .i64 k,.bool false]))):= .inr ⟨.inr ⟨Ac,by rw[hx];exact h⟩,rfl⟩
   have h1:((x:Int)==10)=true:=by simp[h]
   clear h
   go_enter func234,ntmps234
   go_wp2;go_ret3;exact⟨HP.out,rfl⟩
  ·have h1:((x:Int)==10)=false:=by simp;omega
   by_cases h2:x=110
   ·have HP:Hid (jO s k (.returned (.tuple #[.int .u8 10,.int .i64 ((k+1:Nat):Int),.bool true]))):= .inl ⟨Ac,by rw[hx];exact h,by
     have:Iu s[k]=10:=by unfold Iu;rw[if_pos (by rw[hx];exact h2)]
     rw[this];rfl⟩
    have h3:((x:Int)==110)=true:=by simp[h2]
    clear h h2
    go_enter func234,ntmps234
    go_wp2;go_ret3;exact⟨HP.out,rfl⟩
   ·have HP:Hid (jO s k (.returned (.tuple #[.int .u8 x,.int .i64 ((k+1:Nat):Int),.bool true]))):= .inl ⟨Ac,by rw[hx];exact h,by
     have:Iu s[k]=x:=by unfold Iu;rw[if_neg (by rw[hx];exact h2),hx]
     rw[this]⟩
    have h3:((x:Int)==110)=false:=by simp;omega
    clear h h2
    go_enter func234,ntmps234
    go_wp2;go_ret3;exact⟨HP.out,rfl⟩
 ·have AV:(s.size:Int)≤(k:Int):=by omega
  have HP:Hid (jO s k (.returned (.tuple #[.int .u8 0,.int .i64 k,.bool false]))):= .inr ⟨.inl (by omega),rfl⟩
  go_enter func234,ntmps234
  go_wp2;go_ret3;exact⟨HP.out,rfl⟩
def G3(s:ByteArray)(k:Nat)(ba:List UInt8)(m:List Mk)(r:List UInt8)(e:Ending):Prop:=
 (∃(q:Mk)(m':List Mk)(n:Nat),m=q::m'∧(q.p && EG q.b ba)=false∧q.b<256∧k<n∧n≤s.size∧Ah (s.data.toList.drop n)=(m',r)∧e= .returned (.tuple #[.int .u8 q.b,.int .i64 n,.bool true]))∨
 ((m= []∨∃q m',m=q::m'∧(q.p && EG q.b ba)=true)∧∃n:Nat,e= .returned (.tuple #[.int .u8 0,.int .i64 n,.bool false])∧k≤n∧n≤k+1)
theorem G4(s:ByteArray)(k:Nat)(ba:ByteArray)(m:List Mk)(r:List UInt8)(w:World)(hs:s.size≤maxLen)(hk:k≤s.size)(jP:ba.size≤maxLen)(Fa:EG 47 ba.data.toList=true)(hm:Ah (s.data.toList.drop k)=(m,r)):
  Calls prog 211 #[.string s,.int .i64 k,.string ba] w fun e w'=>G3 s k ba.data.toList m r e∧w'=w:=by
 have h0:¬(k:Int)<0:=by omega
 have eB:=γ Fa;have HM:=γ hm;clear Fa hm
 by_cases Ac:k<s.size
 ·have AV:¬(s.size:Int)≤(k:Int):=by omega
  have E7:(k:Int)<(s.size:Int):=by omega
  have Kb:Hid (Ah (s[k]::s.data.toList.drop (k+1))=(m,r)):=by rw[←Ap s k Ac];exact HM.out
  obtain⟨x,hx⟩ :∃x:Nat,s[k].toNat=x:=⟨_,rfl⟩
  have FT:x<256:=by rw[←hx];exact s[k].toNat_lt
  by_cases h:x=92
  ·have h1:((x:Int)==92)=true:=by simp[h]
   have OM:=hs;unfold maxLen at OM;have HX:Hid (s[k].toNat=92):=by rw[hx];exact h
   clear h
   go_enter func211,ntmps211
   go_wp2_with fail
   have HC:=TM s (k+1) w hs (by omega);rw[show((k+1:Nat):Int)=(k:Int)+1 from rfl]at HC;refine HC.mono ?_;clear HC;rintro e w' ⟨⟨TN,Ff,rfl⟩ | ⟨hf,rfl⟩,rfl⟩
   ·have HP:Hid (G3 s k ba.data.toList m r (.returned (.tuple #[.int .u8 (Iu s[k+1]),.int .i64 ((k+1+1:Nat):Int),.bool true]))):=by
     have h2:=Kb.out;rw[Ap s (k+1) TN,U1 _ _ _ HX.out Ff]at h2;simp only[KG,Prod.mk.injEq]at h2;refine .inl ⟨_,_,k+1+1,h2.1.symm,rfl,?_,by omega,by omega,?_,rfl⟩
     ·show Iu _<256
      unfold Iu;have:=s[k+1].toNat_lt;split<;>omega
     ·rw[←h2.2]
    clear Ff;generalize Iu s[k+1]=y at*;go_wp2;go_ret3;exact⟨HP.out,rfl⟩
   ·have HP:Hid (G3 s k ba.data.toList m r (.returned (.tuple #[.int .u8 0,.int .i64 ((k+1:Nat):Int),.bool false]))):=by
     have h2:=Kb.out;refine .inr ⟨.inl ?_,k+1,rfl,by omega,by omega⟩;rcases hf with hf| ⟨hf,Ff⟩
     ·rw[List.drop_of_length_le (by rw[Δ];omega),U2 _ HX.out]at h2
      simp at h2;exact h2.1
     ·rw[Ap s (k+1) hf,UB _ _ _ HX.out Ff]at h2
      simp at h2;exact h2.1
    clear hf;go_wp2;go_ret3;exact⟨HP.out,rfl⟩
  ·have h1:((x:Int)==92)=false:=by simp;omega
   by_cases Ff:x=10
   ·have HP:Hid (G3 s k ba.data.toList m r (.returned (.tuple #[.int .u8 0,.int .i64 (k:Int),.bool false]))):=by
     have h2:=Kb.out;rw[Iv _ _ (.inr (by rw[hx];exact Ff))]at h2;simp at h2;exact .inr ⟨.inl h2.1,k,rfl,by omega,by omega⟩
    have h3:((x:Int)==10)=true:=by simp[Ff]
    clear h Ff;unfold maxLen at hs
    go_enter func211,ntmps211
    go_wp2;go_ret3;exact⟨HP.out,rfl⟩
   ·have h3:((x:Int)==10)=false:=by simp;omega
    have HN:Hid (x≠92∧x≠10):=⟨h,Ff⟩
    clear h Ff;have OM:=hs;unfold maxLen at hs
    go_enter func211,ntmps211
    go_wp2_with fail
    refine(Wv x ba w jP FT).mono ?_;rintro e w' ⟨rfl,rfl⟩;cases S5:EG x ba.data.toList
    ·have HP:Hid (G3 s k ba.data.toList m r (.returned (.tuple #[.int .u8 x,.int .i64 ((k+1:Nat):Int),.bool true]))):=by
      have h2:=Kb.out;have n47:x≠47:=fun e=>by rw[e,eB.out]at S5;cases S5
      rw[Iw _ _ (by rw[hx];exact n47) (by rw[hx];exact HN.out.2) (by rw[hx];exact HN.out.1)]at h2;simp only[KG,Prod.mk.injEq]at h2;refine .inl ⟨⟨x,true⟩,(Ah (s.data.toList.drop (k+1))).1,k+1,?_,?_,FT,by omega,by omega,?_,rfl⟩
      ·rw[←h2.1,hx]
      ·rw[Bool.true_and];exact S5
      ·rw[←h2.2]
     clear S5;go_wp2;go_ret3;exact⟨HP.out,rfl⟩
    ·have HP:Hid (G3 s k ba.data.toList m r (.returned (.tuple #[.int .u8 0,.int .i64 (k:Int),.bool false]))):=by
      have h2:=Kb.out;refine .inr ⟨?_,k,rfl,by omega,by omega⟩
      by_cases n47:x=47
      ·rw[Iv _ _ (.inl (by rw[hx];exact n47))]at h2
       simp at h2;exact .inl h2.1
      ·rw[Iw _ _ (by rw[hx];exact n47) (by rw[hx];exact HN.out.2) (by rw[hx];exact HN.out.1)]at h2
       simp only[KG,Prod.mk.injEq]at h2;refine .inr ⟨_,_,h2.1.symm,?_⟩;show(true && EG s[k].toNat _)=true;rw[Bool.true_and,hx];exact S5
     clear S5;go_wp2;go_ret3;exact⟨HP.out,rfl⟩
 ·have AV:(s.size:Int)≤(k:Int):=by omega
  have HP:Hid (G3 s k ba.data.toList m r (.returned (.tuple #[.int .u8 0,.int .i64 (k:Int),.bool false]))):=by
   have h2:=HM.out;rw[List.drop_of_length_le (by rw[Δ];omega),Ah]at h2;simp at h2;exact .inr ⟨.inl h2.1,k,rfl,by omega,by omega⟩
  unfold maxLen at hs
  go_enter func211,ntmps211
  go_wp2;go_ret3;exact⟨HP.out,rfl⟩
theorem Kd(s:ByteArray)(k:Nat)(m:List Mk)(r:List UInt8)(w:World)(hs:s.size≤maxLen)(hk:k≤s.size)(hm:Ah (s.data.toList.drop k)=(m,r)):
  Calls prog 244 #[.string s,.int .i64 k] w fun e w'=>G3 s k [47,93,45] m r e∧w'=w:=by
 have HM:=γ hm;clear hm
 go_enter func244,ntmps244
 go_wp2_with fail
 refine(G4 s k _ m r w hs hk (by unfold maxLen;decide) (by decide) HM.out).mono ?_;rintro e w' ⟨hb,rfl⟩;have eC:G3 s k [47,93,45] m r e:=hb;clear hb;have HB:=γ eC;rcases eC with⟨q,m',n,-,-,hq,Ez,hn,-,rfl⟩ | ⟨-,n,rfl,NC,NN⟩
 all_goals
  clear HM;unfold maxLen at hs;go_wp2;go_ret3;exact⟨HB.out,rfl⟩
theorem Qh(q:Mk)(Fa:q.is 47=false):(q.p && EG q.b [47,93,45])=(q.is 93 || q.is 45):=by
 obtain⟨b,p⟩ :=q;cases p
 ·rfl
 ·simp[Mk.is]at Fa
  simp only[Mk.is,EG,Bool.true_and,List.any_cons,List.any_nil,Bool.or_false];have e1:((47:UInt8).toNat==b)=false:=by simp;omega
  have e2:((93:UInt8).toNat==b)=(b==93):=by
   show(93==b)=_;rw[Bool.eq_iff_iff];simp;omega
  have e3:((45:UInt8).toNat==b)=(b==45):=by
   show(45==b)=_;rw[Bool.eq_iff_iff];simp;omega
  rw[e1,e2,e3,Bool.false_or]
theorem eD(t:List UInt8):∀q∈(Ah t).1,q.is 47=false:=by
 match t with
 | []=>intro q h;simp[Ah]at h
 | [c]=>
   intro q h;rw[Ah]at h;split at h
   ·simp at h
   ·rename_i hc
    simp at h;rw[h];show(true && c.toNat==47)=false;simp;omega
 |c::d::t=>
  intro q h;rw[Ah]at h;split at h
  ·simp at h
  ·rename_i hc
   split at h
   ·split at h
    ·simp at h
    ·simp[KG]at h
     rcases h with h|h
     ·rw[h];rfl
     ·exact eD t q h
   ·simp[KG]at h
    rcases h with h|h
    ·rw[h]
     show(true && c.toNat==47)=false;simp;omega
    ·exact eD (d::t) q h
theorem E8{fn:Func}{t u v x:Tmp}(h:fn.results= #[.tmp t,.tmp u,.tmp v,.tmp x])(tmps:Array Value)(P:Program)(w:World):
  (results fn tmps).run P w= .ok (.tuple #[tmps.getD t undef,tmps.getD u undef,tmps.getD v undef,tmps.getD x undef]) w:=by
 simp[results,h]
def Ja(s:ByteArray)(k:Nat)(m:List Mk)(r:List UInt8)(e:Ending):Prop:=
 (∃(lo hi:Nat)(m':List Mk)(n:Nat),Di m=some (lo,hi,m')∧lo<256∧hi<256∧k<n∧n≤s.size∧Ah (s.data.toList.drop n)=(m',r)∧e= .returned (.tuple #[.int .u8 lo,.int .u8 hi,.int .i64 n,.bool true]))∨
 (Di m=none∧∃n:Nat,e= .returned (.tuple #[.int .u8 0,.int .u8 0,.int .i64 n,.bool false])∧k≤n∧n≤k+1)
theorem Oe(q:Mk)(m:List Mk)(h:(q.is 93 || q.is 45)=true):Di (q::m)=none:=by
 match m with
 | []=>rw[Di,if_pos h]
 | [d]=>rw[Di,if_pos h]
 |d::e::v=>rw[Di,if_pos h]
theorem Q8(q:Mk)(m:List Mk)(h:(q.is 93 || q.is 45)=false)(hd:Dh m 45=false):Di (q::m)=some (q.b,q.b,m):=by
 match m with
 | []=>rw[Di,h];rfl
 | [d]=>
   have:d.is 45=false:=hd;rw[Di,h,this];rfl
 |d::e::v=>
  have:d.is 45=false:=hd;rw[Di,h,this];rfl
theorem Ke(q d:Mk)(m:List Mk)(h:(q.is 93 || q.is 45)=false)(hd:d.is 45=true):Di (q::d::m)=match m with
  | []=>none
  |f::v=>if f.is 93 || f.is 45 || decide (f.b<q.b)then none else some (q.b,f.b,v):=by
 match m with
 | []=>rw[Di,h,hd];rfl
 |f::v=>rw[Di,h,hd];rfl
theorem Iz(s:ByteArray)(k:Nat)(m:List Mk)(r:List UInt8)(w:World)(hs:s.size≤maxLen)(hk:k≤s.size)(hm:Ah (s.data.toList.drop k)=(m,r)):
  Calls prog 232 #[.string s,.int .i64 k] w fun e w'=>Ja s k m r e∧w'=w:=by
 have HM:=γ hm;have eB:Hid (∀q∈m,q.is 47=false):=fun q hq=>eD (s.data.toList.drop k) q (by rw[hm];exact hq)
 clear hm;have OM:=hs;unfold maxLen at OM
 go_enter func232,ntmps232
 go_wp2_with fail
 refine(Kd s k m r w hs hk HM.out).mono ?_;rintro e w' ⟨⟨q,m1,n,rfl,hq,NP,Ez,hn,LW,rfl⟩ | ⟨CQ,n,rfl,NC,NN⟩,rfl⟩
 ·rw[Qh q (eB.out q (by simp))]at hq
  have HQ:=γ hq;have Of:=γ LW;clear hq LW HM;obtain⟨BZ,jQ⟩ :=JY _ 45 _ _ Of.out (by decide) (by decide) (by decide);have CR:=γ BZ;have U8:=γ jQ;clear BZ jQ;obtain⟨x,hx⟩ :∃x,q.b=x:=⟨_,rfl⟩
  rw[hx]at NP⊢;have HX:=γ hx;clear hx
  go_wp2_with fail
  refine(AY s n 45 _ hs hn (by decide)).mono ?_;rintro e w2 ⟨rfl,rfl⟩;cases hb:CH (s.data.toList.drop n) 45
  ·have HP:Hid (Ja s k (q::m1) r (.returned (.tuple #[.int .u8 x,.int .u8 x,.int .i64 n,.bool true]))):= .inl ⟨q.b,q.b,m1,n,Q8 q m1 HQ.out (by rw[←CR.out];exact hb),by rw[HX.out];exact NP,by rw[HX.out];exact NP,Ez,hn,Of.out,by rw[HX.out]⟩
   clear hb;go_wp2
   (try simp only[Exit.inBlock,Exit.then])
   refine bodyPost_ret (E8 rfl _ _ _) rfl ?_;exact⟨HP.out,rfl⟩
  ·obtain⟨d,m2,rfl,Q3⟩ :=U8.out hb
   have HD:Hid (d.is 45=true):=by show _=_;rw[←hb,CR.out];rfl
   rw[List.drop_drop]at Q3;have NC:n+1≤s.size:=by
    refine Nat.lt_of_not_le fun h=> ?_
    rw[List.drop_of_length_le (by rw[Δ];omega)]at hb;cases hb
   have Kb:=γ Q3;clear Q3 hb CR U8 Of
   go_wp2_with fail
   have HC:=Kd s (n+1) m2 r w2 hs NC Kb.out;rw[show((n+1:Nat):Int)=(n:Int)+1 from rfl]at HC;refine HC.mono ?_;clear HC;rintro e w3 ⟨⟨f,m3,n3,rfl,hf,hf2,AE0,cP,Q9,rfl⟩ | ⟨CQ,n3,rfl,AE1,AE2⟩,rfl⟩
   ·rw[Qh f (eB.out f (by simp))]at hf
    obtain⟨y,hy⟩ :∃y,f.b=y:=⟨_,rfl⟩
    rw[hy]at hf2⊢;have HY:=γ hy;have HF:=γ hf;have wF:=γ Q9;clear hy hf Q9
    by_cases Ac:y<x
    ·have HP:Hid (Ja s k (q::d::f::m3) r (.returned (.tuple #[.int .u8 0,.int .u8 0,.int .i64 k,.bool false]))):= .inr ⟨by
      rw[Ke q d _ HQ.out HD.out];show(if(f.is 93 || f.is 45 || decide (f.b<q.b))=true then none else some (q.b,f.b,m3))=none;rw[HF.out,HX.out,HY.out,decide_eq_true Ac];rfl,k,rfl,by omega,by omega⟩
     have AV:(y:Int)<(x:Int):=by omega
     go_wp2
     (try simp only[Exit.inBlock,Exit.then])
     refine bodyPost_ret (E8 rfl _ _ _) rfl ?_;exact⟨HP.out,rfl⟩
    ·have HP:Hid (Ja s k (q::d::f::m3) r (.returned (.tuple #[.int .u8 x,.int .u8 y,.int .i64 n3,.bool true]))):= .inl ⟨x,y,m3,n3,by
      rw[Ke q d _ HQ.out HD.out];show(if(f.is 93 || f.is 45 || decide (f.b<q.b))=true then none else some (q.b,f.b,m3))=_;rw[HF.out,HX.out,HY.out,decide_eq_false Ac];rfl,NP,hf2,by omega,cP,wF.out,rfl⟩
     have AV:¬(y:Int)<(x:Int):=by omega
     go_wp2
     (try simp only[Exit.inBlock,Exit.then])
     refine bodyPost_ret (E8 rfl _ _ _) rfl ?_;exact⟨HP.out,rfl⟩
   ·have HP:Hid (Ja s k (q::d::m2) r (.returned (.tuple #[.int .u8 0,.int .u8 0,.int .i64 k,.bool false]))):= .inr ⟨by
     rw[Ke q d _ HQ.out HD.out];rcases CQ with rfl| ⟨f,v,rfl,hf⟩
     ·rfl
     ·rw[Qh f (eB.out f (by simp))]at hf
      show(if(f.is 93 || f.is 45 || decide (f.b<q.b))=true then none else some (q.b,f.b,v))=none;rw[hf];rfl,k,rfl,by omega,by omega⟩
    clear CQ;go_wp2
    (try simp only[Exit.inBlock,Exit.then])
    refine bodyPost_ret (E8 rfl _ _ _) rfl ?_;exact⟨HP.out,rfl⟩
 ·have HP:Hid (Ja s k m r (.returned (.tuple #[.int .u8 0,.int .u8 0,.int .i64 n,.bool false]))):= .inr ⟨by
   rcases CQ with rfl| ⟨q,v,rfl,hq⟩
   ·rfl
   ·rw[Qh q (eB.out q (by simp))]at hq
    exact Oe q v hq,n,rfl,NC,NN⟩
  clear CQ HM;go_wp2
  (try simp only[Exit.inBlock,Exit.then])
  refine bodyPost_ret (E8 rfl _ _ _) rfl ?_;exact⟨HP.out,rfl⟩
structure BR(w:World)(g n:Nat)(f:Nat→Bool):Prop where
 lt:g<w.heap.size
 c:∀i,i<n→w.cell? ⟨g,i,none⟩ =some (.bool (f i))
 fz:∀i,i<n→w.frozen? ⟨g,i,none⟩ =false
theorem BR.keep{w w':World}{g n:Nat}{f:Nat→Bool}(h:BR w g n f)(hk:w'.heap[g]? =w.heap[g]?)(hs:w.heap.size≤w'.heap.size):BR w' g n f:=
 ⟨by have:=h.lt;omega,fun i hi=>(World.cell?_of_block hk).trans (h.c i hi),fun i hi=>(World.frozen?_of_block hk).trans (h.fz i hi)⟩
theorem BR.below{w w':World}{g n B:Nat}{f:Nat→Bool}(h:BR w g n f)(hb:Below B w w')(hg:g<B):BR w' g n f:=h.keep (hb.block g hg) hb.size
theorem BR.congr{w:World}{g n:Nat}{f f':Nat→Bool}(h:BR w g n f)(e:∀i,i<n→f i=f' i):BR w g n f':=
 ⟨h.lt,fun i hi=>by rw[←e i hi];exact h.c i hi,h.fz⟩
theorem BR.set{w:World}{g n:Nat}{f:Nat→Bool}(h:BR w g n f)(q:Nat)(hq:q<n)(b:Bool):BR (w.setCell ⟨g,q,none⟩ (.bool b)) g n (fun i=>if i=q then b else f i):=by
 refine⟨by simpa using h.lt,fun i hi=> ?_,fun i hi=>by simpa using h.fz i hi⟩
 by_cases QG:i=q
 ·subst QG
  rw[if_pos rfl];exact World.cell?_setCell_same' _ _ _ (by rw[h.c i hi];rfl)
 ·rw[if_neg QG]
  rw[World.cell?_setCell_other _ _ _ _ (fun e=>QG (congrArg Addr.off e).symm)];exact h.c i hi
theorem BR.drew{w:World}{g n:Nat}{f:Nat→Bool}(h:BR w g n f):BR w.drew g n f:=h.keep rfl δ
structure AQ(b:Nat)(w w':World):Prop where
 os:w'.os=w.os
 tape:w'.tape=w.tape
 output:w'.output=w.output
 size:w'.heap.size=w.heap.size
 block:∀k,k≠b→w'.heap[k]? =w.heap[k]?
theorem AQ.refl(b:Nat)(w:World):AQ b w w:=⟨rfl,rfl,rfl,rfl,fun _ _=>rfl⟩
theorem AQ.trans{b:Nat}{w1 w2 w3:World}(h:AQ b w1 w2)(g:AQ b w2 w3):AQ b w1 w3:=⟨g.os.trans h.os,g.tape.trans h.tape,g.output.trans h.output,g.size.trans h.size,fun k hk=>(g.block k hk).trans (h.block k hk)⟩
theorem AQ.below{b B:Nat}{w w':World}(h:AQ b w w')(hB:B≤b):Below B w w':=⟨h.os,h.tape,h.output,by rw[h.size];exact δ,fun k hk=>h.block k (by omega)⟩
theorem AQ.set(b o:Nat)(u:Value)(w:World):AQ b w (w.setCell ⟨b,o,none⟩ u):=⟨rfl,rfl,rfl,by simp,fun k hk=>heap_setCell_other w _ k u hk⟩
theorem AQ.drew{b:Nat}{w w':World}(h:AQ b w w'):AQ b w w'.drew:=⟨h.os,h.tape,h.output,h.size,h.block⟩
def p7(lo hi:Nat)(f:Nat→Bool):Nat→Bool:=fun i=>if lo≤i∧i≤hi then true else f i
theorem Ww(b lo hi:Nat)(f:Nat→Bool)(w:World)(h:BR w b 257 f)(Pl:lo<256)(ZE:hi<256):
  Calls prog 233 #[.pointer (some ⟨b,0,none⟩),.int .u8 lo,.int .u8 hi] w fun e w'=>e= .returned (.tuple #[])∧BR w' b 257 (p7 lo hi f)∧AQ b w w':=by
 go_enter func233,ntmps233
 go_wp2
 go_loopw [6] (fun i' wr=>∃i:Nat,lo≤i∧i≤256∧(i≤hi+1∨i=lo)∧i'= .int .i64 i∧Hid (BR wr b 257 (fun q=>if lo≤q∧q<i then true else f q)∧AQ b w wr)) (fun i' _=>256 - (intOf i').toNat)
 case atStart=>exact⟨lo,δ,by omega,.inr rfl,rfl,h.congr (fun i _=>by rw[if_neg (by omega)]),AQ.refl _ _⟩
 case round=>
  obtain⟨i,h1,h2,h3,rfl,HB⟩ :=hrel
  by_cases Ac:i≤hi
  ·have AV:(i:Int)≤(hi:Int):=by omega
   have E7:(i:Int)<256:=by omega
   have hc:=HB.out.1.c i (by omega);have hf:=HB.out.1.fz i (by omega);go_wp2
   go_round
   case rel=>exact⟨i+1,by omega,by omega,.inl (by omega),by go_num,(HB.out.1.set i (by omega) true).congr (fun q _=>by
    by_cases e:q=i
    ·rw[if_pos e,if_pos (by omega)]
    ·rw[if_neg e]
     by_cases e2:lo≤q∧q<i
     ·rw[if_pos e2,if_pos (by omega)]
     ·rw[if_neg e2,if_neg (by omega)]),HB.out.2.trans (AQ.set _ _ _ _)⟩
   case measure=>simp[intOf];omega
  ·have AV:¬(i:Int)≤(hi:Int):=by omega
   go_wp2
   go_end0
   refine⟨rfl,HB.out.1.congr (fun q _=> ?_),HB.out.2⟩;unfold p7
   by_cases e2:lo≤q∧q<i
   ·rw[if_pos e2,if_pos (by omega)]
   ·rw[if_neg e2,if_neg (by omega)]
def Wx(f:Nat→Bool):Nat→Bool:=fun i=>if i<256 then !f i else f i
theorem RA(b:Nat)(f:Nat→Bool)(w:World)(h:BR w b 257 f):
  Calls prog 210 #[.pointer (some ⟨b,0,none⟩)] w fun e w'=>e= .returned (.tuple #[])∧BR w' b 257 (Wx f)∧AQ b w w':=by
 go_enter func210,ntmps210
 go_wp2
 go_loopw [3] (fun i' wr=>∃i:Nat,i≤256∧i'= .int .i64 i∧Hid (BR wr b 257 (fun q=>if q<i then !f q else f q)∧AQ b w wr)) (fun i' _=>256 - (intOf i').toNat)
 case atStart=>exact⟨0,by omega,rfl,h.congr (fun i _=>by rw[if_neg (by omega)]),AQ.refl _ _⟩
 case round=>
  obtain⟨i,h2,rfl,HB⟩ :=hrel
  by_cases Ac:i<256
  ·have E7:(i:Int)<256:=by omega
   have hc:=HB.out.1.c i (by omega);have hf:=HB.out.1.fz i (by omega);rw[if_neg (Nat.lt_irrefl _)]at hc
   go_wp2_with fail
   go_region
   go_wp2
   go_round
   case rel=>exact⟨i+1,by omega,by go_num,(HB.out.1.drew.set i (by omega) (!f i)).congr (fun q _=>by
    by_cases e:q=i
    ·rw[if_pos e,if_pos (by omega),e]
    ·rw[if_neg e]
     by_cases e2:q<i
     ·rw[if_pos e2,if_pos (by omega)]
     ·rw[if_neg e2,if_neg (by omega)]),HB.out.2.drew.trans (AQ.set _ _ _ _)⟩
   case measure=>simp[intOf];omega
  ·obtain rfl:i=256:=by omega
   go_wp2
   go_end0
   exact⟨rfl,HB.out.1,HB.out.2⟩
theorem Jb:(prog.info? 211).map (fun i=>(i.zero,i.size))=some (some (.agg (Array.replicate 257 (.bool false))),257):=by kernel_rfl
theorem jR:∃fs,prog.underlying 211=some (.struct fs):=⟨_,underlying211⟩
def bC(n:Nat)(f:Nat→Bool):List Value:=(List.range n).map (fun i=> .bool (f i))
theorem GR(n:Nat)(f:Nat→Bool):(bC n f).length=n:=by simp[bC]
theorem Zf(n:Nat)(f:Nat→Bool)(i:Nat)(h:i<n):(bC n f)[i]? =some (.bool (f i)):=by simp[bC,h]
theorem Zg(n:Nat)(f:Nat→Bool):∀v∈bC n f,v.oneCell'=true:=by
 intro v hv;simp[bC]at hv;obtain⟨a,_,rfl⟩ :=hv
 rfl
theorem jS(n:Nat)(f g:Nat→Bool)(h:∀i,i<n→f i=g i):bC n f=bC n g:=by
 unfold bC;apply List.map_congr_left;intro i hi;rw[h i (by simpa using hi)]
def JT(f:Nat→Bool):Value:= .agg (bC 257 f).toArray
theorem BR.range{w:World}{g n:Nat}{f:Nat→Bool}(h:BR w g n f):w.rangeAt g 0 (bC n f):=fun j v hv=>by
 have hj:j<n:=by have:=(List.getElem?_eq_some_iff.1 hv).1;rwa [GR]at this
 rw[Zf n f j hj]at hv;rw[Nat.zero_add,h.c j hj];exact hv
theorem BR.there{w:World}{g n:Nat}{f:Nat→Bool}(h:BR w g n f):w.there g 0 n:=fun j hj=>by
 rw[Nat.zero_add];exact⟨by rw[h.c j hj];rfl,h.fz j hj⟩
theorem Lp(b:Nat)(vs:List Value):∀(o:Nat)(w:World)(k:Nat),k≠b→(w.setCells b o vs).heap[k]? =w.heap[k]? :=by
 induction vs with
 |nil=>intro o w k h;rfl
 |cons v vs ih=>
  intro o w k h;rw[World.setCells,ih _ _ k h];exact heap_setCell_other w _ k v h
theorem G5(b:Nat)(vs:List Value):∀(o:Nat)(w:World),(w.setCells b o vs).os=w.os∧(w.setCells b o vs).tape=w.tape∧(w.setCells b o vs).output=w.output∧(w.setCells b o vs).heap.size=w.heap.size:=by
 induction vs with
 |nil=>intro o w;exact⟨rfl,rfl,rfl,rfl⟩
 |cons v vs ih=>
  intro o w;rw[World.setCells];obtain⟨h1,h2,h3,h4⟩ :=ih (o+1) (w.setCell ⟨b,o,none⟩ v);exact⟨h1,h2,h3,by rw[h4];simp⟩
theorem AQ.setCells(b o:Nat)(vs:List Value)(w:World):AQ b w (w.setCells b o vs):=by
 obtain⟨h1,h2,h3,h4⟩ :=G5 b vs o w;exact⟨h1,h2,h3,h4,fun k hk=>Lp b vs o w k hk⟩
theorem BR.store{w:World}{g n:Nat}{f:Nat→Bool}(h:BR w g n f)(f':Nat→Bool):BR (w.setCells g 0 (bC n f')) g n f':=by
 have ht:=h.there;have hr:=World.rangeAt_setCells_same w g 0 (bC n f') (by rw[GR];exact ht);refine⟨by rw[(G5 g _ 0 w).2.2.2];exact h.lt,fun i hi=> ?_,fun i hi=> ?_⟩
 ·have:=hr i _ (Zf n f' i hi)
  rwa [Nat.zero_add]at this
 ·rw[World.frozen?_setCells];exact h.fz i hi
theorem BR.new(w:World)(t:TypeId)(n:Nat):BR (w.alloc (.cells (Array.replicate n (.bool false)) t)) w.heap.size n (fun _=>false):=by
 refine⟨by simp,fun i hi=> ?_,fun i hi=> ?_⟩
 ·rw[cell_of_row _ _ _ _ _ _ (heap_alloc_new w _)]
  simp[hi]
 ·simp[go_sem]
theorem BR.load{w:World}{g:Nat}{f:Nat→Bool}(h:BR w g 257 f):(loadVar 211 ⟨g,0,none⟩).run prog w= .ok (JT f) w:=by
 obtain⟨fs,hu⟩ :=jR;exact run_loadVar_mid w g 0 _ (bC 257 f) _ h.range hu rfl (by rw[GR];exact(zero_of_info Jb).2)
theorem Bf{fn:Func}{p u v:Tmp}(h:fn.results= #[.cell p 211,.tmp u,.tmp v])(tmps:Array Value)(w:World)(g:Nat)(f:Nat→Bool)(hp:tmps.getD p undef= .pointer (some ⟨g,0,none⟩))(hb:BR w g 257 f):
  (results fn tmps).run prog w= .ok (.tuple #[JT f,tmps.getD u undef,tmps.getD v undef]) w:=by
 have wG:tmps[p]?.getD undef= .pointer (some ⟨g,0,none⟩):=by simpa using hp
 simp[results,h,wG,asAddr,hb.load,Result.andThen]
theorem E9{ops:Array Oper}{rest:List Oper}{op:Oper}{a:Act}{w:World}{Q:Exit→Act→World→Prop}{g:Nat}{f:Nat→Bool}(hb:BR w g 257 f)(Fv:op.guard=none)(x:Operand)(ho:op.op= .load 211 x)(hx:a.eval x= .pointer (some ⟨g,0,none⟩))
  (h:wpList prog ops Q rest (a.put op.dst (JT f)) w):wpList prog ops Q (op::rest) a w:=by
 obtain⟨fs,hu⟩ :=jR;exact wpList_load_mid Fv _ x ho g 0 hx (bC 257 f) _ hb.range hu rfl (by rw[GR];exact(zero_of_info Jb).2) h
theorem CT{ops:Array Oper}{rest:List Oper}{op:Oper}{a:Act}{w:World}{Q:Exit→Act→World→Prop}{g:Nat}{f:Nat→Bool}(hb:BR w g 257 f)(Fv:op.guard=none)(x y:Operand)(ho:op.op= .store 211 x y)(hx:a.eval x= .pointer (some ⟨g,0,none⟩))(f':Nat→Bool)(hy:a.eval y=JT f')
  (h:∀w',BR w' g 257 f'→AQ g w w'→wpList prog ops Q rest (a.put op.dst undef) w'):wpList prog ops Q (op::rest) a w:=by
 have:=h _ (hb.store f') (AQ.setCells g 0 (bC 257 f') w);exact wpList_store_mid Fv _ x y ho g 0 (bC 257 f').toArray hx hy (by rw[List.size_toArray,GR];exact hb.there) (by rw[List.size_toArray,GR];exact(zero_of_info Jb).2) (all_oneCell_toArray (Zg _ _)) this
def IQ(x:It):Nat→Bool:=fun i=>if i=256 then x.star else Fe x i
theorem LX{f g:Nat→Bool}(h:∀i,i<257→f i=g i):JT f=JT g:=by unfold JT;rw[jS 257 f g h]
theorem zeroV:(.agg (Array.replicate 257 (.bool false)):Value)=JT (fun _=>false):=by
 unfold JT bC
 congr 1
def U9(acc:List (Nat×Nat)):Nat→Bool:=fun i=>if i=256 then false else acc.any (fun r=>decide (r.1≤i) && decide (i≤r.2))
theorem eE(acc:List (Nat×Nat))(lo hi:Nat)(ZE:hi<256)(i:Nat):p7 lo hi (U9 acc) i=U9 (acc++ [(lo,hi)]) i:=by
 unfold p7 U9
 by_cases e:i=256
 ·rw[if_neg (by omega),if_pos e,if_pos e]
 ·rw[if_neg e,if_neg e,List.any_append]
  by_cases e2:lo≤i∧i≤hi
  ·rw[if_pos e2];simp[e2]
  ·rw[if_neg e2]
   have:(decide (lo≤i) && decide (i≤hi))=false:=by
    rw[Bool.eq_false_iff];intro h;simp at h;exact e2 h
   simp[this]
theorem p8(acc:List (Nat×Nat))(i:Nat):U9 acc i=IQ ⟨false,false,false,acc⟩ i:=by
 unfold U9 IQ Fe;split
 ·rfl
 ·simp
theorem p9(acc:List (Nat×Nat))(i:Nat)(h:i<257):Wx (U9 acc) i=IQ ⟨false,true,false,acc⟩ i:=by
 unfold Wx U9 IQ Fe
 by_cases e:i=256
 ·subst e;rfl
 ·rw[if_pos (by omega),if_neg e,if_neg e];simp
def NQ(s:ByteArray)(k:Nat)(m:List Mk)(r:List UInt8)(e:Ending):Prop:=
 (∃(no:Bool)(acc:List (Nat×Nat))(m':List Mk)(n:Nat),Ey m=some (no,acc,m')∧k<n∧n≤s.size∧Ah (s.data.toList.drop n)=(m',r)∧e= .returned (.tuple #[JT (IQ ⟨false,no,false,acc⟩),.int .i64 n,.bool true]))∨
 (Ey m=none∧e= .returned (.tuple #[JT (fun _=>false),.int .i64 k,.bool false]))
theorem VA(m:List Mk)(VB:Bool)(h:VB=Dh m 94):Ey m=(υ (if VB then m.drop 1 else m) []).map (fun r=>(VB,r.1,r.2)):=by
 match m with
 | []=>subst h;rfl
 |d::u=>
  have e:VB=d.is 94:=h;show(if d.is 94 then _ else _)=_;rw[←e];cases VB<;>rfl
def cQ(s:ByteArray)(k:Nat)(m:List Mk)(r:List UInt8)(v1 v2 v3 v4:Value):Prop:=
 (∃(lo hi:Nat)(m':List Mk)(n:Nat),Di m=some (lo,hi,m')∧lo<256∧hi<256∧k<n∧n≤s.size∧Ah (s.data.toList.drop n)=(m',r)∧v1= .int .u8 lo∧v2= .int .u8 hi∧v3= .int .i64 n∧v4= .bool true)∨
 (Di m=none∧v1= .int .u8 0∧v2= .int .u8 0∧∃n:Nat,v3= .int .i64 n∧v4= .bool false)
theorem jT{s:ByteArray}{k:Nat}{m:List Mk}{r:List UInt8}{e:Ending}(h:Ja s k m r e):∃v1 v2 v3 v4,e= .returned (.tuple #[v1,v2,v3,v4])∧cQ s k m r v1 v2 v3 v4:=by
 rcases h with⟨lo,hi,m',n,h1,h2,h3,h4,h5,h6,rfl⟩ | ⟨h1,n,rfl,_,_⟩
 ·exact⟨_,_,_,_,rfl,.inl ⟨lo,hi,m',n,h1,h2,h3,h4,h5,h6,rfl,rfl,rfl,rfl⟩⟩
 ·exact⟨_,_,_,_,rfl,.inr ⟨h1,rfl,rfl,n,rfl,rfl⟩⟩
theorem Jc(m:List Mk)(acc:List (Nat×Nat))(h:Di m=none):(Dh m 93=true→acc≠ []→∀k m',m=k::m'→υ m acc=some (acc,m'))∧(Dh m 93=false∨acc= []→υ m acc=none):=by
 have BZ:=E6 m acc;rw[h]at BZ
 match m with
 | []=>exact⟨fun e=>Bool.noConfusion e,fun _=>BZ⟩
 |k::m'=>
  have jQ:υ (k::m') acc=if k.is 93 then(if acc= []then none else some (acc,m'))else none:=BZ;refine⟨fun e ha k2 m2 e2=> ?_,fun e=> ?_⟩
  ·have e':k.is 93=true:=e
   simp at e2;rw[jQ,if_pos e',if_neg ha,e2.2]
  ·rw[jQ]
   rcases e with e|e
   ·have e':k.is 93=false:=e
    rw[e'];rfl
   ·rw[if_pos e];split<;>rfl
theorem BG(s:ByteArray)(k c:Nat)(hb:CH (s.data.toList.drop k) c=true):k+1≤s.size:=by
 refine Nat.lt_of_not_le fun h=> ?_
 rw[List.drop_of_length_le (by rw[Δ];omega)]at hb;cases hb
theorem NS(s:ByteArray)(k:Nat)(m:List Mk)(r:List UInt8)(w:World)(hs:s.size≤maxLen)(hk:k≤s.size)(hm:Ah (s.data.toList.drop k)=(m,r)):
  Calls prog 209 #[.string s,.int .i64 k] w fun e w'=>NQ s k m r e∧Below w.heap.size w w':=by
 obtain⟨Wy,jU⟩ :=JY _ 94 _ _ hm (by decide) (by decide) (by decide);obtain⟨VB,jV⟩ :∃b,CH (s.data.toList.drop k) 94=b:=⟨_,rfl⟩
 have HO:=γ (VA m VB (jV.symm.trans Wy));obtain⟨p,hp⟩ :∃p:Nat,p=if VB then k+1 else k:=⟨_,rfl⟩
 obtain⟨m0,OO⟩ :∃m0:List Mk,m0=if VB then m.drop 1 else m:=⟨_,rfl⟩
 have iV:p≤s.size:=by
  cases VB
  ·rw[hp];exact hk
  ·rw[hp];exact BG s k 94 jV
 have hkp:k≤p:=by rw[hp];cases VB<;>simp
 have HM0:Hid (Ah (s.data.toList.drop p)=(m0,r)):=by
  show _=_;rw[hp,OO];cases VB
  ·exact hm
  ·obtain⟨q,m1,e1,e2⟩ :=jU jV
   rw[List.drop_drop]at e2;rw[e1];exact e2
 rw[←OO]at HO;have HP:=γ hp;have wH:=γ jV;clear Wy jU hm hp OO jV;have OM:=hs;unfold maxLen at OM;have ZF:=(zero_of_info Jb).1;obtain⟨g0,jW⟩ :∃g,w.heap.size=g:=⟨_,rfl⟩
 rw[jW]
 go_enter func209,ntmps209
 go_wp2_with fail
 have Dg:BR (w.alloc (.cells (Array.replicate 257 (.bool false)) 211)) w.heap.size 257 (fun _=>false):=BR.new w _ 257;have B0:Below w.heap.size w (w.alloc (.cells (Array.replicate 257 (.bool false)) 211)):=ζ.alloc δ _;have I0:(w.alloc (.cells (Array.replicate 257 (.bool false)) 211)).heap.size=w.heap.size+1:=by simp
 generalize w.alloc (.cells (Array.replicate 257 (.bool false)) 211)=W0 at*;have ξ:BR (W0.alloc (.cells (Array.replicate 257 (.bool false)) 211)) W0.heap.size 257 (fun _=>false):=BR.new W0 _ 257;have eF:BR (W0.alloc (.cells (Array.replicate 257 (.bool false)) 211)) w.heap.size 257 (fun _=>false):=Dg.below (ζ.alloc δ _) (by omega);have B1:Below w.heap.size w (W0.alloc (.cells (Array.replicate 257 (.bool false)) 211)):=B0.alloc (by omega) _;generalize W0.alloc (.cells (Array.replicate 257 (.bool false)) 211)=W at*;rw[I0]at ξ;rw[jW]at ξ eF B1;clear Dg B0 I0 jW;refine(AY s k 94 _ hs hk (by decide)).mono ?_;rintro e w2 ⟨rfl,rfl⟩;rw[wH.out]
 go_upto_if 19 with fail
 go_cut [8] (fun v wx=>v= .int .i64 p∧wx=w2)
 case first=>
  cases VB
  ·obtain rfl:p=k:=HP.out
   go_wp2
   go_meet
   exact⟨rfl,rfl⟩
  ·obtain rfl:p=k+1:=HP.out
   go_wp2
   go_meet
   exact⟨rfl,rfl⟩
 case rest=>
  obtain⟨rfl,rfl⟩ :=hcut
  go_wp2_with fail
  refine(Iz s p m0 r _ hs iV HM0.out).mono ?_;rintro e w3 ⟨Dt,rfl⟩;obtain⟨v1,v2,v3,v4,rfl,Cw⟩ :=jT Dt;have ZG:=γ Cw;clear Dt Cw
  go_wp2_with fail
  go_loopw [10,11,12,13,14] (fun v10 v11 v12 Zh v14 wr=>∃(n:Nat)(acc:List (Nat×Nat))(m1:List Mk),v10= .int .i64 n∧p≤n∧n≤s.size∧Hid (Ah (s.data.toList.drop n)=(m1,r))∧Hid (υ m0 []=υ m1 acc)∧Hid (acc= []↔n=p)∧Hid (cQ s n m1 r v11 v12 Zh v14)∧BR wr (g0+1) 257 (U9 acc)∧BR wr g0 257 (fun _=>false)∧Below g0 w wr) (fun v10 _ _ _ _ _=>s.size - (intOf v10).toNat)
  case atStart=>
   refine⟨p,[],m0,rfl,δ,iV,HM0,rfl,⟨fun _=>rfl,fun _=>rfl⟩,ZG,ξ.congr (fun i _=> ?_),eF,B1⟩;unfold U9;split<;>rfl
  case round=>
   obtain⟨n,acc,m1,rfl,hpn,TP,Of,HME,HAC,Zi,Og,jX,Br⟩ :=hrel;rcases Zi.out with⟨lo,hi,m2,n2,Kf,Pl,ZE,NN,jY,Q3,rfl,rfl,rfl,rfl⟩ | ⟨Kf,rfl,rfl,n2,rfl,rfl⟩
   ·have Kb:Hid (Ah (s.data.toList.drop n2)=(m2,r)):=Q3
    have ACU:Hid (υ m0 []=υ m2 (acc++ [(lo,hi)])):=by
     show _=_;rw[HME.out,E6 m1,Kf]
    clear Kf Q3 Zi HME
    go_wp2_with fail
    refine(Ww _ lo hi _ _ Og Pl ZE).mono ?_;rintro e w4 ⟨rfl,IU,O4⟩;have ACV:=jX.keep (O4.block _ (by omega)) (by rw[O4.size];exact δ);have B4:=Br.trans (O4.below (B:=g0) (by omega))
    go_wp2_with fail
    refine(Iz s n2 m2 r _ hs jY Kb.out).mono ?_;rintro e w5 ⟨Dt,rfl⟩;obtain⟨x1,x2,x3,x4,rfl,Cw⟩ :=jT Dt;have ACW:=γ Cw;clear Dt Cw
    go_wp2_with fail
    go_roundw
    case rel=>
     exact⟨n2,acc++ [(lo,hi)],m2,rfl,by omega,jY,Kb,ACU,⟨fun e=>absurd e (by simp),fun e=>by omega⟩,ACW,IU.congr (fun i _=>eE acc lo hi ZE i),ACV,B4⟩
    case measure=>simp[intOf];omega
   ·obtain⟨CE,Fw⟩ :=Jc m1 acc Kf
    have Gc:Hid (Dh m1 93=true→acc≠ []→∀k m',m1=k::m'→υ m1 acc=some (acc,m')):=CE;have ER:Hid (Dh m1 93=false∨acc= []→υ m1 acc=none):=Fw;clear CE Fw Kf Zi
    by_cases jZ:n=p
    ·have HF:Hid (NQ s k m r (.returned (.tuple #[JT (fun _=>false),.int .i64 k,.bool false]))):= .inr ⟨by rw[HO.out,HME.out,ER.out (.inr (HAC.out.2 jZ))];rfl,rfl⟩
     have ACX:((n:Int)==(p:Int))=true:=by simp[jZ]
     clear jZ
     go_wp2_with(refine CT jX rfl _ _ rfl rfl (fun _=>false) zeroV ?_;intro w5 BP O5)
     refine bodyPost_ret (Bf rfl _ _ _ _ rfl BP) rfl ?_;exact⟨HF.out,Br.trans (O5.below δ)⟩
    ·have ACX:((n:Int)==(p:Int))=false:=by simp;omega
     have JU:Hid (acc≠ []):=fun e=>jZ (HAC.out.1 e)
     clear jZ
     go_wp2_with fail
     refine(AY s n 93 _ hs TP (by decide)).mono ?_;rintro e w4 ⟨rfl,rfl⟩;obtain⟨Oh,wI⟩ :=JY _ 93 _ _ Of.out (by decide) (by decide) (by decide);cases hb:CH (s.data.toList.drop n) 93
     ·have HF:Hid (NQ s k m r (.returned (.tuple #[JT (fun _=>false),.int .i64 k,.bool false]))):= .inr ⟨by rw[HO.out,HME.out,ER.out (.inl (by rw[←Oh];exact hb))];rfl,rfl⟩
      clear Oh wI hb
      go_wp2_with(refine CT jX rfl _ _ rfl rfl (fun _=>false) zeroV ?_;intro w5 BP O5)
      refine bodyPost_ret (Bf rfl _ _ _ _ rfl BP) rfl ?_;exact⟨HF.out,Br.trans (O5.below δ)⟩
     ·obtain⟨q,m3,hq,Q9⟩ :=wI hb
      have NC:=BG s n 93 hb;rw[List.drop_drop]at Q9;have AAN:Hid (Ey m=some (VB,acc,m3)):=by
       show _=_;rw[HO.out,HME.out,Gc.out (by rw[←Oh];exact hb) JU.out q m3 hq];rfl
      have wF:=γ Q9;clear Oh wI hb hq Q9;cases VB
      ·have HF:Hid (NQ s k m r (.returned (.tuple #[JT (IQ ⟨false,false,false,acc⟩),.int .i64 ((n+1:Nat):Int),.bool true]))):= .inl ⟨false,acc,m3,n+1,AAN.out,by omega,NC,wF.out,rfl⟩
       rw[LX (fun i _=>(p8 acc i).symm)]at HF
       go_wp2_with(first|refine E9 Og rfl _ rfl rfl ?_| (refine CT jX rfl _ _ rfl rfl _ rfl ?_;intro w5 BP O5))
       refine bodyPost_ret (Bf rfl _ _ _ _ rfl BP) rfl ?_;exact⟨HF.out,Br.trans (O5.below δ)⟩
      ·have HF:Hid (NQ s k m r (.returned (.tuple #[JT (IQ ⟨false,true,false,acc⟩),.int .i64 ((n+1:Nat):Int),.bool true]))):= .inl ⟨true,acc,m3,n+1,AAN.out,by omega,NC,wF.out,rfl⟩
       rw[LX (fun i h=>(p9 acc i h).symm)]at HF
       go_wp2_with fail
       refine(RA _ _ _ Og).mono ?_;rintro e w5 ⟨rfl,BP,O5⟩;have ACY:=jX.keep (O5.block _ (by omega)) (by rw[O5.size];exact δ);have B5:=Br.trans (O5.below (B:=g0) (by omega))
       go_wp2_with(first|refine E9 BP rfl _ rfl rfl ?_| (refine CT ACY rfl _ _ rfl rfl _ rfl ?_;intro w6 GN O6))
       refine bodyPost_ret (Bf rfl _ _ _ _ rfl GN) rfl ?_;exact⟨HF.out,B5.trans (O6.below δ)⟩
end Go.Proofs.YtlppphmnegdhoabGreatDoor
