import Derived.Deep.RegionHeld3
import Derived.Deep.DrawnRows
import Derived.Deep.AppendLies
import Derived.Deep.RegionLaw
import Derived.Lib.AppendStr
import Derived.Test.YtlppphmnegdhoabGreatDoorMz3
set_option linter.unusedVariables false
set_option maxRecDepth 100000
set_option maxHeartbeats 4000000
namespace Go.Proofs.YtlppphmnegdhoabGreatDoor
open Go.Proofs.Tryz
open Go.RowKit
open M
def Gs(s:ByteArray)(k:Nat)(m:List Mk)(r:List UInt8)(e:Ending):Prop:=
 (∃(x:It)(m':List Mk)(n:Nat),Bt m=some (x,m')∧k<n∧n≤s.size∧Ah (s.data.toList.drop n)=(m',r)∧e= .returned (.tuple #[JT (IQ x),.int .i64 n,.bool true]))∨
 (Bt m=none∧∃(f:Nat→Bool)(n:Nat),e= .returned (.tuple #[JT f,.int .i64 n,.bool false]))
theorem wJ(i:Nat)(h:i<257):Wx (fun _=>false) i=IQ ⟨true,false,false,[]⟩ i:=by
 unfold Wx IQ Fe
 by_cases e:i=256
 ·subst e;rfl
 ·rw[if_pos (by omega),if_neg e];rfl
theorem wK(c i:Nat)(h:i<257)(hc:c<256):(if i=c then true else false)=IQ ⟨false,false,false,[(c,c)]⟩ i:=by
 unfold IQ Fe
 by_cases e:i=256
 ·rw[if_neg (by omega),if_pos e]
 ·rw[if_neg e]
  by_cases e2:i=c
  ·subst e2;simp
  ·rw[if_neg e2]
   have:(decide (c≤i) && decide (i≤c))=false:=by
    rw[Bool.eq_false_iff];intro h;simp at h;omega
   simp[this]
theorem Wz(q:Mk)(Fa:q.is 47=false)(MG:q.is 91=false)(MH:q.is 46=false):(q.p && EG q.b [47,46,42,91,93,94,36])=(q.is 42 || q.is 93 || q.is 94 || q.is 36):=by
 obtain⟨b,p⟩ :=q;cases p
 ·rfl
 ·simp[Mk.is]at Fa MG MH
  have e:∀c:UInt8,(c.toNat==b)=(b==c.toNat):=fun c=>by
   rw[Bool.eq_iff_iff];simp;exact eq_comm
  simp only[Mk.is,EG,Bool.true_and,List.any_cons,List.any_nil,Bool.or_false,e];have e1:(b==(47:UInt8).toNat)=false:=by simp;omega
  have e2:(b==(46:UInt8).toNat)=false:=by simp;omega
  have e3:(b==(91:UInt8).toNat)=false:=by simp;omega
  rw[e1,e2,e3];show(false || (false || ((b==42) || (false || ((b==93) || ((b==94) || (b==36)))))))=_;simp[Bool.or_assoc]
def uR:List Mk→Option (It×List Mk)
 | []=>none
 |c::t=>if c.is 42 || c.is 93 || c.is 94 || c.is 36 then none else some (⟨false,false,false,[(c.b,c.b)]⟩,t)
theorem VC(m:List Mk)(MG:Dh m 91=false)(MH:Dh m 46=false):Bt m=uR m:=by
 match m,MG,MH with
 | [],_,_=>rfl
 |c::t,MG,MH=>
  have e1:c.is 91=false:=MG;have e2:c.is 46=false:=MH;show(if c.is 46 then _ else if c.is 91 then _ else _)=_;rw[e1,e2];rfl
theorem Qi(c:Mk)(t:List Mk)(h:c.is 91=true):Bt (c::t)=(Ey t).map (fun r=>(⟨false,r.1,false,r.2.1⟩,r.2.2)):=by
 have e:c.is 46=false:=by
  obtain⟨b,p⟩ :=c;cases p
  ·rfl
  ·simp[Mk.is]at h⊢;omega
 show(if c.is 46 then _ else if c.is 91 then _ else _)=_;rw[e,h];rfl
theorem VD(c:Mk)(t:List Mk)(h:c.is 46=true):Bt (c::t)=some (⟨true,false,false,[]⟩,t):=by
 show(if c.is 46 then _ else _)=_;rw[h];rfl
theorem QH(s:ByteArray)(k:Nat)(m:List Mk)(r:List UInt8)(w:World)(hs:s.size≤maxLen)(hk:k≤s.size)(hm:Ah (s.data.toList.drop k)=(m,r)):
  Calls prog 172 #[.string s,.int .i64 k] w fun e w'=>Gs s k m r e∧Below w.heap.size w w':=by
 have HM:=γ hm;have eB:Hid (∀q∈m,q.is 47=false):=fun q hq=>eD (s.data.toList.drop k) q (by rw[hm];exact hq)
 obtain⟨MG,AAO⟩ :=JY _ 91 _ _ hm (by decide) (by decide) (by decide);obtain⟨MH,AAP⟩ :=JY _ 46 _ _ hm (by decide) (by decide) (by decide);have H91:Hid (CH (s.data.toList.drop k) 91=Dh m 91∧(CH (s.data.toList.drop k) 91=true→∃k' m',m=k'::m'∧Ah ((s.data.toList.drop k).drop 1)=(m',r))):=⟨MG,AAO⟩
 have H46:Hid (CH (s.data.toList.drop k) 46=Dh m 46∧(CH (s.data.toList.drop k) 46=true→∃k' m',m=k'::m'∧Ah ((s.data.toList.drop k).drop 1)=(m',r))):=⟨MH,AAP⟩
 clear MG AAO MH AAP hm;have OM:=hs;unfold maxLen at OM;have ZF:=(zero_of_info Jb).1;obtain⟨g0,jW⟩ :∃g,w.heap.size=g:=⟨_,rfl⟩
 rw[jW]
 go_enter func172,ntmps172
 go_wp2_with fail
 have Dg:BR (w.alloc (.cells (Array.replicate 257 (.bool false)) 211)) w.heap.size 257 (fun _=>false):=BR.new w _ 257;have B0:Below w.heap.size w (w.alloc (.cells (Array.replicate 257 (.bool false)) 211)):=ζ.alloc δ _;have I0:(w.alloc (.cells (Array.replicate 257 (.bool false)) 211)).heap.size=w.heap.size+1:=by simp
 generalize w.alloc (.cells (Array.replicate 257 (.bool false)) 211)=W at*;rw[jW]at Dg B0 I0;clear jW;refine(AY s k 91 _ hs hk (by decide)).mono ?_;rintro e w2 ⟨rfl,rfl⟩;cases hb:CH (s.data.toList.drop k) 91
 ·have wL:Hid (Dh m 91=false):=by show _=_;rw[←H91.out.1];exact hb
  clear hb
  go_wp2_with fail
  have ξ:BR (w2.alloc (.cells (Array.replicate 257 (.bool false)) 211)) w2.heap.size 257 (fun _=>false):=BR.new w2 _ 257;have eF:BR (w2.alloc (.cells (Array.replicate 257 (.bool false)) 211)) g0 257 (fun _=>false):=Dg.below (ζ.alloc δ _) (by omega);have B1:Below g0 w (w2.alloc (.cells (Array.replicate 257 (.bool false)) 211)):=B0.alloc (by omega) _;generalize w2.alloc (.cells (Array.replicate 257 (.bool false)) 211)=W at*;rw[I0]at ξ;refine(AY s k 46 _ hs hk (by decide)).mono ?_;rintro e w3 ⟨rfl,rfl⟩;cases CJ:CH (s.data.toList.drop k) 46
  ·have wM:Hid (Dh m 46=false):=by show _=_;rw[←H46.out.1];exact CJ
   have HBB:=γ (VC m wL.out wM.out);clear CJ
   go_wp2_with fail
   refine(G4 s k _ m r _ hs hk (by unfold maxLen;decide) (by decide) HM.out).mono ?_;rintro e w4 ⟨Dt,rfl⟩;have wN:G3 s k [47,46,42,91,93,94,36] m r e:=Dt;clear Dt;rcases wN with⟨q,m',n,rfl,hq,NP,Ez,hn,RB,rfl⟩ | ⟨CQ,n,rfl,NC,NN⟩
   ·rw[Wz q (eB.out q (by simp)) wL.out wM.out]at hq
    obtain⟨x,hx⟩ :∃x,q.b=x:=⟨_,rfl⟩
    have HF:Hid (Gs s k (q::m') r (.returned (.tuple #[JT (IQ ⟨false,false,false,[(x,x)]⟩),.int .i64 n,.bool true]))):= .inl ⟨_,m',n,by
     rw[HBB.out];show(if(q.is 42 || q.is 93 || q.is 94 || q.is 36)=true then none else some ((⟨false,false,false,[(q.b,q.b)]⟩ :It),m'))=_;rw[hq,hx];rfl,Ez,hn,RB,rfl⟩
    rw[hx]at NP⊢;rw[LX (fun i h=>(wK x i h NP).symm)]at HF;clear hx hq RB HBB;have hc:=ξ.c x (by omega);have hf:=ξ.fz x (by omega);have pE:(x:Int)<256:=by omega
    have GN:=ξ.set x (by omega) true;have wO:=eF.keep (heap_setCell_other w4 ⟨g0+1,x,none⟩ g0 (.bool true) (by simp)) (by simp);have O6:=AQ.set (g0+1) x (.bool true) w4
    go_wp2_with(first|refine E9 GN rfl _ rfl rfl ?_| (refine CT wO rfl _ _ rfl rfl _ rfl ?_;intro w7 KH O7))
    refine bodyPost_ret (Bf rfl _ _ _ _ rfl KH) rfl ?_;exact⟨HF.out,(B1.trans (O6.below (by omega))).trans (O7.below δ)⟩
   ·have HF:Hid (Gs s k m r (.returned (.tuple #[JT (fun _=>false),.int .i64 n,.bool false]))):= .inr ⟨by
     rw[HBB.out];rcases CQ with rfl| ⟨q,v,rfl,hq⟩
     ·rfl
     ·rw[Wz q (eB.out q (by simp)) wL.out wM.out]at hq
      show(if(q.is 42 || q.is 93 || q.is 94 || q.is 36)=true then none else some ((⟨false,false,false,[(q.b,q.b)]⟩ :It),v))=none;rw[hq];rfl,_,n,rfl⟩
    clear CQ HBB
    go_wp2_with(first|refine E9 ξ rfl _ rfl rfl ?_| (refine CT eF rfl _ _ rfl rfl _ rfl ?_;intro w7 KH O7))
    refine bodyPost_ret (Bf rfl _ _ _ _ rfl KH) rfl ?_;exact⟨HF.out,B1.trans (O7.below δ)⟩
  ·have EW:=BG s k 46 CJ
   obtain⟨q,m1,rfl,LW⟩ :=H46.out.2 CJ;rw[List.drop_drop]at LW;have HF:Hid (Gs s k (q::m1) r (.returned (.tuple #[JT (IQ ⟨true,false,false,[]⟩),.int .i64 ((k+1:Nat):Int),.bool true]))):= .inl ⟨_,m1,k+1,VD q m1 (by rw[←CJ,H46.out.1];rfl),by omega,EW,LW,rfl⟩;rw[LX (fun i h=>(wJ i h).symm)]at HF;clear CJ LW
   go_wp2_with fail
   refine(RA _ _ _ ξ).mono ?_;rintro e w4 ⟨rfl,IU,O4⟩;have eG:=eF.keep (O4.block _ (by omega)) (by rw[O4.size];exact δ);have B4:=B1.trans (O4.below (B:=g0) (by omega))
   go_wp2_with(first|refine E9 IU rfl _ rfl rfl ?_| (refine CT eG rfl _ _ rfl rfl _ rfl ?_;intro w5 BP O5))
   refine bodyPost_ret (Bf rfl _ _ _ _ rfl BP) rfl ?_;exact⟨HF.out,B4.trans (O5.below δ)⟩
 ·have EW:=BG s k 91 hb
  obtain⟨q,m1,rfl,LW⟩ :=H91.out.2 hb;have HQ:Hid (Bt (q::m1)=(Ey m1).map (fun r=>(⟨false,r.1,false,r.2.1⟩,r.2.2))):=Qi q m1 (by rw[←hb,H91.out.1];rfl);rw[List.drop_drop]at LW;have Of:=γ LW;clear LW H91 H46 hb
  go_wp2_with fail
  have HC:=NS s (k+1) m1 r w2 hs EW Of.out;rw[show((k+1:Nat):Int)=(k:Int)+1 from rfl]at HC;refine HC.mono ?_;clear HC;rintro e w3 ⟨⟨no,acc,m',n,Jd,Ez,hn,RB,rfl⟩ | ⟨Jd,rfl⟩,B3⟩
  ·have HF:Hid (Gs s k (q::m1) r (.returned (.tuple #[JT (IQ ⟨false,no,false,acc⟩),.int .i64 n,.bool true]))):= .inl ⟨_,m',n,by rw[HQ.out,Jd];rfl,by omega,hn,RB,rfl⟩
   clear Jd RB;have CM:=Dg.below B3 (by omega)
   go_wp2_with(refine CT CM rfl _ _ rfl rfl _ rfl ?_;intro w5 BP O5)
   refine bodyPost_ret (Bf rfl _ _ _ _ rfl BP) rfl ?_;exact⟨HF.out,(B0.trans (B3.mono (by omega))).trans (O5.below δ)⟩
  ·have HF:Hid (Gs s k (q::m1) r (.returned (.tuple #[JT (fun _=>false),.int .i64 ((k+1:Nat):Int),.bool false]))):= .inr ⟨by rw[HQ.out,Jd];rfl,_,k+1,rfl⟩
   clear Jd;have CM:=Dg.below B3 (by omega)
   go_wp2_with(refine CT CM rfl _ _ rfl rfl _ rfl ?_;intro w5 BP O5)
   refine bodyPost_ret (Bf rfl _ _ _ _ rfl BP) rfl ?_;exact⟨HF.out,(B0.trans (B3.mono (by omega))).trans (O5.below δ)⟩
def Je(s:ByteArray)(k:Nat)(m:List Mk)(r:List UInt8)(f:Nat→Bool)(v2 v3:Value):Prop:=
 (∃(x:It)(m':List Mk)(n:Nat),Ba m=some (x,m')∧k<n∧n≤s.size∧Ah (s.data.toList.drop n)=(m',r)∧f=IQ x∧v2= .int .i64 n∧v3= .bool true)∨
 (Ba m=none∧∃(n:Nat),v2= .int .i64 n∧v3= .bool false)
theorem NT(m m':List Mk)(x:It)(h:Bt m=some (x,m')):Ba m=some (if Dh m' 42 then(⟨x.any,x.not,true,x.AM⟩,m'.drop 1)else(x,m')):=by
 unfold Ba;rw[h]
 match m' with
 | []=>rfl
 |d::u=>
  show some (Q4 (x,d::u))=some (if d.is 42 then _ else _);unfold Q4
  rfl
theorem eH(m m':List Mk)(x:It)(h:Bt m=some (x,m')):x.star=false:=by
 match m with
 | []=>simp[Bt]at h
 |c::t=>
  have h':(if c.is 46 then some ((⟨true,false,false,[]⟩ :It),t)else if c.is 91 then(Ey t).map (fun r=>((⟨false,r.1,false,r.2.1⟩ :It),r.2.2))else if c.is 42 || c.is 93 || c.is 94 || c.is 36 then none else some (⟨false,false,false,[(c.b,c.b)]⟩,t))=some (x,m'):=h;replace h:=h';clear h';split at h
  ·simp at h;rw[←h.1]
  ·split at h
   ·cases Jd:Ey t with
    |none=>rw[Jd]at h;cases h
    |some p=>rw[Jd]at h;simp at h;rw[←h.1]
   ·split at h
    ·cases h
    ·simp only[Option.some.injEq,Prod.mk.injEq]at h;rw[←h.1]
theorem qA(x:It)(hx:x.star=false)(i:Nat):(if i=256 then true else IQ x i)=IQ ⟨x.any,x.not,true,x.AM⟩ i:=by
 unfold IQ
 by_cases e:i=256
 ·rw[if_pos e,if_pos e]
 ·rw[if_neg e,if_neg e,if_neg e];rfl
theorem Kg(s:ByteArray)(k:Nat)(m:List Mk)(r:List UInt8)(w:World)(hs:s.size≤maxLen)(hk:k≤s.size)(hm:Ah (s.data.toList.drop k)=(m,r)):
  Calls prog 142 #[.string s,.int .i64 k] w fun e w'=>(∃f v2 v3,e= .returned (.tuple #[JT f,v2,v3])∧Je s k m r f v2 v3)∧Below w.heap.size w w':=by
 have HM:=γ hm;clear hm;have OM:=hs;unfold maxLen at OM;have ZF:=(zero_of_info Jb).1;obtain⟨g0,jW⟩ :∃g,w.heap.size=g:=⟨_,rfl⟩
 rw[jW]
 go_enter func142,ntmps142
 go_wp2_with fail
 have Dg:BR (w.alloc (.cells (Array.replicate 257 (.bool false)) 211)) w.heap.size 257 (fun _=>false):=BR.new w _ 257;have B0:Below w.heap.size w (w.alloc (.cells (Array.replicate 257 (.bool false)) 211)):=ζ.alloc δ _;have I0:(w.alloc (.cells (Array.replicate 257 (.bool false)) 211)).heap.size=w.heap.size+1:=by simp
 generalize w.alloc (.cells (Array.replicate 257 (.bool false)) 211)=W at*;rw[jW]at Dg B0 I0;clear jW;refine(QH s k m r W hs hk HM.out).mono ?_;rintro e w2 ⟨Dt,B2⟩;have CJ:=Dg.below B2 (by omega);have QI:=B0.trans (B2.mono (by omega));have ja:g0<w2.heap.size:=CJ.lt;obtain⟨g2,eI⟩ :∃g,w2.heap.size=g:=⟨_,rfl⟩
 have CM:BR (w2.alloc (.cells (Array.replicate 257 (.bool false)) 211)) w2.heap.size 257 (fun _=>false):=BR.new w2 _ 257;have wP:BR (w2.alloc (.cells (Array.replicate 257 (.bool false)) 211)) g0 257 (fun _=>false):=CJ.below (ζ.alloc δ _) (by omega);have B3:Below g0 w (w2.alloc (.cells (Array.replicate 257 (.bool false)) 211)):=QI.alloc (by omega) _;obtain⟨W3,jc⟩ :∃W3,w2.alloc (.cells (Array.replicate 257 (.bool false)) 211)=W3:=⟨_,rfl⟩
 rw[jc]at CM wP B3;rw[eI]at CM;rw[eI]at ja;clear Dg B0 B2 CJ QI;rcases Dt with⟨x,m',n,UD,Ez,hn,RB,rfl⟩ | ⟨UD,f,n,rfl⟩
 ·have HI:Hid (Ba m=some (if Dh m' 42 then(⟨x.any,x.not,true,x.AM⟩,m'.drop 1)else(x,m'))):=NT m m' x UD
  have wQ:=γ (eH m m' x UD);have HM':=γ RB;clear UD RB
  go_wp2_with(refine CT CM rfl _ _ rfl rfl _ rfl ?_;intro w4 IU O4)
  have eG:=wP.keep (O4.block _ (by omega)) (by rw[O4.size];exact δ);have B4:=B3.trans (O4.below (B:=g0) (by omega));refine(AY s n 42 _ hs hn (by decide)).mono ?_;rintro e w5 ⟨rfl,rfl⟩;obtain⟨Zj,eJ⟩ :=JY _ 42 _ _ HM'.out (by decide) (by decide) (by decide);cases hb:CH (s.data.toList.drop n) 42
  ·have HF:Hid (Je s k m r (IQ x) (.int .i64 n) (.bool true)):= .inl ⟨x,m',n,by rw[HI.out,←Zj,hb];rfl,Ez,hn,HM'.out,rfl,rfl,rfl⟩
   clear Zj eJ hb
   go_wp2_with(first|refine E9 IU rfl _ rfl rfl ?_| (refine CT eG rfl _ _ rfl rfl _ rfl ?_;intro w6 GN O6))
   refine bodyPost_ret (Bf rfl _ _ _ _ rfl GN) rfl ?_;exact⟨⟨_,_,_,rfl,HF.out⟩,B4.trans (O6.below δ)⟩
  ·have NC:=BG s n 42 hb
   obtain⟨q,m3,hq,Q9⟩ :=eJ hb;rw[List.drop_drop]at Q9;have HF:Hid (Je s k m r (IQ ⟨x.any,x.not,true,x.AM⟩) (.int .i64 ((n+1:Nat):Int)) (.bool true)):= .inl ⟨_,m3,n+1,by rw[HI.out,←Zj,hb,hq];rfl,by omega,NC,Q9,rfl,rfl,rfl⟩;clear Zj eJ hb hq Q9;have hc:=IU.c 256 (by omega);have hf:=IU.fz 256 (by omega);have GN:=(IU.set 256 (by omega) true).congr (fun i _=>qA x wQ.out i);have wO:=eG.keep (heap_setCell_other w5 ⟨g2,256,none⟩ g0 (.bool true) (by simp;omega)) (by simp);have O6:=AQ.set g2 256 (.bool true) w5
   go_wp2_with(first|refine E9 GN rfl _ rfl rfl ?_| (refine CT wO rfl _ _ rfl rfl _ rfl ?_;intro w7 KH O7))
   refine bodyPost_ret (Bf rfl _ _ _ _ rfl KH) rfl ?_;exact⟨⟨_,_,_,rfl,HF.out⟩,(B4.trans (O6.below (by omega))).trans (O7.below δ)⟩
 ·have HF:Hid (Je s k m r f (.int .i64 n) (.bool false)):= .inr ⟨by unfold Ba;rw[UD];rfl,n,rfl,rfl⟩
  clear UD
  go_wp2_with(first| (refine CT CM rfl _ _ rfl rfl _ rfl ?_;intro w4 IU O4;have eG:=wP.keep (O4.block _ (by omega)) (by rw[O4.size];exact δ)) |refine E9 IU rfl _ rfl rfl ?_| (refine CT eG rfl _ _ rfl rfl _ rfl ?_;intro w6 GN O6))
  refine bodyPost_ret (Bf rfl _ _ _ _ rfl GN) rfl ?_;exact⟨⟨_,_,_,rfl,HF.out⟩,(B3.trans (O4.below (by omega))).trans (O6.below δ)⟩
theorem Gt{t:ByteArray}{v:Nat}(h:t.data.toList=EY v):t.size≤3:=by
 rw[←Δ,h];exact(NK v).2
theorem Gu{t:ByteArray}{v:Nat}(h:t.data.toList=Lo v):t.size≤3:=by
 rw[←Δ,h];simp[Lo]
structure Jf(w:World)(a:Option Addr)(n:Nat)(l:List M.Rec):Prop where
 len:n=l.length
 cells:l= []∨∃b off,a=some ⟨b,off,none⟩∧b<w.heap.size∧∀i(h:i<l.length),w.cell? ⟨b,off+i*3,none⟩ =some (.int .i64 l[i].kind)∧w.cell? ⟨b,off+i*3+1,none⟩ =some (.int .i64 l[i].n)∧w.cell? ⟨b,off+i*3+2,none⟩ =some (.string l[i].s)
theorem Jf.below{w w':World}{a:Option Addr}{n:Nat}{l:List M.Rec}(h:Jf w a n l)(hb:Below w.heap.size w w'):Jf w' a n l:=by
 refine⟨h.len,?_⟩;rcases h.cells with h1| ⟨b,off,h1,h2,h3⟩
 ·exact .inl h1
 ·refine .inr ⟨b,off,h1,Nat.lt_of_lt_of_le h2 hb.size,fun i hi=> ?_⟩
  obtain⟨c0,c1,c2⟩ :=h3 i hi;exact⟨(hb.cell (by exact h2)).trans c0,(hb.cell (by exact h2)).trans c1,(hb.cell (by exact h2)).trans c2⟩
theorem qB(r:M.Rec)(h:H3 r=true):((U3 r).length:Int)≤4*(ZD r+cN r):=by
 have h1:=(NK (4*r.n+r.kind).toNat).2;have h2:=(CO r).1 h;have h3:=Δ r.s;unfold U3;rw[List.length_append,h3];have h4:=wD r h;have h5:(r.s.size:Int)≤ZD r:=by unfold ZD;split<;>omega
 have h6:=Ze r h;omega
theorem XA(l:List M.Rec)(h:C5 l):((ED l).length:Int)≤4*(DG l+DH l):=by
 induction l with
 |nil=>simp[ED,DG,DH]
 |cons r l ih=>
  have h1:=qB r (DI h).1;have h2:=ih (DI h).2;rw[Zd,List.length_append];simp only[DG,DH];omega
theorem RD{l:List M.Rec}(h:C5 l)(k:Nat):C5 (l.take k):=fun r hr=>h r (List.mem_of_mem_take hr)
theorem XB(l:List M.Rec)(h:C5 l)(k:Nat):DG (l.take k)≤DG l∧DH (l.take k)≤DH l:=by
 have e:=List.take_append_drop k l;have h1:=Ph (l.take k) (l.drop k);have h2:=Pj (l.take k) (l.drop k);rw[e]at h1 h2;have ho:C5 (l.drop k):=fun r hr=>h r (List.mem_of_mem_drop hr)
 have:=U5 _ ho;have:=U6 _ ho;omega
theorem XC(l:List M.Rec)(k:Nat)(h:k<l.length):ED (l.take (k+1))=ED (l.take k)++U3 l[k]:=by
 rw[List.take_succ_eq_append_getElem h,U4];simp[ED]
attribute [local go_sem ↓] Go.wp_at_zero Go.wp_at_succ
theorem XD(x:Int)(w:World)(h0:0≤x)(hv:x<2097152):
  Calls prog 119 #[.int .i64 x] w fun e w'=>(∃t:ByteArray,e= .returned (.string t)∧t.data.toList=EY x.toNat)∧Below w.heap.size w w':=by
 obtain⟨n,rfl⟩ :=Int.eq_ofNat_of_zero_le h0;exact IP n w (by omega)
theorem UE(l:List M.Rec)(h:C5 l):(l.length:Int)≤DG l+DH l:=by
 induction l with
 |nil=>simp[DG,DH]
 |cons r l ih=>
  have h1:=ih (DI h).2;have h2:=wD r (DI h).1;have h3:=(CO r).1 (DI h).1;simp only[DG,DH,List.length_cons];omega
theorem Oi(la lb sa sb:Nat)(l:List M.Rec):(Gb ⟨la,lb,sa,sb,l⟩).length≤12:=by
 have:=NK la;have:=NK lb;simp[Gb,Lo];omega
theorem XE(la lb sa sb:Nat)(l:List M.Rec){t1 t2 t3 t4:ByteArray}(h1:t1.data.toList=EY la)(h2:t2.data.toList=EY lb)(h3:t3.data.toList=Lo sa)(h4:t4.data.toList=Lo sb):
  ((⟨#[82,84]⟩ :ByteArray)++t1++t2++t3++t4).data.toList=Gb ⟨la,lb,sa,sb,l⟩ :=by
 rw[C3,C3,C3,C3,h1,h2,h3,h4,Gb];simp
theorem TQ(la lb sa sb n cp:Nat)(a:Option Addr)(l:List M.Rec)(w:World)(pF:la≤4096)(jd:lb≤4096)(uS:sa<65536)(je:sb<65536)(Cw:Jf w a n l)(Fx:C5 l)(ha:DG l≤4096)(hb:DH l≤4096):
  Calls prog 81 #[.agg #[.int .i64 la,.int .i64 lb,.int .i64 sa,.int .i64 sb,.slice a n cp]] w fun e w'=>(∃t:ByteArray,e= .returned (.string t)∧t.data.toList=Pk ⟨la,lb,sa,sb,l⟩)∧Below w.heap.size w w':=by
 have hn:=Cw.len;have hl4:l.length≤8192:=by have:=UE l Fx;omega
 have HC:=γ Cw.cells;clear Cw;subst hn
 go_enter func81,ntmps81
 go_wp2_with fail
 go_region_held3(fun w'=>w'.cell? ⟨w.heap.size,0,none⟩ =some (.int .i64 la)∧w'.cell? ⟨w.heap.size,1,none⟩ =some (.int .i64 lb)∧w'.cell? ⟨w.heap.size,2,none⟩ =some (.int .i64 sa)∧w'.cell? ⟨w.heap.size,3,none⟩ =some (.int .i64 sb)∧w'.cell? ⟨w.heap.size,4,none⟩ =some (.slice a l.length cp)∧w.heap.size<w'.heap.size)
  (first
   |go_keep
   | (go_split_ands
      refine⟨?_,?_,?_,?_,?_,?_⟩
      ·(rw[ξ.cell (by assumption)];assumption)
      ·(rw[ξ.cell (by assumption)];assumption)
      ·(rw[ξ.cell (by assumption)];assumption)
      ·(rw[ξ.cell (by assumption)];assumption)
      ·(rw[ξ.cell (by assumption)];assumption)
      ·(have:=ξ.size;omega)))
  (first
   | (go_at_call_of 119 (Value.int .i64 (la:Int));refine(IP la _ (by omega)).mono ?_;rintro e w1 ⟨⟨t1,rfl,wR⟩,ξ⟩;have g1:=ξ;have CE:=Gt wR;have Lq:¬9223372036854775807<2+t1.size:=by omega)
   | (go_at_call_of 119 (Value.int .i64 (lb:Int));refine(IP lb _ (by omega)).mono ?_;rintro e w1 ⟨⟨t2,rfl,pG⟩,ξ⟩;have g2:=ξ;have Fw:=Gt pG;have NP:¬9223372036854775807<2+t1.size+t2.size:=by omega)
   | (go_at_call_of 120 (Value.int .i64 (sa:Int));refine(Ma sa _ (by omega)).mono ?_;rintro e w1 ⟨⟨t3,rfl,wT⟩,ξ⟩;have g3:=ξ;have H4:=Gu wT;have hq3:¬9223372036854775807<2+t1.size+t2.size+t3.size:=by omega)
   | (go_at_call_of 120 (Value.int .i64 (sb:Int));refine(Ma sb _ (by omega)).mono ?_;rintro e w1 ⟨⟨t4,rfl,wU⟩,ξ⟩;have g4:=ξ;have Kh:=Gu wU;have hq4:¬9223372036854775807<2+t1.size+t2.size+t3.size+t4.size:=by omega))
 rename_i jf;obtain⟨_,_,_,_,uT,hz⟩ :=jf;have z1:=g1.size;have z2:=g2.size;have z3:=g3.size;have z4:=g4.size;simp at z1;have B1:=(((Below.refl w.heap.size w).alloc δ _).drew.trans (g1.mono (by simp))).trans ((g2.mono (by omega)).trans ((g3.mono (by omega)).trans (g4.mono (by omega))));have HH:=γ (XE la lb sa sb l wR pG wT wU);have HZ:Hid (((⟨#[82,84]⟩ :ByteArray)++t1++t2++t3++t4).size≤14):=by
  show _≤_;simp only[ByteArray.size_append'];have:(⟨#[82,84]⟩ :ByteArray).size=2:=rfl;omega
 clear ξ g1 g2 g3 g4 wR pG wT wU Lq NP hq3 hq4 z1 z2 z3 z4;generalize(⟨#[82,84]⟩ :ByteArray)++t1++t2++t3++t4=hd at*;go_wp2
 go_loopw [3,4] (fun t i wr=>∃(k:Nat)(s:ByteArray),k≤l.length∧i= .int .i64 k∧t= .string s∧Hid (s.data.toList=Gb ⟨la,lb,sa,sb,l⟩ ++ED (l.take k))∧wr.cell? ⟨w.heap.size,4,none⟩ =some (.slice a l.length cp)∧w.heap.size<wr.heap.size∧Below w.heap.size w wr) (fun _ i _=>l.length - (intOf i).toNat)
 case atStart=>exact⟨0,hd,ε,rfl,rfl,by simpa[Hid,ED]using HH.out,uT,hz,B1⟩
 case round=>
  obtain⟨k,s,hk,rfl,rfl,HS,hc,hz,B⟩ :=hrel;have E7:=XB l Fx k;have RE:=XA (l.take k) (RD Fx k);have hhl:=Oi la lb sa sb l;have hss:s.size≤40000:=by
   rw[←Δ,HS.out,List.length_append];omega
  clear RE hhl E7
  by_cases Ac:k<l.length
  ·have CQ:l≠ []:=fun h=>by rw[h]at Ac;simp at Ac
   obtain⟨b,off,ha',ND,G6⟩ :=HC.out.resolve_left CQ;subst ha';obtain⟨c0,c1,c2⟩ :=G6 k Ac;have d0:=(B.cell (by exact ND)).trans c0;have d1:=(B.cell (by exact ND)).trans c1;have d2:=(B.cell (by exact ND)).trans c2;have VE:=Fx l[k] (List.getElem_mem Ac);have uU:=jM l Fx ha hb l[k] (List.getElem_mem Ac);have HT:=γ (XC l k Ac);clear G6 c0 c1 c2 CQ;generalize l[k]=r at*;have ho:=(CO r).1 VE;have w1':IntKind.i64.wrap (4*r.n)=4*r.n:=by rw[IntKind.wrap_i64];omega
   have w2':IntKind.i64.wrap (4*r.n+r.kind)=4*r.n+r.kind:=by rw[IntKind.wrap_i64];omega
   have IW:(0:Int)≤(k:Int):=by omega
   have EW:(k:Int)<(l.length:Int):=by omega
   have hbs:b<wr.heap.size:=by omega
   have hrs:r.s.size≤4096:=by omega
   have VF:0≤4*r.n+r.kind:=by omega
   have EN:4*r.n+r.kind<2097152:=by omega
   have HO:=γ VE;clear ho VE
   go_wp2_with fail
   go_region_held3(fun w'=>w'.cell? ⟨w.heap.size,4,none⟩ =some (.slice (some ⟨b,off,none⟩) l.length cp)∧w'.cell? ⟨b,off+k*3,none⟩ =some (.int .i64 r.kind)∧w'.cell? ⟨b,off+k*3+1,none⟩ =some (.int .i64 r.n)∧w'.cell? ⟨b,off+k*3+2,none⟩ =some (.string r.s)∧w.heap.size<w'.heap.size∧b<w'.heap.size)
    (first
     |go_keep
     | (go_split_ands
        refine⟨?_,?_,?_,?_,?_,?_⟩
        ·(rw[ξ.cell (by assumption)];assumption)
        ·(rw[ξ.cell (by assumption)];assumption)
        ·(rw[ξ.cell (by assumption)];assumption)
        ·(rw[ξ.cell (by assumption)];assumption)
        ·(have:=ξ.size;omega)
        ·(have:=ξ.size;omega)))
    (first
     | (go_at_call 119;refine(XD (4*r.n+r.kind) _ VF EN).mono ?_;rintro e w2 ⟨⟨t,rfl,ht⟩,ξ⟩;have g1:=ξ;have CE:=Gt ht;have Lq:¬9223372036854775807<s.size+t.size:=(by omega);have NP:¬9223372036854775807<s.size+t.size+r.s.size:=by omega))
   rename_i jf;obtain⟨qC,_,_,_,hz',_⟩ :=jf;have B2:Below w.heap.size w w2:=B.drew.trans (g1.mono (by simp;omega));have ER:Hid ((s++t++r.s).data.toList=Gb ⟨la,lb,sa,sb,l⟩ ++ED (l.take (k+1))):=by
    show _=_;rw[C3,C3,ht,HS.out,HT.out,U3,List.append_assoc,List.append_assoc]
   clear ξ g1 ht Lq NP w1' w2' d0 d1 d2 hc;go_wp2
   go_roundw
   case rel=>exact⟨k+1,s++t++r.s,by omega,by go_num,rfl,ER.out,qC,hz',B2⟩
   case measure=>simp[intOf];omega
  ·obtain rfl:k=l.length:=by omega
   have FV:s.size≤maxLen:=by unfold maxLen;omega
   go_wp2_with fail
   refine(Q1 s _ FV).mono ?_;rintro e w2 ⟨rfl,rfl⟩;have DC:=KZ s.data.toList;have HW:Hid (sum s.data.toList=sum (cO ⟨la,lb,sa,sb,l⟩)):=by
    show _=_;rw[HS.out,List.take_length];rfl
   go_wp2_with fail
   refine(Ma _ _ DC).mono ?_;rintro e w3 ⟨⟨t,rfl,ht⟩,ξ⟩;have CE:=Gu ht;have Lq:s.size+t.size≤9223372036854775807:=by omega
   have HT:Hid ((s++t).data.toList=Pk ⟨la,lb,sa,sb,l⟩):=by
    show _=_;rw[C3,ht,HW.out,HS.out,List.take_length];rfl
   clear ht;go_wp2;go_ret;exact⟨⟨_,rfl,HT.out⟩,B.trans (ξ.mono B.size)⟩
end Go.Proofs.YtlppphmnegdhoabGreatDoor
namespace Go.Proofs.YtlppphmnegdhoabGreatDoor
open Go.RowKit
open M
theorem κ{w:World}{base:Nat}{e:TypeId}{size:Nat}{v:Value}{n:Nat}{xs:List Value}(h:w.ownsRow base e size v n xs):∃a c,v= .slice a n c:=by
 obtain⟨h1,⟨rfl,rfl⟩ | ⟨g,cap,cur,h3,_⟩⟩ :=h
 ·exact⟨none,0,rfl⟩
 ·exact⟨_,_,h3⟩
theorem oZ(l:List M.Rec):∀(i:Nat)(h:i<l.length),(C6 l)[i*3]? =some (.int .i64 l[i].kind)∧(C6 l)[i*3+1]? =some (.int .i64 l[i].n)∧(C6 l)[i*3+2]? =some (.string l[i].s):=by
 induction l with
 |nil=>intro i h;simp at h
 |cons r l ih=>
  intro i h;have e:C6 (r::l)= .int .i64 r.kind:: .int .i64 r.n:: .string r.s::C6 l:=by simp[C6,recC]
  rw[e]
  match i with
  |0=>simp
  |i+1=>
   obtain⟨h1,h2,h3⟩ :=ih i (by simpa using h);have e0:(i+1)*3=i*3+3:=by omega
   rw[e0];simp only[List.getElem_cons_succ];exact⟨by simpa using h1,by simpa using h2,by simpa using h3⟩
theorem M9{w:World}{base:Nat}{a:Option Addr}{c:Nat}{l:List M.Rec}(h:w.ownsRow base 69 3 (.slice a l.length c) l.length (C6 l)):Jf w a l.length l:=by
 refine⟨rfl,?_⟩;obtain⟨h1,⟨hv,hn⟩ | ⟨g,cap,cur,hv,kg⟩⟩ :=id h
 ·exact .inl (List.length_eq_zero_iff.1 hn)
 ·refine .inr ⟨g,0,?_,?_,fun i hi=> ?_⟩
  ·simp at hv;exact hv.1
  ·exact(h.lt g (by rw[hv];rfl)).2
  ·obtain⟨c0,c1,c2⟩ :=oZ l i hi
   have hc:=h.cells (g:=g) (by rw[hv];rfl);have e:∀j,(⟨g,0,none⟩ :Addr).add j=⟨g,0+j,none⟩ :=fun j=>by simp[Addr.add];omega
   exact⟨by have:=hc _ _ c0;rwa [e]at this,by have:=hc _ _ c1;rwa [e,←Nat.add_assoc]at this,by have:=hc _ _ c2;rwa [e,←Nat.add_assoc]at this⟩
end Go.Proofs.YtlppphmnegdhoabGreatDoor
namespace Go.Proofs.YtlppphmnegdhoabGreatDoor
open Go.Proofs.Tryz
open Go.RowKit
open M
def Ki(l:List Int):List Value:=l.map fun i=> .int .i64 i
theorem eQ(l:List Int)(x:Int):Ki (l++ [x])=Ki l++ [.int .i64 x]:=by simp[Ki]
theorem FC(x:Int):∀v∈ [Value.int .i64 x],v.oneCell'=true:=by
 intro v hv;simp at hv;subst hv;rfl
theorem jo(l:List Int)(i:Nat)(h:i<l.length):(Ki l)[i]? =some (.int .i64 l[i]):=by
 simp[Ki,h]
structure Twin(B:Nat)(w:World)(vf vb:Value)(F K:List Int):Prop where
 f:w.ownsRow B 3 1 vf F.length (Ki F)
 k:w.ownsRow B 3 1 vb K.length (Ki K)
 ap:∀g,vf.ownBlock=some g→vb.ownBlock≠some g
theorem Twin.swap{B:Nat}{w:World}{vf vb:Value}{F K:List Int}(h:Twin B w vf vb F K):Twin B w vb vf K F:=
 ⟨h.k,h.f,fun g hb hf=>h.ap g hf hb⟩
theorem Twin.grow{B:Nat}{w w':World}{vf vb:Value}{F K:List Int}{o:Obj}{g cap:Nat}{x:Int}(h:Twin B w vf vb F K)
  (ν:w'.ownsRow B 3 1 (.slice (some ⟨g,0,none⟩) (F.length+1) cap) (F.length+1) (Ki F++ [.int .i64 x])) (hg:(w.alloc o).grownBy w' vf.ownBlock) (Cw:vf.ownBlock=some g∨g=w.heap.size+1):
  Twin B w' (.slice (some ⟨g,0,none⟩) (F.length+1) cap) vb (F++ [x]) K:=by
 refine⟨?_,(h.k.alloc o).kept hg ?_,?_⟩
 ·rw[eQ,List.length_append];exact ν
 ·cases hv:vb.ownBlock with
  |none=>exact .inl rfl
  |some q=>exact .inr (fun e=>h.ap q e.symm hv)
 ·intro q hq hb
  simp[Value.ownBlock]at hq;subst hq;rcases Cw with Cw|Cw
  ·exact h.ap _ Cw hb
  ·have:=(h.k.lt _ hb).2;omega
theorem Twin.set{B:Nat}{w:World}{vf vb:Value}{F K:List Int}(h:Twin B w vf vb F K){a:Addr}(ha:a.block<B)(u:Value):Twin B (w.setCell a u) vf vb F K:=
 ⟨ownsRow_setCell_below h.f ha u,ownsRow_setCell_below h.k ha u,h.ap⟩
theorem Fy(w:World)(x:Int)(t:TypeId):∀j u,[Value.int .i64 x][j]? =some u→(w.alloc (.cells #[.int .i64 x] t)).cell? ((⟨w.heap.size,0,none⟩ :Addr).add j)=some u:=by
 intro j u h
 match j with
 |0=>simp at h;subst h;simp[go_sem,Addr.add]
 |j+1=>simp at h
theorem UH{wr w3:World}{o:Obj}{v:Value}{b:Nat}{n:Nat}{xs:List Value}(ν:wr.ownsRow (b+2) 3 1 v n xs)(hs:b+2≤wr.heap.size)(AE:(wr.alloc o).grownBy w3 v.ownBlock):∀k,k<b+2→w3.heap[k]? =wr.heap[k]? :=fun k hk=>by
 rw[AE.block k (by simp;omega) (fun e=>by have:=(ν.lt k e.symm).1;omega),Below.heap_alloc _ _ _ (by omega)]
theorem Zl(es:List Ev):Dj 0 (es++ [.k])=Dj 0 es++ [((EC es).length:Int)]:=by rw[Jh];simp[Dj,FA]
theorem Zm(es:List Ev):EC (es++ [.k])=EC es++ [-1]:=by rw[Mb];simp[EC]
theorem Zn(es:List Ev):Dj 0 (es++ [.d])=Dj 0 es++ [-1]:=by rw[Jh];simp[Dj]
theorem Zo(es:List Ev):EC (es++ [.d])=EC es:=by rw[Mb];simp[EC]
theorem RG(es:List Ev)(c:UInt8):Dj 0 (es++ [.r c])=Dj 0 es:=by rw[Jh];simp[Dj]
theorem RH(es:List Ev)(c:UInt8):EC (es++ [.r c])=EC es++ [(c.toNat:Int)]:=by rw[Mb];simp[EC]
theorem jq(l:List M.Rec)(k:Nat)(h:k<l.length):BH (l.take (k+1))=BH (l.take k)++KI l[k]:=by
 rw[List.take_succ_eq_append_getElem h,CK];simp[BH]
theorem Qj:(prog.info? 3).map (fun i=>(i.zero,i.size,i.bytes))=some (some (.int .i64 0),1,8):=by kernel_rfl
theorem Ji:prog.underlying 116=some (.slice 3):=by kernel_rfl
theorem Tryz.oa:(prog.info? 5).map (fun i=>(i.zero,i.size,i.bytes))=some (some (.int .u8 0),1,1):=by kernel_rfl
theorem OJ{w:World}{base:Nat}{v:Value}{n:Nat}{A:List UInt8}(h:w.ownsRow base 5 1 v n (A.map fun b=> .int .u8 (b.toNat:Int))):∃t:ByteArray,t.data.toList=A∧(convert 151 9 v).run prog w= .ok (.string t) w:=by
 obtain⟨h1,⟨rfl,rfl⟩ | ⟨g,cap,cur,rfl,kg⟩⟩ :=id h
 ·refine⟨ByteArray.empty,?_,?_⟩
  ·simp at h1
   rw[h1];rfl
  ·exact run_convert_bytes_nil w 151 5 underlying151 underlying5 0 0 9 underlying9
 ·have hl:n=A.length:=by simpa using h1.symm
  subst hl;refine⟨⟨A.toArray⟩,by simp,?_⟩;refine run_convert_bytes_back w 151 9 5 ⟨g,0,none⟩ cap A underlying151 underlying5 underlying9 (fun j hj=> ?_);exact h.cells rfl j _ (by simp[List.getElem?_eq_getElem hj])
theorem strCells_eq(s:ByteArray):Lib.strCells s=s.data.toList.map fun b=> .int .u8 (b.toNat:Int):=by
 unfold Lib.strCells;rfl
end Go.Proofs.YtlppphmnegdhoabGreatDoor
