import Derived.RegionTactic
import Derived.Test.YtlppphmnegdhoabGreatDoorMz24
set_option linter.unusedVariables false
set_option maxRecDepth 100000
set_option maxHeartbeats 8000000
namespace Go.Proofs.YtlppphmnegdhoabGreatDoor
open Go.Proofs.Tryz
open Go.RowKit
open M
theorem ry(q:Mk)(h:q.b<256){m':List Mk}(hn:Dh (q::m') 38=false): [Value.bool false,.int .u8 q.b]=uj (kX q):=by
 have h1:q.is 38=false:=hn;have h2:(UInt8.ofNat q.b).toNat=q.b:=by simp;omega
 unfold kX;rw[h1];show _= [Value.bool false,.int .u8 ((UInt8.ofNat q.b).toNat:Int)];rw[h2]
theorem ye(q:Mk){m':List Mk}(hn:Dh (q::m') 38=true): [Value.bool true,.int .u8 0]=uj (kX q):=by
 have h1:q.is 38=true:=hn;unfold kX;rw[h1];rfl
theorem yf{w:World}{B c:Nat}{a:Option Addr}{L:List (Option UInt8)}(h:w.ownsRow B 274 2 (.slice a L.length c) L.length (L.map uj).flatten):Cj B w (fun w=>Ia w a L):=fun w' hs hb k hk=>by
 obtain⟨g,h1,h2,h3,h4,_⟩ :=LB (CS:=L.map uj) h (by simp) (fun c hc=>by
  simp only[List.mem_map]at hc;obtain⟨x,_,rfl⟩ :=hc;cases x<;>rfl) k (by simpa using hk)
 refine⟨g,h1,by omega,fun j u hu=>(World.cell?_of_block (hb g h3 (by omega))).trans (h4 j u ?_)⟩;rw[List.getElem_map];exact hu
def az(s:ByteArray)(k:Nat)(m:List Mk)(r:List UInt8)(vs:List Value)(v2 v3:Value):Prop:=
 (∃(q:Mk)(m':List Mk)(n:Nat),m=q::m'∧vs=uj (kX q)∧k<n∧n≤s.size∧Ah (s.data.toList.drop n)=(m',r)∧v2= .int .i64 n∧v3= .bool true)∨(m= []∧∃n:Nat,v2= .int .i64 n∧v3= .bool false)
def yg(s:ByteArray)(k:Nat)(m:List Mk)(r:List UInt8)(w:World)(e:Ending)(w':World):Prop:=
 Below w.heap.size w w'∧∃(vs:List Value)(v2 v3:Value),vs.length=2∧(∀v∈vs,v.oneCell'=true)∧e= .returned (.tuple #[.agg vs.toArray,v2,v3])∧az s k m r vs v2 v3
theorem N2(s:ByteArray)(k:Nat)(m:List Mk)(r:List UInt8)(w:World)(hs:s.size≤400)(hk:k≤s.size)(hm:Ah (s.data.toList.drop k)=(m,r)):
  Calls prog 231 #[.string s,.int .i64 k] w fun e w'=>yg s k m r w e w':=by
 have FV:s.size≤maxLen:=by unfold maxLen;omega
 have HM:=γ hm;have eB:Hid (∀q∈m,q.is 47=false):=fun q hq=>eD (s.data.toList.drop k) q (by rw[hm];exact hq)
 obtain⟨h38,ABN⟩ :=JY _ 38 _ _ hm (by decide) (by decide) (by decide);have H38:=γ ABN;have HIS:=γ h38;clear hm h38 ABN;have Dg:CB (w.alloc (.cells #[.bool false,.int .u8 0] 274)) w.heap.size [.bool false,.int .u8 0]:=CB.new w _ _ (by simp[Value.oneCell']);have B0:Below w.heap.size w (w.alloc (.cells #[.bool false,.int .u8 0] 274)):=ζ.alloc δ _
 go_enter func231,ntmps231
 go_wp2_with fail
 generalize w.alloc (.cells #[.bool false,.int .u8 0] 274)=W at*;refine(AY s k 38 _ FV hk (by decide)).mono ?_;rintro e w1 ⟨rfl,rfl⟩;cases hb:CH (s.data.toList.drop k) 38
 ·have Pz:Hid (Dh m 38=false):=HIS.out.symm.trans hb
  clear hb H38 HIS
  go_wp2_with fail
  refine(G4 s k _ m r _ FV hk (by unfold maxLen;decide) (by decide) HM.out).mono ?_;rintro e w2 ⟨Dt,rfl⟩;have R0:G3 s k [47] m r e:=Dt;clear Dt;rcases R0 with⟨q,m',n,rfl,hq,NP,Ez,hn,RB,rfl⟩ | ⟨CQ,n,rfl,NC,NN⟩
  ·have HF:Hid (az s k (q::m') r [.bool false,.int .u8 q.b] (.int .i64 n) (.bool true)):= .inl ⟨q,m',n,rfl,ry q NP Pz.out,Ez,hn,RB,rfl,rfl⟩
   clear RB hq
   go_wp2_with(refine θ Gm Dg rfl rfl _ _ rfl rfl rfl rfl (by simp[Value.oneCell']) ?_;intro w5 BP O5)
   refine bodyPost_ret (Bx rfl _ _ _ _ rfl Gm BP rfl) rfl ?_;exact⟨B0.trans (O5.below δ),_,_,_,rfl,by simp[Value.oneCell'],rfl,HF.out⟩
  ·have HF:Hid (az s k m r [.bool false,.int .u8 0] (.int .i64 n) (.bool false)):= .inr ⟨by
    rcases CQ with h| ⟨q,v,h,h2⟩
    ·exact h
    ·rw[Ub q (eB.out q (by rw[h];simp))]at h2;exact Bool.noConfusion h2,n,rfl,rfl⟩
   clear CQ
   go_wp2_with(refine θ Gm Dg rfl rfl _ _ rfl rfl rfl rfl (by simp[Value.oneCell']) ?_;intro w5 BP O5)
   refine bodyPost_ret (Bx rfl _ _ _ _ rfl Gm BP rfl) rfl ?_;exact⟨B0.trans (O5.below δ),_,_,_,rfl,by simp[Value.oneCell'],rfl,HF.out⟩
 ·have EW:=BG s k 38 hb
  obtain⟨q,m',yh,RB⟩ :=H38.out hb;rw[List.drop_drop]at RB;have HF:Hid (az s k m r [.bool true,.int .u8 0] (.int .i64 ((k+1:Nat):Int)) (.bool true)):= .inl ⟨q,m',k+1,yh,ye q (by have:=HIS.out.symm.trans hb;rw[yh]at this;exact this),by omega,EW,RB,rfl,rfl⟩;clear hb yh RB H38
  go_wp2_with(refine θ Gm Dg rfl rfl _ _ rfl rfl rfl rfl (by simp[Value.oneCell']) ?_;intro w5 BP O5)
  refine bodyPost_ret (Bx rfl _ _ _ _ rfl Gm BP rfl) rfl ?_;exact⟨B0.trans (O5.below δ),_,_,_,rfl,by simp[Value.oneCell'],rfl,HF.out⟩
def rz(s:ByteArray)(k:Nat)(m:List Mk)(r:List UInt8)(w:World)(e:Ending)(w':World):Prop:=
 Below w.heap.size w w'∧∃(a:Option Addr)(c n:Nat),e= .returned (.tuple #[.slice a (DK m).length c,.int .i64 n])∧k≤n∧n≤s.size∧Ah (s.data.toList.drop n)=([],r)∧Cj w.heap.size w' (fun w=>Ia w a (DK m))
theorem Mu(s:ByteArray)(k:Nat)(m:List Mk)(r:List UInt8)(w:World)(hs:s.size≤400)(hk:k≤s.size)(hm:Ah (s.data.toList.drop k)=(m,r)):
  Calls prog 205 #[.string s,.int .i64 k] w fun e w'=>rz s k m r w e w':=by
 have HM:=γ hm;clear hm
 go_enter func205,ntmps205
 go_wp2_with fail
 refine(N2 s k m r w hs hk HM.out).mono ?_;rintro e w1 ⟨B1,vs,v2,v3,Wn,EN,rfl,Cw⟩;have ZG:=γ Cw;have Cq:CB (w1.alloc (.cells #[.bool false,.int .u8 0] 274)) w1.heap.size [.bool false,.int .u8 0]:=CB.new w1 _ _ (by simp[Value.oneCell']);have B2:=B1.alloc (o:= .cells #[.bool false,.int .u8 0] 274) B1.size;have VJ:=B1.size;clear Cw B1;obtain⟨g7,TE⟩ :∃g,w1.heap.size=g:=⟨_,rfl⟩
 rw[TE]at Cq VJ
 go_wp2_with(refine θ Gm Cq rfl rfl _ _ rfl rfl rfl Wn EN ?_;intro w3 CM O3)
 have B3:=B2.trans (O3.below (B:=w.heap.size) (by omega));have H4:w3.heap.size=g7+1:=by rw[O3.size,←TE];simp
 clear Cq B2 O3
 go_loopw [1,6,8,9] (fun v1 v6 v8 v9 wr=>∃(n l:Nat)(m1:List Mk)(cs xs:List Value)(PS:List (Option UInt8)),Hid (xs=(PS.map uj).flatten∧l=PS.length∧DK m=PS++DK m1)∧v1= .int .i64 n∧k≤n∧n≤s.size∧l≤n∧Hid (Ah (s.data.toList.drop n)=(m1,r))∧Hid (az s n m1 r cs v8 v9)∧wr.ownsRow (g7+1) 274 2 v6 l xs∧CB wr g7 cs∧cs.length=2∧Below w.heap.size w wr∧g7+1≤wr.heap.size) (fun v1 _ _ _ _=>s.size - (intOf v1).toNat)
 case atStart=>exact⟨k,0,m,vs,[],[],⟨rfl,rfl,rfl⟩,rfl,δ,hk,ε,HM,ZG,World.ownsRow_nil _ _ _ _,CM,Wn,B3,by omega⟩
 case round=>
  clear CM B3;obtain⟨n,l,m1,cs,xs,PS,bA,rfl,Ez,TP,J9,Of,q7,ν,He,DL,hB,hg⟩ :=hrel;obtain⟨av,cv,CX⟩ :=κ ν;subst CX;rcases q7.out with⟨q,m',n',rfl,hpc,Wl,mS,RB,rfl,rfl⟩ | ⟨rfl,n',rfl,rfl⟩
  ·have Kb:Hid (Ah (s.data.toList.drop n')=(m',r)):=RB
   have yi:Hid (xs++cs=((PS++ [kX q]).map uj).flatten∧l+1=(PS++ [kX q]).length∧DK m=(PS++ [kX q])++DK m'):=by
    obtain⟨e1,e2,e3⟩ :=bA.out;refine⟨?_,?_,?_⟩
    ·rw[e1,hpc];simp
    ·rw[List.length_append,e2];rfl
    ·rw[e3,List.append_assoc];rfl
   clear RB q7 Of bA hpc
   go_wp2_with(first
    |refine ω Gm He DL rfl _ rfl rfl ?_
    |refine Bz dS rfl _ rfl cs rfl DL ?_
    | (refine Gx dS (ν.alloc _) wr.heap.size cs (heap_alloc_new wr _) DL He.one (by omega) (by simp;omega) rfl _ _ rfl rfl rfl ?_
       intro v' w6 Aa AK;have LY:=AK.size;have yj:=(He.below ((Below.refl wr.heap.size wr).alloc δ (.cells cs.toArray 274)) He.lt).keep (AK.block g7 (by simp;omega) (fun e=>by have:=(ν.lt g7 e.symm).1;omega)) LY;have Eg:Below w.heap.size w w6:=(hB.alloc (by omega) _).grown AK (by simp;omega) (fun k hk=>by have:=(ν.lt k hk).1;omega);obtain⟨NF,JV,CX⟩ :=κ Aa;subst CX;simp at LY;clear AK))
   refine(N2 s n' m' r _ hs mS Kb.out).mono ?_;rintro e w7 ⟨B7,us,u2,u3,mA,pR,rfl,Cw⟩;have Zi:=γ Cw;have lX:=B7.size;have ADR:=yj.below B7 yj.lt;have DU:=Ξ Aa B7;have fc:=Eg.trans (B7.mono (by omega));clear Cw yj Aa Eg
   go_wp2_with(refine θ Gm ADR DL rfl _ _ rfl rfl rfl mA pR ?_;intro w8 Nl O8)
   have D9:=RT DU (fun k hk=>O8.block k (by omega));have hB8:=fc.trans (O8.below (B:=w.heap.size) (by omega))
   go_roundw
   case rel=>exact⟨n',l+1,m',us,_,_,yi,rfl,by omega,mS,by omega,Kb,Zi,D9,Nl,mA,hB8,by rw[O8.size];omega⟩
   case measure=>simp[intOf]<;>omega
  ·have ZK:DK m=PS:=by rw[bA.out.2.2];simp[DK]
   have mT:Hid (Cj w.heap.size wr (fun w=>Ia w av (DK m))):=by
    have h9:=ν;rw[bA.out.1,bA.out.2.1,←ZK]at h9;exact(yf h9).mono (by omega)
   have PD:Hid (l=(DK m).length):=by show _=_;rw[ZK];exact bA.out.2.1
   clear q7 bA ZK;go_wp2;go_ret2;exact⟨hB,av,cv,n,by rw[←PD.out];rfl,Ez,TP,Of.out,mT.out⟩
def LN(x:Ex)(s:List UInt8)(k:Nat)(Ew:Int)(i j:Int):Prop:=
 (i= -1∧j= -1∧∀p d,k≤p→AP x s p d=true→d=p∧(p:Int)=Ew)∨
  ∃a b:Nat,i=a∧j=b∧k≤a∧AP x s a b=true∧(a<b∨(a:Int)≠Ew)∧(∀p d,k≤p→p<a→AP x s p d=true→d=p∧(p:Int)=Ew)∧∀d,b<d→AP x s a d=false
theorem LN.next{x:Ex}{s:List UInt8}{k:Nat}{Ew i j:Int}(h:LN x s k Ew i j)(hi:i≠(k:Int)):LN x s (k+1) Ew i j:=by
 rcases h with⟨h1,h2,h3⟩ | ⟨a,b,h1,h2,h3,h4,h5,h6,h7⟩
 ·exact .inl ⟨h1,h2,fun p d hp=>h3 p d (by omega)⟩
 ·exact .inr ⟨a,b,h1,h2,by omega,h4,h5,fun p d hp=>h6 p d (by omega),h7⟩
theorem Ur(x:Ex)(s:List UInt8)(Ew i j:Int):∀(f k:Nat),k≤s.length+1→2*(s.length+1 - k)+1≤f+(if Ew=(k:Int)then 1 else 0)→LN x s k Ew i j→
  (i= -1∧G8 (Hw x s) s.length f k Ew= [])∨∃a b f':Nat,i=a∧j=b∧k≤a∧a≤b∧b≤s.length∧(a<b∨(a:Int)≠Ew)∧G8 (Hw x s) s.length f k Ew=(a,b)::G8 (Hw x s) s.length f' b b∧2*(s.length+1 - b)+1≤f'+1:=by
 intro f
 induction f with
 |zero=>
  intro k hk hf h;have Ez:k=s.length+1:=by
   split at hf<;>omega
  rcases h with⟨h1,_,_⟩ | ⟨a,b,h1,h2,h3,h4,_⟩
  ·exact .inl ⟨h1,rfl⟩
  ·have:=Fk h4;omega
 |succ f ih=>
  intro k hk hf h
  by_cases Ez:k≤s.length
  ·by_cases hik:i=(k:Int)
   ·rcases h with⟨h1,_,_⟩ | ⟨a,b,h1,h2,h3,h4,h5,h6,h7⟩
    ·omega
    ·have ea:a=k:=by omega
     subst ea;have hE:=PF x s a b h4 h7;have hle:=Fk h4;refine .inr ⟨a,b,f,h1,h2,δ,hle.1,hle.2,h5,?_,?_⟩
     ·rw[G8,if_pos Ez,hE]
      have q9:(a:Int)<(b:Int)∨((b:Int)=(a:Int)∧(a:Int)≠Ew):=by
       rcases Nat.lt_or_ge a b with e|e
       ·left;omega
       ·right;exact⟨by omega,h5.resolve_left (by omega)⟩
      rw[if_pos q9];simp
     ·split at hf
      ·rename_i hb
       rcases h5 with h5|h5
       ·omega
       ·exact absurd hb.symm h5
      ·omega
   ·have hC:¬((k:Int)<Hw x s k∨(Hw x s k=(k:Int)∧(k:Int)≠Ew)):=by
     have hb:∀d,AP x s k d=true→d=k∧(k:Int)=Ew:=by
      intro d hd;rcases h with⟨h1,_,h3⟩ | ⟨a,b,h1,h2,h3,h4,h5,h6,h7⟩
      ·exact h3 k d δ hd
      ·exact h6 k d δ (by omega) hd
     rcases Rt x s k with e| ⟨q,e,_,_,hq⟩
     ·rw[e];omega
     ·obtain⟨e1,e2⟩ :=hb q hq
      rw[e];subst e1;intro hh;rcases hh with hh| ⟨_,hh⟩
      ·omega
      ·exact hh e2
    rw[G8,if_pos Ez,if_neg hC];have h':=h.next hik;rcases ih (k+1) (by omega) (by split<;>split at hf<;>omega) h' with g| ⟨a,b,f',g1,g2,g3,g⟩
    ·exact .inl g
    ·exact .inr ⟨a,b,f',g1,g2,by omega,g⟩
  ·rw[G8,if_neg Ez]
   rcases h with⟨h1,_,_⟩ | ⟨a,b,h1,h2,h3,h4,_⟩
   ·exact .inl ⟨h1,rfl⟩
   ·have:=Fk h4;omega
theorem WL(G:List Nat)(a:Option Addr)(c B:Nat)(x:Ex)(s:ByteArray)(k:Nat)(Ew:Int)(w:World)(hs:s.size≤256)(hG:G.length=s.size+1)(ν:w.ownsRow B 79 1 (.slice a (s.size+1) c) (s.size+1) (MF (s.size+1) G))(JK:∀j(h:j<G.length),Cr w G[j] (s.size+1) (fun p=>AP x s.data.toList p j))(hk:k≤s.size)(Dg: -1≤Ew)(ξ:Ew≤256):
  Calls prog 107 #[.slice a (s.size+1) c,.int .i64 k,.int .i64 Ew] w fun e w'=>(∃i j:Int,e= .returned (.tuple #[.int .i64 i,.int .i64 j])∧LN x s.data.toList k Ew i j)∧w'=w:=by
 obtain⟨gt,cap,hv,_,qa⟩ :=ν.form (by omega);simp only[Value.slice.injEq]at hv;obtain⟨rfl,_,rfl⟩ :=hv;have hl:=Δ s;have HT:Hid (∀j i,j≤s.size→i≤s.size→∃gj,gj<w.heap.size∧w.cell? ⟨gt,j,none⟩ =some (.slice (some ⟨gj,0,none⟩) (s.size+1) (s.size+1))∧w.cell? ⟨gj,i,none⟩ =some (.bool (AP x s.data.toList i j))):=fun j i hj hi=>by
  have zP:j<G.length:=by omega
  refine⟨G[j],(JK j zP).lt,?_,(JK j zP).c i (by omega)⟩;have h1:=ν.cells rfl j _ (show(MF (s.size+1) G)[j]? =some (.slice (some ⟨G[j],0,none⟩) (s.size+1) (s.size+1))by simp[MF,List.getElem?_eq_getElem zP]);rw[show(⟨gt,0,none⟩ :Addr).add j=⟨gt,j,none⟩by unfold Addr.add;split<;>simp_all]at h1;exact h1
 clear ν JK
 go_enter func107,ntmps107
 go_wp2
 go_loop [8] (fun i'=>∃i:Nat,k≤i∧i≤s.size+1∧i'= .int .i64 i∧Hid (∀p d,k≤p→p<i→AP x s.data.toList p d=true→d=p∧(p:Int)=Ew)) (fun i'=>s.size+1 - (intOf i').toNat)
 case atStart=>exact⟨k,δ,by omega,rfl,fun p d h1 h2=>by omega⟩
 case round=>
  obtain⟨i,dA,hi,rfl,HN⟩ :=hrel
  by_cases Ac:i≤s.size
  ·have AV:(i:Int)<(s.size:Int)+1:=by omega
   go_wp2
   go_loop [9] (fun j'=>∃jj:Nat,i≤jj∧jj≤s.size+1∧j'= .int .i64 ((jj:Int) - 1)∧Hid (∀d,jj≤d→AP x s.data.toList i d=true→d=i∧(i:Int)=Ew)) (fun j'=>(intOf j'+1).toNat)
   case atStart=>exact⟨s.size+1,by omega,δ,by congr 1;omega,fun d hd hm=>by rw[Fo x _ i d (.inr (by omega))]at hm;cases hm⟩
   case round=>
    obtain⟨jj,aG,nS,rfl,HD⟩ :=hrel
    by_cases E7:i<jj
    ·obtain⟨j,rfl⟩ :∃j,jj=j+1:=⟨jj - 1,by omega⟩
     have ej:(((j+1:Nat):Int) - 1)=(j:Int):=by omega
     rw[ej];have h1:(i:Int)≤(j:Int):=by omega
     have h2:(j:Int)<(s.size:Int)+1:=by omega
     obtain⟨gj,hgj,c0,c1⟩ :=HT.out j i (by omega) Ac;have h3:(0:Int)≤(j:Int):=by omega
     have h4:(0:Int)≤(i:Int):=by omega
     clear ej;cases hm:AP x s.data.toList i j
     all_goals
      rw[hm]at c1
     ·have I3:Hid (∀d,j≤d→AP x s.data.toList i d=true→d=i∧(i:Int)=Ew):=fun d hd hmd=>by
       by_cases h:d=j
       ·rw[h,hm]at hmd;cases hmd
       ·exact HD.out d (by omega) hmd
      clear hm HD;go_wp2
      go_round
      case rel=>exact⟨j,by omega,by omega,rfl,I3.out⟩
      case measure=>simp[intOf]
     ·have HF:Hid ((i<j∨(i:Int)≠Ew)→LN x s.data.toList k Ew (i:Int) (j:Int)):=fun ho=> .inr ⟨i,j,rfl,rfl,dA,hm,ho,fun p d q1 q2=>HN.out p d q1 q2,fun d hd=>by
       cases RB:AP x s.data.toList i d with
       |false=>rfl
       |true=>have:=HD.out d (by omega) RB;omega⟩
      have HM:=γ hm;clear hm
      by_cases hji:(i:Int)<(j:Int)
      ·clear HD HN
       go_wp2;go_ret2;exact⟨⟨_,_,rfl,HF.out (.inl (by omega))⟩,rfl⟩
      ·by_cases WM:(i:Int)=Ew
       ·have h5:((i:Int) !=Ew)=false:=by rw[WM];simp
        have I3:Hid (∀d,j≤d→AP x s.data.toList i d=true→d=i∧(i:Int)=Ew):=fun d hd hmd=>by
         by_cases h:d=j
         ·exact⟨by omega,WM⟩
         ·exact HD.out d (by omega) hmd
        clear HD HF HM WM;go_wp2
        go_round
        case rel=>exact⟨j,by omega,by omega,rfl,I3.out⟩
        case measure=>simp[intOf]
       ·have h5:((i:Int) !=Ew)=true:=by rw[bne_iff_ne];exact WM
        have GO:Hid (LN x s.data.toList k Ew (i:Int) (j:Int)):=HF.out (.inr WM);clear HD HN HF HM WM;go_wp2;go_ret2;exact⟨⟨_,_,rfl,GO.out⟩,rfl⟩
    ·obtain rfl:i=jj:=by omega
     have h1:¬(i:Int)≤(i:Int) - 1:=by omega
     have Qo:Hid (∀p d,k≤p→p<i+1→AP x s.data.toList p d=true→d=p∧(p:Int)=Ew):=fun p d q1 q2 hm=>by
      by_cases h:p=i
      ·subst h
       by_cases hd:p≤d
       ·exact HD.out d hd hm
       ·rw[Fo x _ p d (.inl (by omega))]at hm;cases hm
      ·exact HN.out p d q1 (by omega) hm
     clear HD HN;go_wp2
     go_round
     case rel=>exact⟨i+1,by omega,by omega,by go_num,Qo.out⟩
     case measure=>simp[intOf];omega
  ·have AV:¬(i:Int)<(s.size:Int)+1:=by omega
   have HF:Hid (LN x s.data.toList k Ew (-1) (-1)):= .inl ⟨rfl,rfl,fun p d q1 hm=>by
    by_cases hp:p<i
    ·exact HN.out p d q1 hp hm
    ·rw[Fo x _ p d (by omega)]at hm;cases hm⟩
   clear HN;go_wp2;go_ret2;exact⟨⟨_,_,rfl,HF.out⟩,rfl⟩
theorem DQ(P:Value→World→Prop)(b:Nat)(tl:List Value)(V:RV)(S:St)(vs:List Value)(c:Cm)(w:World)(h:π P b tl V S w)(hw:WF S)(hc:BK w vs c)(hk:DZ c)(hn:c.name=104∨c.name=103∨c.name=120∨c.name=72∨c.name=71∨c.name=115∨c.name=121):
  Calls prog 219 #[.pointer (some ⟨b,0,none⟩),.agg vs.toArray] w fun e w'=>Hd P b tl V (S.change c) w e w':=by
 have HC:=γ hc;have Bc:Hid (∀v∈vs,v.oneCell'=true):=hc.one;have Bh:=γ hc.len;obtain⟨CF,_,_,rf,vE,_⟩ :=hc.cells;have Bn:=γ CF;have HFT:Hid ((vs.drop 23).take 2= [.string c.UO,.string c.Kv]):=by
  obtain⟨p1,q1,p2,q2,p3,q3,p4,q4,rfl,_⟩ :=hc
  rfl
 have AEC:Hid (((vs.drop 16).take 7).length=7):=by show _=_;rw[List.length_take,List.length_drop,Bh.out];rfl
 have HH:=γ h;have Bq:=h.box.lt;have H7:=hk.nm;have Xj:=hw.pa;have Wm:=hw.ho;have HK:=γ hk;obtain⟨ap,cp,EO,_⟩ :=h.pat.out.form;obtain⟨ah,ch,zh,_⟩ :=h.hold.out.form;have Tk:=γ EO;have bX:=γ zh
 have HL:Hid (S.change c=if c.name=104 then{S with hold:=S.pat}else if c.name=103 then{S with pat:=S.hold}else if c.name=120 then{S with pat:=S.hold,hold:=S.pat}
  else if c.name=72 then(if S.fits (AJ S.hold (C4 (-1)) S.pat).length then{S with hold:=AJ S.hold (C4 (-1)) S.pat}else S.die 5)
  else if c.name=71 then(if S.fits (AJ S.pat (C4 (-1)) S.hold).length then{S with pat:=AJ S.pat (C4 (-1)) S.hold}else S.die 5)
  else if c.name=115 then S.subst c.sub else{S with pat:=S.pat.map (BQ c.UO.data.toList c.Kv.data.toList)}):=rfl
 obtain⟨nm,Wl⟩ :∃k,c.name=k:=⟨_,rfl⟩
 rw[Wl]at hn Bn HL H7;clear h hc CF rf vE Wl EO zh hk
 go_enter func219,ntmps219
 go_wp2_with(refine AU rfl _ rfl vs rfl Bc.out ?_
             intro w1 ξ B1 CE;have h1:=HH.out.below B1;have A0:=γ h1;have Dx:=h1.box.lt;have FJ:=h1.cell 10 _ rfl;have E2:=h1.cell 11 _ rfl;have Pa:w1.cell? ⟨b,10,none⟩ =some (.slice ap S.pat.length cp):=by rw[FJ];show some V.pat=_;rw[Tk.out]
             have Pb:w1.cell? ⟨b,11,none⟩ =some (.slice ah S.hold.length ch):=by rw[E2];show some V.hold=_;rw[bX.out]
             clear h1 FJ E2)
 refine(Bb (-1) w1).mono ?_;rintro e w2 ⟨rfl,B2⟩;have B3:Below w1.heap.size w1 (w2.alloc (.cells #[.int .u8 10,.int .i64 (-1)] 230)):=B2.alloc B2.size _;have CM:CB (w2.alloc (.cells #[.int .u8 10,.int .i64 (-1)] 230)) w2.heap.size [.int .u8 10,.int .i64 (-1)]:=CB.new w2 _ #[.int .u8 10,.int .i64 (-1)] (by simp[Value.oneCell']);have h3:=A0.out.below B3;have Ge:=γ h3;have OT:Hid (Rf (ρ b V) (ρ b V) w (w2.alloc (.cells #[.int .u8 10,.int .i64 (-1)] 230))):=(Rf.η B1).trans (.η B3);have He:=ξ.below B3 ξ.lt;have d12:=He.c 12 _ Bn.out;have lcb:=He.lt;have np:=h3.box.lt;have bB:=γ (HC.out.below (BC B1 B3));have f10:=h3.fz 10 (by decide);have f11:=h3.fz 11 (by decide);have FJ:=h3.cell 10 _ rfl;have E2:=h3.cell 11 _ rfl;have Fs:=h3.pat;have Ft:=h3.hold;rw[Tk.out]at Fs;rw[bX.out]at Ft;have Jr:=γ Fs;have po:=γ Ft;clear h3 Fs Ft Pa Pb ξ;rcases hn with rfl|rfl|rfl|rfl|rfl|rfl|rfl
 ·have HL:Hid (S.change c= {S with hold:=S.pat}):=HL.out
  have hA:=Ge.out.Nq _ _ Jr.out;go_wp2
  go_end0
  exact⟨rfl,by rw[HL.out];exact μ.trans rfl OT.out hA⟩
 ·have HL:Hid (S.change c= {S with pat:=S.hold}):=HL.out
  have hA:=Ge.out.GX _ _ po.out;go_wp2
  go_end0
  exact⟨rfl,by rw[HL.out];exact μ.trans rfl OT.out hA⟩
 ·have HL:Hid (S.change c= {S with pat:=S.hold,hold:=S.pat}):=HL.out
  obtain⟨V4,Kh,Mr,TK⟩ :=Ge.out.GX _ _ po.out;have hB:=Mr.Nq _ _ (Jr.out.fr TK);have HR:Hid (μ P b tl V (S.change c) w (((w2.alloc (.cells #[.int .u8 10,.int .i64 (-1)] 230)).setCell ⟨b,10,none⟩ (.slice ah S.hold.length ch)).setCell ⟨b,11,none⟩ (.slice ap S.pat.length cp))):=by
   show μ _ _ _ _ _ _ _;rw[HL.out];exact μ.trans Kh (OT.out.trans TK) hB
  clear Mr TK hB Kh;go_wp2
  go_end0
  exact⟨rfl,HR.out⟩
 ·have HL:Hid (S.change c=if S.fits (AJ S.hold (C4 (-1)) S.pat).length then{S with hold:=(AJ S.hold (C4 (-1)) S.pat)}else S.die 5):=HL.out
  go_wp2_with(refine ω Lz CM rfl rfl _ rfl rfl ?_)
  refine(Eb _ _ S.hold S.pat 10 (-1) 10 _ rfl po.out.out Jr.out.out (by omega)).mono ?_;rintro e w4 ⟨v4,rfl,GA,B4⟩;have Hp:w4.ownsRow (w2.alloc (.cells #[.int .u8 10,.int .i64 (-1)] 230)).heap.size 230 2 v4 (AJ S.hold (C4 (-1)) S.pat).length (Cn (AJ S.hold (C4 (-1)) S.pat)):=GA;have M4:Av (ρ b V) w4 (fun w=>ψ w v4 (AJ S.hold (C4 (-1)) S.pat)):=JB Hp (fun k hk=>FM Ge.out k hk);have Mr:=Ge.out.below B4;have Nv:Hid (Rf (ρ b V) (ρ b V) w w4):=OT.out.trans (.η B4);obtain⟨J,hJ⟩ :∃J,(AJ S.hold (C4 (-1)) S.pat)=J:=⟨_,rfl⟩
  have xV:Hid (J.length≤1000):=by
   show _≤_;rw[←hJ];unfold AJ;rw[List.length_append,List.length_append];simp;omega
  rw[hJ]at M4 HL Hp;obtain⟨jl,hjl⟩ :∃k,J.length=k:=⟨_,rfl⟩
  rw[hjl]at Hp HL xV;obtain⟨a4,c4,UJ⟩ :=κ Hp;subst UJ;clear GA Hp hJ hjl
  go_wp2_with fail
  refine(GG P b tl V S jl w4 Mr hw.rm (by have:=xV.out;omega)).mono ?_;rintro e w9 ⟨rfl,V9,VX,GY,Mn⟩;have R3:=M4.fr Mn;cases KC:S.fits jl
  ·rw[KC,if_neg (by decide)]at GY
   have HR:Hid (μ P b tl V (S.change c) w w9):=by
    show μ _ _ _ _ _ _ _;rw[HL.out,KC,if_neg (by decide)];exact⟨V9,VX,GY,Nv.out.trans Mn⟩
   clear KC GY Mn R3 M4;go_wp2
   go_end0
   exact⟨rfl,HR.out⟩
  ·rw[KC,if_pos rfl]at GY
   have l9:=GY.box.lt;have f9:=GY.fz 11 (by decide);have c9:=GY.cell 11 _ rfl;have hB:=GY.Nq _ _ R3;have HR:Hid (μ P b tl V (S.change c) w (w9.setCell ⟨b,11,none⟩ (.slice a4 jl c4))):=by
    show μ _ _ _ _ _ _ _;rw[HL.out,KC,if_pos rfl];exact μ.trans VX (Nv.out.trans Mn) hB
   clear KC GY Mn R3 M4 hB VX;go_wp2
   go_end0
   exact⟨rfl,HR.out⟩
 ·have HL:Hid (S.change c=if S.fits (AJ S.pat (C4 (-1)) S.hold).length then{S with pat:=(AJ S.pat (C4 (-1)) S.hold)}else S.die 5):=HL.out
  go_wp2_with(refine ω Lz CM rfl rfl _ rfl rfl ?_)
  refine(Eb _ _ S.pat S.hold 10 (-1) 10 _ rfl Jr.out.out po.out.out (by omega)).mono ?_;rintro e w4 ⟨v4,rfl,GA,B4⟩;have Hp:w4.ownsRow (w2.alloc (.cells #[.int .u8 10,.int .i64 (-1)] 230)).heap.size 230 2 v4 (AJ S.pat (C4 (-1)) S.hold).length (Cn (AJ S.pat (C4 (-1)) S.hold)):=GA;have M4:Av (ρ b V) w4 (fun w=>ψ w v4 (AJ S.pat (C4 (-1)) S.hold)):=JB Hp (fun k hk=>FM Ge.out k hk);have Mr:=Ge.out.below B4;have Nv:Hid (Rf (ρ b V) (ρ b V) w w4):=OT.out.trans (.η B4);obtain⟨J,hJ⟩ :∃J,(AJ S.pat (C4 (-1)) S.hold)=J:=⟨_,rfl⟩
  have xV:Hid (J.length≤1000):=by
   show _≤_;rw[←hJ];unfold AJ;rw[List.length_append,List.length_append];simp;omega
  rw[hJ]at M4 HL Hp;obtain⟨jl,hjl⟩ :∃k,J.length=k:=⟨_,rfl⟩
  rw[hjl]at Hp HL xV;obtain⟨a4,c4,UJ⟩ :=κ Hp;subst UJ;clear GA Hp hJ hjl
  go_wp2_with fail
  refine(GG P b tl V S jl w4 Mr hw.rm (by have:=xV.out;omega)).mono ?_;rintro e w9 ⟨rfl,V9,VX,GY,Mn⟩;have R3:=M4.fr Mn;cases KC:S.fits jl
  ·rw[KC,if_neg (by decide)]at GY
   have HR:Hid (μ P b tl V (S.change c) w w9):=by
    show μ _ _ _ _ _ _ _;rw[HL.out,KC,if_neg (by decide)];exact⟨V9,VX,GY,Nv.out.trans Mn⟩
   clear KC GY Mn R3 M4;go_wp2
   go_end0
   exact⟨rfl,HR.out⟩
  ·rw[KC,if_pos rfl]at GY
   have l9:=GY.box.lt;have f9:=GY.fz 10 (by decide);have c9:=GY.cell 10 _ rfl;have hB:=GY.GX _ _ R3;have HR:Hid (μ P b tl V (S.change c) w (w9.setCell ⟨b,10,none⟩ (.slice a4 jl c4))):=by
    show μ _ _ _ _ _ _ _;rw[HL.out,KC,if_pos rfl];exact μ.trans VX (Nv.out.trans Mn) hB
   clear KC GY Mn R3 M4 hB VX;go_wp2
   go_end0
   exact⟨rfl,HR.out⟩
 ·have HL:Hid (S.change c=S.subst c.sub):=HL.out
  have I2:=HK.out
  go_wp2_with(refine D7 AAk He (o:=16) rfl AEC.out rfl _ rfl rfl ?_)
  refine(PI P b tl V S _ c.sub _ Ge.out hw bB.out.cells.2.2.2.2.2 I2.i3 I2.rp I2.ct).mono ?_;rintro e w5 ⟨rfl,hr⟩;have HR:Hid (μ P b tl V (S.change c) w w5):=by show μ _ _ _ _ _ _ _;rw[HL.out];exact μ.trans rfl OT.out hr
  clear hr;go_wp2
  go_end0
  exact⟨rfl,HR.out⟩
 ·have HL:Hid (S.change c= {S with pat:=S.pat.map (BQ c.UO.data.toList c.Kv.data.toList)}):=HL.out
  have I2:=HK.out
  go_wp2_with(refine D7 ACw He (o:=23) HFT.out rfl rfl _ rfl rfl ?_)
  refine(QS _ S.pat c.UO c.Kv _ Jr.out.out (by omega) I2.fr I2.Kv).mono ?_;rintro e w5 ⟨v5,rfl,BT,B5⟩;have Se:Av (ρ b V) w5 (fun w=>ψ w v5 (S.pat.map (BQ c.UO.data.toList c.Kv.data.toList))):=JB BT (fun k hk=>FM Ge.out k hk);have MM:=Ge.out.below B5;have l5:=MM.box.lt;have g10:=MM.fz 10 (by decide);have e10:=MM.cell 10 _ rfl;have hB:=MM.GX _ _ Se;have HR:Hid (μ P b tl V (S.change c) w (w5.setCell ⟨b,10,none⟩ v5)):=by
   show μ _ _ _ _ _ _ _;rw[HL.out];exact μ.trans rfl (OT.out.trans (.η B5)) hB
  rw[List.length_map]at BT;obtain⟨a5,c5,Nu⟩ :=κ BT;subst Nu;clear hB Se MM BT;go_wp2
  go_end0
  exact⟨rfl,HR.out⟩
def Fu(P:Value→World→Prop)(v:Value):Prop:=∀(n:Nat)(w:World),n≤4096→P v w→Calls prog 239 #[.int .i64 (n:Nat)] w fun e w'=>e= .returned (.string (St.itoa n))∧Below w.heap.size w w'
theorem tR(n:Nat):∀k,n<10 ^ (k+1)→(Lib.decDigits n).length≤k+1:=by
 intro k
 induction k generalizing n with
 |zero=>intro h;rw[Lib.decDigits,dif_pos (by omega)];simp
 |succ k ih=>
  intro h;rw[Lib.decDigits];split
  ·simp
  ·rw[List.length_append]
   have:=ih (n / 10) (by rw[Nat.div_lt_iff_lt_mul (by decide)];rw[Nat.pow_succ]at h;exact h);simp;omega
theorem Ut(n:Nat)(h:n≤4096):(St.itoa n).size≤4:=by
 have h1:=tR n 3 (by omega);have h2:(St.itoa n).size=(Lib.decDigits n).length:=by
  rw[←Δ];rfl
 omega
section
variable {P : Value → World → Prop} {b : Nat} {tl : List Value} {V : RV} {S : St} {w w' : World}
theorem π.WO(h:π P b tl V S w){v':Value}{t:ByteArray}(ν:w'.ownsRow 0 9 1 v' (S.queue.length+1) (S.queue.map .string++ [.string t]))(hg:w.grownBy w' V.D8.ownBlock)(Cw:v'.ownBlock=V.D8.ownBlock∨v'.ownBlock=some w.heap.size):
  CB w' b (GD V S++tl)∧μ P b tl V {S with queue:=S.queue++ [t]} w (w'.setCell ⟨b,13,none⟩ v'):=by
 have Bq:=h.box.lt;have hk:∀k,k<w.heap.size→V.D8.ownBlock≠some k→w'.heap[k]? =w.heap[k]? :=fun k hk hne=>hg.block k hk (fun e=>hne e.symm)
 have Eo:=h.box.keep (hk b Bq h.sq) hg.size;refine⟨Eo,⟨V.AZ,V.AM,V.out,V.pat,V.hold,v'⟩,rfl,?_⟩;have S6:v'.ownBlock≠some b:=by
  rcases Cw with e|e<;>rw[e]
  ·exact h.sq
  ·intro e';simp at e';omega
 have f1:Rf (ρ b V) (ρ b ⟨V.AZ,V.AM,V.out,V.pat,V.hold,v'⟩) w w':=by
  refine⟨hg.os,hg.tape,hg.output,hg.size,fun k aH hF=>hk k aH (fun e=>hF (.inr (.inr (.inr e)))),fun k hF=> ?_⟩;rcases hF with e|e |e |e
  ·exact .inl (.inl e)
  ·exact .inl (.inr (.inl e))
  ·exact .inl (.inr (.inr (.inl e)))
  ·rcases Cw with e'|e'
   ·exact .inl (.inr (.inr (.inr (by rw[←e'];exact e))))
   ·have e:v'.ownBlock=some k:=e
    rw[e']at e;simp at e;exact .inr (by omega)
 have f2:=f1.trans (Rf.set ⟨V.AZ,V.AM,V.out,V.pat,V.hold,v'⟩ b 13 v' w');have Ep:∀k,k≠b→(w'.setCell ⟨b,13,none⟩ v').heap[k]? =w'.heap[k]? :=fun k hk=>heap_setCell_other w' _ k v' hk
 refine⟨⟨?_,?_,?_,?_,h.so,h.sr,S6,h.AZ.fr f2,h.pat.fr f2,h.hold.fr f2,h.one⟩,f2⟩
 ·have h1:=Eo.set 13 (by rw[List.length_append,CY];omega) v' (Qp ν)
  rw[List.set_append_left _ _ (by rw[CY];omega)]at h1;exact h1
 ·refine Ab (F:=ρ b V) (G:=ρ b V) h.out (fun k e=> ?_)
  have e:V.out.ownBlock=some k:=e;have Ac:=(h.out.lt k e).2;rw[Ep k (fun e'=>h.so (by rw[e,e'])),hk k Ac (GF h.out h.D8 (by decide) k e)]
 ·refine Ab (F:=ρ b V) (G:=ρ b V) h.AM (fun k e=> ?_)
  have e:V.AM.ownBlock=some k:=e;have Ac:=(h.AM.lt k e).2;rw[Ep k (fun e'=>h.sr (by rw[e,e'])),hk k Ac (GF h.AM h.D8 (by decide) k e)]
 ·show World.ownsRow _ 0 _ 1 v' (S.queue++ [t]).length ((S.queue++ [t]).map .string)
  rw[List.length_append,List.map_append];exact Ab (F:=ρ b V) (G:=ρ b V) ν (fun k e=>Ep k (fun e'=>S6 (by rw[e,e'])))
end
theorem Yp:(prog.info? 9).map (fun i=>(i.zero,i.size,i.bytes))=some (some (.string ⟨#[]⟩),1,16):=by kernel_rfl
theorem Hq(P:Value→World→Prop)(b:Nat)(tl:List Value)(V:RV)(S:St)(vs:List Value)(c:Cm)(w:World)(h:π P b tl V S w)(hw:WF S)(hc:BK w vs c)(hk:DZ c)(Dz:Fu P V.AZ)(hn:c.name=112∨c.name=80∨c.name=61∨c.name=105∨c.name=97):
  Calls prog 218 #[.pointer (some ⟨b,0,none⟩),.agg vs.toArray] w fun e w'=>Hd P b tl V (S.Bw c) w e w':=by
 have HC:=γ hc;have Bc:Hid (∀v∈vs,v.oneCell'=true):=hc.one;have Bh:=γ hc.len;obtain⟨CF,OW,ML,_,_,_⟩ :=hc.cells;have Bn:=γ CF;have L5:=γ ML;have HH:=γ h;have Bq:=h.box.lt;have H7:=hk.nm;have htb:=hk.tx;have HL:Hid (S.Bw c=if c.name=112 then S.BU else if c.name=80 then S.Ak else if c.name=61 then S.Φ (St.itoa S.line)else if c.name=105 then S.Φ c.text else{S with queue:=S.queue++ [c.text]}):=rfl;obtain⟨nm,Wl⟩ :∃k,c.name=k:=⟨_,rfl⟩
 have ck:S.line≤4096:=by have:=hw.li;have:=hw.bh;have:=hw.tx;omega
 rw[Wl]at hn Bn HL H7;clear h hc CF OW ML Wl;rcases hn with rfl|rfl|rfl|rfl|rfl
 ·have HL:Hid (S.Bw c=S.BU):=HL.out
  go_enter func218,ntmps218
  go_wp2_with(refine AU rfl _ rfl vs rfl Bc.out ?_
              intro w1 ξ B1 CE;have h1:=HH.out.below B1;have A0:=γ h1;have Bm:Hid (Rf (ρ b V) (ρ b V) w w1):= .η B1;have FU:=γ (HC.out.below B1);have L6:=γ ξ;have d12:=ξ.c 12 _ Bn.out;have d15:=ξ.c 15 _ L5.out;have l1:=ξ.lt;have Dx:=h1.box.lt;have OU:=h1.cell 12 _ rfl;clear ξ h1)
  refine(EL P b tl V S w1 A0.out hw).mono ?_;rintro e w2 ⟨rfl,hr⟩;have HR:Hid (μ P b tl V (S.Bw c) w w2):=by show μ _ _ _ _ _ _ _;rw[HL.out];exact μ.trans rfl Bm.out hr.xM
  clear hr;go_wp2
  go_end0
  exact⟨rfl,HR.out⟩
 ·have HL:Hid (S.Bw c=S.Ak):=HL.out
  go_enter func218,ntmps218
  go_wp2_with(refine AU rfl _ rfl vs rfl Bc.out ?_
              intro w1 ξ B1 CE;have h1:=HH.out.below B1;have A0:=γ h1;have Bm:Hid (Rf (ρ b V) (ρ b V) w w1):= .η B1;have FU:=γ (HC.out.below B1);have L6:=γ ξ;have d12:=ξ.c 12 _ Bn.out;have d15:=ξ.c 15 _ L5.out;have l1:=ξ.lt;have Dx:=h1.box.lt;have OU:=h1.cell 12 _ rfl;clear ξ h1)
  refine(Rm P b tl V S w1 A0.out hw).mono ?_;rintro e w2 ⟨rfl,hr⟩;have HR:Hid (μ P b tl V (S.Bw c) w w2):=by show μ _ _ _ _ _ _ _;rw[HL.out];exact μ.trans rfl Bm.out hr.xM
  clear hr;go_wp2
  go_end0
  exact⟨rfl,HR.out⟩
 ·have HL:Hid (S.Bw c=S.Φ (St.itoa S.line)):=HL.out
  go_enter func218,ntmps218
  go_wp2_with(refine AU rfl _ rfl vs rfl Bc.out ?_
              intro w1 ξ B1 CE;have h1:=HH.out.below B1;have A0:=γ h1;have Bm:Hid (Rf (ρ b V) (ρ b V) w w1):= .η B1;have FU:=γ (HC.out.below B1);have L6:=γ ξ;have d12:=ξ.c 12 _ Bn.out;have d15:=ξ.c 15 _ L5.out;have l1:=ξ.lt;have Dx:=h1.box.lt;have OU:=h1.cell 12 _ rfl;clear ξ h1)
  refine(Dz S.line w1 ck A0.out.AZ.out).mono ?_;rintro e w2 ⟨rfl,B2⟩;have Ds:=A0.out.below B2;have GO:Hid (Rf (ρ b V) (ρ b V) w w2):=Bm.out.trans (.η B2);have EV:=Ut S.line ck
  go_wp2_with fail
  refine(F4 P b tl V S (St.itoa S.line) w2 Ds hw (by omega)).mono ?_;rintro e w3 ⟨rfl,hr⟩;have HR:Hid (μ P b tl V (S.Bw c) w w3):=by show μ _ _ _ _ _ _ _;rw[HL.out];exact μ.trans rfl GO.out hr.xM
  clear hr;go_wp2
  go_end0
  exact⟨rfl,HR.out⟩
 ·have HL:Hid (S.Bw c=S.Φ c.text):=HL.out
  go_enter func218,ntmps218
  go_wp2_with(refine AU rfl _ rfl vs rfl Bc.out ?_
              intro w1 ξ B1 CE;have h1:=HH.out.below B1;have A0:=γ h1;have Bm:Hid (Rf (ρ b V) (ρ b V) w w1):= .η B1;have FU:=γ (HC.out.below B1);have L6:=γ ξ;have d12:=ξ.c 12 _ Bn.out;have d15:=ξ.c 15 _ L5.out;have l1:=ξ.lt;have Dx:=h1.box.lt;have OU:=h1.cell 12 _ rfl;clear ξ h1)
  refine(F4 P b tl V S c.text w1 A0.out hw (by omega)).mono ?_;rintro e w2 ⟨rfl,hr⟩;have HR:Hid (μ P b tl V (S.Bw c) w w2):=by show μ _ _ _ _ _ _ _;rw[HL.out];exact μ.trans rfl Bm.out hr.xM
  clear hr;go_wp2
  go_end0
  exact⟨rfl,HR.out⟩
 ·have HL:Hid (S.Bw c= {S with queue:=S.queue++ [c.text]}):=HL.out
  obtain⟨i0,hi,DF,CN,Dq⟩ :=info_parts Yp;obtain⟨aq,cq,fP⟩ :=κ HH.out.D8;have aK:=γ fP;have hqu:=hw.qu;clear fP
  go_enter func218,ntmps218
  go_wp2_with(refine AU rfl _ rfl vs rfl Bc.out ?_
              intro w1 ξ B1 CE;have h1:=HH.out.below B1;have A0:=γ h1;have Bm:Hid (Rf (ρ b V) (ρ b V) w w1):= .η B1;have FU:=γ (HC.out.below B1);have L6:=γ ξ;have d12:=ξ.c 12 _ Bn.out;have d15:=ξ.c 15 _ L5.out;have l1:=ξ.lt;have Dx:=h1.box.lt;have Ro:=h1.cell 13 _ rfl;have AFl:w1.cell? ⟨b,13,none⟩ =some (.slice aq S.queue.length cq):=by rw[Ro];show some V.D8=_;rw[aK.out]
              have f13:=h1.fz 13 (by decide);clear Ro;clear ξ h1)
  have BA:Below w1.heap.size w1 (w1.alloc (.cells #[.string c.text] 9)).drew:=(ζ.alloc δ _).drew;have zi:=A0.out.below BA;have HRA:=γ zi;have hqA:=zi.D8;rw[aK.out]at hqA;have cz:(w1.alloc (.cells #[.string c.text] 9)).drew.heap[w1.heap.size]? =some (.cells #[.string c.text] 9):=heap_alloc_new w1 _;have uh:∀j u,([.string c.text]:List Value)[j]? =some u→(w1.alloc (.cells #[.string c.text] 9)).drew.cell? ((⟨w1.heap.size,0,none⟩ :Addr).add j)=some u:=fun j u hu=>by
   rw[Addr.add_mid,cell_of_row _ _ _ _ _ _ cz]
   simpa using hu
  have GO:Hid (Rf (ρ b V) (ρ b V) w (w1.alloc (.cells #[.string c.text] 9)).drew):=Bm.out.trans (.η BA);clear zi
  go_region_law(first
   | (refine step_append_lies _ rfl (.tmp 37) (.tmp 40) 22 rfl 0 9 i0 (.string ⟨#[]⟩) 1 16 underlying22 hi DF CN Dq rfl (by decide) (.slice aq S.queue.length cq) S.queue.length (S.queue.map .string) (by simp[Act.eval]) hqA ⟨w1.heap.size,0,none⟩ 1 1 [.string c.text] (by simp[Act.eval]) rfl uh (by simp[Value.oneCell']) (by decide) (by unfold maxLen;omega) (by omega) ε (w1.heap.size+1) (by simp) ?_
      intro g cap w3 Γ AE Ea _;have ub:=HRA.out.WO Γ (by rw[aK.out];exact AE) (by rw[aK.out];rcases Ea with e|e;exact .inl (by rw[e];rfl);exact .inr (by rw[e];simp[Value.ownBlock]));obtain⟨He,Wj⟩ :=ub;have mT:=γ Wj;have g13:=He.fz 13 (by simp[GD]);have e13:=He.c 13 V.D8 (by simp[GD]);have l3:=He.lt;clear Wj He AE Ea Γ))
  all_goals
   go_wp2
   go_end0
   exact⟨rfl,by rw[HL.out];exact μ.trans rfl GO.out mT.out⟩
end Go.Proofs.YtlppphmnegdhoabGreatDoor
