import Derived.Test.YtlppphmnegdhoabGreatDoorMz21
set_option linter.unusedVariables false
set_option maxRecDepth 100000
set_option maxHeartbeats 4000000
namespace Go.Proofs.YtlppphmnegdhoabGreatDoor
open Go.Proofs.Tryz
open Go.RowKit
open M
def aV(w:World)(vs:List Value)(s:Lx):Prop:=∃a c a' c',vs= [.bool s.ex.head,.bool s.ex.tail,.slice a s.ex.l.length c,.slice a' s.rep.length c',.int .i64 (s.count:Nat),.bool s.all,.bool s.Pt]∧EB w a s.ex.l∧Ia w a' s.rep
theorem aV.below{w w':World}{vs:List Value}{s:Lx}(h:aV w vs s)(hb:Below w.heap.size w w'):aV w' vs s:=by
 obtain⟨a,c,a',c',h1,h2,h3⟩ :=h;exact⟨a,c,a',c',h1,h2.below hb,h3.below hb⟩
def Vb(w:World)(a:Option Addr)(L:List (Nat×Nat)):Prop:=∀k(h:k<L.length),∃g,a=some ⟨g,0,none⟩∧g<w.heap.size∧w.rangeAt g (k*2) [.int .i64 (L[k].1:Nat),.int .i64 (L[k].2:Nat)]
theorem Vb.below{w w':World}{a:Option Addr}{L:List (Nat×Nat)}(h:Vb w a L)(hb:Below w.heap.size w w'):Vb w' a L:=fun k hk=>by
 obtain⟨g,h1,h2,h3⟩ :=h k hk;exact⟨g,h1,by have:=hb.size;omega,fun j u hu=>(World.cell?_of_block (hb.block g h2)).trans (h3 j u hu)⟩
theorem xg(L:List (Nat×Nat)):∀i(h:i<L.length),(fZ L)[i*2]? =some (.int .i64 (L[i].1:Nat))∧(fZ L)[i*2+1]? =some (.int .i64 (L[i].2:Nat)):=by
 induction L with
 |nil=>intro i h;simp at h
 |cons c L ih=>
  intro i h;have hc:fZ (c::L)= .int .i64 (c.1:Nat):: .int .i64 (c.2:Nat)::fZ L:=rfl;cases i with
  |zero=>exact⟨rfl,rfl⟩
  |succ i=>
   have:=ih i (by simpa using h);rw[hc,show(i+1)*2=i*2+2 by omega]
   simpa using this
theorem Vb.own{w:World}{B:Nat}{a:Option Addr}{n c:Nat}{L:List (Nat×Nat)}(h:w.ownsRow B 294 2 (.slice a n c) n (fZ L))(hn:L.length=n):Vb w a L:=fun k hk=>by
 obtain⟨g,hg⟩ :∃g,a=some ⟨g,0,none⟩ :=by
  rcases h.2 with⟨_,hz⟩ | ⟨g,cap,cur,hv,_⟩
  ·omega
  ·simp at hv;exact⟨g,hv.1⟩
 subst hg;obtain⟨c0,c1⟩ :=xg L k hk;have e0:=h.cells rfl _ _ c0;have e1:=h.cells rfl _ _ c1;rw[Addr.add_mid,Nat.zero_add]at e0 e1;refine⟨g,rfl,(h.lt g rfl).2,fun j u hu=> ?_⟩
 match j,hu with
 |0,hu=>simp at hu;rw[←hu];simpa using e0
 |1,hu=>simp at hu;rw[←hu];exact e1
 |j+2,hu=>simp at hu
theorem AAk:EE 144 7:=⟨⟨_,underlying144,rfl⟩,by kernel_rfl⟩
theorem qz:EE 294 2:=⟨⟨_,underlying294,rfl⟩,by kernel_rfl⟩
theorem UU(l:List Cl)(s:Lx)(m:Nat×Nat)(ms:List (Nat×Nat))(k b:Nat):Au l s (m::ms) k b=if I7 s k then τ l b m.1++Ai s.rep (τ l m.1 m.2)++Au l s ms (k+1) m.2 else Au l s ms (k+1) b:=rfl
theorem UW{w:World}{B:Nat}{v v':Value}{e:TypeId}{sz n:Nat}{xs:List Value}{M:Nat}(h:w.ownsRow B e sz v n xs)(h':∀k,v'.ownBlock=some k→k<M)(hM:M≤B):v.ownBlock=none∨v.ownBlock≠v'.ownBlock:=by
 cases ho:v.ownBlock with
 |none=>exact .inl rfl
 |some k=>exact .inr (fun e=>by have h1:=(h.lt k ho).1;have h2:=h' k e.symm;omega)
theorem X3(s:Lx)(k:Nat):I7 s k=true↔(k=s.count∨(s.count<k∧s.all=true)):=by
 unfold I7;simp
theorem R2(vl:Value)(l:List Cl)(vs:List Value)(s:Lx)(a:Option Addr)(c:Nat)(ms:List (Nat×Nat))(w:World)(DC:ψ w vl l)(OQ:l.length≤256)(je:aV w vs s)(Wj:s.rep.length≤400)(q5:s.count≤9)(dB:Vb w a ms)(hms:ms.length≤600)(Fx:Ns l.length 0 ms):
  Calls prog 248 #[vl,.agg vs.toArray,.slice a ms.length c] w fun e w'=>Rl (Au l s ms 1 0) w e w':=by
 obtain⟨ai,ci,ar,cr,rfl,_,ig⟩ :=je;have KX:=γ ig;have KW:=γ DC;have Jr:=γ dB;have QT:=γ Fx;obtain⟨al,cl,rfl,_⟩ :=DC.form;obtain⟨N,hN⟩ :∃N,l.length=N:=⟨_,rfl⟩
 obtain⟨n,hn⟩ :∃n,ms.length=n:=⟨_,rfl⟩
 have HN:=γ hN;have Bn:=γ hn;rw[hN]at OQ KW QT⊢;rw[hn]at hms⊢;generalize pN:([.bool s.ex.head,.bool s.ex.tail,.slice ai s.ex.l.length ci,.slice ar s.rep.length cr,.int .i64 (s.count:Nat),.bool s.all,.bool s.Pt]:List Value)=VS;have Eo:CB (w.alloc (.cells VS.toArray 144)) w.heap.size VS:=CB.new w _ VS.toArray (by rw[←pN];simp[Value.oneCell']);have B0:Below w.heap.size w (w.alloc (.cells VS.toArray 144)):=ζ.alloc δ _;subst pN;clear DC dB Fx ig hN hn;have Eu:Hid (Au l s ms 1 0= []++Au l s (ms.drop 0) (0+1) 0):=by show _=_;rw[List.drop_zero];rfl
 go_enter func248,ntmps248
 go_wp2_with fail
 go_loopw [7,8,18] (fun v7 v8 q6 wr=>∃(i bh q:Nat)(R:List Cl),q6= .int .i64 i∧v8= .int .i64 bh∧i≤n∧bh≤N∧Hid (Au l s ms 1 0=R++Au l s (ms.drop i) (i+1) bh)∧Hid (Ns N bh (ms.drop i))∧Hid (R.length=q)∧q≤i*200000∧wr.ownsRow (w.heap.size+1) 230 2 v7 q (Cn R)∧CB wr w.heap.size [.bool s.ex.head,.bool s.ex.tail,.slice ai s.ex.l.length ci,.slice ar s.rep.length cr,.int .i64 (s.count:Nat),.bool s.all,.bool s.Pt]∧Below w.heap.size w wr) (fun _ _ q6 _=>n - (intOf q6).toNat)
 case atStart=>exact⟨0,0,0,[],rfl,rfl,ε,ε,Eu,by show Ns _ _ _;rw[List.drop_zero];exact QT.out,rfl,ε,World.ownsRow_nil _ _ _ _,Eo,B0⟩
 case round=>
  clear Eo B0 Eu;obtain⟨i,bh,q,R,rfl,rfl,hi,hbN,HR,HMO,HQ,hq,ν,Eo,hB⟩ :=hrel;obtain⟨av,cv,CX⟩ :=κ ν;subst CX;have K1:=hB.size;have hwl:=Eo.lt
  by_cases Ac:i<n
  ·have AV:(i:Int)<(n:Int):=by omega
   have h0:(0:Int)≤(i:Int):=by omega
   have BN:i<ms.length:=by rw[Bn.out];exact Ac
   obtain⟨g,rfl,hg,hr⟩ :=(Jr.out.below hB) i BN;have hdr:=List.drop_eq_getElem_cons BN;have EA:=HR.out;rw[hdr,UU]at EA;have Kb:=HMO.out;rw[hdr]at Kb;obtain⟨m1,m2,m3,m4⟩ :=Kb;have um:=γ m4;obtain⟨mf,hmf⟩ :∃k,ms[i].1=k:=⟨_,rfl⟩
   obtain⟨mt,hmt⟩ :∃k,ms[i].2=k:=⟨_,rfl⟩
   rw[hmf]at hr EA m1 m2;rw[hmt]at hr EA m2 m3 um;have ξ:CB (wr.alloc (.cells #[.int .i64 (mf:Nat),.int .i64 (mt:Nat)] 294)) wr.heap.size [.int .i64 (mf:Nat),.int .i64 (mt:Nat)]:=CB.new wr _ #[.int .i64 (mf:Nat),.int .i64 (mt:Nat)] (by simp[Value.oneCell']);have BA:Below wr.heap.size wr (wr.alloc (.cells #[.int .i64 (mf:Nat),.int .i64 (mt:Nat)] 294)):=ζ.alloc δ _;have Bp:=Ξ ν BA;have GI:=Eo.below BA Eo.lt;have L0:=hB.trans (BA.mono K1);have VJ:wr.heap.size+1≤(wr.alloc (.cells #[.int .i64 (mf:Nat),.int .i64 (mt:Nat)] 294)).heap.size:=by simp
   have d4:=GI.c 4 _ rfl;have d5:=GI.c 5 _ rfl;have d3:=GI.c 3 _ rfl;have e0:=ξ.c 0 _ rfl;have e1:=ξ.c 1 _ rfl;have l1:=ξ.lt;have AFP:=GI.lt;have xh:Hid (∀k,(Value.slice av q cv).ownBlock=some k→w.heap.size+1≤k∧k<wr.heap.size):=fun k hk=>ν.lt k hk
   clear hmf hmt hdr HMO HR m4 ν Eo hB;have HQ2:Hid (q≤(i+1)*200000):=Nat.le_trans hq (Nat.mul_le_mul_right _ (Nat.le_succ _));have xi:q≤200000000:=Nat.le_trans hq (Nat.mul_le_mul (show i≤1000 by omega) δ);have HQ3:Hid (q+110300≤(i+1)*200000):=by show _≤_;rw[Nat.add_mul];exact Nat.add_le_add hq (by decide)
   clear hq;cases Js:I7 s (i+1)
   ·rw[Js,if_neg (by decide)]at EA
    have Ge:=γ EA;have EK:¬((i:Int)+1=(s.count:Int))∧(¬((s.count:Int)<(i:Int)+1)∨((s.count:Int)<(i:Int)+1∧s.all=false)):=by
     have h9:¬(i+1=s.count∨(s.count<i+1∧s.all=true)):=fun h=>by rw[(X3 s (i+1)).2 h]at Js;cases Js
     refine⟨fun h=>h9 (.inl (by omega)),?_⟩
     by_cases h8:(s.count:Int)<(i:Int)+1
     ·refine .inr ⟨h8,?_⟩
      cases ha:s.all
      ·rfl
      ·exact absurd (.inr ⟨by omega,ha⟩) h9
     ·exact .inl h8
    have AAl:Hid (Ns N bh (ms.drop (i+1))):=um.out.mono (by omega);obtain⟨Lq,EK⟩ :=EK;have NP:(((i:Int)+1)==((s.count:Nat):Int))=false:=by rw[beq_eq_false_iff_ne];exact Lq
    clear Js EA Lq;rcases EK with PH| ⟨PH,Co⟩
    ·go_wp2_with(refine BX qz hr rfl rfl _ rfl rfl ?_)
     go_roundw
     case rel=>exact⟨i+1,bh,q,R,by go_num,rfl,by omega,hbN,Ge,AAl,HQ,HQ2.out,Bp,GI,L0⟩
     case measure=>simp[intOf]<;>omega
    ·rw[Co]at d5
     clear Co
     go_wp2_with(refine BX qz hr rfl rfl _ rfl rfl ?_)
     go_roundw
     case rel=>exact⟨i+1,bh,q,R,by go_num,rfl,by omega,hbN,Ge,AAl,HQ,HQ2.out,Bp,GI,L0⟩
     case measure=>simp[intOf]<;>omega
   ·rw[Js,if_pos rfl]at EA
    have EK:((i:Int)+1=(s.count:Int))∨(¬((i:Int)+1=(s.count:Int))∧(s.count:Int)<(i:Int)+1∧s.all=true):=by
     rcases(X3 s (i+1)).1 Js with h| ⟨h1,h2⟩
     ·exact .inl (by omega)
     ·exact .inr ⟨by omega,by omega,h2⟩
    have Ge:Hid (Au l s ms 1 0=(R++τ l bh mf++Ai s.rep (τ l mf mt))++Au l s (ms.drop (i+1)) (i+1+1) mt):=by show _=_;rw[EA];simp
    have FO:Hid ((τ l bh mf).length=mf - bh):=Hg l bh mf m1 (by rw[HN.out];omega);have NH:Hid ((τ l mf mt).length=mt - mf):=Hg l mf mt m2 (by rw[HN.out];omega);have uo:Hid ((Ai s.rep (τ l mf mt)).length≤110000):=by
     show _≤_;refine Nat.le_trans (X2 _ _) ?_;rw[NH.out];exact Nat.le_trans (Nat.mul_le_mul Wj (show mt - mf+1≤257 by omega)) (by decide)
    have CE:=KW.out.below L0;have AAm:=γ (KX.out.below L0);have X4:=xh.out;have ACu:=EK;clear Js EA EK;rcases ACu with Lq| ⟨Lq,hq3,Co⟩
    ·have NP:(((i:Int)+1)==((s.count:Nat):Int))=true:=by rw[beq_iff_eq];exact Lq
     clear Lq
     go_wp2_with(refine BX qz hr rfl rfl _ rfl rfl ?_)
     generalize wr.alloc (.cells #[.int .i64 (mf:Nat),.int .i64 (mt:Nat)] 294)=W1 at*;refine(DM _ l bh mf _ CE m1 (by rw[HN.out];omega) (by rw[HN.out];omega)).mono ?_;rintro e wx ⟨Nt,v3,rfl,s3,_⟩;rw[Nt];clear Nt;obtain⟨a3,c3,Ei,_⟩ :=s3.form;rw[FO.out]at Ei;subst Ei
     go_wp2_with fail
     refine(DM _ l mf mt _ CE m2 (by rw[HN.out];omega) (by rw[HN.out];omega)).mono ?_;rintro e wx ⟨Nt,v4,rfl,s4,_⟩;rw[Nt];clear Nt
     go_wp2_with fail
     refine(K8 ar cr s.rep v4 (τ l mf mt) _ AAm.out Wj s4 (by rw[NH.out];omega)).mono ?_;rintro e w5 ⟨v5,rfl,BT,B5⟩;have lT:=Ξ Bp B5;have s35:=s3.below B5;have lK:=GI.below B5 GI.lt;have BP:=ξ.below B5 ξ.lt;have aF:=L0.trans (B5.mono (by omega));have Qk:=B5.size;obtain⟨nf,Nd⟩ :∃k,(Ai s.rep (τ l mf mt)).length=k:=⟨_,rfl⟩
     have RO:=γ Nd;have lU:nf≤110000:=by rw[←Nd];exact uo.out
     rw[Nd]at BT;obtain⟨a5,c5,Nu⟩ :=κ BT;subst Nu;clear Nd
     go_wp2_with(first
      | (refine FI lT s35 (by rw[FO.out];omega) (by omega) rfl (.tmp 54) (.tmp 55) rfl rfl rfl ?_
         intro v6 w6 Aa OV lV;have QL:(Value.slice a5 nf c5).ownBlock=none∨(Value.slice a5 nf c5).ownBlock≠(Value.slice av q cv).ownBlock:=UW BT (fun k hk=>(X4 k hk).2) (by omega);have Mq:=BT.kept OV QL;rw[←RO.out]at Mq;have s56:=ψ.own Mq;rw[RO.out]at s56;have Eg:Below (w.heap.size+1) w5 w6:=Ci OV (by omega) (fun k hk=>(X4 k hk).1);have LY:=OV.size;have lW:∀k,v6.ownBlock=some k→w.heap.size+1≤k∧k≠wr.heap.size:=fun k hk=>by
          rcases lV with e|e
          ·rw[e]at hk;have:=X4 k hk;omega
          ·rw[e]at hk;simp at hk;omega
         have GN:CB w6 wr.heap.size [.int .i64 (mf:Nat),.int .i64 (mt:Nat)]:=BP.keep (OV.block _ (by omega) (fun e=>by have:=(X4 _ e.symm).2;omega)) (by omega);obtain⟨a6,c6,aR⟩ :=κ Aa;subst aR;clear OV lV Mq QL)
      | (refine FI Aa s56 (by rw[RO.out,FO.out];omega) (by omega) rfl (.tmp 57) (.tmp 58) rfl rfl rfl ?_
         intro v7 w7 DU TE xj;have fc:Below (w.heap.size+1) w6 w7:=Ci TE (by omega) (fun k hk=>(lW k hk).1);have lX:=TE.size;have KH:CB w7 wr.heap.size [.int .i64 (mf:Nat),.int .i64 (mt:Nat)]:=GN.keep (TE.block _ (by omega) (fun e=>(lW _ e.symm).2 rfl)) (by omega);have f1:=KH.c 1 _ rfl;have fl:=KH.lt;obtain⟨a7,c7,lY⟩ :=κ DU;subst lY;clear TE xj))
     go_roundw
     case rel=>
      refine⟨i+1,mt,q+(τ l bh mf).length+(Ai s.rep (τ l mf mt)).length,R++τ l bh mf++Ai s.rep (τ l mf mt),by go_num,rfl,by omega,by omega,Ge,um,?_,?_,?_,?_,?_⟩
      ·show _=_;rw[List.length_append,List.length_append,HQ.out]
      ·rw[FO.out,RO.out];have:=HQ3.out;omega
      ·rw[Cf,Cf];exact DU
      ·exact(lK.below Eg (by omega)).below fc (by omega)
      ·exact(aF.trans (Eg.mono (by omega))).trans (fc.mono (by omega))
     case measure=>simp[intOf]<;>omega
    ·have NP:(((i:Int)+1)==((s.count:Nat):Int))=false:=by rw[beq_eq_false_iff_ne];exact Lq
     rw[Co]at d5;clear Co;clear Lq
     go_wp2_with(refine BX qz hr rfl rfl _ rfl rfl ?_)
     generalize wr.alloc (.cells #[.int .i64 (mf:Nat),.int .i64 (mt:Nat)] 294)=W1 at*;refine(DM _ l bh mf _ CE m1 (by rw[HN.out];omega) (by rw[HN.out];omega)).mono ?_;rintro e wx ⟨Nt,v3,rfl,s3,_⟩;rw[Nt];clear Nt;obtain⟨a3,c3,Ei,_⟩ :=s3.form;rw[FO.out]at Ei;subst Ei
     go_wp2_with fail
     refine(DM _ l mf mt _ CE m2 (by rw[HN.out];omega) (by rw[HN.out];omega)).mono ?_;rintro e wx ⟨Nt,v4,rfl,s4,_⟩;rw[Nt];clear Nt
     go_wp2_with fail
     refine(K8 ar cr s.rep v4 (τ l mf mt) _ AAm.out Wj s4 (by rw[NH.out];omega)).mono ?_;rintro e w5 ⟨v5,rfl,BT,B5⟩;have lT:=Ξ Bp B5;have s35:=s3.below B5;have lK:=GI.below B5 GI.lt;have BP:=ξ.below B5 ξ.lt;have aF:=L0.trans (B5.mono (by omega));have Qk:=B5.size;obtain⟨nf,Nd⟩ :∃k,(Ai s.rep (τ l mf mt)).length=k:=⟨_,rfl⟩
     have RO:=γ Nd;have lU:nf≤110000:=by rw[←Nd];exact uo.out
     rw[Nd]at BT;obtain⟨a5,c5,Nu⟩ :=κ BT;subst Nu;clear Nd
     go_wp2_with(first
      | (refine FI lT s35 (by rw[FO.out];omega) (by omega) rfl (.tmp 54) (.tmp 55) rfl rfl rfl ?_
         intro v6 w6 Aa OV lV;have QL:(Value.slice a5 nf c5).ownBlock=none∨(Value.slice a5 nf c5).ownBlock≠(Value.slice av q cv).ownBlock:=UW BT (fun k hk=>(X4 k hk).2) (by omega);have Mq:=BT.kept OV QL;rw[←RO.out]at Mq;have s56:=ψ.own Mq;rw[RO.out]at s56;have Eg:Below (w.heap.size+1) w5 w6:=Ci OV (by omega) (fun k hk=>(X4 k hk).1);have LY:=OV.size;have lW:∀k,v6.ownBlock=some k→w.heap.size+1≤k∧k≠wr.heap.size:=fun k hk=>by
          rcases lV with e|e
          ·rw[e]at hk;have:=X4 k hk;omega
          ·rw[e]at hk;simp at hk;omega
         have GN:CB w6 wr.heap.size [.int .i64 (mf:Nat),.int .i64 (mt:Nat)]:=BP.keep (OV.block _ (by omega) (fun e=>by have:=(X4 _ e.symm).2;omega)) (by omega);obtain⟨a6,c6,aR⟩ :=κ Aa;subst aR;clear OV lV Mq QL)
      | (refine FI Aa s56 (by rw[RO.out,FO.out];omega) (by omega) rfl (.tmp 57) (.tmp 58) rfl rfl rfl ?_
         intro v7 w7 DU TE xj;have fc:Below (w.heap.size+1) w6 w7:=Ci TE (by omega) (fun k hk=>(lW k hk).1);have lX:=TE.size;have KH:CB w7 wr.heap.size [.int .i64 (mf:Nat),.int .i64 (mt:Nat)]:=GN.keep (TE.block _ (by omega) (fun e=>(lW _ e.symm).2 rfl)) (by omega);have f1:=KH.c 1 _ rfl;have fl:=KH.lt;obtain⟨a7,c7,lY⟩ :=κ DU;subst lY;clear TE xj))
     go_roundw
     case rel=>
      refine⟨i+1,mt,q+(τ l bh mf).length+(Ai s.rep (τ l mf mt)).length,R++τ l bh mf++Ai s.rep (τ l mf mt),by go_num,rfl,by omega,by omega,Ge,um,?_,?_,?_,?_,?_⟩
      ·show _=_;rw[List.length_append,List.length_append,HQ.out]
      ·rw[FO.out,RO.out];have:=HQ3.out;omega
      ·rw[Cf,Cf];exact DU
      ·exact(lK.below Eg (by omega)).below fc (by omega)
      ·exact(aF.trans (Eg.mono (by omega))).trans (fc.mono (by omega))
     case measure=>simp[intOf]<;>omega
  ·obtain rfl:i=n:=by omega
   have AV:¬(i:Int)<(i:Int):=by omega
   have HF:Hid (Au l s ms 1 0=R++τ l bh N):=by
    show _=_;rw[HR.out,List.drop_of_length_le (by rw[Bn.out];exact δ)]
    congr 1
    show l.drop bh=τ l bh N;unfold τ;rw[List.take_of_length_le (by rw[List.length_drop,HN.out];exact δ)]
   have FO:Hid ((τ l bh N).length=N - bh):=Hg l bh N hbN (by rw[HN.out];exact δ);have CE:=KW.out.below hB;have xi:q≤200000000:=Nat.le_trans hq (Nat.mul_le_mul (show i≤1000 by omega) δ);clear HR HMO hq
   go_wp2_with fail
   refine(DM _ l bh N _ CE hbN (by rw[HN.out];exact δ) (by rw[HN.out];omega)).mono ?_;rintro e wx ⟨Nt,v3,rfl,s3,_⟩;rw[Nt];clear Nt;obtain⟨a3,c3,Ei,_⟩ :=s3.form;rw[FO.out]at Ei;subst Ei
   go_wp2_with(refine Le ν s3 (by rw[FO.out];omega) (by omega) rfl (.tmp 68) (.tmp 69) rfl rfl rfl ?_
               intro v6 w6 Aa OV;have Eg:Below w.heap.size wr w6:=Ci OV (by omega) (fun k hk=>by have:=(ν.lt k hk).1;omega);obtain⟨a6,c6,aR⟩ :=κ Aa;subst aR;clear OV)
   go_ret;refine⟨_,rfl,?_,hB.trans Eg⟩;rw[HF.out,List.length_append,HQ.out,Cf];exact AH Aa (by omega)
theorem lZ(l:List Cl)(s:Lx)(hl:l.length≤256)(hr:s.rep.length≤400):∀(ms:List (Nat×Nat))(k b:Nat),(Au l s ms k b).length≤256+ms.length*110000:=by
 intro ms
 induction ms with
 |nil=>intro k b;show(l.drop b).length≤_;rw[List.length_drop];omega
 |cons m ms ih=>
  intro k b;rw[UU,List.length_cons];split
  ·rw[List.length_append,List.length_append]
   have h1:=ih (k+1) m.2;have h2:=X2 s.rep (τ l m.1 m.2);have h3:(τ l m.1 m.2).length≤256:=by unfold τ;rw[List.length_take,List.length_drop];omega
   have h4:(τ l b m.1).length≤256:=by unfold τ;rw[List.length_take,List.length_drop];omega
   have h5:(Ai s.rep (τ l m.1 m.2)).length≤102800:=Nat.le_trans h2 (Nat.le_trans (Nat.mul_le_mul hr (show(τ l m.1 m.2).length+1≤257 by omega)) (by decide));rw[Nat.add_mul,Nat.one_mul];generalize ms.length*110000=z at*;clear h2;omega
  ·have h1:=ih (k+1) b
   rw[Nat.add_mul,Nat.one_mul];generalize ms.length*110000=z at*;omega
theorem PI(P:Value→World→Prop)(b:Nat)(tl:List Value)(V:RV)(S:St)(vs:List Value)(s:Lx)(w:World)(h:π P b tl V S w)(hw:WF S)(je:aV w vs s)(hil:s.ex.l.length≤400)(Wj:s.rep.length≤400)(q5:s.count≤9):
  Calls prog 240 #[.pointer (some ⟨b,0,none⟩),.agg vs.toArray] w fun e w'=>Hd P b tl V (S.subst s) w e w':=by
 have HSU:Hid (S.subst s=if(CP s.ex (AL S.pat)).length<s.count then S else if S.fits (Au S.pat s (CP s.ex (AL S.pat)) 1 0).length then(if s.Pt then({S with pat:=Au S.pat s (CP s.ex (AL S.pat)) 1 0,mark:=true}:St).BU else{S with pat:=Au S.pat s (CP s.ex (AL S.pat)) 1 0,mark:=true})else S.die 5):=rfl;have HSB:=γ je;obtain⟨ai,ci,ar,cr,rfl,hex,ig⟩ :=je;have TA:=γ hex;have Xj:=hw.pa;have B0:Below w.heap.size w (w.alloc (.cells #[.bool s.ex.head,.bool s.ex.tail,.slice ai s.ex.l.length ci,.slice ar s.rep.length cr,.int .i64 (s.count:Nat),.bool s.all,.bool s.Pt] 144)):=ζ.alloc δ _;have Eo:CB (w.alloc (.cells #[.bool s.ex.head,.bool s.ex.tail,.slice ai s.ex.l.length ci,.slice ar s.rep.length cr,.int .i64 (s.count:Nat),.bool s.all,.bool s.Pt] 144)) w.heap.size [.bool s.ex.head,.bool s.ex.tail,.slice ai s.ex.l.length ci,.slice ar s.rep.length cr,.int .i64 (s.count:Nat),.bool s.all,.bool s.Pt]:=CB.new w _ #[.bool s.ex.head,.bool s.ex.tail,.slice ai s.ex.l.length ci,.slice ar s.rep.length cr,.int .i64 (s.count:Nat),.bool s.all,.bool s.Pt] (by simp[Value.oneCell']);have h1:=h.below B0;have Bq:=h.box.lt;have aJ:=h1.box.lt;have FJ:=h1.cell 10 _ rfl;have DC:=h1.pat.out;obtain⟨ap,cp,EO,_⟩ :=DC.form;rw[EO]at FJ DC;have KW:=γ DC;have HH:=γ h;obtain⟨n,hn⟩ :∃n,S.pat.length=n:=⟨_,rfl⟩
 have HN:=γ hn;rw[hn]at FJ KW Xj;clear DC EO h h1 hex ig hn
 go_enter func240,ntmps240
 go_wp2_with fail
 refine(EJ _ S.pat _ KW.out (by rw[HN.out];omega)).mono ?_;rintro e w2 ⟨rfl,B2⟩;have JD:=Eo.below B2 Eo.lt;have QI:=B0.trans (B2.mono (by simp))
 go_wp2_with(refine D7 lF JD (o:=0) rfl rfl rfl _ rfl rfl ?_)
 refine(Tj s.ex.head s.ex.tail ai ci s.ex.l (Dr S.pat) w2 (by rw[K7,HN.out];exact Xj) (by omega) (TA.out.below QI)).mono ?_;rintro e w3 ⟨v3,rfl,Γ,XX,B3⟩;have Hf:w3.ownsRow w2.heap.size 294 2 v3 (CP s.ex (AL S.pat)).length (fZ (CP s.ex (AL S.pat))):=Γ;have xm:(CP s.ex (AL S.pat)).length≤600:=XX;have QT:Hid (Ns n 0 (CP s.ex (AL S.pat))):=by
  show Ns _ _ _;have:=qo s.ex (AL S.pat);have e9:(AL S.pat).length=n:=by rw[←HN.out];simp[AL]
  rw[e9]at this;exact this
 have fN:=QI.trans (B3.mono QI.size);have K9:=JD.below B3 JD.lt;obtain⟨a3,c3,Ei⟩ :=κ Hf;subst Ei;have Jr:Hid (Vb w3 a3 (CP s.ex (AL S.pat))):=Vb.own Hf rfl;have Ge:=γ (HH.out.below fN);have CM:=Ge.out.box.lt;have e4:=K9.c 4 _ rfl;have lb3:=K9.lt;generalize CP s.ex (AL S.pat)=MS at*;obtain⟨m,hm⟩ :∃m,MS.length=m:=⟨_,rfl⟩
 have HM:=γ hm;rw[hm]at xm⊢;clear Γ Hf XX hm JD Eo FJ B2 B3
 by_cases Ac:m<s.count
 ·have AV:(m:Int)<((s.count:Nat):Int):=by omega
  have HF:Hid (S.subst s=S):=by show _=_;rw[HSU.out,HM.out,if_pos Ac]
  clear HSU;go_wp2;refine bodyPost_ret (results_none rfl _ _ _) rfl ?_;exact⟨rfl,by rw[HF.out];exact⟨V,rfl,Ge.out,.η fN⟩⟩
 ·have AV:¬(m:Int)<((s.count:Nat):Int):=by omega
  have ER:Hid (S.subst s=if S.fits (Au S.pat s MS 1 0).length then(if s.Pt then({S with pat:=Au S.pat s MS 1 0,mark:=true}:St).BU else{S with pat:=Au S.pat s MS 1 0,mark:=true})else S.die 5):=by show _=_;rw[HSU.out,HM.out,if_neg Ac]
  have FJ:=Ge.out.cell 10 _ rfl;have DC:=Ge.out.pat.out;obtain⟨aq,cq,EO,_⟩ :=DC.form;rw[EO]at FJ DC;rw[HN.out]at FJ DC;have d0:=K9.c 0 _ rfl;have d1:=K9.c 1 _ rfl;have d2:=K9.c 2 _ rfl;have d3:=K9.c 3 _ rfl;have d5:=K9.c 5 _ rfl;have d6:=K9.c 6 _ rfl;have AAn:=(HSB.out.below fN).below ((Below.refl w3.heap.size w3).drew);have AAo:=Jr.out.below ((Below.refl w3.heap.size w3).drew);have AAp:=DC.drew;have NI:=R2 (.slice aq n cq) S.pat _ s a3 c3 MS w3.drew AAp (by rw[HN.out];exact Xj) AAn Wj q5 AAo (by rw[HM.out];exact xm) (by rw[HN.out];exact QT.out);rw[HM.out]at NI;have pO:Hid ((Au S.pat s MS 1 0).length≤1000000000):=by
   show _≤_;refine Nat.le_trans (lZ S.pat s (by rw[HN.out];exact Xj) Wj MS 1 0) ?_;rw[HM.out];exact Nat.le_trans (Nat.add_le_add_left (Nat.mul_le_mul_right _ xm) _) (by decide)
  clear HSU DC EO AAp AAn AAo
  go_wp2_with fail
  go_region_held3(fun w'=>w'.cell? ⟨b,10,none⟩ =some (.slice aq n cq)∧w'.cell? ⟨w.heap.size,0,none⟩ =some (.bool s.ex.head)∧w'.cell? ⟨w.heap.size,1,none⟩ =some (.bool s.ex.tail)∧w'.cell? ⟨w.heap.size,2,none⟩ =some (.slice ai s.ex.l.length ci)∧w'.cell? ⟨w.heap.size,3,none⟩ =some (.slice ar s.rep.length cr)∧w'.cell? ⟨w.heap.size,4,none⟩ =some (.int .i64 (s.count:Nat))∧w'.cell? ⟨w.heap.size,5,none⟩ =some (.bool s.all)∧w'.cell? ⟨w.heap.size,6,none⟩ =some (.bool s.Pt)∧b<w'.heap.size∧w.heap.size<w'.heap.size)
   (first
    |go_keep
    | (go_split_ands
       refine⟨?_,?_,?_,?_,?_,?_,?_,?_,?_,?_⟩
       ·(rw[ξ.cell (by assumption)];assumption)
       ·(rw[ξ.cell (by assumption)];assumption)
       ·(rw[ξ.cell (by assumption)];assumption)
       ·(rw[ξ.cell (by assumption)];assumption)
       ·(rw[ξ.cell (by assumption)];assumption)
       ·(rw[ξ.cell (by assumption)];assumption)
       ·(rw[ξ.cell (by assumption)];assumption)
       ·(rw[ξ.cell (by assumption)];assumption)
       ·(have:=ξ.size;omega)
       ·(have:=ξ.size;omega)))
   (first
    | (go_at_call 248;refine NI.mono ?_;rintro e w8 ⟨v8,rfl,D9,ξ⟩;have B8:=ξ))
  have qg:Below w3.heap.size w3 w8:=BC (Below.refl w3.heap.size w3).drew B8;have hR8:=Ge.out.below qg;have xn:=K9.below qg K9.lt;have Xo:Av (ρ b V) w8 (fun w=>ψ w v8 (Au S.pat s MS 1 0)):=JB D9 (fun k hk=>FM Ge.out k hk);have HF8:Hid (Rf (ρ b V) (ρ b V) w w8):=(Rf.η fN).trans (.η qg);have Nd:¬ρ b V w.heap.size:=fun hf=>by have:=FM HH.out _ hf;omega
  have AAq:=γ (WF.qX s hw.op MS 1 0);obtain⟨R,hR⟩ :∃R,Au S.pat s MS 1 0=R:=⟨_,rfl⟩
  rw[hR]at AAq;rw[hR]at D9 Xo ER pO;obtain⟨rl,RE⟩ :∃k,R.length=k:=⟨_,rfl⟩
  have ACv:=γ RE;rw[RE]at pO ER D9;obtain⟨a8,c8,xU⟩ :=κ D9;subst xU;clear D9 hR RE NI Jr QT d0 d1 d2 d3 d5 d6 e4 FJ B8 ξ
  go_wp2_with fail
  refine(GG P b tl V S rl w8 hR8 hw.rm pO.out).mono ?_;rintro e w9 ⟨rfl,V9,VX,GY,Mn⟩;have R3:=Xo.fr Mn;cases KC:S.fits rl
  ·rw[KC,if_neg (by decide)]at GY
   have HF:Hid (μ P b tl V (S.subst s) w w9):=by
    show μ _ _ _ _ _ _ _;rw[ER.out,KC,if_neg (by decide)];exact⟨V9,VX,GY,HF8.out.trans Mn⟩
   clear KC GY Mn R3 Xo;go_wp2;refine bodyPost_ret (results_none rfl _ _ _) rfl ?_;exact⟨rfl,HF.out⟩
  ·rw[KC,if_pos rfl]at GY
   have l9:=GY.box.lt;have f10:=GY.fz 10 (by decide);have FJ:=GY.cell 10 _ rfl;have f14:=GY.fz 14 (by decide);have QQ:=GY.cell 14 _ rfl;obtain⟨V10,AAr,AAs,AAt⟩ :=GY.GX _ _ R3;have hA:=AAs.set 14 (by decide) (.bool true) rfl {S with pat:=R,mark:=true} rfl rfl rfl rfl rfl rfl;have AAu:=HF8.out.trans (Mn.trans (AAt.trans (Rf.set V10 b 14 (.bool true) _)));have AAv:=xn.keep (Mn.block _ xn.lt Nd) Mn.size;have H7:w.heap.size≠b:=by omega
   have dH:=(AAv.keep (w':=w9.setCell ⟨b,10,none⟩ (.slice a8 rl c8)) (heap_setCell_other w9 _ _ _ H7) (by simp)).keep (w':=(w9.setCell ⟨b,10,none⟩ (.slice a8 rl c8)).setCell ⟨b,14,none⟩ (.bool true)) (heap_setCell_other _ _ _ _ H7) (by simp);have d6:=dH.c 6 _ rfl;have l6:=dH.lt;have HA:=γ hA;have AAw:=γ AAu;have Ip:=γ (AAr.trans VX);have hpR:R.length≤256:=by
    rw[ACv.out];have h1:=of_decide_eq_true KC;have h2:=hw.rm;omega
   have hwR:WF {S with pat:=R,mark:=true}:= {hw with pa:=hpR,op:=AAq.out}
   rw[KC,if_pos rfl]at ER;clear hA AAu AAs AAt GY Mn R3 Xo KC AAv xn K9 hR8 AAr VX;cases Gz:s.Pt
   ·rw[Gz,if_neg (by decide)]at ER
    rw[Gz]at d6;have HF:Hid (μ P b tl V (S.subst s) w ((w9.setCell ⟨b,10,none⟩ (.slice a8 rl c8)).setCell ⟨b,14,none⟩ (.bool true))):=by
     show μ _ _ _ _ _ _ _;rw[ER.out];exact⟨V10,Ip.out,HA.out,AAw.out⟩
    clear Gz dH;go_wp2
    go_end0
    exact⟨rfl,HF.out⟩
   ·rw[Gz,if_pos rfl]at ER
    rw[Gz]at d6;clear Gz dH
    go_wp2_with fail
    refine(EL P b tl V10 _ _ HA.out hwR).mono ?_;rintro e w12 ⟨rfl,hr⟩;have HF:Hid (μ P b tl V (S.subst s) w w12):=by
     show μ _ _ _ _ _ _ _;rw[ER.out];exact μ.trans Ip.out AAw.out hr.xM
    clear hr;go_wp2
    go_end0
    exact⟨rfl,HF.out⟩
end Go.Proofs.YtlppphmnegdhoabGreatDoor
