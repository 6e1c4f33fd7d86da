import Derived.Test.YtlppphmnegdhoabGreatDoorMz33
set_option linter.unusedVariables false
set_option maxRecDepth 100000
set_option maxHeartbeats 4000000
namespace Go.Proofs.YtlppphmnegdhoabGreatDoor
open Go.Proofs.Tryz
open Go.RowKit
open M
theorem gA{h0 lo:Nat}{w w':World}{A:Ku}{v0 v1 v2 v3 v4:Value}(h:Vk lo w [v0,v1,v2,v3,v4] A)(f:∀P,Cj lo w P→Cj (h0+2) w' P):dR h0 w' (A9.take 0++ [v0,v1,v2,v3,v4]++A9.drop (0+5)) ⟨0,A,FG,false⟩ :=by
 obtain⟨p,c,h1,h2⟩ :=h;refine⟨p,c,none,0,?_,f _ h2,ID _ _ _⟩;rw[h1];rfl
theorem aw{h0 lo:Nat}{wx w w':World}{cs:List Value}{A1 A2:Ku}{v0 v1 v2 v3 v4:Value}(hc:dR h0 wx cs ⟨0,A1,FG,false⟩)(h:Vk lo w [v0,v1,v2,v3,v4] A2)(g:∀P,Cj (h0+2) wx P→Cj (h0+2) w' P)(f:∀P,Cj lo w P→Cj (h0+2) w' P):dR h0 w' (cs.take 5++ [v0,v1,v2,v3,v4]++cs.drop (5+5)) ⟨0,A1,A2,false⟩ :=by
 obtain⟨p,c,h1,h2⟩ :=h;obtain⟨p1,c1,p2,c2,rfl,n1,n2⟩ :=hc;refine⟨p1,c1,p,c,?_,g _ n1,f _ h2⟩;rw[h1];rfl
theorem dR.YF{h0 x:Nat}{w:World}{cs:List Value}{A:QN}(h:dR h0 w cs A):(cs.set 11 (.int .u8 (x:Nat)))[19]? =some (.bool false)∧(cs.set 11 (.int .u8 (x:Nat)))[20]? =some (.bool false):=by
 obtain⟨p1,c1,p2,c2,rfl,_⟩ :=h;exact⟨rfl,rfl⟩
theorem SA(s:ByteArray)(w:World)(hs:s.size≤400):
  Calls prog 109 #[.string s] w fun e w'=>rq s w e w':=by
 have Mj:CB (w.alloc (.cells A9.toArray 179)) w.heap.size A9:=CB.new w _ _ C8;have RU:CB ((w.alloc (.cells A9.toArray 179)).alloc (.cells A9.toArray 179)) w.heap.size A9:=Mj.below (ζ.alloc δ _) Mj.lt;have PH:CB ((w.alloc (.cells A9.toArray 179)).alloc (.cells A9.toArray 179)) (w.heap.size+1) A9:=by
  have:=CB.new (w.alloc (.cells A9.toArray 179)) 179 A9.toArray C8;have e:(w.alloc (.cells A9.toArray 179)).heap.size=w.heap.size+1:=by simp
  rw[e]at this;exact this
 have B1:Below w.heap.size w ((w.alloc (.cells A9.toArray 179)).alloc (.cells A9.toArray 179)):=(ζ.alloc δ _).alloc (by simp) _;have VJ:((w.alloc (.cells A9.toArray 179)).alloc (.cells A9.toArray 179)).heap.size=w.heap.size+2:=by simp
 go_enter func109,ntmps109
 go_wp2_with fail
 change Calls _ _ _ ((w.alloc (.cells A9.toArray 179)).alloc (.cells A9.toArray 179)) _
 generalize((w.alloc (.cells A9.toArray 179)).alloc (.cells A9.toArray 179))=W at*;clear Mj;have HC:=LF s 0 W hs ε;rw[show((0:Nat):Int)=0 from rfl]at HC;refine HC.mono ?_;clear HC;rintro e w2 ⟨b2,vs,Wn,EN,EK⟩;have LV:=RU.below b2 RU.lt;have ib:=PH.below b2 PH.lt;have ja:=b2.size;have B2:=B1.trans (b2.mono (by omega));have hzA:CB (w2.alloc (.cells #[.int .i64 0,.int .i64 0,.bool false,.bool false,.slice none 0 0] 177)) w2.heap.size [.int .i64 0,.int .i64 0,.bool false,.bool false,.slice none 0 0]:=CB.new w2 _ _ (by simp[Value.oneCell']);have Nf:CB (w2.alloc (.cells #[.int .i64 0,.int .i64 0,.bool false,.bool false,.slice none 0 0] 177)) w.heap.size A9:=LV.below (ζ.alloc δ _) LV.lt;have pT:CB (w2.alloc (.cells #[.int .i64 0,.int .i64 0,.bool false,.bool false,.slice none 0 0] 177)) (w.heap.size+1) A9:=ib.below (ζ.alloc δ _) ib.lt;have B3:=B2.alloc (o:= .cells #[.int .i64 0,.int .i64 0,.bool false,.bool false,.slice none 0 0] 177) (by omega);generalize jc:w2.alloc (.cells #[.int .i64 0,.int .i64 0,.bool false,.bool false,.slice none 0 0] 177)=W3 at*;obtain⟨g5,hg5⟩ :∃g,w2.heap.size=g:=⟨_,rfl⟩
 rw[hg5]at hzA;have dJ:w.heap.size+2≤g5:=by omega
 have HSZ:=γ VJ;clear RU PH B1 b2 LV ib B2 VJ ja;rcases EK with⟨CQ,rfl⟩ | ⟨A1,q,BW,hav,haz,hpq,Oy,Px,iZ,rfl⟩
 ·have Vq:Hid (EH s.data.toList=none):=by
   show _=_;rw[List.drop_zero]at CQ;unfold EH;rw[CQ];rfl
  clear CQ
  go_wp2_with(first
   | (refine θ Az hzA rfl rfl _ _ rfl rfl rfl Wn EN ?_;intro w5 BP O5;have hc5:=pT.keep (O5.block _ (by omega)) (by rw[O5.size];exact δ);have QV:=Nf.keep (O5.block _ (by omega)) (by rw[O5.size];exact δ))
   |refine ω Ao hc5 rfl rfl _ rfl rfl ?_
   | (refine θ Ao QV rfl rfl _ _ rfl rfl rfl rfl C8 ?_;intro w6 GN O6))
  refine bodyPost_ret (Ω rfl _ _ _ _ rfl Ao GN rfl) rfl ?_;exact⟨(B3.trans (O5.below (by omega))).trans (O6.below δ),A9,rfl,C8,.inl ⟨Vq.out,rfl⟩⟩
 ·have VF:vs[0]? =some (.int .i64 (A1.kind:Nat)):=by obtain⟨p1,c1,rfl,_⟩ :=iZ;rfl
  obtain⟨k,I2⟩ :∃k,A1.kind=k:=⟨_,rfl⟩
  rw[List.drop_zero]at BW hav;rw[I2]at BW hav haz Px VF;have Vq:Hid (EH s.data.toList=Zz k (Mi k (s.data.toList.drop q))):=by
   show _=_;unfold EH;rw[BW];rfl
  have yX:Hid (k≠0→BM s.data.toList=some (A1,s.data.toList.drop q)):=hav;have HBN:Hid (k=0→CI s.data.toList=(⟨0,A1,FG,false⟩,s.data.toList.drop q)):=fun e=>by
   rw[e]at BW;rw[haz e,mN BW];rfl
  clear hav haz;clear BW;have Lq:¬(q:Int)<0:=by omega
  have hlz:A9.length=23:=rfl;obtain⟨v0',v1',v2',v3',v4',Fb⟩ :∃a b c d e,vs= [a,b,c,d,e]:=by
   match vs,Wn with
   | [a,b,c,d,e],_=>exact⟨a,b,c,d,e,rfl⟩
  subst Fb;have HDV:=γ iZ;clear iZ;obtain rfl:v0'= .int .i64 k:=by simpa using VF
  clear I2
  go_upto_region 6 with(first
   | (refine θ Az hzA rfl rfl _ _ rfl rfl rfl Wn EN ?_;intro w5 BP O5;have hc5:=pT.keep (O5.block _ (by omega)) (by rw[O5.size];exact δ);have QV:=Nf.keep (O5.block _ (by omega)) (by rw[O5.size];exact δ))
   |refine ω Az BP rfl rfl _ rfl rfl ?_
   | (refine Ek Az hc5 0 rfl _ _ rfl rfl rfl Wn (by decide) EN ?_;intro w6 GN O6))
  have hI:X9 w.heap.size g5 k w w6 [.int .i64 k,v1',v2',v3',v4'] (A9.take 0++ [.int .i64 k,v1',v2',v3',v4']++A9.drop (0+5)):=
   ⟨QV.keep (O6.block _ (by omega)) (by rw[O6.size];exact δ),GN,BP.keep (O6.block _ (by omega)) (by rw[O6.size];exact δ),rfl,(B3.trans (O5.below (by omega))).trans (O6.below (by omega)),dJ,rfl,rfl,rfl⟩
  have HX:Hid (dR w.heap.size w6 (A9.take 0++ [.int .i64 k,v1',v2',v3',v4']++A9.drop (0+5)) ⟨0,A1,FG,false⟩):=by
   rw[←jc,←hg5]at O5;exact gA HDV.out (fun P hP=>by rw[HSZ.out]at hP;exact(hP.boxed O5).only O6 (by omega))
  clear HDV;generalize A9.take 0++ [.int .i64 k,v1',v2',v3',v4']++A9.drop (0+5)=cs at*;generalize([.int .i64 k,v1',v2',v3',v4']:List Value)=vs at*;clear BP O5 hc5 QV GN O6 hzA Nf pT B3 jc hg5 VF hlz;simp only[Act.put];obtain⟨WX,hWX⟩ :∃W,W=w6:=⟨_,rfl⟩
  subst hWX
  by_cases Oz:k≠0∧CH (s.data.toList.drop q) 44=true
  ·obtain⟨IW,BZ⟩ :=Oz
   have xi:=BG s q 44 BZ;have CR:=γ BZ;have pW:=γ IW;have gB:Hid (EH s.data.toList=Zz k (eo (Bu (s.data.toList.drop (q+1))))):=by
    show _=_;rw[Vq.out,Mi,if_pos ⟨IW,BZ⟩,List.drop_drop]
   have ca:=hI.a.c 0 _ hI.v0;have rr:=hI.a.lt;have DF:q<s.size:=by omega
   obtain⟨x,hx⟩ :∃x:Nat,s[q].toNat=x:=⟨_,rfl⟩
   have FT:x<256:=by rw[←hx];exact s[q].toNat_lt
   have ABJ:((x:Int)==44)=true:=by
    rw[Vf s q 44 DF,hx]at BZ;have:x=44:=by simpa using BZ
    simp[this]
   have CN:(q:Int)<(s.size:Int):=by omega
   have EW:((k:Int) !=0)=true:=by simp;omega
   clear Vq BZ
   go_wp2_with fail
   have HC:=LF s (q+1) WX hs xi;rw[show((q+1:Nat):Int)=(q:Int)+1 from rfl]at HC;refine HC.mono ?_;clear HC ca rr;rintro e w8 ⟨b8,us,mA,pR,EK⟩;have MQ:=hI.keep b8;have HWX:Hid (w.heap.size+2≤WX.heap.size):=by show _≤_;have:=hI.a.lt;have:=hI.TX;omega
   have HB8:=γ b8;have JX:=MQ.keep ((Below.refl w8.heap.size w8).alloc δ (.cells #[.int .i64 0,.int .i64 0,.bool false,.bool false,.slice none 0 0] 177));have pS:CB (w8.alloc (.cells #[.int .i64 0,.int .i64 0,.bool false,.bool false,.slice none 0 0] 177)) w8.heap.size [.int .i64 0,.int .i64 0,.bool false,.bool false,.slice none 0 0]:=CB.new w8 _ _ (by simp[Value.oneCell']);have j9:=MQ.a.lt;have ADO:=MQ.c.lt;obtain⟨g8,hg8⟩ :∃g,w8.heap.size=g:=⟨_,rfl⟩
   rw[hg8]at pS j9 ADO;generalize hW9:w8.alloc (.cells #[.int .i64 0,.int .i64 0,.bool false,.bool false,.slice none 0 0] 177)=W9 at*;have P0:=JX.c;have dL:=JX.len;have X6:=JX.res;clear hI MQ b8;rcases EK with⟨CQ,rfl⟩ | ⟨A2,qn,BW,yY,ABK,AFZ,AA0,ADP,yZ,rfl⟩
   ·have R8:Hid (EH s.data.toList=none):=by show _=_;rw[gB.out,CQ];rfl
    clear CQ gB
    go_wp2_with(first
     | (refine θ Az pS rfl rfl _ _ rfl rfl rfl mA pR ?_;intro pX Gk Ic;have Tr:=P0.keep (Ic.block _ (by omega)) (by rw[Ic.size];exact δ);have X7:=X6.keep (Ic.block _ (by omega)) (by rw[Ic.size];exact δ))
     |refine ω Ao Tr dL rfl _ rfl rfl ?_
     | (refine θ Ao X7 rfl rfl _ _ rfl rfl rfl dL Tr.one ?_;intro fk R6 Nx))
    refine bodyPost_ret (Ω rfl _ _ _ _ rfl Ao R6 dL) rfl ?_;exact⟨(JX.below.trans (Ic.below (by omega))).trans (Nx.below δ),_,dL,Tr.one,.inl ⟨R8.out,rfl⟩⟩
   ·have hu0:us[0]? =some (.int .i64 (A2.kind:Nat)):=by obtain⟨p1,c1,rfl,_⟩ :=yZ;rfl
    obtain⟨k2,ABL⟩ :∃k,A2.kind=k:=⟨_,rfl⟩
    rw[ABL]at BW yY ABK ADP hu0;obtain⟨u0,u1,u2,u3,u4,ZP⟩ :∃a b c d e,us= [a,b,c,d,e]:=by
     match us,mA with
     | [a,b,c,d,e],_=>exact⟨a,b,c,d,e,rfl⟩
    subst ZP;have ka:=γ yZ;have ADQ:Hid (k2≠0→BM (s.data.toList.drop (q+1))=some (A2,s.data.toList.drop qn)):=yY;clear yZ yY ABK ABL;obtain rfl:u0= .int .i64 k2:=by simpa using hu0
    have NC:¬(qn:Int)<0:=by omega
    by_cases Ep:k2=0
    ·have R8:Hid (EH s.data.toList=none):=by show _=_;rw[gB.out,BW,Ep];rfl
     have ABM:((k2:Int)==0)=true:=by simp[Ep]
     clear BW gB Ep
     go_wp2_with(first
      | (refine θ Az pS rfl rfl _ _ rfl rfl rfl mA pR ?_;intro pX Gk Ic;have Tr:=P0.keep (Ic.block _ (by omega)) (by rw[Ic.size];exact δ);have X7:=X6.keep (Ic.block _ (by omega)) (by rw[Ic.size];exact δ);have cu:=Gk.c 0 _ rfl;have hlu:=Gk.lt)
      |refine ω Ao Tr dL rfl _ rfl rfl ?_
      | (refine θ Ao X7 rfl rfl _ _ rfl rfl rfl dL Tr.one ?_;intro fk R6 Nx))
     refine bodyPost_ret (Ω rfl _ _ _ _ rfl Ao R6 dL) rfl ?_;exact⟨(JX.below.trans (Ic.below (by omega))).trans (Nx.below δ),_,dL,Tr.one,.inl ⟨R8.out,rfl⟩⟩
    ·have HM:Hid (EH s.data.toList=Cz k (M.notM k (s.data.toList.drop qn))):=by
      show _=_;rw[gB.out,BW,eo,if_neg Ep];rfl
     have ay:Hid (∀bg,(decide (k≠0) && CH (s.data.toList.drop qn) 33)=bg→∃cnt,(k=0↔cnt=0)∧CI s.data.toList=(⟨cnt,A1,A2,bg⟩,if bg then s.data.toList.drop (qn+1)else s.data.toList.drop qn)):=fun bg hb=>by
      rw[decide_eq_true pW.out,Bool.true_and]at hb;have h2:=rj (yX.out pW.out) CR.out (by rw[List.drop_drop];exact ADQ.out Ep) bg hb;refine⟨2,by have:=pW.out;omega,?_⟩;rw[h2,List.drop_drop]
     have ABM:((k2:Int)==0)=false:=by simp;omega
     clear BW gB Ep
     go_upto_region 12 with(first
      | (refine θ Az pS rfl rfl _ _ rfl rfl rfl mA pR ?_;intro pX Gk Ic;have Tr:=P0.keep (Ic.block _ (by omega)) (by rw[Ic.size];exact δ);have cu:=Gk.c 0 _ rfl;have hlu:=Gk.lt)
      |refine ω Az Gk rfl rfl _ rfl rfl ?_
      | (refine Ek Az Tr 5 rfl _ _ rfl rfl rfl mA (by omega) pR ?_;intro fk R6 Nx))
     have hI:X9 w.heap.size g5 k w fk vs (cs.take 5++ [.int .i64 k2,u1,u2,u3,u4]++cs.drop (5+5)):=by
      have hf:=JX.TX;refine⟨(X6.keep (Ic.block _ (by omega)) (by rw[Ic.size];exact δ)).keep (Nx.block _ (by omega)) (by rw[Nx.size];exact δ),R6,(JX.a.keep (Ic.block _ (by omega)) (by rw[Ic.size];exact δ)).keep (Nx.block _ (by omega)) (by rw[Nx.size];exact δ),by simp;omega,(JX.below.trans (Ic.below (by omega))).trans (Nx.below (by omega)),hf,?_,JX.v0,?_⟩
      ·rw[List.append_assoc,List.getElem?_append_left (by rw[List.length_take];omega),List.getElem?_take,if_pos (by omega)];exact JX.k0
      ·rw[List.getElem?_append_right (by rw[List.length_append,List.length_take];simp;omega),List.length_append,List.length_take,List.getElem?_drop]
       have e9:5+5+(13 - (min 5 cs.length+([.int .i64 k2,u1,u2,u3,u4]:List Value).length))=13:=by simp;omega
       rw[e9];exact JX.l13
     have ya:Hid (dR w.heap.size fk (cs.take 5++ [.int .i64 k2,u1,u2,u3,u4]++cs.drop (5+5)) ⟨0,A1,A2,false⟩):=by
      rw[←hW9,←hg8]at Ic;exact aw HX.out ka.out (fun P hP=>((hP.below HB8.out).boxed Ic).only Nx (by omega)) (fun P hP=>((hP.boxed Ic).only Nx (by have:=HWX.out;omega)).mono HWX.out)
     clear HX ka HB8 HWX;generalize cs.take 5++ [.int .i64 k2,u1,u2,u3,u4]++cs.drop (5+5)=cs at*;have HX:=γ ya.out;clear ya;clear Gk Ic Tr cu hlu R6 Nx JX P0 dL X6 pS hW9 hg8 EW ABJ CN IW ABM
     try simp only[Act.put]
     obtain⟨WX,hWX⟩ :∃W,W=fk:=⟨_,rfl⟩
     subst hWX;obtain⟨JF,YG⟩ :∃bg,(decide (k≠0) && CH (s.data.toList.drop qn) 33)=bg:=⟨_,rfl⟩
     have Vr:=γ YG;have ca:=hI.a.c 0 _ hI.v0;have rr:=hI.a.lt;clear YG
     go_upto_region 12 with fail
     go_cut [67] (fun t wx=>t= .bool JF∧wx=WX)
     case first=>
      by_cases IW:k=0
      ·have EW:((k:Int) !=0)=false:=by simp[IW]
       have GC:Hid (JF=false):=by show _=_;rw[←Vr.out,IW];rfl
       clear IW;go_wp2
       go_meet
       exact⟨by rw[GC.out],rfl⟩
      ·have EW:((k:Int) !=0)=true:=by simp;omega
       by_cases hz:qn<s.size
       ·have CN:(qn:Int)<(s.size:Int):=by omega
        obtain⟨x,hx⟩ :∃x:Nat,s[qn].toNat=x:=⟨_,rfl⟩
        have FT:x<256:=by rw[←hx];exact s[qn].toNat_lt
        have GC:Hid (JF=(x==33)):=by show _=_;rw[←Vr.out,Vf s qn 33 hz,hx,decide_eq_true IW];rfl
        clear IW
        by_cases Nw:x=33
        ·have yc:((x:Int)==33)=true:=by simp[Nw]
         have Lg:Hid (JF=true):=by show _=_;rw[GC.out,Nw];rfl
         clear Nw;go_wp2
         go_meet
         exact⟨by rw[Lg.out],rfl⟩
        ·have yc:((x:Int)==33)=false:=by simp;omega
         have Lg:Hid (JF=false):=by show _=_;rw[GC.out];simpa using Nw
         clear Nw;go_wp2
         go_meet
         exact⟨by rw[Lg.out],rfl⟩
       ·have CN:¬(qn:Int)<(s.size:Int):=by omega
        have GC:Hid (JF=false):=by show _=_;rw[←Vr.out,dM s qn 33 (by omega)];simp
        clear IW;go_wp2
        go_meet
        exact⟨by rw[GC.out],rfl⟩
     case rest=>
      obtain⟨rfl,rfl⟩ :=hcut;cases JF
      ·have HN:Hid (EH s.data.toList=Cz k (s.data.toList.drop qn)):=by
        show _=_;rw[HM.out,M.notM];split
        ·rename_i h
         have:=Vr.out;rw[h.2,decide_eq_true h.1]at this;cases this
        ·rfl
       have TG:Hid (∃cnt,(k=0↔cnt=0)∧CI s.data.toList=(⟨cnt,A1,A2,false⟩,s.data.toList.drop qn)):=ay.out _ Vr.out;clear HM Vr ay;have hE:qn≤s.size:=by omega
       by_cases hz:qn<s.size
       ·have CN:¬(s.size:Int)≤(qn:Int):=by omega
        have Dq:(qn:Int)<(s.size:Int):=by omega
        have XO:(qn:Int)+1≤(s.size:Int):=by omega
        obtain⟨x,hx⟩ :∃x:Nat,s[qn].toNat=x:=⟨_,rfl⟩
        have FT:x<256:=by rw[←hx];exact s[qn].toNat_lt
        have Pu:Hid (EH s.data.toList=if AF k x (s.data.toList.drop (qn+1))then some (x,if labelled x then s.data.toList.drop (qn+1)else [])else none):=by
         show _=_;rw[HN.out,Ap s qn hz,Cz,hx]
        obtain⟨v11,E2⟩ :=hI.c.get 11 (by have:=hI.len;omega);have f11:=hI.c.fz 11 (by have:=hI.len;omega);have JX:=hI.set 11 (by decide) (.int .u8 x) rfl (by decide) (by decide);have HZ:Hid ((s.extract (qn+1) s.size).size≤400):=by show _≤_;rw[ByteArray.size_extract];omega
        have Wo:=γ (MK s (qn+1));have DL:=hI.c.lt;clear HN
        go_wp2_with fail
        refine(Gj _ k x _ _ _ HZ.out ⟨JX.c,JX.len⟩ JX.k0 (by rw[List.getElem?_set_self (by rw[hI.len];decide)]) FT HX.out.YF.1 HX.out.YF.2).mono ?_;rintro e w9 ⟨rfl,QX,P0,Vs,mR⟩;have Hj:QX.length=23:=P0.2;have X6:=JX.res.xC Vs (by omega);have B9:=JX.below.trans (Vs.below (by omega) (by have:=JX.c.lt;omega));have yd:Hid (AF k x (s.data.toList.drop (qn+1))=true→ae QX (x,if labelled x then s.data.toList.drop (qn+1)else [])∧∃c,Dw s.data.toList=some c∧mP (w.heap.size+2) w9 QX c):=fun h9=>
         Vp HX.out Hj P0.1.one (by have:=hI.a.lt;have:=hI.TX;omega) Vs (mR (by rw[Wo.out];exact h9)) TG.out hz hx FT h9
        rw[Wo.out];have Il:=P0.1;clear mR Vs P0 HX TG;generalize iW:AF k x (s.data.toList.drop (qn+1))=ak at*
        go_wp2_with(first
         |refine ω Ao Il Hj rfl _ rfl rfl ?_
         | (refine θ Ao X6 rfl rfl _ _ rfl rfl rfl Hj Il.one ?_;intro pX Gk Ic))
        refine bodyPost_ret (Ω rfl _ _ _ _ rfl Ao Gk Hj) rfl ?_;refine⟨B9.trans (Ic.below δ),QX,Hj,Il.one,?_⟩;cases ak
        ·exact .inl ⟨Pu.out,rfl⟩
        ·obtain⟨g1,c,g2,g3⟩ :=yd.out (by first|trivial|rfl)
         exact .inr ⟨_,c,Pu.out,g1,g2,g3.map (fun P hP=>(hP.only Ic (by omega)).mono (by omega)),rfl⟩
       ·have CN:(s.size:Int)≤(qn:Int):=by omega
        have R8:Hid (EH s.data.toList=none):=by
         show _=_;rw[HN.out,List.drop_of_length_le (by rw[Δ];omega)];rfl
        have Il:=hI.c;have OQ:=hI.len;have ig:=hI.res;clear HN
        go_wp2_with(first
         |refine ω Ao Il OQ rfl _ rfl rfl ?_
         | (refine θ Ao ig rfl rfl _ _ rfl rfl rfl OQ Il.one ?_;intro pX Gk Ic))
        refine bodyPost_ret (Ω rfl _ _ _ _ rfl Ao Gk OQ) rfl ?_;exact⟨hI.below.trans (Ic.below δ),_,OQ,Il.one,.inl ⟨R8.out,rfl⟩⟩
      ·have Va:=Vr.out
       have IW:k≠0:=by
        intro e;rw[e]at Va;cases Va
       have BZ:CH (s.data.toList.drop qn) 33=true:=by
        cases e:CH (s.data.toList.drop qn) 33
        ·rw[e]at Va;simp at Va
        ·rfl
       have xi:=BG s qn 33 BZ;have HN:Hid (EH s.data.toList=Cz k (s.data.toList.drop (qn+1))):=by
        show _=_;rw[HM.out,M.notM,if_pos ⟨IW,BZ⟩,List.drop_drop]
       obtain⟨v10,FJ⟩ :=hI.c.get 10 (by have:=hI.len;omega);have f10:=hI.c.fz 10 (by have:=hI.len;omega);have MQ:=hI.set 10 (by decide) (.bool true) rfl (by decide) (by decide);have TG:Hid (∃cnt,(k=0↔cnt=0)∧CI s.data.toList=(⟨cnt,A1,A2,true⟩,s.data.toList.drop (qn+1))):=ay.out _ Vr.out;have ru:Hid (dR w.heap.size (wc.setCell ⟨w.heap.size+1,10,none⟩ (.bool true)) (cs.set 10 (.bool true)) ⟨0,A1,A2,true⟩):=HX.out.JF (AQ.set _ _ _ _);clear HX ay;clear HM Vr Va IW BZ
       go_upto_region 15 with fail
       generalize wc.setCell ⟨w.heap.size+1,10,none⟩ (.bool true)=W8 at*;obtain⟨Q2,hQ2⟩ :∃q2,qn+1=q2:=⟨_,rfl⟩
       have hQ3:(qn:Int)+1=(Q2:Int):=by omega
       rw[hQ2]at HN xi TG
       try rw[hQ3]
       clear hQ2;have hE:Q2≤s.size:=by omega
       by_cases hz:Q2<s.size
       ·have CN:¬(s.size:Int)≤(Q2:Int):=by omega
        have Dq:(Q2:Int)<(s.size:Int):=by omega
        have XO:(Q2:Int)+1≤(s.size:Int):=by omega
        obtain⟨x,hx⟩ :∃x:Nat,s[Q2].toNat=x:=⟨_,rfl⟩
        have FT:x<256:=by rw[←hx];exact s[Q2].toNat_lt
        have Pu:Hid (EH s.data.toList=if AF k x (s.data.toList.drop (Q2+1))then some (x,if labelled x then s.data.toList.drop (Q2+1)else [])else none):=by
         show _=_;rw[HN.out,Ap s Q2 hz,Cz,hx]
        obtain⟨v11,E2⟩ :=MQ.c.get 11 (by have:=MQ.len;omega);have f11:=MQ.c.fz 11 (by have:=MQ.len;omega);have JX:=MQ.set 11 (by decide) (.int .u8 x) rfl (by decide) (by decide);have HZ:Hid ((s.extract (Q2+1) s.size).size≤400):=by show _≤_;rw[ByteArray.size_extract];omega
        have Wo:=γ (MK s (Q2+1));have DL:=MQ.c.lt;clear HN
        go_wp2_with fail
        refine(Gj _ k x _ _ _ HZ.out ⟨JX.c,JX.len⟩ JX.k0 (by rw[List.getElem?_set_self (by rw[MQ.len];decide)]) FT ru.out.YF.1 ru.out.YF.2).mono ?_;rintro e w9 ⟨rfl,QX,P0,Vs,mR⟩;have Hj:QX.length=23:=P0.2;have X6:=JX.res.xC Vs (by omega);have B9:=JX.below.trans (Vs.below (by omega) (by have:=JX.c.lt;omega));have yd:Hid (AF k x (s.data.toList.drop (Q2+1))=true→ae QX (x,if labelled x then s.data.toList.drop (Q2+1)else [])∧∃c,Dw s.data.toList=some c∧mP (w.heap.size+2) w9 QX c):=fun h9=>
         Vp ru.out Hj P0.1.one (by have:=MQ.a.lt;have:=MQ.TX;omega) Vs (mR (by rw[Wo.out];exact h9)) TG.out hz hx FT h9
        rw[Wo.out];have Il:=P0.1;clear mR Vs P0 ru TG;generalize iW:AF k x (s.data.toList.drop (Q2+1))=ak at*
        go_wp2_with(first
         |refine ω Ao Il Hj rfl _ rfl rfl ?_
         | (refine θ Ao X6 rfl rfl _ _ rfl rfl rfl Hj Il.one ?_;intro pX Gk Ic))
        refine bodyPost_ret (Ω rfl _ _ _ _ rfl Ao Gk Hj) rfl ?_;refine⟨B9.trans (Ic.below δ),QX,Hj,Il.one,?_⟩;cases ak
        ·exact .inl ⟨Pu.out,rfl⟩
        ·obtain⟨g1,c,g2,g3⟩ :=yd.out (by first|trivial|rfl)
         exact .inr ⟨_,c,Pu.out,g1,g2,g3.map (fun P hP=>(hP.only Ic (by omega)).mono (by omega)),rfl⟩
       ·have CN:(s.size:Int)≤(Q2:Int):=by omega
        have R8:Hid (EH s.data.toList=none):=by
         show _=_;rw[HN.out,List.drop_of_length_le (by rw[Δ];omega)];rfl
        have Il:=MQ.c;have OQ:=MQ.len;have ig:=MQ.res;clear HN
        go_wp2_with(first
         |refine ω Ao Il OQ rfl _ rfl rfl ?_
         | (refine θ Ao ig rfl rfl _ _ rfl rfl rfl OQ Il.one ?_;intro pX Gk Ic))
        refine bodyPost_ret (Ω rfl _ _ _ _ rfl Ao Gk OQ) rfl ?_;exact⟨MQ.below.trans (Ic.below δ),_,OQ,Il.one,.inl ⟨R8.out,rfl⟩⟩
  ·have HM:Hid (EH s.data.toList=Cz k (M.notM k (s.data.toList.drop q))):=by
    show _=_;rw[Vq.out,Mi,if_neg Oz];rfl
   have ay:Hid (∀bg,(decide (k≠0) && CH (s.data.toList.drop q) 33)=bg→∃cnt,(k=0↔cnt=0)∧CI s.data.toList=(⟨cnt,A1,FG,bg⟩,if bg then s.data.toList.drop (q+1)else s.data.toList.drop q)):=fun bg hb=>by
    by_cases e:k=0
    ·rw[decide_eq_false (by simpa using e),Bool.false_and]at hb
     subst hb;exact⟨0,by omega,HBN.out e⟩
    ·rw[decide_eq_true e,Bool.true_and]at hb
     have h2:=ri (yX.out e) (by cases h9:CH (s.data.toList.drop q) 44;rfl;exact absurd ⟨e,h9⟩ Oz) bg hb;refine⟨1,by omega,?_⟩;rw[h2,List.drop_drop]
   have ca:=hI.a.c 0 _ hI.v0;have rr:=hI.a.lt;clear Vq
   go_cut [34] (fun t wx=>t= .bool false∧wx=WX)
   case first=>
    by_cases IW:k=0
    ·have EW:((k:Int) !=0)=false:=by simp[IW]
     clear IW Oz;go_wp2
     go_meet
     exact⟨rfl,rfl⟩
    ·have EW:((k:Int) !=0)=true:=by simp;omega
     by_cases hz:q<s.size
     ·have CN:(q:Int)<(s.size:Int):=by omega
      obtain⟨x,hx⟩ :∃x:Nat,s[q].toNat=x:=⟨_,rfl⟩
      have FT:x<256:=by rw[←hx];exact s[q].toNat_lt
      have Z5:x≠44:=fun e=>Oz ⟨IW,by rw[Vf s q 44 hz,hx,e];rfl⟩
      have ABJ:((x:Int)==44)=false:=by simp;omega
      clear IW Oz Z5;go_wp2
      go_meet
      exact⟨rfl,rfl⟩
     ·have CN:¬(q:Int)<(s.size:Int):=by omega
      clear IW Oz;go_wp2
      go_meet
      exact⟨rfl,rfl⟩
   case rest=>
    obtain⟨rfl,rfl⟩ :=hcut;obtain⟨WX,hWX⟩ :∃W,W=wc:=⟨_,rfl⟩
    subst hWX;clear Oz ca rr;obtain⟨JF,YG⟩ :∃bg,(decide (k≠0) && CH (s.data.toList.drop q) 33)=bg:=⟨_,rfl⟩
    have Vr:=γ YG;have ca:=hI.a.c 0 _ hI.v0;have rr:=hI.a.lt;clear YG
    go_upto_region 12 with fail
    go_cut [67] (fun t wx=>t= .bool JF∧wx=WX)
    case first=>
     by_cases IW:k=0
     ·have EW:((k:Int) !=0)=false:=by simp[IW]
      have GC:Hid (JF=false):=by show _=_;rw[←Vr.out,IW];rfl
      clear IW;go_wp2
      go_meet
      exact⟨by rw[GC.out],rfl⟩
     ·have EW:((k:Int) !=0)=true:=by simp;omega
      by_cases hz:q<s.size
      ·have CN:(q:Int)<(s.size:Int):=by omega
       obtain⟨x,hx⟩ :∃x:Nat,s[q].toNat=x:=⟨_,rfl⟩
       have FT:x<256:=by rw[←hx];exact s[q].toNat_lt
       have GC:Hid (JF=(x==33)):=by show _=_;rw[←Vr.out,Vf s q 33 hz,hx,decide_eq_true IW];rfl
       clear IW
       by_cases Nw:x=33
       ·have yc:((x:Int)==33)=true:=by simp[Nw]
        have Lg:Hid (JF=true):=by show _=_;rw[GC.out,Nw];rfl
        clear Nw;go_wp2
        go_meet
        exact⟨by rw[Lg.out],rfl⟩
       ·have yc:((x:Int)==33)=false:=by simp;omega
        have Lg:Hid (JF=false):=by show _=_;rw[GC.out];simpa using Nw
        clear Nw;go_wp2
        go_meet
        exact⟨by rw[Lg.out],rfl⟩
      ·have CN:¬(q:Int)<(s.size:Int):=by omega
       have GC:Hid (JF=false):=by show _=_;rw[←Vr.out,dM s q 33 (by omega)];simp
       clear IW;go_wp2
       go_meet
       exact⟨by rw[GC.out],rfl⟩
    case rest=>
     obtain⟨rfl,rfl⟩ :=hcut;cases JF
     ·have HN:Hid (EH s.data.toList=Cz k (s.data.toList.drop q)):=by
       show _=_;rw[HM.out,M.notM];split
       ·rename_i h
        have:=Vr.out;rw[h.2,decide_eq_true h.1]at this;cases this
       ·rfl
      have TG:Hid (∃cnt,(k=0↔cnt=0)∧CI s.data.toList=(⟨cnt,A1,FG,false⟩,s.data.toList.drop q)):=ay.out _ Vr.out;clear HM Vr ay;have hE:q≤s.size:=by omega
      by_cases hz:q<s.size
      ·have CN:¬(s.size:Int)≤(q:Int):=by omega
       have Dq:(q:Int)<(s.size:Int):=by omega
       have XO:(q:Int)+1≤(s.size:Int):=by omega
       obtain⟨x,hx⟩ :∃x:Nat,s[q].toNat=x:=⟨_,rfl⟩
       have FT:x<256:=by rw[←hx];exact s[q].toNat_lt
       have Pu:Hid (EH s.data.toList=if AF k x (s.data.toList.drop (q+1))then some (x,if labelled x then s.data.toList.drop (q+1)else [])else none):=by
        show _=_;rw[HN.out,Ap s q hz,Cz,hx]
       obtain⟨v11,E2⟩ :=hI.c.get 11 (by have:=hI.len;omega);have f11:=hI.c.fz 11 (by have:=hI.len;omega);have JX:=hI.set 11 (by decide) (.int .u8 x) rfl (by decide) (by decide);have HZ:Hid ((s.extract (q+1) s.size).size≤400):=by show _≤_;rw[ByteArray.size_extract];omega
       have Wo:=γ (MK s (q+1));have DL:=hI.c.lt;clear HN
       go_wp2_with fail
       refine(Gj _ k x _ _ _ HZ.out ⟨JX.c,JX.len⟩ JX.k0 (by rw[List.getElem?_set_self (by rw[hI.len];decide)]) FT HX.out.YF.1 HX.out.YF.2).mono ?_;rintro e w9 ⟨rfl,QX,P0,Vs,mR⟩;have Hj:QX.length=23:=P0.2;have X6:=JX.res.xC Vs (by omega);have B9:=JX.below.trans (Vs.below (by omega) (by have:=JX.c.lt;omega));have yd:Hid (AF k x (s.data.toList.drop (q+1))=true→ae QX (x,if labelled x then s.data.toList.drop (q+1)else [])∧∃c,Dw s.data.toList=some c∧mP (w.heap.size+2) w9 QX c):=fun h9=>
        Vp HX.out Hj P0.1.one (by have:=hI.a.lt;have:=hI.TX;omega) Vs (mR (by rw[Wo.out];exact h9)) TG.out hz hx FT h9
       rw[Wo.out];have Il:=P0.1;clear mR Vs P0 HX TG;generalize iW:AF k x (s.data.toList.drop (q+1))=ak at*
       go_wp2_with(first
        |refine ω Ao Il Hj rfl _ rfl rfl ?_
        | (refine θ Ao X6 rfl rfl _ _ rfl rfl rfl Hj Il.one ?_;intro pX Gk Ic))
       refine bodyPost_ret (Ω rfl _ _ _ _ rfl Ao Gk Hj) rfl ?_;refine⟨B9.trans (Ic.below δ),QX,Hj,Il.one,?_⟩;cases ak
       ·exact .inl ⟨Pu.out,rfl⟩
       ·obtain⟨g1,c,g2,g3⟩ :=yd.out (by first|trivial|rfl)
        exact .inr ⟨_,c,Pu.out,g1,g2,g3.map (fun P hP=>(hP.only Ic (by omega)).mono (by omega)),rfl⟩
      ·have CN:(s.size:Int)≤(q:Int):=by omega
       have R8:Hid (EH s.data.toList=none):=by
        show _=_;rw[HN.out,List.drop_of_length_le (by rw[Δ];omega)];rfl
       have Il:=hI.c;have OQ:=hI.len;have ig:=hI.res;clear HN
       go_wp2_with(first
        |refine ω Ao Il OQ rfl _ rfl rfl ?_
        | (refine θ Ao ig rfl rfl _ _ rfl rfl rfl OQ Il.one ?_;intro pX Gk Ic))
       refine bodyPost_ret (Ω rfl _ _ _ _ rfl Ao Gk OQ) rfl ?_;exact⟨hI.below.trans (Ic.below δ),_,OQ,Il.one,.inl ⟨R8.out,rfl⟩⟩
     ·have Va:=Vr.out
      have IW:k≠0:=by
       intro e;rw[e]at Va;cases Va
      have BZ:CH (s.data.toList.drop q) 33=true:=by
       cases e:CH (s.data.toList.drop q) 33
       ·rw[e]at Va;simp at Va
       ·rfl
      have xi:=BG s q 33 BZ;have HN:Hid (EH s.data.toList=Cz k (s.data.toList.drop (q+1))):=by
       show _=_;rw[HM.out,M.notM,if_pos ⟨IW,BZ⟩,List.drop_drop]
      obtain⟨v10,FJ⟩ :=hI.c.get 10 (by have:=hI.len;omega);have f10:=hI.c.fz 10 (by have:=hI.len;omega);have MQ:=hI.set 10 (by decide) (.bool true) rfl (by decide) (by decide);have TG:Hid (∃cnt,(k=0↔cnt=0)∧CI s.data.toList=(⟨cnt,A1,FG,true⟩,s.data.toList.drop (q+1))):=ay.out _ Vr.out;have ru:Hid (dR w.heap.size (wc.setCell ⟨w.heap.size+1,10,none⟩ (.bool true)) (cs.set 10 (.bool true)) ⟨0,A1,FG,true⟩):=HX.out.JF (AQ.set _ _ _ _);clear HX ay;clear HM Vr Va IW BZ
      go_upto_region 15 with fail
      generalize wc.setCell ⟨w.heap.size+1,10,none⟩ (.bool true)=W8 at*;obtain⟨Q2,hQ2⟩ :∃q2,q+1=q2:=⟨_,rfl⟩
      have hQ3:(q:Int)+1=(Q2:Int):=by omega
      rw[hQ2]at HN xi TG
      try rw[hQ3]
      clear hQ2;have hE:Q2≤s.size:=by omega
      by_cases hz:Q2<s.size
      ·have CN:¬(s.size:Int)≤(Q2:Int):=by omega
       have Dq:(Q2:Int)<(s.size:Int):=by omega
       have XO:(Q2:Int)+1≤(s.size:Int):=by omega
       obtain⟨x,hx⟩ :∃x:Nat,s[Q2].toNat=x:=⟨_,rfl⟩
       have FT:x<256:=by rw[←hx];exact s[Q2].toNat_lt
       have Pu:Hid (EH s.data.toList=if AF k x (s.data.toList.drop (Q2+1))then some (x,if labelled x then s.data.toList.drop (Q2+1)else [])else none):=by
        show _=_;rw[HN.out,Ap s Q2 hz,Cz,hx]
       obtain⟨v11,E2⟩ :=MQ.c.get 11 (by have:=MQ.len;omega);have f11:=MQ.c.fz 11 (by have:=MQ.len;omega);have JX:=MQ.set 11 (by decide) (.int .u8 x) rfl (by decide) (by decide);have HZ:Hid ((s.extract (Q2+1) s.size).size≤400):=by show _≤_;rw[ByteArray.size_extract];omega
       have Wo:=γ (MK s (Q2+1));have DL:=MQ.c.lt;clear HN
       go_wp2_with fail
       refine(Gj _ k x _ _ _ HZ.out ⟨JX.c,JX.len⟩ JX.k0 (by rw[List.getElem?_set_self (by rw[MQ.len];decide)]) FT ru.out.YF.1 ru.out.YF.2).mono ?_;rintro e w9 ⟨rfl,QX,P0,Vs,mR⟩;have Hj:QX.length=23:=P0.2;have X6:=JX.res.xC Vs (by omega);have B9:=JX.below.trans (Vs.below (by omega) (by have:=JX.c.lt;omega));have yd:Hid (AF k x (s.data.toList.drop (Q2+1))=true→ae QX (x,if labelled x then s.data.toList.drop (Q2+1)else [])∧∃c,Dw s.data.toList=some c∧mP (w.heap.size+2) w9 QX c):=fun h9=>
        Vp ru.out Hj P0.1.one (by have:=MQ.a.lt;have:=MQ.TX;omega) Vs (mR (by rw[Wo.out];exact h9)) TG.out hz hx FT h9
       rw[Wo.out];have Il:=P0.1;clear mR Vs P0 ru TG;generalize iW:AF k x (s.data.toList.drop (Q2+1))=ak at*
       go_wp2_with(first
        |refine ω Ao Il Hj rfl _ rfl rfl ?_
        | (refine θ Ao X6 rfl rfl _ _ rfl rfl rfl Hj Il.one ?_;intro pX Gk Ic))
       refine bodyPost_ret (Ω rfl _ _ _ _ rfl Ao Gk Hj) rfl ?_;refine⟨B9.trans (Ic.below δ),QX,Hj,Il.one,?_⟩;cases ak
       ·exact .inl ⟨Pu.out,rfl⟩
       ·obtain⟨g1,c,g2,g3⟩ :=yd.out (by first|trivial|rfl)
        exact .inr ⟨_,c,Pu.out,g1,g2,g3.map (fun P hP=>(hP.only Ic (by omega)).mono (by omega)),rfl⟩
      ·have CN:(s.size:Int)≤(Q2:Int):=by omega
       have R8:Hid (EH s.data.toList=none):=by
        show _=_;rw[HN.out,List.drop_of_length_le (by rw[Δ];omega)];rfl
       have Il:=MQ.c;have OQ:=MQ.len;have ig:=MQ.res;clear HN
       go_wp2_with(first
        |refine ω Ao Il OQ rfl _ rfl rfl ?_
        | (refine θ Ao ig rfl rfl _ _ rfl rfl rfl OQ Il.one ?_;intro pX Gk Ic))
       refine bodyPost_ret (Ω rfl _ _ _ _ rfl Ao Gk OQ) rfl ?_;exact⟨MQ.below.trans (Ic.below δ),_,OQ,Il.one,.inl ⟨R8.out,rfl⟩⟩
end Go.Proofs.YtlppphmnegdhoabGreatDoor
