import Derived.Test.YtlppphmnegdhoabGreatDoorMz23
set_option linter.unusedVariables false
set_option maxRecDepth 100000
set_option maxHeartbeats 2000000
namespace Go.Proofs.YtlppphmnegdhoabGreatDoor
open Go.Proofs.Tryz
open Go.RowKit
open M
abbrev Cj(lo:Nat)(w:World)(P:World→Prop):Prop:=Av (fun k=>k<lo) w P
theorem Cj.Kv{lo:Nat}{w w':World}{P:World→Prop}(h:Cj lo w P)(hs:w.heap.size≤w'.heap.size)(hk:∀k,lo≤k→k<w.heap.size→w'.heap[k]? =w.heap[k]?):Cj lo w' P:=
 fun w'' h1 h2=>h w'' (Nat.le_trans hs h1) (fun k EW Ep=>(h2 k (Nat.lt_of_lt_of_le EW hs) Ep).trans (hk k (Nat.le_of_not_lt Ep) EW))
theorem Cj.mono{lo lo':Nat}{w:World}{P:World→Prop}(h:Cj lo w P)(hl:lo'≤lo):Cj lo' w P:=
 fun w'' h1 h2=>h w'' h1 (fun k EW Ep=>h2 k EW (fun h9=>Ep (Nat.lt_of_lt_of_le h9 hl)))
theorem Cj.below{lo:Nat}{w w':World}{P:World→Prop}(h:Cj lo w P)(hb:Below w.heap.size w w'):Cj lo w' P:=h.Kv hb.size (fun k _ hk=>hb.block k hk)
theorem Cj.only{lo g:Nat}{w w':World}{P:World→Prop}(h:Cj lo w P)(O:AQ g w w')(hg:g<lo):Cj lo w' P:=h.Kv (by rw[O.size];exact δ) (fun k h1 _=>O.block k (by omega))
theorem Cj.boxed{lo:Nat}{w w':World}{P:World→Prop}{o:Obj}(h:Cj lo w P)(O:AQ w.heap.size (w.alloc o) w'):Cj lo w' P:=
 h.Kv (by rw[O.size];simp) (fun k _ h2=>(O.block k (by omega)).trans (Below.heap_alloc w o k h2))
theorem rB(N:Nat):∀(CS:List (List Value)),(∀c∈CS,c.length=N)→∀i(h:i<CS.length) j,j<N→CS.flatten[i*N+j]? =CS[i][j]? :=by
 intro CS
 induction CS with
 |nil=>intro _ i h;simp at h
 |cons c CS ih=>
  intro hN i h j hj;have hc:c.length=N:=hN c (by simp);rw[List.flatten_cons];cases i with
  |zero=>
   rw[Nat.zero_mul,Nat.zero_add,List.getElem?_append_left (by omega)];rfl
  |succ i=>
   have e:(i+1)*N+j=N+(i*N+j):=by rw[Nat.add_mul];omega
   rw[e,List.getElem?_append_right (by omega),show N+(i*N+j) - c.length=i*N+j by omega];exact ih (fun d hd=>hN d (by simp[hd])) i (by simpa using h) j hj
theorem LB{w:World}{B N n c:Nat}{T:TypeId}{a:Option Addr}{CS:List (List Value)}(h:w.ownsRow B T N (.slice a n c) n CS.flatten)(hn:CS.length=n)(hN:∀c∈CS,c.length=N)(k:Nat)(hk:k<CS.length):
  ∃g,a=some ⟨g,0,none⟩∧B≤g∧g<w.heap.size∧w.rangeAt g (k*N) CS[k]∧∀o,w.frozen? ⟨g,o,none⟩ =false:=by
 obtain⟨g,rfl⟩ :∃g,a=some ⟨g,0,none⟩ :=by
  rcases h.2 with⟨_,hz⟩ | ⟨g,cap,cur,hv,_⟩
  ·omega
  ·simp at hv;exact⟨g,hv.1⟩
 refine⟨g,rfl,(h.lt g rfl).1,(h.lt g rfl).2,fun j v hv=> ?_,fun o=>h.frozenAt _⟩;have DL:=hN _ (List.getElem_mem hk);have hj:j<N:=by
  have:=(List.getElem?_eq_some_iff.1 hv).1;omega
 have Ac:k*N+j<n*N:=by
  have:(k+1)*N≤n*N:=Nat.mul_le_mul_right _ (by omega);rw[Nat.add_mul]at this;omega
 rw[h.cellAt (k*N+j) Ac,rB N CS hN k hk j hj,hv]
theorem AF4{w:World}{B c:Nat}{a:Option Addr}{L:List It}(h:w.ownsRow B 211 257 (.slice a L.length c) L.length (TW L)):Cj B w (fun w=>EB w a L):=fun w' hs hb k hk=>by
 obtain⟨g,h1,h2,h3,h4,_⟩ :=LB (CS:=L.map (fun x=>bC 257 (IQ x))) h (by simp) (fun c hc=>by
  simp only[List.mem_map]at hc;obtain⟨x,_,rfl⟩ :=hc;simp[bC]) k (by simpa using hk)
 refine⟨g,h1,by omega,fun j u hu=>(World.cell?_of_block (hb g h3 (by omega))).trans (h4 j u ?_)⟩;rw[List.getElem_map];exact hu
theorem lv(o:Option (List Mk×List UInt8)):I5 o=(Ly o).map (fun p=>(3,p.2)):=by
 cases o with
 |none=>rfl
 |some p=>
  show(if(Cv p.1).isSome then some (3,p.2)else none)=((Cv p.1).map (fun x=>(x,p.2))).map (fun p=>(3,p.2));cases Cv p.1<;>rfl
theorem UY{o:Option (List Mk×List UInt8)}(h:I5 o=none):Ly o=none:=by
 rw[lv]at h;cases hb:Ly o with
 |none=>rfl
 |some p=>rw[hb]at h;cases h
def ExV(lo:Nat)(w:World)(vs:List Value)(x:Ex):Prop:=∃a c,vs= [.bool x.head,.bool x.tail,.slice a x.l.length c]∧Cj lo w (fun w=>EB w a x.l)
def yA(s:ByteArray)(k:Nat)(w:World)(e:Ending)(w':World):Prop:=
 Below w.heap.size w w'∧∃vs:List Value,E3 vs∧
  ((CH (s.data.toList.drop k) 47=true∧∃(q:Nat)(x:Ex),Ly (Ψ (s.data.toList.drop (k+1)))=some (x,s.data.toList.drop q)∧k<q∧q≤s.size∧ExV w.heap.size w' vs x∧e= .returned (.tuple #[.agg vs.toArray,.int .i64 q,.bool true]))∨
   ((CH (s.data.toList.drop k) 47=false∨Ly (Ψ (s.data.toList.drop (k+1)))=none)∧e= .returned (.tuple #[.agg vs.toArray,.int .i64 k,.bool false])))
theorem LC(s:ByteArray)(k:Nat)(w:World)(hs:s.size≤400)(hk:k≤s.size)(Im:KN s):
  Calls prog 203 #[.string s,.int .i64 k] w fun e w'=>yA s k w e w':=by
 have FV:s.size≤maxLen:=by unfold maxLen;omega
 have Ce:=γ Im;clear Im;have Dg:CB (w.alloc (.cells #[.bool false,.bool false,.slice none 0 0] 137)) w.heap.size [.bool false,.bool false,.slice none 0 0]:=CB.new w _ _ (by simp[Value.oneCell']);have B0:Below w.heap.size w (w.alloc (.cells #[.bool false,.bool false,.slice none 0 0] 137)):=ζ.alloc δ _
 go_enter func203,ntmps203
 go_wp2_with fail
 generalize w.alloc (.cells #[.bool false,.bool false,.slice none 0 0] 137)=W at*;refine(AY s k 47 _ FV hk (by decide)).mono ?_;rintro e w1 ⟨rfl,rfl⟩;cases hb:CH (s.data.toList.drop k) 47
 ·have HB:Hid (CH (s.data.toList.drop k) 47=false):=hb
  clear hb
  go_wp2_with(refine θ D4 Dg rfl rfl _ _ rfl rfl rfl rfl (by simp[Value.oneCell']) ?_;intro w5 BP O5)
  refine bodyPost_ret (Bx rfl _ _ _ _ rfl D4 BP rfl) rfl ?_;exact⟨B0.trans (O5.below δ),_,⟨_,_,_,_,_,rfl⟩,.inr ⟨.inl HB.out,rfl⟩⟩
 ·have EW:=BG s k 47 hb
  have HB:=γ hb;clear hb;obtain⟨m,r,fh⟩ :∃m r,Ah (s.data.toList.drop (k+1))=(m,r):=⟨_,_,rfl⟩
  have HM:=γ fh;clear fh
  go_wp2_with fail
  have HC:=kK s (k+1) m r w1 (by omega) EW HM.out;rw[show((k+1:Nat):Int)=(k:Int)+1 from rfl]at HC;refine HC.mono ?_;clear HC;rintro e w2 ⟨hd,tl,L,m3,n,a,c,rfl,Ez,TP,Q9,ν,B2,hLs,hA,yB⟩;have R4:∀x,x≤s.size→(s.data.toList.drop x).length=s.size - x:=fun x _=>by rw[List.length_drop,Δ]
  obtain⟨q1,q2,q3⟩ :=kN (s.data.toList.drop (k+1)) m m3 r (Ce.out.drop _) HM.out (s.data.toList.drop n) Q9 yB;have HN:=γ q1;have HZ:Hid (¬k+1<n→I5 (Ψ (s.data.toList.drop (k+1)))=none):=fun h=>by
   have hnk:n=k+1:=by omega
   subst hnk;rw[HM.out]at Q9;simp at Q9;cases CE:CH (s.data.toList.drop (k+1)) 47
   ·exact q1 CE
   ·have OO:=q2 CE rfl
    obtain⟨_,r',_,h5,_⟩ :=q3 CE;rw[h5,I5,OO];rfl
  have HY:Hid (k+1<n→CH (s.data.toList.drop n) 47=true→n+1≤s.size∧Ly (Ψ (s.data.toList.drop (k+1)))=some (⟨hd,tl,L⟩,s.data.toList.drop (n+1))):=fun h h2=>by
   obtain⟨h3,r',h4,h5,h6⟩ :=q3 h2;have ACz:m≠ []:=fun e=>by
    subst e;have e2:s.data.toList.drop n=s.data.toList.drop (k+1):=by
     have a1:=Lb _ _ HM.out;have a2:Ah (s.data.toList.drop n)=([],r):=by rw[Q9,h3]
     rw[←Lb _ _ a2,←a1]
    have e3:=congrArg List.length e2;rw[R4 n TP,R4 (k+1) EW]at e3;omega
   refine⟨BG s n 47 h2,?_⟩;rw[h5,Ly,hA ACz h3];have:s.data.toList.drop (n+1)=r':=by rw[←List.drop_drop,h6];rfl
   rw[this];rfl
  have TA:=γ (AF4 ν);have AV:=Dg.lt;clear q1 q2 q3 Q9 hA yB ν R4;have CJ:=Dg.below B2 Dg.lt;have QI:=B0.trans (B2.mono B0.size);have E7:=CJ.lt;have Cq:CB (w2.alloc (.cells #[.bool false,.bool false,.slice none 0 0] 137)) w2.heap.size [.bool false,.bool false,.slice none 0 0]:=CB.new w2 _ _ (by simp[Value.oneCell']);have CM:CB (w2.alloc (.cells #[.bool false,.bool false,.slice none 0 0] 137)) w.heap.size [.bool false,.bool false,.slice none 0 0]:=CJ.below (ζ.alloc δ _) E7;have B3:=QI.alloc (o:= .cells #[.bool false,.bool false,.slice none 0 0] 137) (by omega)
  by_cases rC:k+1<n
  ·have OX:decide (k+1<n)=true:=decide_eq_true rC
   rw[OX]
   go_wp2_with(refine θ D4 Cq rfl rfl _ _ rfl rfl rfl rfl (by simp[Value.oneCell']) ?_;intro w5 BP O5;have GN:=CM.keep (O5.block _ (by omega)) (by rw[O5.size];exact δ))
   refine(AY s n 47 _ FV TP (by decide)).mono ?_;rintro e w6 ⟨rfl,rfl⟩;cases BZ:CH (s.data.toList.drop n) 47
   ·have HF:=HN.out BZ
    have GO:=γ HF;clear HF BZ HN HY HZ
    go_wp2_with(refine θ D4 GN rfl rfl _ _ rfl rfl rfl rfl (by simp[Value.oneCell']) ?_;intro w7 KH O7)
    refine bodyPost_ret (Bx rfl _ _ _ _ rfl D4 KH rfl) rfl ?_;exact⟨(B3.trans (O5.below (by omega))).trans (O7.below δ),_,⟨_,_,_,_,_,rfl⟩,.inr ⟨.inr (UY GO.out),rfl⟩⟩
   ·have HF:Hid (n+1≤s.size∧Ly (Ψ (s.data.toList.drop (k+1)))=some (⟨hd,tl,L⟩,s.data.toList.drop (n+1))):=HY.out rC BZ
    clear BZ HN HY HZ
    go_wp2_with(first
     |refine ω D4 BP rfl rfl _ rfl rfl ?_
     | (refine θ D4 GN rfl rfl _ _ rfl rfl rfl rfl (by simp[Value.oneCell']) ?_;intro w7 KH O7))
    refine bodyPost_ret (Bx rfl _ _ _ _ rfl D4 KH rfl) rfl ?_;exact⟨(B3.trans (O5.below (by omega))).trans (O7.below δ),_,⟨_,_,_,_,_,rfl⟩,.inl ⟨HB.out,n+1,⟨hd,tl,L⟩,HF.out.2,by omega,HF.out.1,⟨a,c,rfl,((TA.out.boxed O5).only O7 AV).mono (Nat.le_of_lt AV)⟩,rfl⟩⟩
  ·have GO:Hid (I5 (Ψ (s.data.toList.drop (k+1)))=none):=HZ.out rC
   have OX:decide (k+1<n)=false:=decide_eq_false rC;rw[OX];clear HN HY HZ
   go_wp2_with(first
    | (refine θ D4 Cq rfl rfl _ _ rfl rfl rfl rfl (by simp[Value.oneCell']) ?_;intro w5 BP O5;have GN:=CM.keep (O5.block _ (by omega)) (by rw[O5.size];exact δ))
    | (refine θ D4 GN rfl rfl _ _ rfl rfl rfl rfl (by simp[Value.oneCell']) ?_;intro w7 KH O7))
   refine bodyPost_ret (Bx rfl _ _ _ _ rfl D4 KH rfl) rfl ?_;exact⟨(B3.trans (O5.below (by omega))).trans (O7.below δ),_,⟨_,_,_,_,_,rfl⟩,.inr ⟨.inr (UY GO.out),rfl⟩⟩
def Kp(lo:Nat)(w w':World):Prop:=w.heap.size≤w'.heap.size∧∀k,lo≤k→k<w.heap.size→w'.heap[k]? =w.heap[k]?
theorem Kp.refl(lo:Nat)(w:World):Kp lo w w:=⟨δ,fun _ _ _=>rfl⟩
theorem Kp.below{lo B:Nat}{w x y:World}(h:Kp lo w x)(hb:Below B x y)(hB:w.heap.size≤B):Kp lo w y:=⟨Nat.le_trans h.1 hb.size,fun k h1 h2=>(hb.block k (Nat.lt_of_lt_of_le h2 hB)).trans (h.2 k h1 h2)⟩
theorem Kp.alloc{lo:Nat}{w x:World}(h:Kp lo w x)(o:Obj):Kp lo w (x.alloc o):=⟨by have:=h.1;simp;omega,fun k h1 h2=>(Below.heap_alloc x o k (Nat.lt_of_lt_of_le h2 h.1)).trans (h.2 k h1 h2)⟩
theorem Kp.only{lo g:Nat}{w x y:World}(h:Kp lo w x)(O:AQ g x y)(hg:g<lo∨w.heap.size≤g):Kp lo w y:=⟨by rw[O.size];exact h.1,fun k h1 h2=>(O.block k (by omega)).trans (h.2 k h1 h2)⟩
theorem Cj.kp{lo:Nat}{w w':World}{P:World→Prop}(h:Cj lo w P)(hk:Kp lo w w'):Cj lo w' P:=h.Kv hk.1 hk.2
theorem Eh(lo:Nat)(w:World)(a:Option Addr):Cj lo w (fun w=>EB w a Ml.l):=fun _ _ _ k hk=>by simp[Ml]at hk
def AdV(lo:Nat)(w:World)(vs:List Value)(A:Ku):Prop:=∃a c,vs= [.int .i64 (A.kind:Nat),.int .i64 (A.line:Nat),.bool A.ex.head,.bool A.ex.tail,.slice a A.ex.l.length c]∧Cj lo w (fun w=>EB w a A.ex.l)
def yC(s:ByteArray)(k:Nat)(w:World)(e:Ending)(w':World):Prop:=
 Below w.heap.size w w'∧∃vs:List Value,A5 vs∧
  ((∃(A:Ku)(q:Nat),BM (s.data.toList.drop k)=some (A,s.data.toList.drop q)∧A.kind≠0∧k<q∧q≤s.size∧AdV w.heap.size w' vs A∧e= .returned (.tuple #[.agg vs.toArray,.int .i64 q,.bool true]))∨
   (BM (s.data.toList.drop k)=none∧∃n:Nat,e= .returned (.tuple #[.agg vs.toArray,.int .i64 n,.bool false])))
theorem LD(s:ByteArray)(k:Nat)(w:World)(hs:s.size≤400)(hk:k≤s.size)(Im:KN s):
  Calls prog 165 #[.string s,.int .i64 k] w fun e w'=>yC s k w e w':=by
 have FV:s.size≤maxLen:=by unfold maxLen;omega
 have Ce:=γ Im;clear Im;have Dg:CB (w.alloc (.cells #[.int .i64 0,.int .i64 0,.bool false,.bool false,.slice none 0 0] 139)) w.heap.size [.int .i64 0,.int .i64 0,.bool false,.bool false,.slice none 0 0]:=CB.new w _ _ (by simp[Value.oneCell']);have B0:Below w.heap.size w (w.alloc (.cells #[.int .i64 0,.int .i64 0,.bool false,.bool false,.slice none 0 0] 139)):=ζ.alloc δ _
 go_enter func165,ntmps165
 go_wp2_with fail
 generalize w.alloc (.cells #[.int .i64 0,.int .i64 0,.bool false,.bool false,.slice none 0 0] 139)=W at*;refine(AY s k 36 _ FV hk (by decide)).mono ?_;rintro e w1 ⟨rfl,rfl⟩;cases Jk:CH (s.data.toList.drop k) 36
 ·have H36:Hid (CH (s.data.toList.drop k) 36=false):=Jk
  clear Jk
  go_wp2_with fail
  refine(AY s k 47 _ FV hk (by decide)).mono ?_;rintro e w2 ⟨rfl,rfl⟩;cases Fa:CH (s.data.toList.drop k) 47
  ·have HA:Hid (BM (s.data.toList.drop k)=if 0<FW (s.data.toList.drop k)then some (⟨1,Ri (s.data.toList.drop k),Ml⟩,(s.data.toList.drop k).drop (FW (s.data.toList.drop k)))else none):=by
    show _=_;unfold BM;rw[H36.out,Fa];rfl
   clear Fa H36
   go_wp2_with fail
   refine(aC s k w2 hs hk).mono ?_;rintro e w3 ⟨⟨n,q,hq,rfl,Oy,hnv,hn9⟩,rfl⟩;have HNV:Hid (k<q→n=Ri (s.data.toList.drop k)):=hnv;clear hnv
   by_cases hp:k<q
   ·have Hy:Hid (BM (s.data.toList.drop k)=some (⟨1,n,Ml⟩,s.data.toList.drop q)):=by
     show _=_;rw[HA.out,if_pos (by omega),List.drop_drop,←hq,←HNV.out hp]
    have fL:(k:Int)<(q:Int):=by omega
    clear hq HA
    go_wp2_with(refine θ C7 Dg rfl rfl _ _ rfl rfl rfl rfl (by simp[Value.oneCell']) ?_;intro w5 BP O5)
    refine bodyPost_ret (Bx rfl _ _ _ _ rfl C7 BP rfl) rfl ?_;exact⟨B0.trans (O5.below δ),[.int .i64 1,.int .i64 (n:Nat),.bool false,.bool false,.slice none 0 0],⟨_,_,_,_,_,_,_,rfl⟩,.inl ⟨⟨1,n,Ml⟩,q,Hy.out,by show 1≠0;decide,hp,Oy,⟨none,0,rfl,Eh _ _ _⟩,rfl⟩⟩
   ·have Hy:Hid (BM (s.data.toList.drop k)=none):=by
     show _=_;rw[HA.out,if_neg (by omega)]
    have fL:¬(k:Int)<(q:Int):=by omega
    clear hq HA
    go_wp2_with(refine θ C7 Dg rfl rfl _ _ rfl rfl rfl rfl (by simp[Value.oneCell']) ?_;intro w5 BP O5)
    refine bodyPost_ret (Bx rfl _ _ _ _ rfl C7 BP rfl) rfl ?_;exact⟨B0.trans (O5.below δ),_,⟨_,_,_,_,_,_,_,rfl⟩,.inr ⟨Hy.out,q,rfl⟩⟩
  ·have HA:Hid (BM (s.data.toList.drop k)=(Ly (Ψ (s.data.toList.drop (k+1)))).map (fun p=>(⟨3,0,p.1⟩,p.2))):=by
    show _=_;unfold BM;rw[H36.out,Fa,List.drop_drop];rfl
   have eB:=γ Fa;clear Fa H36
   go_wp2_with fail
   refine(LC s k w2 hs hk Ce.out).mono ?_;rintro e w3 ⟨B3,vs,hE,EK⟩;have EN:=hE.one;obtain⟨v0,v1,v2,v3,v4,rfl⟩ :=hE;have CM:=Dg.below B3 Dg.lt;have fN:=B0.trans (B3.mono B0.size);have TN:=CM.lt;have Cq:CB (w3.alloc (.cells #[.bool false,.bool false,.slice none 0 0] 137)) w3.heap.size [.bool false,.bool false,.slice none 0 0]:=CB.new w3 _ _ (by simp[Value.oneCell']);have IU:CB (w3.alloc (.cells #[.bool false,.bool false,.slice none 0 0] 137)) w.heap.size [.int .i64 0,.int .i64 0,.bool false,.bool false,.slice none 0 0]:=CM.below (ζ.alloc δ _) TN;have B4:=fN.alloc (o:= .cells #[.bool false,.bool false,.slice none 0 0] 137) (by omega);rcases EK with⟨_,q,x,Io,hkq,Oy,⟨p1,c1,uv,OW⟩,rfl⟩ | ⟨CQ,rfl⟩
   ·have Hy:Hid (BM (s.data.toList.drop k)=some (⟨3,0,x⟩,s.data.toList.drop q)):=by show _=_;rw[HA.out,Io];rfl
    have rD:=γ uv;have G0:=γ OW;have hlw:=Dg.lt;clear Io HA uv OW
    go_wp2_with(first
     | (refine θ D4 Cq rfl rfl _ _ rfl rfl rfl rfl EN ?_;intro w5 BP O5;have GN:=IU.keep (O5.block _ (by omega)) (by rw[O5.size];exact δ))
     |refine ω D4 BP rfl rfl _ rfl rfl ?_
     | (refine θ C7 GN rfl rfl _ _ rfl rfl rfl rfl (I6 (l:= [.int .i64 3,.int .i64 0]) (by simp[Value.oneCell']) EN) ?_;intro w7 KH O7))
    refine bodyPost_ret (Bx rfl _ _ _ _ rfl C7 KH rfl) rfl ?_;exact⟨(B4.trans (O5.below (by omega))).trans (O7.below δ),[.int .i64 3,.int .i64 0,.bool v0,.bool v1,.slice v2 v3 v4],⟨_,_,_,_,_,_,_,rfl⟩,.inl ⟨⟨3,0,x⟩,q,Hy.out,by show 3≠0;decide,hkq,Oy,⟨p1,c1,congrArg (fun l=>Value.int .i64 3::Value.int .i64 0::l) rD.out,((G0.out.boxed O5).only O7 hlw).mono (Nat.le_of_lt hlw)⟩,rfl⟩⟩
   ·have Hy:Hid (BM (s.data.toList.drop k)=none):=by
     show _=_;rcases CQ with h|h
     ·rw[eB.out]at h;cases h
     ·rw[HA.out,h];rfl
    clear CQ HA
    go_wp2_with(first
     | (refine θ D4 Cq rfl rfl _ _ rfl rfl rfl rfl EN ?_;intro w5 BP O5;have GN:=IU.keep (O5.block _ (by omega)) (by rw[O5.size];exact δ))
     |refine ω D4 BP rfl rfl _ rfl rfl ?_
     | (refine θ C7 GN rfl rfl _ _ rfl rfl rfl rfl (I6 (l:= [.int .i64 3,.int .i64 0]) (by simp[Value.oneCell']) EN) ?_;intro w7 KH O7))
    refine bodyPost_ret (Bx rfl _ _ _ _ rfl C7 KH rfl) rfl ?_;exact⟨(B4.trans (O5.below (by omega))).trans (O7.below δ),_,⟨_,_,_,_,_,_,_,rfl⟩,.inr ⟨Hy.out,k,rfl⟩⟩
 ·have EW:=BG s k 36 Jk
  have HA:Hid (BM (s.data.toList.drop k)=some (⟨2,0,Ml⟩,s.data.toList.drop (k+1))):=by
   show _=_;unfold BM;rw[Jk,List.drop_drop];rfl
  clear Jk
  go_wp2_with(refine θ C7 Dg rfl rfl _ _ rfl rfl rfl rfl (by simp[Value.oneCell']) ?_;intro w5 BP O5)
  refine bodyPost_ret (Bx rfl _ _ _ _ rfl C7 BP rfl) rfl ?_;exact⟨B0.trans (O5.below δ),[.int .i64 2,.int .i64 0,.bool false,.bool false,.slice none 0 0],⟨_,_,_,_,_,_,_,rfl⟩,.inl ⟨⟨2,0,Ml⟩,k+1,HA.out,by show 2≠0;decide,by omega,EW,⟨none,0,rfl,Eh _ _ _⟩,rfl⟩⟩
def fj(A:QN)(p1:Option Addr)(q1:Nat)(p2:Option Addr)(q2:Nat):List Value:= [.int .i64 (A.cnt:Nat),.int .i64 (A.a1.kind:Nat),.int .i64 (A.a1.line:Nat),.bool A.a1.ex.head,.bool A.a1.ex.tail,.slice p1 A.a1.ex.l.length q1,.int .i64 (A.a2.kind:Nat),.int .i64 (A.a2.line:Nat),.bool A.a2.ex.head,.bool A.a2.ex.tail,.slice p2 A.a2.ex.l.length q2,.bool A.no]
def AsV(lo:Nat)(w:World)(vs:List Value)(A:QN):Prop:=∃p1 q1 p2 q2,vs=fj A p1 q1 p2 q2∧Cj lo w (fun w=>EB w p1 A.a1.ex.l)∧Cj lo w (fun w=>EB w p2 A.a2.ex.l)
def yD(s:ByteArray)(w:World)(e:Ending)(w':World):Prop:=
 Below w.heap.size w w'∧∃(vs:List Value)(A:QN)(q:Nat),q≤s.size∧CI s.data.toList=(A,s.data.toList.drop q)∧AsV w.heap.size w' vs A∧e= .returned (.tuple #[.agg vs.toArray,.int .i64 q])
theorem PJ(s:ByteArray)(w:World)(hs:s.size≤400)(Im:KN s):
  Calls prog 131 #[.string s] w fun e w'=>yD s w e w':=by
 have FV:s.size≤maxLen:=by unfold maxLen;omega
 have Ce:=γ Im;clear Im;have Dg:CB (w.alloc (.cells Xa.toArray 141)) w.heap.size Xa:=CB.new w _ _ Qn;have B0:Below w.heap.size w (w.alloc (.cells Xa.toArray 141)):=ζ.alloc δ _
 go_enter func131,ntmps131
 go_wp2_with fail
 change Calls _ _ _ (w.alloc (.cells Xa.toArray 141)) _
 generalize w.alloc (.cells Xa.toArray 141)=W at*;have HC:=LD s 0 W hs ε Ce.out;rw[show((0:Nat):Int)=0 from rfl]at HC;refine HC.mono ?_;clear HC;rintro e w2 ⟨B2,vs,hA,EK⟩;have Wn:=hA.len;have EN:=hA.one;have CJ:=Dg.below B2 Dg.lt;have QI:=B0.trans (B2.mono B0.size);have E7:=CJ.lt;have Cq:CB (w2.alloc (.cells #[.int .i64 0,.int .i64 0,.bool false,.bool false,.slice none 0 0] 139)) w2.heap.size [.int .i64 0,.int .i64 0,.bool false,.bool false,.slice none 0 0]:=CB.new w2 _ _ (by simp[Value.oneCell']);have CM:CB (w2.alloc (.cells #[.int .i64 0,.int .i64 0,.bool false,.bool false,.slice none 0 0] 139)) w.heap.size Xa:=CJ.below (ζ.alloc δ _) E7;have B3:=QI.alloc (o:= .cells #[.int .i64 0,.int .i64 0,.bool false,.bool false,.slice none 0 0] 139) (by omega);have H4:(w2.alloc (.cells #[.int .i64 0,.int .i64 0,.bool false,.bool false,.slice none 0 0] 139)).heap.size=w2.heap.size+1:=by simp
 have ZN:w.heap.size<W.heap.size:=Dg.lt;have AC0:W.heap.size≤w2.heap.size:=B2.size;obtain⟨lo,Pl⟩ :∃lo,W.heap.size=lo:=⟨_,rfl⟩
 rw[Pl]at ZN AC0;rcases EK with⟨A,q,Jt,Nk,h0q,Oy,⟨p1,q1,uv,OW⟩,rfl⟩ | ⟨Jt,n,rfl⟩
 ·rw[Pl]at OW
  have X5:=γ OW;obtain⟨k1,n1,h1,t1,a1,l1,c1,rfl⟩ :=hA;have rD:=γ uv;clear OW uv Nk;obtain⟨v0,VF⟩ :∃v,Value.int .i64 k1=v:=⟨_,rfl⟩
  obtain⟨v1,rE⟩ :∃v,Value.int .i64 n1=v:=⟨_,rfl⟩
  obtain⟨v2,S7⟩ :∃v,Value.bool h1=v:=⟨_,rfl⟩
  obtain⟨v3,Ei⟩ :∃v,Value.bool t1=v:=⟨_,rfl⟩
  obtain⟨v4,UJ⟩ :∃v,Value.slice a1 l1 c1=v:=⟨_,rfl⟩
  have AAz:A12 [.int .i64 1,v0,v1,v2,v3,v4,.int .i64 0,.int .i64 0,.bool false,.bool false,.slice none 0 0,.bool false]:=⟨1,k1,n1,0,0,h1,t1,false,false,false,a1,none,l1,c1,0,0,by rw[←VF,←rE,←S7,←Ei,←UJ]⟩
  rw[VF,rE,S7,Ei,UJ]at rD;rw[VF,rE,S7,Ei,UJ]at EN Wn⊢;clear VF rE S7 Ei UJ;have TG:Hid (CI s.data.toList=GB (Hb A (s.data.toList.drop q))):=by
   show _=_;rw[List.drop_zero]at Jt;unfold CI;rw[Jt]
  clear Jt
  go_upto_region 5 with(first
   | (refine θ C7 Cq rfl rfl _ _ rfl rfl rfl rfl EN ?_
      intro w5 BP O5;have QV:=CM.keep (O5.block _ (by omega)) (by rw[O5.size];exact δ);have B5:=B3.trans (O5.below (B:=w.heap.size) (by omega));have Qk:w5.heap.size=w2.heap.size+1:=by rw[O5.size];simp
      have q9:CB (w5.alloc (.cells Xa.toArray 141)) (w2.heap.size+1) Xa:=by rw[←Qk];exact CB.new w5 _ _ Qn
      have rF:=QV.below ((Below.refl w5.heap.size w5).alloc δ (.cells Xa.toArray 141)) QV.lt;have B6:=B5.alloc (o:= .cells Xa.toArray 141) (by omega))
   |refine ω C7 BP rfl rfl _ rfl rfl ?_
   | (refine θ BL q9 rfl rfl _ _ rfl rfl rfl rfl (I6 (l:= [.int .i64 1]) (by simp[Value.oneCell']) (I6 EN (m:= [.int .i64 0,.int .i64 0,.bool false,.bool false,.slice none 0 0,.bool false]) (by simp[Value.oneCell']))) ?_
      intro w7 KH O7;have yE:Hid (Kp lo w2 w7):=(((Kp.refl lo w2).alloc _).only O5 (.inr δ)).alloc _|>.only O7 (.inr (by omega))
      have rG:=rF.keep (O7.block _ (by omega)) (by rw[O7.size];exact δ);have B7:=B6.trans (O7.below (B:=w.heap.size) (by omega))))
  have ZO:CB w7 (w2.heap.size+1) ([.int .i64 1,v0,v1,v2,v3,v4,.int .i64 0,.int .i64 0,.bool false,.bool false,.slice none 0 0,.bool false]:List Value):=KH;obtain⟨UZ,lx⟩ :∃cs:List Value,([.int .i64 1,v0,v1,v2,v3,v4,.int .i64 0,.int .i64 0,.bool false,.bool false,.slice none 0 0,.bool false]:List Value)=cs:=⟨_,rfl⟩
  have Py:UZ.length=12:=by rw[←lx];rfl
  have hz7:UZ[0]? =some (.int .i64 1):=by rw[←lx];rfl
  have HAS:Hid (UZ=fj ⟨1,A,FG,false⟩ p1 q1 none 0):=by
   show _=_;have h9:=rD.out;simp only[List.cons.injEq,and_true]at h9;rw[←lx,h9.1,h9.2.1,h9.2.2.1,h9.2.2.2.1,h9.2.2.2.2];rfl
  clear rD;rw[lx]at ZO AAz;obtain⟨ga,hga⟩ :∃g,w2.heap.size+1=g:=⟨_,rfl⟩
  have aZ:w.heap.size<ga:=by omega
  have ly:w2.heap.size≤ga:=by omega
  have AC1:ga<w7.heap.size:=by rw[←hga];exact ZO.lt
  rw[hga]at ZO
  try simp only[Act.put]
  clear KH q9 rF B6 BP O5 QV B5 Qk O7 lx Cq CM B3 H4 CJ QI Dg B0 B2
  go_wp2_with fail
  refine(AY s q 44 _ FV Oy (by decide)).mono ?_;rintro e w8 ⟨rfl,rfl⟩;cases Z5:CH (s.data.toList.drop q) 44
  ·have HE:Hid (CI s.data.toList=GB (⟨1,A,FG,false⟩,s.data.toList.drop q)):=by show _=_;rw[TG.out,Hb,Z5];rfl
   clear Z5 TG
   go_wp2_with fail
   refine(AY s q 33 _ FV (by omega) (by decide)).mono ?_;rintro e wx ⟨rfl,rfl⟩;cases Nw:CH (s.data.toList.drop q) 33
   ·have Vc:Hid (CI s.data.toList=(⟨1,A,FG,false⟩,s.data.toList.drop q)):=by show _=_;rw[HE.out];unfold GB;simp only[Nw];rfl
    clear Nw HE
    go_wp2_with(first
     |refine ω BL ZO Py rfl _ rfl rfl ?_
     | (refine θ BL rG rfl rfl _ _ rfl rfl rfl Py ZO.one ?_;intro w20 R5 Vd))
    refine bodyPost_ret (Ω rfl _ _ _ _ rfl BL R5 Py) rfl ?_;exact⟨B7.trans (Vd.below δ),_,_,q,by omega,Vc.out,⟨p1,q1,none,0,HAS.out,((X5.out.kp yE.out).only Vd ZN).mono (Nat.le_of_lt ZN),Eh _ _ _⟩,rfl⟩
   ·have lz:=BG s q 33 Nw
    have Vc:Hid (CI s.data.toList=(⟨1,A,FG,true⟩,s.data.toList.drop (q+1))):=by show _=_;rw[HE.out];unfold GB;simp only[Nw,List.drop_drop];rfl
    have AC2:Hid (UZ.set 11 (.bool true)=fj ⟨1,A,FG,true⟩ p1 q1 none 0):=by show _=_;rw[HAS.out];rfl
    have KP8:Hid (Kp lo w2 (wx.setCell ⟨ga,11,none⟩ (.bool true))):=yE.out.only (AQ.set _ _ _ _) (.inr ly);obtain⟨y11,E2⟩ :=ZO.get 11 (by omega);have f11:=ZO.fz 11 (by omega);have uw:=ZO.set 11 (by omega) (.bool true) rfl;have hrS:=rG.keep (heap_setCell_other wx ⟨ga,11,none⟩ w.heap.size (.bool true) (by simp;omega)) (by simp);have BS:=B7.setCell (p:=⟨ga,11,none⟩) (by simp;omega) (.bool true);have l8:(UZ.set 11 (.bool true)).length=12:=by rw[List.length_set];exact Py
    have zS:(UZ.set 11 (.bool true))[0]? =some (.int .i64 1):=by rw[List.getElem?_set_ne (by decide)];exact hz7
    clear Nw HE
    go_wp2_with(first
     |refine ω BL uw l8 rfl _ rfl rfl ?_
     | (refine θ BL hrS rfl rfl _ _ rfl rfl rfl l8 uw.one ?_;intro w20 R5 Vd))
    refine bodyPost_ret (Ω rfl _ _ _ _ rfl BL R5 l8) rfl ?_;exact⟨BS.trans (Vd.below δ),_,_,q+1,lz,Vc.out,⟨p1,q1,none,0,AC2.out,((X5.out.kp KP8.out).only Vd ZN).mono (Nat.le_of_lt ZN),Eh _ _ _⟩,rfl⟩
  ·have AC3:=BG s q 44 Z5
   have GC:Hid (Hb A (s.data.toList.drop q)=match BM (s.data.toList.drop (q+1))with|none=>(⟨1,A,FG,false⟩,s.data.toList.drop q) |some p=>(⟨2,A,p.1,false⟩,p.2)):=by
    show _=_;rw[Hb,Z5,List.drop_drop];rfl
   clear Z5
   go_wp2_with fail
   have HC:=LD s (q+1) w8 hs AC3 Ce.out;rw[show((q+1:Nat):Int)=(q:Int)+1 from rfl]at HC;refine HC.mono ?_;clear HC;rintro e w9 ⟨B9,us,hA5,EK⟩;have mA:=hA5.len;have pR:=hA5.one;have dL:=ZO.below B9 ZO.lt;have X6:=rG.below B9 rG.lt;have BB9:=B7.trans (B9.mono B7.size);have ew:=dL.lt;have KP9:Hid (Kp lo w2 w9):=yE.out.below B9 (by have:=yE.out.1;omega);have rH:ga<w8.heap.size:=AC1;have hw8:w.heap.size≤w8.heap.size:=by omega
   have AC4:w8.heap.size≤w9.heap.size:=B9.size;obtain⟨lo2,rI⟩ :∃lo,w8.heap.size=lo:=⟨_,rfl⟩
   rw[rI]at rH hw8 AC4;have pS:CB (w9.alloc (.cells #[.int .i64 0,.int .i64 0,.bool false,.bool false,.slice none 0 0] 139)) w9.heap.size [.int .i64 0,.int .i64 0,.bool false,.bool false,.slice none 0 0]:=CB.new w9 _ _ (by simp[Value.oneCell']);have rJ:=dL.below ((Below.refl w9.heap.size w9).alloc δ (.cells #[.int .i64 0,.int .i64 0,.bool false,.bool false,.slice none 0 0] 139)) ew;have X7:=X6.below ((Below.refl w9.heap.size w9).alloc δ (.cells #[.int .i64 0,.int .i64 0,.bool false,.bool false,.slice none 0 0] 139)) X6.lt;have B10:=BB9.alloc (o:= .cells #[.int .i64 0,.int .i64 0,.bool false,.bool false,.slice none 0 0] 139) (by omega);rcases EK with⟨A2,q2,mB,AC5,NP,AA0,⟨p2,r2,AA1,yF⟩,rfl⟩ | ⟨mB,n2,rfl⟩
   ·rw[rI]at yF
    have Qo:=γ yF;have AC6:=γ AA1;have HE:Hid (CI s.data.toList=GB (⟨2,A,A2,false⟩,s.data.toList.drop q2)):=by show _=_;rw[TG.out,GC.out,mB]
    clear yF AA1 AC5;obtain⟨u0,u1,u2,u3,u4,ZP⟩ :∃a b c d e,us= [a,b,c,d,e]:=by
     match us,mA with
     | [a,b,c,d,e],_=>exact⟨a,b,c,d,e,rfl⟩
    subst ZP;clear mB TG GC
    go_wp2_with(first
     | (refine θ C7 pS rfl rfl _ _ rfl rfl rfl rfl pR ?_
        intro fk R6 Nx;have To:=rJ.keep (Nx.block _ (by omega)) (by rw[Nx.size];exact δ);have mC:=X7.keep (Nx.block _ (by omega)) (by rw[Nx.size];exact δ);have B11:=B10.trans (Nx.below (B:=w.heap.size) (by omega));obtain⟨y0,c0⟩ :=To.get 0 (by omega);have f0:=To.fz 0 (by omega);have AA2:=To.set 0 (by omega) (.int .i64 2) rfl;have aY:=mC.keep (heap_setCell_other fk ⟨ga,0,none⟩ w.heap.size (.int .i64 2) (by simp;omega)) (by simp);have AA3:=R6.keep (heap_setCell_other fk ⟨ga,0,none⟩ w9.heap.size (.int .i64 2) (by simp;omega)) (by simp);have X8:=B11.setCell (p:=⟨ga,0,none⟩) (by simp;omega) (.int .i64 2);have yG:Hid (Kp lo w2 (fk.setCell ⟨ga,0,none⟩ (.int .i64 2))):=((KP9.out.alloc _).only Nx (.inr KP9.out.1)).only (AQ.set _ _ _ _) (.inr ly);have AC7:Hid (Cj lo2 (fk.setCell ⟨ga,0,none⟩ (.int .i64 2)) (fun w=>EB w p2 A2.ex.l)):=(Qo.out.boxed Nx).only (AQ.set _ _ _ _) rH)
     |refine ω C7 AA3 rfl rfl _ rfl rfl ?_
     | (refine RX C7 AA2 rfl (o:=6) (by rw[List.length_set];omega) pR rfl _ _ rfl rfl rfl ?_
        intro w13 mD O13))
    have Ve:((UZ.set 0 (.int .i64 2)).take 6++ [u0,u1,u2,u3,u4]++(UZ.set 0 (.int .i64 2)).drop (6+5)).length=12:=by simp;omega
    have AC8:((UZ.set 0 (.int .i64 2)).take 6++ [u0,u1,u2,u3,u4]++(UZ.set 0 (.int .i64 2)).drop (6+5))[0]? =some (.int .i64 2):=by
     rw[List.append_assoc,List.getElem?_append_left (by rw[List.length_take,List.length_set];omega),List.getElem?_take,if_pos (by omega),List.getElem?_set_self (by omega)]
    have AFS:=AAz.part hA5 2;have AA4:=aY.keep (O13.block _ (by omega)) (by rw[O13.size];exact δ);have ij:=X8.trans (O13.below (B:=w.heap.size) (by omega));have AA5:Hid (Kp lo w2 w13):=yG.out.only O13 (.inr ly);have AA6:=γ (AC7.out.only O13 rH);have ux:Hid ((UZ.set 0 (.int .i64 2)).take 6++ [u0,u1,u2,u3,u4]++(UZ.set 0 (.int .i64 2)).drop (6+5)=fj ⟨2,A,A2,false⟩ p1 q1 p2 r2):=by
     show _=_;rw[AC6.out,HAS.out];rfl
    generalize(UZ.set 0 (.int .i64 2)).take 6++ [u0,u1,u2,u3,u4]++(UZ.set 0 (.int .i64 2)).drop (6+5)=yH at*;clear R6 Nx To mC B11 AA2 aY AA3 X8 O13 rJ X7 B10 dL X6 BB9 pS ZO rG B7 c0 f0;refine(AY s q2 33 _ FV (by omega) (by decide)).mono ?_;rintro e wx ⟨rfl,rfl⟩;cases Nw:CH (s.data.toList.drop q2) 33
    ·have Vc:Hid (CI s.data.toList=(⟨2,A,A2,false⟩,s.data.toList.drop q2)):=by show _=_;rw[HE.out];unfold GB;simp only[Nw];rfl
     clear Nw HE
     go_wp2_with(first
      |refine ω BL mD Ve rfl _ rfl rfl ?_
      | (refine θ BL AA4 rfl rfl _ _ rfl rfl rfl Ve mD.one ?_;intro w20 R5 Vd))
     refine bodyPost_ret (Ω rfl _ _ _ _ rfl BL R5 Ve) rfl ?_;exact⟨ij.trans (Vd.below δ),_,_,q2,by omega,Vc.out,⟨p1,q1,p2,r2,ux.out,((X5.out.kp AA5.out).only Vd ZN).mono (Nat.le_of_lt ZN),(AA6.out.only Vd (by omega)).mono hw8⟩,rfl⟩
    ·have lz:=BG s q2 33 Nw
     have Vc:Hid (CI s.data.toList=(⟨2,A,A2,true⟩,s.data.toList.drop (q2+1))):=by show _=_;rw[HE.out];unfold GB;simp only[Nw,List.drop_drop];rfl
     have AA7:Hid (yH.set 11 (.bool true)=fj ⟨2,A,A2,true⟩ p1 q1 p2 r2):=by show _=_;rw[ux.out];rfl
     have AC9:Hid (Kp lo w2 (wx.setCell ⟨ga,11,none⟩ (.bool true))):=AA5.out.only (AQ.set _ _ _ _) (.inr ly);have ADA:Hid (Cj lo2 (wx.setCell ⟨ga,11,none⟩ (.bool true)) (fun w=>EB w p2 A2.ex.l)):=AA6.out.only (AQ.set _ _ _ _) rH;obtain⟨y11,E2⟩ :=mD.get 11 (by omega);have f11:=mD.fz 11 (by omega);have uw:=mD.set 11 (by omega) (.bool true) rfl;have hrS:=AA4.keep (heap_setCell_other wx ⟨ga,11,none⟩ w.heap.size (.bool true) (by simp;omega)) (by simp);have BS:=ij.setCell (p:=⟨ga,11,none⟩) (by simp;omega) (.bool true);have l8:(yH.set 11 (.bool true)).length=12:=by rw[List.length_set];exact Ve
     have zS:(yH.set 11 (.bool true))[0]? =some (.int .i64 2):=by rw[List.getElem?_set_ne (by decide)];exact AC8
     clear Nw HE
     go_wp2_with(first
      |refine ω BL uw l8 rfl _ rfl rfl ?_
      | (refine θ BL hrS rfl rfl _ _ rfl rfl rfl l8 uw.one ?_;intro w20 R5 Vd))
     refine bodyPost_ret (Ω rfl _ _ _ _ rfl BL R5 l8) rfl ?_;exact⟨BS.trans (Vd.below δ),_,_,q2+1,lz,Vc.out,⟨p1,q1,p2,r2,AA7.out,((X5.out.kp AC9.out).only Vd ZN).mono (Nat.le_of_lt ZN),(ADA.out.only Vd (by omega)).mono hw8⟩,rfl⟩
   ·have HE:Hid (CI s.data.toList=GB (⟨1,A,FG,false⟩,s.data.toList.drop q)):=by show _=_;rw[TG.out,GC.out,mB]
    clear mB TG GC
    go_wp2_with(refine θ C7 pS rfl rfl _ _ rfl rfl rfl mA pR ?_
                intro fk R6 Nx;have To:=rJ.keep (Nx.block _ (by omega)) (by rw[Nx.size];exact δ);have mC:=X7.keep (Nx.block _ (by omega)) (by rw[Nx.size];exact δ);have B11:=B10.trans (Nx.below (B:=w.heap.size) (by omega));have AA8:Hid (Kp lo w2 fk):=(KP9.out.alloc _).only Nx (.inr KP9.out.1))
    clear R6 Nx rJ X7 B10 dL X6 BB9 pS ZO rG B7;refine(AY s q 33 _ FV (by omega) (by decide)).mono ?_;rintro e wx ⟨rfl,rfl⟩;cases Nw:CH (s.data.toList.drop q) 33
    ·have Vc:Hid (CI s.data.toList=(⟨1,A,FG,false⟩,s.data.toList.drop q)):=by show _=_;rw[HE.out];unfold GB;simp only[Nw];rfl
     clear Nw HE
     go_wp2_with(first
      |refine ω BL To Py rfl _ rfl rfl ?_
      | (refine θ BL mC rfl rfl _ _ rfl rfl rfl Py To.one ?_;intro w20 R5 Vd))
     refine bodyPost_ret (Ω rfl _ _ _ _ rfl BL R5 Py) rfl ?_;exact⟨B11.trans (Vd.below δ),_,_,q,by omega,Vc.out,⟨p1,q1,none,0,HAS.out,((X5.out.kp AA8.out).only Vd ZN).mono (Nat.le_of_lt ZN),Eh _ _ _⟩,rfl⟩
    ·have lz:=BG s q 33 Nw
     have Vc:Hid (CI s.data.toList=(⟨1,A,FG,true⟩,s.data.toList.drop (q+1))):=by show _=_;rw[HE.out];unfold GB;simp only[Nw,List.drop_drop];rfl
     have AA9:Hid (UZ.set 11 (.bool true)=fj ⟨1,A,FG,true⟩ p1 q1 none 0):=by show _=_;rw[HAS.out];rfl
     have yG:Hid (Kp lo w2 (wx.setCell ⟨ga,11,none⟩ (.bool true))):=AA8.out.only (AQ.set _ _ _ _) (.inr ly);obtain⟨y11,E2⟩ :=To.get 11 (by omega);have f11:=To.fz 11 (by omega);have uw:=To.set 11 (by omega) (.bool true) rfl;have hrS:=mC.keep (heap_setCell_other wx ⟨ga,11,none⟩ w.heap.size (.bool true) (by simp;omega)) (by simp);have BS:=B11.setCell (p:=⟨ga,11,none⟩) (by simp;omega) (.bool true);have l8:(UZ.set 11 (.bool true)).length=12:=by rw[List.length_set];exact Py
     have zS:(UZ.set 11 (.bool true))[0]? =some (.int .i64 1):=by rw[List.getElem?_set_ne (by decide)];exact hz7
     clear Nw HE
     go_wp2_with(first
      |refine ω BL uw l8 rfl _ rfl rfl ?_
      | (refine θ BL hrS rfl rfl _ _ rfl rfl rfl l8 uw.one ?_;intro w20 R5 Vd))
     refine bodyPost_ret (Ω rfl _ _ _ _ rfl BL R5 l8) rfl ?_;exact⟨BS.trans (Vd.below δ),_,_,q+1,lz,Vc.out,⟨p1,q1,none,0,AA9.out,((X5.out.kp yG.out).only Vd ZN).mono (Nat.le_of_lt ZN),Eh _ _ _⟩,rfl⟩
 ·have TG:Hid (CI s.data.toList=(qZ,s.data.toList.drop 0)):=by
   show _=_;rw[List.drop_zero]at Jt⊢;unfold CI;rw[Jt]
  clear Jt
  go_wp2_with(first
   | (refine θ C7 Cq rfl rfl _ _ rfl rfl rfl Wn EN ?_;intro w5 BP O5;have GN:=CM.keep (O5.block _ (by omega)) (by rw[O5.size];exact δ))
   | (refine θ BL GN rfl rfl _ _ rfl rfl (vs:=Xa) rfl rfl Qn ?_;intro w7 KH O7))
  refine bodyPost_ret (Ω rfl _ _ _ _ rfl BL KH rfl) rfl ?_;exact⟨(B3.trans (O5.below (by omega))).trans (O7.below δ),Xa,qZ,0,by omega,TG.out,⟨none,0,none,0,rfl,Eh _ _ _,Eh _ _ _⟩,rfl⟩
end Go.Proofs.YtlppphmnegdhoabGreatDoor
