import Derived.Test.YtlppphmnegdhoabGreatDoorMz31
set_option linter.unusedVariables false
set_option linter.unusedSimpArgs false
set_option maxRecDepth 100000
set_option maxHeartbeats 8000000
namespace Go.Proofs.YtlppphmnegdhoabGreatDoor
open Go.Proofs.Tryz
open Go.RowKit
open M
theorem Kp.xC{lo g:Nat}{w x y:World}(h:Kp lo w x)(O:Bi g x y)(hg:w.heap.size≤g):Kp lo w y:=⟨Nat.le_trans h.1 O.size,fun k h1 h2=>(O.block k (Nat.lt_of_lt_of_le h2 h.1) (by omega)).trans (h.2 k h1 h2)⟩
def cm0(A:QN)(nm:Nat):Cm:=⟨A.cnt,A.a1,A.a2,A.no,nm,0,0,⟨#[]⟩,Ha,⟨#[]⟩,⟨#[]⟩⟩
theorem N4(lo:Nat)(w:World)(a:Option Addr):Cj lo w (fun w=>Ia w a Ha.rep):=fun _ _ _ k hk=>by simp[Ha]at hk
theorem sD{lo:Nat}{w:World}{A:QN}{nm:Nat}{s:ByteArray}{p1 p2:Option Addr}{r1 r2:Nat}{cs cs':List Value}(hcs:cs=uq (cm0 A nm) p1 r1 p2 r2 none 0 none 0)(h:MT lo w cs s nm cs'):
  ∃p3 q3 p4 q4,cs'=uq (Es A nm s.data.toList) p1 r1 p2 r2 p3 q3 p4 q4∧Cj lo w (fun w=>EB w p3 (Es A nm s.data.toList).sub.ex.l)∧Cj lo w (fun w=>Ia w p4 (Es A nm s.data.toList).sub.rep):=by
 subst hcs;cases h with
 |plain _ hp=>
  have h1:labelled nm=false:=by
   unfold pln at hp;cases hl:labelled nm
   ·rfl
   ·rw[hl]at hp;cases hp
  have h2:¬(nm=97∨nm=105∨nm=99)∧nm≠115∧nm≠121:=by
   simp[pln]at hp;omega
  have e:Es A nm s.data.toList=cm0 A nm:=by
   unfold Es;rw[h1,if_neg h2.1,if_neg h2.2.1,if_neg h2.2.2,if_neg h2.2.2];rfl
  rw[e];exact⟨none,0,none,0,rfl,Eh _ _ _,N4 _ _ _⟩
 |mM _ hl=>
  have h2:¬(nm=97∨nm=105∨nm=99)∧nm≠115∧nm≠121:=by
   simp[labelled]at hl;omega
  have e:Es A nm s.data.toList= {cm0 A nm with label:=Bv s.data.toList}:=by
   unfold Es;rw[hl,if_neg h2.1,if_neg h2.2.1,if_neg h2.2.2,if_neg h2.2.2];rfl
  rw[e];exact⟨none,0,none,0,rfl,Eh _ _ _,N4 _ _ _⟩
 |txt _ ht=>
  have e:Es A nm s.data.toList= {cm0 A nm with text:=s}:=by
   rcases ht with rfl|rfl|rfl<;>rfl
  rw[e];exact⟨none,0,none,0,rfl,Eh _ _ _,N4 _ _ _⟩
 |sub _ hs=>
  obtain⟨p3,q3,p4,q4,rfl,h3,h4⟩ :=hs;have e:Es A 115 s.data.toList= {cm0 A 115 with sub:=FH s.data.toList}:=rfl;rw[e];exact⟨p3,q3,p4,q4,rfl,h3,h4⟩
 |exc=>
  have e:Es A 121 s.data.toList=(⟨A.cnt,A.a1,A.a2,A.no,121,0,0,⟨#[]⟩,Ha,NG (ET (CA s.data.toList).1),NG (ET (CA s.data.toList).2)⟩ :Cm):=rfl;rw[e];exact⟨none,0,none,0,rfl,Eh _ _ _,N4 _ _ _⟩
def sF(s:ByteArray)(w:World)(e:Ending)(w':World):Prop:=
 Below w.heap.size w w'∧∃cs:List Value,cs.length=25∧(∀v∈cs,v.oneCell'=true)∧
  ((Dw s.data.toList=none∧e= .returned (.tuple #[.agg cs.toArray,.bool false]))∨∃c,Dw s.data.toList=some c∧Cj w.heap.size w' (fun w=>BK w cs c)∧e= .returned (.tuple #[.agg cs.toArray,.bool true]))
theorem SC(s:ByteArray)(w:World)(hs:s.size≤400)(Im:KN s):
  Calls prog 90 #[.string s] w fun e w'=>sF s w e w':=by
 have Ce:=γ Im;have Vq:Hid (Dw s.data.toList=Rj (CI s.data.toList).1 (CI s.data.toList).2):=rfl;clear Im;have Dg:CB (w.alloc (.cells P1.toArray 148)) w.heap.size P1:=CB.new w _ _ Jx;have B0:Below w.heap.size w (w.alloc (.cells P1.toArray 148)):=ζ.alloc δ _
 go_enter func90,ntmps90
 go_wp2_with fail
 change Calls _ _ _ (w.alloc (.cells P1.toArray 148)) _
 generalize w.alloc (.cells P1.toArray 148)=W at*;refine(PJ s W hs Ce.out).mono ?_;rintro e w2 ⟨B2,vs,A,q,Oy,ABY,⟨p1,r1,p2,r2,Fb,NC,NN⟩,rfl⟩;obtain⟨lo,Pl⟩ :∃lo,W.heap.size=lo:=⟨_,rfl⟩
 have sG:w.heap.size<lo:=by rw[←Pl];exact Dg.lt
 have rI:lo≤w2.heap.size:=by rw[←Pl];exact B2.size
 rw[Pl]at NC NN;have X5:Hid (Cj lo w2 (fun w=>EB w p1 A.a1.ex.l)∧Cj lo w2 (fun w=>EB w p2 A.a2.ex.l)):=⟨NC,NN⟩
 clear NC NN;have hA:A12 (fj A p1 r1 p2 r2):=⟨_,_,_,_,_,_,_,_,_,_,_,_,_,_,_,_,rfl⟩
 have VF:(fj A p1 r1 p2 r2)[0]? =some (.int .i64 (A.cnt:Nat)):=rfl;have Wn:(fj A p1 r1 p2 r2).length=12:=rfl;have EN:∀v∈fj A p1 r1 p2 r2,v.oneCell'=true:=by simp[fj,Value.oneCell']
 have ADa:Hid (∀nm:Nat,uq (cm0 A nm) p1 r1 p2 r2 none 0 none 0=fj A p1 r1 p2 r2++ [.int .u8 (nm:Nat),.int .u8 0,.int .i64 0,.string ⟨#[]⟩,.bool false,.bool false,.slice none 0 0,.slice none 0 0,.int .i64 0,.bool false,.bool false,.string ⟨#[]⟩,.string ⟨#[]⟩]):=fun _=>rfl
 rw[Fb];clear Fb;obtain⟨cn,q9⟩ :∃cn,A.cnt=cn:=⟨_,rfl⟩
 have HCN:=γ q9;rw[q9]at VF;generalize fj A p1 r1 p2 r2=vs at*;have HN:Hid (Dw s.data.toList=Rj A (s.data.toList.drop q)):=by show _=_;rw[Vq.out,ABY]
 have CJ:=Dg.below B2 Dg.lt;have QI:=B0.trans (B2.mono B0.size);have E7:=CJ.lt;have Cq:CB (w2.alloc (.cells Xa.toArray 141)) w2.heap.size Xa:=CB.new w2 _ _ Qn;have CM:=CJ.below ((Below.refl w2.heap.size w2).alloc δ (.cells Xa.toArray 141)) E7;have B3:=QI.alloc (o:= .cells Xa.toArray 141) (by omega);clear ABY Vq CJ QI B2 Dg B0;have VI:¬(q:Int)<0:=by omega
 by_cases hz:q<s.size
 ·have CN:¬(s.size:Int)≤(q:Int):=by omega
  have Dq:(q:Int)<(s.size:Int):=by omega
  have XO:(q:Int)+1≤(s.size:Int):=by omega
  obtain⟨x,hx⟩ :∃x:Nat,s[q].toNat=x:=⟨_,rfl⟩
  have FT:x<256:=by rw[←hx];exact s[q].toNat_lt
  have Qo:Hid (Dw s.data.toList=if AF cn x (s.data.toList.drop (q+1))then some (Es A x (s.data.toList.drop (q+1)))else none):=by
   show _=_;rw[HN.out,Ap s q hz,Rj,hx,HCN.out]
  obtain⟨q0,k1,n1,k2,n2,f1,f2,f3,f4,f5,a1,a2,l1,c1,l2,c2,rfl⟩ :=hA;obtain rfl:q0=(cn:Int):=by simpa using VF
  clear HN
  go_wp2_with(refine θ BL Cq rfl rfl _ _ rfl rfl rfl rfl EN ?_
              intro w5 BP O5;have QV:=CM.keep (O5.block _ (by omega)) (by rw[O5.size];exact δ);have B5:=B3.trans (O5.below (B:=w.heap.size) (by omega));have Qk:w5.heap.size=w2.heap.size+1:=by rw[O5.size];simp
              have hl5:=BP.lt)
  have FY:∀v∈([.int .i64 (cn:Int),.int .i64 k1,.int .i64 n1,.bool f1,.bool f2,.slice a1 l1 c1,.int .i64 k2,.int .i64 n2,.bool f3,.bool f4,.slice a2 l2 c2,.bool f5,.int .u8 x,.int .u8 0,.int .i64 0,.string ⟨#[]⟩,.bool false,.bool false,.slice none 0 0,.slice none 0 0,.int .i64 0,.bool false,.bool false,.string ⟨#[]⟩,.string ⟨#[]⟩]:List Value),v.oneCell'=true:=by simp[Value.oneCell']
  have r5:w5.drew.rangeAt w2.heap.size 0 [.int .i64 (cn:Int),.int .i64 k1,.int .i64 n1,.bool f1,.bool f2,.slice a1 l1 c1,.int .i64 k2,.int .i64 n2,.bool f3,.bool f4,.slice a2 l2 c2,.bool f5]:=(BP.keep (w':=w5.drew) rfl δ).range 0 12;have HZ5:Hid (CB ((w5.alloc (.cells P1.toArray 148)).drew) (w2.heap.size+1) P1):=by
   have h9:=CB.new w5 148 P1.toArray Jx;rw[Qk]at h9;exact h9.keep rfl δ
  have ue:Hid (CB ((w5.alloc (.cells P1.toArray 148)).drew) w.heap.size P1):=(QV.below (ζ.alloc δ _) QV.lt).keep rfl δ;have HV5:Hid (CB ((w5.alloc (.cells P1.toArray 148)).drew) w2.heap.size [.int .i64 (cn:Int),.int .i64 k1,.int .i64 n1,.bool f1,.bool f2,.slice a1 l1 c1,.int .i64 k2,.int .i64 n2,.bool f3,.bool f4,.slice a2 l2 c2,.bool f5]):=(BP.below (ζ.alloc δ _) BP.lt).keep rfl δ;have pY:Hid (Below w.heap.size w ((w5.alloc (.cells P1.toArray 148)).drew)):=(B5.alloc (by omega) _).drew;have hwl:w.heap.size<w2.heap.size+1:=by omega
  have KP5:Hid (Kp lo w2 ((w5.alloc (.cells P1.toArray 148)).drew)):=by
   have h9:Kp lo w2 (w5.alloc (.cells P1.toArray 148)):=(((Kp.refl lo w2).alloc _).only O5 (.inr δ)).alloc _;exact⟨h9.1,h9.2⟩
  refine wp_region_held_drew (S:=fun wx=>wx.rangeAt w2.heap.size 0 [.int .i64 (cn:Int),.int .i64 k1,.int .i64 n1,.bool f1,.bool f2,.slice a1 l1 c1,.int .i64 k2,.int .i64 n2,.bool f3,.bool f4,.slice a2 l2 c2,.bool f5]) (by kernel_rfl) r5 (fun hHeld=> ?_);refine wpAnyH_take (i:=0) rfl (by kernel_rfl) (by kernel_rfl) (by kernel_rfl) (fun _ _ _ h=>h) (yieldsIf_load_mid (by rfl) 141 (.tmp 4) rfl w2.heap.size 0 rfl [.int .i64 (cn:Int),.int .i64 k1,.int .i64 n1,.bool f1,.bool f2,.slice a1 l1 c1,.int .i64 k2,.int .i64 n2,.bool f3,.bool f4,.slice a2 l2 c2,.bool f5] _ (fun _ h=>h) underlying141 rfl (by kernel_rfl)) hHeld ?_;simp only[Act.put,List.setIfInBounds_toArray,List.set_cons_zero,List.set_cons_succ];refine wpAnyH_take (i:=1) (v:= .string s) rfl (by kernel_rfl) (by kernel_rfl) (by kernel_rfl) (fun _ _ _ h=>h) (Or.inl ⟨by rfl,fun w hSw=>by go_simp⟩) hHeld ?_;simp only[Act.put,List.setIfInBounds_toArray,List.set_cons_zero,List.set_cons_succ];refine wpAnyH_take (i:=2) (v:= .int .i64 (q:Int)) rfl (by kernel_rfl) (by kernel_rfl) (by kernel_rfl) (fun _ _ _ h=>h) (Or.inl ⟨by rfl,fun w hSw=>by go_simp⟩) hHeld ?_;simp only[Act.put,List.setIfInBounds_toArray,List.set_cons_zero,List.set_cons_succ];refine wpAnyH_take (i:=3) (v:= .int .u8 x) rfl (by kernel_rfl) (by kernel_rfl) (by kernel_rfl) (fun _ _ _ h=>h) (Or.inl ⟨by rfl,fun w hSw=>by go_simp⟩) hHeld ?_;simp only[Act.put,List.setIfInBounds_toArray,List.set_cons_zero,List.set_cons_succ];refine wpAnyH_take (i:=4) (v:= .agg ([.int .i64 (cn:Int),.int .i64 k1,.int .i64 n1,.bool f1,.bool f2,.slice a1 l1 c1,.int .i64 k2,.int .i64 n2,.bool f3,.bool f4,.slice a2 l2 c2,.bool f5,.int .u8 x,.int .u8 0,.int .i64 0,.string ⟨#[]⟩,.bool false,.bool false,.slice none 0 0,.slice none 0 0,.int .i64 0,.bool false,.bool false,.string ⟨#[]⟩,.string ⟨#[]⟩]:List Value).toArray) rfl (by kernel_rfl) (by kernel_rfl) (by kernel_rfl) (fun _ _ _ h=>h) (Or.inl ⟨by rfl,fun w hSw=>by go_simp⟩) hHeld ?_;simp only[Act.put,List.setIfInBounds_toArray,List.set_cons_zero,List.set_cons_succ];refine wpAnyH_ready (rs:= [5]) (by kernel_rfl) (by simp) ?_;refine AllReadyH.cons rfl (fun K hK=> ?_) AllReadyH.nil
  go_simp
  change K _ ((w5.alloc (.cells P1.toArray 148)).drew)
  generalize(w5.alloc (.cells P1.toArray 148)).drew=W5 at*;refine hK.out _ _ (HV5.out.range 0 12) (fun mY=> ?_);clear hK K;refine wpAnyH_ready (rs:= [6]) (by kernel_rfl) (by simp) ?_;refine AllReadyH.cons rfl (fun K hK=> ?_) AllReadyH.nil;rw[if_pos (by rfl)];refine bD Hk HZ5.out rfl (.tmp 6) (.tmp 26) rfl rfl rfl rfl FY ?_;intro W6 vI O6;refine hK.out _ _ ((HV5.out.keep (O6.block _ (by omega)) (by rw[O6.size];exact δ)).range 0 12) (fun _=>wpAnyH_done (by kernel_rfl) ?_ _);have rF:=ue.out.keep (O6.block _ (by omega)) (by rw[O6.size];exact δ);have B6:=pY.out.trans (O6.below (B:=w.heap.size) (by omega));have KP6:Hid (Kp lo w2 W6):=KP5.out.only O6 (.inr (by omega));have sH:w.heap.size<W6.heap.size:=by have:=KP6.out.1;omega
  clear hK K r5 hHeld mY HV5 ue pY HZ5 O6 BP O5 QV B5;simp only[Act.put,List.setIfInBounds_toArray,List.set_cons_zero,List.set_cons_succ];have HZ:Hid ((s.extract (q+1) s.size).size≤400):=by show _≤_;rw[ByteArray.size_extract];omega
  have Wo:=γ (MK s (q+1));have HZ3:Hid (KN (s.extract (q+1) s.size)):=fun c hc=>by rw[Wo.out]at hc;exact Ce.out.drop _ c hc
  go_wp2_with fail
  refine(YI (w2.heap.size+1) cn x _ _ _ HZ.out HZ3.out ⟨vI,rfl⟩ rfl rfl FT).mono ?_;rintro e w7 ⟨rfl,UZ,hc7,ZO,ha7⟩;have rG:=rF.xC ha7 (by omega);have B7:=B6.trans (ha7.below (by omega) (by have:=vI.lt;omega));have yx:=hc7.1;have sI:=hc7.2;rw[Wo.out];have yE:Hid (Kp lo w2 w7):=KP6.out.xC ha7 (by omega);rw[Wo.out]at ZO;have dT:Hid (AF cn x (s.data.toList.drop (q+1))=true→∃p3 q3 p4 q4,UZ=uq (Es A x (s.data.toList.drop (q+1))) p1 r1 p2 r2 p3 q3 p4 q4∧Cj W6.heap.size w7 (fun w=>EB w p3 (Es A x (s.data.toList.drop (q+1))).sub.ex.l)∧Cj W6.heap.size w7 (fun w=>Ia w p4 (Es A x (s.data.toList.drop (q+1))).sub.rep)):=fun h=>by
   have h9:=sD (ADa.out x).symm (ZO h);rw[Wo.out]at h9;exact h9
  clear ZO ha7 hc7 vI rF B6;generalize iW:AF cn x (s.data.toList.drop (q+1))=ak at dT Qo⊢;cases ak
  ·have HF:Hid (Dw s.data.toList=none):=Qo.out
   go_wp2_with(refine θ Hk rG rfl rfl _ _ rfl rfl (vs:=P1) rfl rfl Jx ?_;intro w8 Nl O8)
   refine bodyPost_ret (Ω rfl _ _ _ _ rfl Hk Nl rfl) rfl ?_;exact⟨B7.trans (O8.below δ),P1,rfl,Jx,.inl ⟨HF.out,rfl⟩⟩
  ·have HF:Hid (Dw s.data.toList=some (Es A x (s.data.toList.drop (q+1)))):=Qo.out
   go_wp2_with(first
    |refine ω Hk yx sI rfl _ rfl rfl ?_
    | (refine θ Hk rG rfl rfl _ _ rfl rfl rfl sI yx.one ?_;intro w8 Nl O8))
   refine bodyPost_ret (Ω rfl _ _ _ _ rfl Hk Nl sI) rfl ?_;refine⟨B7.trans (O8.below δ),UZ,sI,yx.one,.inr ⟨_,HF.out,?_,rfl⟩⟩;obtain⟨p3,q3,p4,q4,e1,e2,e3⟩ :=dT.out (by first|trivial|rfl);have g1:=((X5.out.1.kp yE.out).only O8 sG).mono (Nat.le_of_lt sG);have g2:=((X5.out.2.kp yE.out).only O8 sG).mono (Nat.le_of_lt sG);have g3:=(e2.only O8 sH).mono (Nat.le_of_lt sH);have g4:=(e3.only O8 sH).mono (Nat.le_of_lt sH);exact fun w'' h1 h2=>⟨p1,r1,p2,r2,p3,q3,p4,q4,e1,g1 w'' h1 h2,g2 w'' h1 h2,g3 w'' h1 h2,g4 w'' h1 h2⟩
 ·have CN:(s.size:Int)≤(q:Int):=by omega
  have HF:Hid (Dw s.data.toList=none):=by
   show _=_;rw[HN.out,List.drop_of_length_le (by rw[Δ];omega)];rfl
  clear HN
  go_wp2_with(first
   | (refine θ BL Cq rfl rfl _ _ rfl rfl rfl Wn EN ?_;intro w5 BP O5;have QV:=CM.keep (O5.block _ (by omega)) (by rw[O5.size];exact δ))
   | (refine θ Hk QV rfl rfl _ _ rfl rfl (vs:=P1) rfl rfl Jx ?_;intro w8 Nl O8))
  refine bodyPost_ret (Ω rfl _ _ _ _ rfl Hk Nl rfl) rfl ?_;exact⟨(B3.trans (O5.below (by omega))).trans (O8.below δ),P1,rfl,Jx,.inl ⟨HF.out,rfl⟩⟩
end Go.Proofs.YtlppphmnegdhoabGreatDoor
namespace Go.Proofs.YtlppphmnegdhoabGreatDoor
open Go.RowKit
open M
def OZ(A:Ku)(p:Option Addr)(c:Nat):List Value:= [.int .i64 (A.kind:Nat),.int .i64 (A.line:Nat),.bool A.ex.head,.bool A.ex.tail,.slice p A.ex.l.length c]
def yT(A:QN)(p1:Option Addr)(c1:Nat)(p2:Option Addr)(c2:Nat)(nm:Nat):List Value:=OZ A.a1 p1 c1++(OZ A.a2 p2 c2++(.bool A.no:: .int .u8 (nm:Nat)::A9.drop 12))
def dR(h0:Nat)(w:World)(cs:List Value)(A:QN):Prop:=∃p1 c1 p2 c2,cs=yT A p1 c1 p2 c2 0∧Cj (h0+2) w (fun w=>QW w p1 A.a1.ex.l)∧Cj (h0+2) w (fun w=>QW w p2 A.a2.ex.l)
theorem mN{t r:List UInt8}(h:Bu t=some (0,r)):CI t=(qZ,r):=by
 obtain⟨h1,rfl⟩ :=fq h;unfold CI;rw[h1]
theorem mO(A:QN)(hA:A.no=false)(r:List UInt8)(bg:Bool)(hb:CH r 33=bg):GB (A,r)=(⟨A.cnt,A.a1,A.a2,bg⟩,if bg then r.drop 1 else r):=by
 unfold GB;obtain⟨a,b,c,d⟩ :=A;obtain rfl:d=false:=hA;cases bg with
 |true=>rw[if_pos hb];rfl
 |false=>rw[if_neg (by rw[hb];decide)];rfl
theorem ri{t r:List UInt8}{A:Ku}(h:BM t=some (A,r))(hc:CH r 44=false)(bg:Bool)(hb:CH r 33=bg):CI t=(⟨1,A,FG,bg⟩,if bg then r.drop 1 else r):=by
 unfold CI;rw[h];show GB (Hb A r)=_;have:Hb A r=(⟨1,A,FG,false⟩,r):=by unfold Hb;rw[hc];rfl
 rw[this];exact mO _ rfl r bg hb
theorem rj{t r r2:List UInt8}{A A2:Ku}(h:BM t=some (A,r))(hc:CH r 44=true)(h2:BM (r.drop 1)=some (A2,r2))(bg:Bool)(hb:CH r2 33=bg):CI t=(⟨2,A,A2,bg⟩,if bg then r2.drop 1 else r2):=by
 unfold CI;rw[h];show GB (Hb A r)=_;have:Hb A r=(⟨2,A,A2,false⟩,r2):=by unfold Hb;rw[hc,h2];rfl
 rw[this];exact mO _ rfl r2 bg hb
theorem fy{k c nm:Nat}{t:List UInt8}(h:k=0↔c=0):AF k nm t=AF c nm t:=by
 unfold AF;have:decide (k=0)=decide (c=0):=by rw[decide_eq_decide];exact h
 rw[this]
def vD(l l2:List Mk):Prop:=FD l=false∧(∀q∈l,q.b<256)∧∀q∈l2,q.b<256
theorem yU{k nm:Nat}{t:List UInt8}(h:AF k nm t=true)(e:nm=121):vD (CA t).1 (CA t).2:=by
 subst e;unfold AF at h;rw[if_neg (by decide),if_neg (by decide),if_neg (by decide),if_neg (by decide),if_pos (by decide)]at h
 match t,h with
 | [],h=>cases h
 |c::r,h=>
  rw[AA]at h;split at h
  ·show vD (CA (c::r)).1 (CA (c::r)).2
   unfold CA;show vD (match Ψ r with|none=>([],[]) |some p=>match Ψ p.2 with|none=>([],[]) |some q=>(p.1,q.1)).1 (match Ψ r with|none=>([],[]) |some p=>match Ψ p.2 with|none=>([],[]) |some q=>(p.1,q.1)).2;cases hu:Ψ r with
   |none=>rw[hu]at h;cases h
   |some p=>
    rw[hu]at h;show vD (match Ψ p.2 with|none=>([],[]) |some q=>(p.1,q.1)).1 (match Ψ p.2 with|none=>([],[]) |some q=>(p.1,q.1)).2;have h':Ot 121 p.1 (Ψ p.2)=true:=h;cases hv:Ψ p.2 with
    |none=>rw[hv]at h';cases h'
    |some q=>
     rw[hv,Ot,if_neg (by decide)]at h';simp only[Bool.and_eq_true,Bool.not_eq_true']at h';exact⟨h'.1,Vm r p.1 p.2 (by rw[hu]),Vm p.2 q.1 q.2 (by rw[hv])⟩
  ·cases h
structure mP(lo:Nat)(w:World)(vs:List Value)(c:Cm):Prop where
 len:vs.length=23
 one:∀v∈vs,v.oneCell'=true
 a1:∃p q,(∀j,j<5→vs[j]? =(OZ c.a1 p q)[j]?)∧Cj lo w (fun w=>QW w p c.a1.ex.l)
 a2:∃p q,(∀j,j<5→vs[5+j]? =(OZ c.a2 p q)[j]?)∧Cj lo w (fun w=>QW w p c.a2.ex.l)
 no:vs[10]? =some (.bool c.no)
 nm:vs[11]? =some (.int .u8 (c.name:Nat))
 tx:vs[12]? =some (.string c.text)
 sb:c.name=115→∃(a:Option Addr)(q:Nat)(m:List Mk)(a2:Option Addr)(q2:Nat),vs[14]? =some (.bool c.sub.ex.head)∧vs[15]? =some (.bool c.sub.ex.tail)∧vs[16]? =some (.slice a c.sub.ex.l.length q)∧vs[17]? =some (.slice a2 m.length q2)∧vs[18]? =some (.int .i64 (c.sub.count:Nat))∧vs[19]? =some (.bool c.sub.all)∧vs[20]? =some (.bool c.sub.Pt)∧
  DK m=c.sub.rep∧(m.length≤400∧∀q∈m,q.b<256)∧Cj lo w (fun w=>QW w a c.sub.ex.l)∧Cj lo w (fun w=>A7 w a2 m.length m)
 ex:c.name=121→∃(l l2:List Mk)(a:Option Addr)(q:Nat)(a2:Option Addr)(q2:Nat),vs[21]? =some (.slice a l.length q)∧vs[22]? =some (.slice a2 l2.length q2)∧c.UO=NG (ET l)∧c.Kv=NG (ET l2)∧(l.length≤400∧vD l l2)∧l2.length=l.length∧Cj lo w (fun w=>A7 w a l.length l)∧Cj lo w (fun w=>A7 w a2 l2.length l2)
theorem mP.map{lo lo':Nat}{w w':World}{vs:List Value}{c:Cm}(h:mP lo w vs c)(f:∀P,Cj lo w P→Cj lo' w' P):mP lo' w' vs c:=by
 refine⟨h.len,h.one,?_,?_,h.no,h.nm,h.tx,fun e=> ?_,fun e=> ?_⟩
 ·obtain⟨p,q,h1,h2⟩ :=h.a1;exact⟨p,q,h1,f _ h2⟩
 ·obtain⟨p,q,h1,h2⟩ :=h.a2;exact⟨p,q,h1,f _ h2⟩
 ·obtain⟨a,q,m,a2,q2,h1,h2,h3,h4,h5,h6,h7,h8,h9,Ff,Pr⟩ :=h.sb e
  exact⟨a,q,m,a2,q2,h1,h2,h3,h4,h5,h6,h7,h8,h9,f _ Ff,f _ Pr⟩
 ·obtain⟨l,l2,a,q,a2,q2,h1,h2,h3,h4,h5,h6,h7,h8⟩ :=h.ex e
  exact⟨l,l2,a,q,a2,q2,h1,h2,h3,h4,h5,h6,f _ h7,f _ h8⟩
theorem rk(A:QN)(p1:Option Addr)(c1:Nat)(p2:Option Addr)(c2 nm x:Nat):(yT A p1 c1 p2 c2 nm).set 11 (.int .u8 (x:Nat))=yT A p1 c1 p2 c2 x:=rfl
theorem yV(A:QN)(p1:Option Addr)(c1:Nat)(p2:Option Addr)(c2 nm:Nat):(yT A p1 c1 p2 c2 nm).set 10 (.bool true)=yT ⟨A.cnt,A.a1,A.a2,true⟩ p1 c1 p2 c2 nm:=rfl
theorem dR.JF{h0:Nat}{w w':World}{cs:List Value}{A:QN}(h:dR h0 w cs A)(O:AQ (h0+1) w w'):dR h0 w' (cs.set 10 (.bool true)) ⟨A.cnt,A.a1,A.a2,true⟩ :=by
 obtain⟨p1,c1,p2,c2,rfl,h1,h2⟩ :=h;exact⟨p1,c1,p2,c2,yV ..,h1.only O (by omega),h2.only O (by omega)⟩
theorem mQ(s:ByteArray):NG s.data.toList=s:=by unfold NG;simp
theorem Vp{h0 k x Q:Nat}{s:ByteArray}{A:QN}{wx w9:World}{cs QX:List Value}(hx:dR h0 wx cs A)(hl:QX.length=23)(h1:∀v∈QX,v.oneCell'=true)(EV:h0+2≤wx.heap.size)
  (Jt:Bi (h0+1) (wx.setCell ⟨h0+1,11,none⟩ (.int .u8 (x:Nat))) w9) (hv:OY (wx.setCell ⟨h0+1,11,none⟩ (.int .u8 (x:Nat))).heap.size w9 x (s.extract (Q+1) s.size) (cs.set 11 (.int .u8 (x:Nat))) QX)
  (hb:∃cnt,(k=0↔cnt=0)∧CI s.data.toList=(⟨cnt,A.a1,A.a2,A.no⟩,s.data.toList.drop Q)) (hz:Q<s.size) (hxq:s[Q].toNat=x) (FT:x<256) (iW:AF k x (s.data.toList.drop (Q+1))=true):
  ae QX (x,if labelled x then s.data.toList.drop (Q+1)else [])∧∃c,Dw s.data.toList=some c∧mP (h0+2) w9 QX c:=by
 have hr:(s.extract (Q+1) s.size).data.toList=s.data.toList.drop (Q+1):=MK s (Q+1);obtain⟨p1,c1,p2,c2,rfl,n1,n2⟩ :=hx;rw[rk]at hv;have VX:(wx.setCell ⟨h0+1,11,none⟩ (.int .u8 (x:Nat))).heap.size=wx.heap.size:=by simp
 have vE:∀{P:World→Prop},Cj (h0+2) wx P→Cj (h0+2) w9 P:=fun hP=>
  (hP.only (g:=h0+1) (AQ.set _ _ _ _) (by omega)).Kv Jt.size (fun j h2 h3=>Jt.block j h3 (by omega))
 have Pl:∀{P:World→Prop},Cj (wx.setCell ⟨h0+1,11,none⟩ (.int .u8 (x:Nat))).heap.size w9 P→Cj (h0+2) w9 P:=fun hP=>hP.mono (by rw[VX];exact EV)
 refine⟨⟨hl,h1,?_,FT,?_⟩,?_⟩
 ·rw[hv.pr 11 (by decide)];rfl
 ·rw[hv.l]
  cases labelled x
  ·exact⟨⟨#[]⟩,rfl,rfl⟩
  ·exact⟨_,rfl,hr⟩
 obtain⟨cnt,ADN,hb⟩ :=hb;refine⟨Es ⟨cnt,A.a1,A.a2,A.no⟩ x (s.data.toList.drop (Q+1)),?_,?_⟩
 ·unfold Dw
  rw[hb];show Rj ⟨cnt,A.a1,A.a2,A.no⟩ (s.data.toList.drop Q)=_;rw[Ap s Q hz,Rj,hxq];rw[←fy ADN,if_pos iW]
 ·refine⟨hl,h1,⟨p1,c1,fun j hj=> ?_,vE n1⟩,⟨p2,c2,fun j hj=> ?_,vE n2⟩,?_,?_,?_,fun e=> ?_,fun e=> ?_⟩
  ·rw[hv.pr j (by omega)]
   unfold yT;rw[List.getElem?_append_left (by simp[OZ];omega)];rfl
  ·rw[hv.pr (5+j) (by omega)]
   unfold yT;rw[List.getElem?_append_right (by simp[OZ]),List.getElem?_append_left (by simp[OZ];omega)];simp[OZ,Es]
  ·rw[hv.pr 10 (by decide)];rfl
  ·rw[hv.pr 11 (by decide)];rfl
  ·rw[hv.t]
   show _=some (Value.string (if x=97∨x=105∨x=99 then NG (s.data.toList.drop (Q+1))else⟨#[]⟩))
   by_cases ht:Mt x
   ·rw[if_pos ht,if_pos (show x=97∨x=105∨x=99 from ht),←hr,mQ]
   ·rw[if_neg ht,if_neg (show¬(x=97∨x=105∨x=99)from ht)];rfl
  ·have e':x=115:=e
   obtain⟨a,c,m,a2,c2',g1,g2,g3,g4,g5,g6,g7,_,_,g8,g9,g10,g11⟩ :=(hv.c (.inl e')).s e';rw[hr]at g1 g2 g3 g5 g6 g7 g8 g10;have hs:(Es ⟨cnt,A.a1,A.a2,A.no⟩ x (s.data.toList.drop (Q+1))).sub=FH (s.data.toList.drop (Q+1)):=by
    show(if x=115 then _ else _)=_;rw[if_pos e']
   rw[hs];exact⟨a,c,m,a2,c2',g1,g2,g3,g4,g5,g6,g7,g8,g9,Pl g10,Pl g11⟩
  ·have e':x=121:=e
   obtain⟨a,c,a2,c2',_,g2,g3,g4,g5,g6,g7⟩ :=(hv.c (.inr e')).y (by omega);rw[hr]at g2 g3 g4 g5 g6 g7;refine⟨_,_,a,c,a2,c2',g2,g3,?_,?_,⟨g4,yU iW e'⟩,g5,Pl g6,Pl g7⟩
   all_goals
    show(if x=121 then _ else _)=_;rw[if_pos e']
def rq(s:ByteArray)(w:World)(e:Ending)(w':World):Prop:=
 Below w.heap.size w w'∧∃cs:List Value,cs.length=23∧(∀v∈cs,v.oneCell'=true)∧
  ((EH s.data.toList=none∧e= .returned (.tuple #[.agg cs.toArray,.bool false]))∨∃c0 c,EH s.data.toList=some c0∧ae cs c0∧Dw s.data.toList=some c∧mP w.heap.size w' cs c∧e= .returned (.tuple #[.agg cs.toArray,.bool true]))
def GZ:List (Nat×Nat)→Nat→Nat→Nat
 | [],_,_=>0
 |q::t,d,p=>if q.1=123 then GZ t (d+1) (p+1)else if q.1=125 then(if d=1 then p+1 else GZ t (d - 1) (p+1))else GZ t d (p+1)
def N6(P:List (Nat×Nat))(i:Nat):Nat:=GZ (P.drop (i+1)) 1 (i+1)
def P3(P:List (Nat×Nat))(k:Nat):Nat:=(P.getD k (0,0)).1
def lbA(P:List (Nat×Nat))(k:Nat):Nat:=(P.getD k (0,0)).2
def MD(P:List (Nat×Nat))(k:Nat):Bool:=P3 P k==98 || P3 P k==116
def tgt(P:List (Nat×Nat))(k:Nat):Nat:=if lbA P k=0 then P.length else Ee P (lbA P k)
def Hz(P:List (Nat×Nat))(k:Nat):Nat:=if MD P k then tgt P k else if P3 P k=123 then N6 P k else 0
theorem PN(P:List (Nat×Nat))(k:Nat)(h:k<P.length):P3 P k=P[k].1:=by unfold P3;rw[List.getD_eq_getElem?_getD,List.getElem?_eq_getElem h];rfl
theorem mi(P:List (Nat×Nat))(k:Nat)(h:k<P.length):lbA P k=P[k].2:=by unfold lbA;rw[List.getD_eq_getElem?_getD,List.getElem?_eq_getElem h];rfl
def ME(P:List (Nat×Nat))(N0:Nat→Nat)(i:Nat):Nat→Nat:=fun k=>if k<i∧MD P k=true then tgt P k else N0 k
def JH(P:List (Nat×Nat))(S:List Nat)(i:Nat):Nat→Nat:=fun k=>if k<i∧P3 P k=123∧¬k∈S then N6 P k else 0
structure KR(P:List (Nat×Nat))(S:List Nat)(i:Nat):Prop where
 lt:∀k∈S,k<i
 nm:∀k∈S,P3 P k=123
 inc:∀j j'(h:j<j')(h':j'<S.length),S[j]<S[j']
 dep:∀j(h:j<S.length),N6 P S[j]=GZ (P.drop i) (S.length - j) i
theorem KR.nil(P:List (Nat×Nat)):KR P [] 0:=⟨fun k h=>(List.not_mem_nil h).elim,fun k h=>(List.not_mem_nil h).elim,fun j j' _ h=>absurd h (Nat.not_lt_zero _),fun j h=>absurd h (Nat.not_lt_zero _)⟩
theorem N7(P:List (Nat×Nat))(i d p:Nat)(h:i<P.length):GZ (P.drop i) d p=if P3 P i=123 then GZ (P.drop (i+1)) (d+1) (p+1)else if P3 P i=125 then(if d=1 then p+1 else GZ (P.drop (i+1)) (d - 1) (p+1))else GZ (P.drop (i+1)) d (p+1):=by
 rw[List.drop_eq_getElem_cons h,GZ,PN P i h]
theorem KR.push{P:List (Nat×Nat)}{S:List Nat}{i:Nat}(h:KR P S i)(hi:i<P.length)(hn:P3 P i=123):KR P (S++ [i]) (i+1):=by
 refine⟨fun k hk=> ?_,fun k hk=> ?_,fun j j' hj hj'=> ?_,fun j hj=> ?_⟩
 ·rcases List.mem_append.1 hk with hk|hk
  ·have:=h.lt k hk;omega
  ·simp at hk;omega
 ·rcases List.mem_append.1 hk with hk|hk
  ·exact h.nm k hk
  ·simp at hk;rw[hk];exact hn
 ·simp at hj'
  rw[List.getElem_append_left (by omega:j<S.length)]
  by_cases e:j'<S.length
  ·rw[List.getElem_append_left e];exact h.inc j j' hj e
  ·rw[List.getElem_append_right (by omega)]
   simp;exact h.lt _ (List.getElem_mem _)
 ·simp at hj
  by_cases e:j<S.length
  ·rw[List.getElem_append_left e,h.dep j e,N7 P i _ _ hi,if_pos hn]
   rw[show(S++ [i]).length - j=S.length - j+1 by simp;omega]
  ·have e2:j=S.length:=by omega
   subst e2;rw[List.getElem_append_right δ];simp[N6]
theorem KR.pop{P:List (Nat×Nat)}{S:List Nat}{x i:Nat}(h:KR P (S++ [x]) i)(hi:i<P.length)(hn:P3 P i=125):KR P S (i+1)∧N6 P x=i+1∧¬x∈S∧x<i∧P3 P x=123:=by
 refine⟨⟨fun k hk=> ?_,fun k hk=>h.nm k (by simp[hk]),fun j j' hj hj'=> ?_,fun j hj=> ?_⟩,?_,fun hx=> ?_,h.lt x (by simp),h.nm x (by simp)⟩
 ·have:=h.lt k (by simp[hk]);omega
 ·have:=h.inc j j' hj (by simp;omega)
  rw[List.getElem_append_left (by omega),List.getElem_append_left hj']at this;exact this
 ·have:=h.dep j (by simp;omega)
  rw[List.getElem_append_left hj,N7 P i _ _ hi,if_neg (by omega),if_pos hn,if_neg (by simp;omega)]at this;rw[this]
  congr 1
  simp;omega
 ·have:=h.dep S.length (by simp)
  rw[List.getElem_append_right δ,N7 P i _ _ hi,if_neg (by omega),if_pos hn,if_pos (by simp)]at this
  simpa using this
 ·obtain⟨j,hj,e⟩ :=List.getElem_of_mem hx
  have:=h.inc j S.length hj (by simp);rw[List.getElem_append_left hj,List.getElem_append_right δ]at this;simp at this;omega
theorem KR.skip{P:List (Nat×Nat)}{S:List Nat}{i:Nat}(h:KR P S i)(hi:i<P.length)(h1:P3 P i≠123)(h2:P3 P i≠125):KR P S (i+1):=by
 refine⟨fun k hk=> ?_,h.nm,h.inc,fun j hj=> ?_⟩
 ·have:=h.lt k hk;omega
 ·rw[h.dep j hj,N7 P i _ _ hi,if_neg h1,if_neg h2]
def BF:List (List UInt8)→Option (List Cm)
 | []=>some []
 |t::l=>(Dw t).bind (fun c=>(BF l).map (c::·))
def CD(L:List Cm):List Cm:=L.mapIdx (fun i c=>{c with next:=Hz (GV L) i})
def IF(L:List Cm):Prop:=DW (GV L) 0=true∧∀i(h:i<(GV L).length),CZ (GV L) i h
def Ef(t:List UInt8)(cs:List Cm):Prop:=∃L,BF (AR [] t)=some L∧IF L∧cs=CD L
theorem Ef.unique{t:List UInt8}{a b:List Cm}(h:Ef t a)(g:Ef t b):a=b:=by
 obtain⟨L,h1,_,rfl⟩ :=h;obtain⟨M,g1,_,rfl⟩ :=g;rw[h1]at g1;injection g1 with g1;rw[g1]
theorem Vx:∀(M:List (List UInt8)),(BF M=none∧CW M=none)∨∃L X,BF M=some L∧CW M=some X∧GV L=FZ X∧L.length=X.length
 | []=> .inr ⟨[],[],rfl,rfl,rfl,rfl⟩
 |u::M=>by
  rw[BF,CW];rcases xI u with⟨h1,h2⟩ | ⟨c,x,h1,h2,h3,h4⟩
  ·rw[h1,h2];exact .inl ⟨rfl,rfl⟩
  ·rw[h1,h2]
   rcases Vx M with⟨g1,g2⟩ | ⟨L,X,g1,g2,g3,g4⟩
   ·rw[g1,g2];exact .inl ⟨rfl,rfl⟩
   ·rw[g1,g2]
    refine .inr ⟨c::L,x::X,rfl,rfl,?_,by simp[g4]⟩;unfold GV FZ at g3⊢;rw[List.map_cons,List.map_cons,g3,h3,h4]
theorem Ud{M:List (List UInt8)}{L:List Cm}{X:List (Nat×List UInt8)}(h2:CW M=some X)(h3:GV L=FZ X):IF L↔Cd X:=by
 unfold IF;rw[P2 X (PM M X h2),h3]
theorem bG(t:List UInt8):((∀cs,¬Ef t cs)∧∀l,CW (AR [] t)=some l→¬Cd l)∨∃cs l,Ef t cs∧CW (AR [] t)=some l∧Cd l∧cs.length=l.length:=by
 rcases Vx (AR [] t)with⟨g1,g2⟩ | ⟨L,X,g1,g2,g3,g4⟩
 ·refine .inl ⟨fun cs ⟨L,h,_⟩ => ?_,fun l h=> ?_⟩
  ·rw[g1]at h;cases h
  ·rw[g2]at h;cases h
 ·have hk:=Ud (M:=AR [] t) g2 g3
  by_cases hl:Cd X
  ·exact .inr ⟨CD L,X,⟨L,g1,hk.2 hl,rfl⟩,g2,hl,by simp[CD,g4]⟩
  ·refine .inl ⟨fun cs ⟨L',h,h',_⟩ => ?_,fun l h=> ?_⟩
   ·rw[g1]at h;injection h with h;subst h;exact hl (hk.1 h')
   ·rw[g2]at h;injection h with h;subst h;exact hl
def IG(L:List Cm)(t:List UInt8):Option (List Cm):=(BF (AR [] t)).map (L++ ·)
theorem gK(L:List Cm):IG L []=some L:=by
 unfold IG;rw[AR,if_pos rfl,BF];simp
theorem gL(t:List UInt8):IG [] t=BF (AR [] t):=by
 unfold IG;cases BF (AR [] t)<;>simp
theorem bH(L:List Cm)(u:List UInt8)(M:List (List UInt8)):(BF (u::M)).map (L++ ·)=(Dw u).bind (fun c=>(BF M).map ((L++ [c])++ ·)):=by
 rw[BF];cases Dw u with
 |none=>rfl
 |some c=>
  cases BF M with
  |none=>rfl
  |some l=>simp
theorem LH:∀(t:List UInt8)(m:List Mk)(r:List UInt8),Ψ t=some (m,r)→m.length+r.length+1≤t.length:=by
 have key:∀n(t:List UInt8),t.length≤n→∀m r,Ψ t=some (m,r)→m.length+r.length+1≤t.length:=by
  intro n
  induction n with
  |zero=>
   intro t ht m r h
   match t,ht with
   | [],_=>rw[Ψ]at h;cases h
  |succ n ih=>
   intro t ht m r h
   match t with
   | []=>rw[Ψ]at h;cases h
   | [c]=>
     rw[Ψ]at h;split at h
     ·injection h with h;injection h with h1 h2;subst h1;subst h2;simp
     ·cases h
   |c::d::t=>
    rw[Ψ]at h;split at h
    ·injection h with h;injection h with h1 h2;subst h1;subst h2;simp
    ·split at h
     ·cases hu:Ψ t with
      |none=>rw[hu]at h;cases h
      |some p=>
       rw[hu]at h;injection h with h;injection h with h1 h2;have:=ih t (by simp at ht;omega) p.1 p.2 hu;subst h1;subst h2;simp;omega
     ·cases hu:Ψ (d::t)with
      |none=>rw[hu]at h;cases h
      |some p=>
       rw[hu]at h;injection h with h;injection h with h1 h2;have:=ih (d::t) (by simp at ht⊢;omega) p.1 p.2 hu;subst h1;subst h2;simp at this⊢;omega
 exact fun t=>key t.length t δ
theorem Ue:∀(n:Nat)(m:List Mk)(l:List It),EP n m=some l→l.length≤n
 |n,[],l,h=>by rw[EP]at h;injection h with h;subst h;simp
 |0,q::m,l,h=>by simp[EP]at h
 |n+1,q::m,l,h=>by
  rw[EP]at h;cases hi:Ba (q::m)with
  |none=>rw[hi]at h;cases h
  |some p=>
   obtain⟨x,r⟩ :=p;rw[hi]at h;cases hl:EP n r with
   |none=>simp[hl]at h
   |some k=>
    have:=Ue n r k hl;simp[hl]at h;subst h;simp;omega
theorem dU(m:List Mk)(x:Ex)(h:Cv m=some x):x.l.length≤m.length:=by
 unfold Cv at h;split at h
 ·cases h
 ·simp only[Option.map_eq_some_iff]at h
  obtain⟨l,h1,rfl⟩ :=h;have:=Ue _ _ _ h1;have hA:∀b:Bool,(if b=true then m.take (m.length - 1)else m).length≤m.length:=fun b=>by cases b<;>simp
  refine Nat.le_trans this ?_;rw[List.length_drop];exact Nat.le_trans (Nat.sub_le _ _) (hA _)
end Go.Proofs.YtlppphmnegdhoabGreatDoor
