import Derived.Test.YtlppphmnegdhoabGreatDoorMz28
set_option linter.unusedVariables false
set_option maxRecDepth 100000
set_option maxHeartbeats 2000000
namespace Go.Proofs.YtlppphmnegdhoabGreatDoor
open Go.Proofs.Tryz
open Go.RowKit
open M
theorem vL{t:ByteArray}{l:List UInt8}(h:t.data.toList=l):t=NG l:=by
 subst h
 rfl
def yu(b:Nat)(cs:List Value)(s:ByteArray)(w:World)(e:Ending)(w':World):Prop:=e= .returned (.bool (AA 121 s.data.toList))∧∃cs',E4 w' b cs'∧(AA 121 s.data.toList=true→cs'=cs.take 23++ [.string (NG (ET (CA s.data.toList).1)),.string (NG (ET (CA s.data.toList).2))])∧Bi b w w'
theorem QY(b:Nat)(cs:List Value)(s:ByteArray)(w:World)(hs:s.size≤400)(Im:KN s)(hb:E4 w b cs):
  Calls prog 168 #[.pointer (some ⟨b,0,none⟩),.string s] w fun e w'=>yu b cs s w e w':=by
 have FV:s.size≤maxLen:=by unfold maxLen;omega
 have Ce:=γ Im;have ZR:Hid (AA 121 s.data.toList=if CH s.data.toList 47 then Zy 121 (Ψ (s.data.toList.drop 1))else false):=Uc 121 _;clear Im
 go_enter func168,ntmps168
 go_wp2_with fail
 have HC:=AY s 0 47 w FV ε (by decide);rw[show((0:Nat):Int)=0 from rfl,List.drop_zero]at HC;refine HC.mono ?_;clear HC;rintro e wq ⟨rfl,JE⟩;rw[JE];clear JE;cases Fa:CH s.data.toList 47
 ·have HF:Hid (AA 121 s.data.toList=false):=by show _=_;rw[ZR.out,Fa];rfl
  clear Fa ZR;go_wp2;go_ret;exact⟨ι (by rw[HF.out]),cs,hb,fun h=>by(rw[HF.out]at h;cases h),Bi.refl _ _⟩
 have h1s:1≤s.size:=BG s 0 47 (by rw[List.drop_zero];exact Fa);obtain⟨m,r,fh⟩ :∃m r,Ah (s.data.toList.drop 1)=(m,r):=⟨_,_,rfl⟩
 have HM:=γ fh;obtain⟨p1,p2⟩ :=Ql _ m r (Ce.out.drop 1) fh;have FU:Hid ((∀r',r≠47::r')→AA 121 s.data.toList=false):=fun e=>by rw[ZR.out,Fa,if_pos rfl,p2 e];rfl
 have Wh:Hid (∀r',r=47::r'→AA 121 s.data.toList=Ot 121 m (Ψ r')):=fun r' e=>by rw[ZR.out,Fa,if_pos rfl,p1 r' e];rfl
 have HX1:Hid (∀r',r=47::r'→Ψ (s.data.toList.drop 1)=some (m,r')):=p1;have XY:Hid (∀q∈m,q.b<256):=fun q hq=>jK (s.data.toList.drop 1) q (by rw[fh];exact hq)
 clear fh p1 p2 Fa ZR
 go_wp2_with fail
 have HC:=MR s 1 m r w hs h1s HM.out;rw[show((1:Nat):Int)=1 from rfl]at HC;refine HC.mono ?_;clear HC;rintro e w1 ⟨B1,t,n,rfl,ht,h1n,TP,yo,htn⟩;have HT:=γ ht;have CR:Hid (CH (s.data.toList.drop n) 47=true↔(([]:List Mk)= []∧∃r',r=47::r'∧s.data.toList.drop n=47::r')):=Ix _ _ _ yo;have HR:Hid (r=s.data.toList.drop n):=Lb _ _ yo;have ξ:=hb.keep B1;have A1:Bi b w w1:=Bi.η B1;clear ht yo B1 hb
 go_wp2_with fail
 refine(AY s n 47 _ FV TP (by decide)).mono ?_;rintro e wq ⟨rfl,JE⟩;rw[JE];clear JE;cases BZ:CH (s.data.toList.drop n) 47
 ·have HF:Hid (AA 121 s.data.toList=false):=FU.out (fun r' e=>by rw[HR.out]at e;rw[e]at BZ;cases BZ)
  clear BZ FU Wh CR;go_wp2;go_ret;exact⟨ι (by rw[HF.out]),cs,ξ,fun h=>by(rw[HF.out]at h;cases h),A1⟩
 have NC:=BG s n 47 BZ;obtain⟨_,r',R1,fK⟩ :=CR.out.1 BZ;have fT:Hid (Ψ (s.data.toList.drop 1)=some (m,s.data.toList.drop (n+1))):=by
  show _=_;rw[HX1.out r' R1,←List.drop_drop,fK];rfl
 have bB:Hid (AA 121 s.data.toList=Ot 121 m (Ψ (s.data.toList.drop (n+1)))):=by
  show _=_;rw[Wh.out r' R1,←List.drop_drop,fK];rfl
 obtain⟨m2,r2,Q3⟩ :∃m2 r2,Ah (s.data.toList.drop (n+1))=(m2,r2):=⟨_,_,rfl⟩
 have Kb:=γ Q3;obtain⟨p1,p2⟩ :=Ql _ m2 r2 (Ce.out.drop (n+1)) Q3;have HX3:Hid (∀r',r2=47::r'→CA s.data.toList=(m,m2)):=fun r' e=>by
  unfold CA;rw[fT.out];simp only[p1 r' e]
 have HC4:Hid ((∀r',r2≠47::r')→AA 121 s.data.toList=false):=fun e=>by rw[bB.out,p2 e];rfl
 have HC5:Hid (∀r',r2=47::r'→AA 121 s.data.toList=(!FD m && (!m.isEmpty && (m.length==m2.length && r'.isEmpty)))):=fun r' e=>by
  rw[bB.out,p1 r' e,Ot,if_neg (by decide)]
 clear Q3 p1 p2 BZ FU Wh CR R1 fK bB
 go_wp2_with fail
 have HC:=MR s (n+1) m2 r2 w1 hs NC Kb.out;rw[show((n+1:Nat):Int)=(n:Int)+1 from rfl]at HC;refine HC.mono ?_;clear HC;rintro e w2 ⟨B2,t2,q,rfl,pG,hnq,Oy,yh,AFa⟩;have Er:=γ pG;have CR:Hid (CH (s.data.toList.drop q) 47=true↔(([]:List Mk)= []∧∃r',r2=47::r'∧s.data.toList.drop q=47::r')):=Ix _ _ _ yh;have EA:Hid (r2=s.data.toList.drop q):=Lb _ _ yh;have CJ:=ξ.keep B2;have A2:Bi b w w2:=A1.trans (Bi.η B2);clear pG yh B2 ξ A1
 go_wp2_with fail
 refine(AY s q 47 _ FV Oy (by decide)).mono ?_;rintro e wq ⟨rfl,JE⟩;rw[JE];clear JE;cases BZ:CH (s.data.toList.drop q) 47
 ·have HF:Hid (AA 121 s.data.toList=false):=HC4.out (fun r' e=>by rw[EA.out]at e;rw[e]at BZ;cases BZ)
  clear BZ HC4 HC5 CR;go_wp2;go_ret;exact⟨ι (by rw[HF.out]),cs,CJ,fun h=>by(rw[HF.out]at h;cases h),A2⟩
 have Lq:=BG s q 47 BZ;obtain⟨_,r',R1,hdq⟩ :=CR.out.1 BZ;have wQ:Hid ([Value.string t,.string t2]= [.string (NG (ET (CA s.data.toList).1)),.string (NG (ET (CA s.data.toList).2))]):=by
  show _=_;rw[HX3.out r' R1,vL HT.out,vL Er.out];rfl
 have ABV:r'.isEmpty=decide (q+1=s.size):=by
  have h9:=congrArg List.length hdq;rw[List.length_drop,Δ]at h9;simp at h9;cases r' with
  |nil=>simp at h9⊢;omega
  |cons a b=>simp at h9⊢;omega
 have hlm:m.length=t.size:=by rw[←Δ,HT.out];simp[ZS]
 have ABW:m2.length=t2.size:=by rw[←Δ,Er.out];simp[ZS]
 have HV:Hid (AA 121 s.data.toList=(!FD m && (!decide (t.size=0) && (decide (t.size=t2.size) && decide (q+1=s.size))))):=by
  show _=_;rw[HC5.out r' R1,ABV,hlm,ABW];have e1:m.isEmpty=decide (t.size=0):=by
   rw[←hlm];cases m<;>simp
  rw[e1];rfl
 have Q7:t.size≤8192:=by omega
 have yS:=YH m t XY.out HT.out;have ADY:=γ yS;clear yS;clear BZ HC4 HC5 CR R1 hdq ABV hlm ABW
 by_cases Mp:q+1=s.size
 ·have yR:((q:Int)+1 !=(s.size:Int))=false:=by simp;omega
  have yv:=CJ.1;have ADZ:=CJ.2;have R9:Hid (AA 121 s.data.toList=(!FD m && (!decide (t.size=0) && decide (t.size=t2.size)))):=by show _=_;rw[HV.out,decide_eq_true Mp,Bool.and_true]
  have HXC:Hid (cs.take 23++ [.string t,.string t2]++cs.drop (23+2)=cs.take 23++ [.string (NG (ET (CA s.data.toList).1)),.string (NG (ET (CA s.data.toList).2))]):=by
   show _=_;rw[wQ.out,List.drop_of_length_le (by omega),List.append_nil]
  have hSn:Sp cs (cs.take 23++ [.string t,.string t2]++cs.drop (23+2)):=Sp.part ADZ 23 [.string t,.string t2] (by omega) (by simp);clear HV Mp
  by_cases z1:t.size=0
  ·have z11:¬(0:Int)<(t.size:Int):=by omega
   have HF:Hid (AA 121 s.data.toList=false):=by show _=_;rw[R9.out,decide_eq_true z1];simp
   clear R9 z1
   go_wp2_with(refine Ek mX yv 23 rfl _ _ rfl rfl rfl rfl (by omega) (by simp[Value.oneCell']) ?_;intro w5 BP O5)
   go_ret;exact⟨ι (by rw[HF.out]),_,⟨BP,hSn.1⟩,fun h=>by(rw[HF.out]at h;cases h),A2.trans (Bi.Aw O5)⟩
  ·have z11:(0:Int)<(t.size:Int):=by omega
   by_cases z2:t.size=t2.size
   ·have z21:((t.size:Int)==(t2.size:Int))=true:=by simp[z2]
    have HV3:Hid (AA 121 s.data.toList= !FD m):=by show _=_;rw[R9.out,decide_eq_false z1,decide_eq_true z2];simp
    clear R9 z1 z2
    go_wp2_with(refine Ek mX yv 23 rfl _ _ rfl rfl rfl rfl (by omega) (by simp[Value.oneCell']) ?_;intro w5 BP O5)
    refine(SB t w5 Q7).mono ?_;rintro e w6 ⟨B6,tw,rfl,htw⟩;have HF:Hid (AA 121 s.data.toList= !tw):=by
     show _=_;have:FD m=tw:=by
      rw[Bool.eq_iff_iff];exact ADY.out.trans htw.symm
     rw[HV3.out,this]
    have vI:E4 w6 b (cs.take 23++ [.string t,.string t2]++cs.drop (23+2)):=E4.keep ⟨BP,hSn.1⟩ B6;clear htw HV3;cases tw
    all_goals
     go_wp2;go_ret;exact⟨ι (by rw[HF.out];rfl),_,vI,fun _=>HXC.out,(A2.trans (Bi.Aw O5)).trans (Bi.η B6)⟩
   ·have z21:((t.size:Int)==(t2.size:Int))=false:=by simp;omega
    have HF:Hid (AA 121 s.data.toList=false):=by show _=_;rw[R9.out,decide_eq_false z2];simp
    clear R9 z1 z2
    go_wp2_with(refine Ek mX yv 23 rfl _ _ rfl rfl rfl rfl (by omega) (by simp[Value.oneCell']) ?_;intro w5 BP O5)
    go_ret;exact⟨ι (by rw[HF.out]),_,⟨BP,hSn.1⟩,fun h=>by(rw[HF.out]at h;cases h),A2.trans (Bi.Aw O5)⟩
 ·have yR:((q:Int)+1 !=(s.size:Int))=true:=by simp;omega
  have HF:Hid (AA 121 s.data.toList=false):=by show _=_;rw[HV.out,decide_eq_false Mp];simp
  clear HV Mp;go_wp2;go_ret;exact⟨ι (by rw[HF.out]),cs,CJ,fun h=>by(rw[HF.out]at h;cases h),A2⟩
end Go.Proofs.YtlppphmnegdhoabGreatDoor
namespace Go.Proofs.YtlppphmnegdhoabGreatDoor
open Go.RowKit
open M
theorem uz:ZH 107 179 23 256 (.agg A9.toArray):=⟨by kernel_rfl,rK,rfl,by decide,by decide,by decide⟩
theorem dO(N:Nat):∀(CS:List (List Value)),(∀c∈CS,c.length=N)→∀i(h:i<CS.length) j,j<N→CS.flatten[i*N+j]? =CS[i][j]? :=by
 intro CS
 induction CS with
 |nil=>intro _ i h;simp at h
 |cons c CS ih=>
  intro hN i h j hj;have hc:=hN c (by simp);rw[List.flatten_cons];cases i with
  |zero=>rw[Nat.zero_mul,Nat.zero_add,List.getElem?_append_left (by omega)];rfl
  |succ i=>
   have e:(i+1)*N+j=N+(i*N+j):=by rw[Nat.add_mul,Nat.one_mul];omega
   rw[e,List.getElem?_append_right (by omega),hc,Nat.add_sub_cancel_left];exact ih (fun c hc=>hN c (by simp[hc])) i (by simpa using h) j hj
theorem Jw{w w':World}{base g:Nat}{e:TypeId}{size:Nat}{v:Value}{n:Nat}{xs:List Value}(h:w.ownsRow base e size v n xs)(ho:AQ g w w')(hne:v.ownBlock≠some g):w'.ownsRow base e size v n xs:=by
 obtain⟨h1,h2⟩ :=h;refine⟨h1,?_⟩;rcases h2 with h2| ⟨q,cap,cur,e1,e2,e3,e4⟩
 ·exact .inl h2
 ·refine .inr ⟨q,cap,cur,e1,e2,?_,e4⟩
  rw[ho.block q (fun e=>hne (by rw[e1,←e];rfl))];exact e3
def rR(L:List (Nat×List UInt8))(CS:List (List Value)):Prop:=CS.length=L.length∧∀j(h:j<L.length)(h':j<CS.length),ae CS[j] L[j]
theorem YD{w:World}{B:Nat}{a:Option Addr}{c:Nat}{L:List (Nat×List UInt8)}{CS:List (List Value)}(h:w.ownsRow B 179 23 (.slice a L.length c) L.length CS.flatten)(ho:rR L CS)(hs:L.length≤8192):GJ w a L:=by
 refine⟨hs,fun i hi=> ?_⟩;have JC:i<CS.length:=by rw[ho.1];exact hi
 have hN:∀c∈CS,c.length=23:=fun c hc=>by
  obtain⟨j,hj,rfl⟩ :=List.getElem_of_mem hc;exact(ho.2 j (by rw[←ho.1];exact hj) hj).1
 obtain⟨g,hg⟩ :∃g,a=some ⟨g,0,none⟩ :=by
  rcases h.2 with⟨_,hz⟩ | ⟨g,cap,cur,hv,_⟩
  ·omega
  ·simp at hv;exact⟨g,hv.1⟩
 subst hg;obtain⟨_,_,Pr,Ac,t,Hu,ht⟩ :=ho.2 i hi JC;have E2:=h.cells rfl (i*23+11) _ ((dO 23 CS hN i JC 11 (by decide)).trans Pr);have Ro:=h.cells rfl (i*23+13) _ ((dO 23 CS hN i JC 13 (by decide)).trans Hu);rw[Addr.add_mid,Nat.zero_add]at E2 Ro;exact⟨g,rfl,(h.lt g rfl).2,E2,Ac,t,Ro,ht⟩
theorem fp(l:List (List UInt8))(i:Nat)(h:i<l.length)(L:List (Nat×List UInt8))(hh:CW l=(CW (l.drop i)).map (L++ ·)):CW l=(EH l[i]).bind (fun c=>(CW (l.drop (i+1))).map ((L++ [c])++ ·)):=by
 rw[hh,List.drop_eq_getElem_cons h,CW];cases EH l[i]with
 |none=>rfl
 |some c=>cases CW (l.drop (i+1))<;>simp
def yL(s:ByteArray)(w:World)(e:Ending)(w':World):Prop:=(∃n x:Int,e= .returned (.tuple #[.int .i64 n,.int .i64 x])∧La s n x)∧Below w.heap.size w w'
theorem FQ{w w':World}{base:Nat}{e:TypeId}{size:Nat}{v:Value}{n:Nat}{xs:List Value}(h:w.ownsRow base e size v n xs)(hk:∀q,base≤q→q<w.heap.size→w'.heap[q]? =w.heap[q]?):w'.ownsRow base e size v n xs:=by
 have h9:=h;obtain⟨h1,h2⟩ :=h;refine⟨h1,?_⟩;rcases h2 with h2| ⟨q,cap,cur,e1,e2,e3,e4⟩
 ·exact .inl h2
 ·refine .inr ⟨q,cap,cur,e1,e2,?_,e4⟩
  rw[hk q e2 ((h9.lt q (by rw[e1];rfl)).2)];exact e3
def QW(w:World)(a:Option Addr)(l:List It):Prop:=∃L:List IV,L.map IV.it=l∧Gh w a L
theorem ID(lo:Nat)(w:World)(a:Option Addr):Cj lo w (fun w=>QW w a Ml.l):=fun _ _ _=>⟨[],rfl,⟨.inl rfl,fun x hx=>(List.not_mem_nil hx).elim⟩⟩
theorem dP{w:World}{B c:Nat}{a:Option Addr}{L:List IV}(h:w.ownsRow B 219 5 (.slice a L.length c) L.length (Ko L))(Fx:∀x∈L,Lt B w x):Cj B w (fun w=>QW w a (L.map IV.it)):=fun w' hs hb=>by
 have hk:∀q,B≤q→q<w.heap.size→w'.heap[q]? =w.heap[q]? :=fun q h1 h2=>hb q h2 (by omega)
 exact⟨L,rfl,Xs (FQ h hk) (fun x hx=>⟨FQ (Fx x hx).f hk,FQ (Fx x hx).k hk,(Fx x hx).ap⟩)⟩
theorem Ua{w:World}{B c:Nat}{a:Option Addr}{l:List Mk}(h:w.ownsRow B 216 2 (.slice a l.length c) l.length (GU l)):Cj B w (fun w=>A7 w a l.length l):=fun w' hs hb=>
 Kl (FQ h (fun q h1 h2=>hb q h2 (by omega)))
def Vk(lo:Nat)(w:World)(vs:List Value)(A:Ku):Prop:=∃a c,vs= [.int .i64 (A.kind:Nat),.int .i64 (A.line:Nat),.bool A.ex.head,.bool A.ex.tail,.slice a A.ex.l.length c]∧Cj lo w (fun w=>QW w a A.ex.l)
theorem ag(t:List UInt8):∀m,At (m+1) t≤m→At m t=At (m+1) t:=by
 induction t with
 |nil=>intro m _;cases m<;>rfl
 |cons c t ih=>
  intro m h;cases m with
  |zero=>
   rw[At]at h⊢;split at h
   ·omega
   ·rename_i hc
    rw[At,if_neg hc]
  |succ m=>
   rw[At]at h;rw[At,At];split at h
   all_goals
    rename_i hc
   ·rw[if_pos hc,if_pos hc,ih m (by omega)]
   ·rw[if_neg hc,if_neg hc]
theorem fq{t r:List UInt8}(h:Bu t=some (0,r)):BM t=none∧r=t:=by
 match t with
 | []=>simp[Bu]at h;exact⟨rfl,by rw[h]⟩
 |c::u=>
  rw[Bu]at h;split at h
  ·simp at h
  ·rename_i h1
   split at h
   ·unfold I5 at h
    split at h
    ·cases h
    ·split at h<;>simp at h
   ·rename_i h2
    split at h
    ·split at h<;>simp at h
    ·rename_i h3
     simp at h;refine⟨?_,h.symm⟩;unfold BM CH FW;rw[if_neg (by simpa using h1),if_neg (by simpa using h2)];simp only[h3]
     rfl
theorem mJ{t:List UInt8}{c:UInt8}{r:List UInt8}(ht:t=c::r)(h1:c.toNat≠36)(h2:c.toNat≠47)(h3:CG c.toNat=true)(h4:At 5 t≤4):BM t=some (⟨1,Jo 0 (t.take (At 5 t)),Ml⟩,t.drop (At 5 t)):=by
 have h5:At 4 t=At 5 t:=ag t 4 h4;have h6:FW t=At 5 t:=by
  unfold FW;rw[ht];simp only[h3,if_true];rw[←ht,h5]
 have h7:0<At 5 t:=by
  rw[ht,At];have:DJ c.toNat=true:=by
   simp only[CG,Bool.and_eq_true,decide_eq_true_eq]at h3;simp only[DJ,Bool.and_eq_true,decide_eq_true_eq];omega
  rw[if_pos this];omega
 unfold BM;have e1:CH t 36=false:=by rw[ht];show(c.toNat==36)=false;simpa using h1
 have e2:CH t 47=false:=by rw[ht];show(c.toNat==47)=false;simpa using h2
 rw[e1,e2,if_neg (by decide),if_neg (by decide),h6,if_pos h7];unfold Ri;rw[h6]
def rS(s:ByteArray)(p:Nat)(w w':World)(e:Ending):Prop:=
 Below w.heap.size w w'∧∃vs:List Value,vs.length=5∧(∀v∈vs,v.oneCell'=true)∧
  ((Bu (s.data.toList.drop p)=none∧e= .returned (.tuple #[.agg vs.toArray,.int .i64 (-1)]))∨
   ∃(A:Ku)(q:Nat),Bu (s.data.toList.drop p)=some (A.kind,s.data.toList.drop q)∧(A.kind≠0→BM (s.data.toList.drop p)=some (A,s.data.toList.drop q))∧(A.kind=0→A=FG)∧p≤q∧q≤s.size∧A.kind≤3∧Vk w.heap.size w' vs A∧e= .returned (.tuple #[.agg vs.toArray,.int .i64 q]))
theorem Qu(t:List UInt8):Bv t<256:=by
 unfold Bv;split
 ·match t with
  | []=>decide
  |c::_=>exact c.toNat_lt
 ·decide
theorem Qv(t:List UInt8):(Bv t≠0)↔Cc t=true:=by
 match t with
 | []=>simp[Bv,Cc]
 | [c]=>
   cases h:Cc [c]
   ·simp[Bv,h]
   ·simp[Bv,h]
    simp[Cc]at h;omega
 |c::d::t=>simp[Bv,Cc]
theorem sB(s:ByteArray):s.data.toList.isEmpty=s.toList.isEmpty:=by rw[ByteArray.toList_eq]
end Go.Proofs.YtlppphmnegdhoabGreatDoor
namespace Go.Proofs.YtlppphmnegdhoabGreatDoor
open Go.Proofs.Tryz
open Go.RowKit
open M
theorem LF(s:ByteArray)(p:Nat)(w:World)(hs:s.size≤400)(hp:p≤s.size):
  Calls prog 147 #[.string s,.int .i64 p] w fun e w'=>rS s p w w' e:=by
 have Dg:CB (w.alloc (.cells #[.int .i64 0,.int .i64 0,.bool false,.bool false,.slice none 0 0] 177)) w.heap.size [.int .i64 0,.int .i64 0,.bool false,.bool false,.slice none 0 0]:=CB.new w _ _ (by simp[Value.oneCell']);have B0:Below w.heap.size w (w.alloc (.cells #[.int .i64 0,.int .i64 0,.bool false,.bool false,.slice none 0 0] 177)):=ζ.alloc δ _
 by_cases Ac:p<s.size
 ·have AV:¬(s.size:Int)≤(p:Int):=by omega
  have E7:(p:Int)<(s.size:Int):=by omega
  obtain⟨x,hx⟩ :∃x:Nat,s[p].toNat=x:=⟨_,rfl⟩
  have FT:x<256:=by rw[←hx];exact s[p].toNat_lt
  have HG:=γ (Ap s p Ac);have HX:=γ hx
  by_cases Jk:x=36
  ·have HA:Hid (Bu (s.data.toList.drop p)=some (2,s.data.toList.drop (p+1))):=by
    show _=_;rw[HG.out,Bu,if_pos (by rw[hx];exact Jk)]
   have HV:Hid (BM (s.data.toList.drop p)=some (⟨2,0,Ml⟩,s.data.toList.drop (p+1))):=by
    show _=_;unfold BM;rw[if_pos (by rw[HG.out];show(s[p].toNat==36)=true;rw[hx,Jk];rfl),List.drop_drop]
   have PH:((x:Int)==36)=true:=by simp[Jk]
   clear Jk
   go_enter func147,ntmps147
   go_wp2_with(refine θ Az Dg rfl rfl _ _ rfl rfl rfl rfl (by simp[Value.oneCell']) ?_;intro w5 BP O5)
   refine bodyPost_ret (Ω rfl _ _ _ _ rfl Az BP rfl) rfl ?_;exact⟨B0.trans (O5.below δ),_,rfl,by simp[Value.oneCell'],.inr ⟨⟨2,0,Ml⟩,p+1,HA.out,fun _=>HV.out,fun h=>(by cases h),by omega,by omega,(by show 2≤3;decide),⟨none,0,rfl,ID _ _ _⟩,rfl⟩⟩
  have PH:((x:Int)==36)=false:=by simp;omega
  by_cases Fa:x=47
  ·have HA:Hid (Bu (s.data.toList.drop p)=I5 (Ψ (s.data.toList.drop (p+1)))):=by
    show _=_;rw[HG.out,Bu,if_neg (by rw[hx];exact Jk),if_pos (by rw[hx];exact Fa)]
   have HV:Hid (BM (s.data.toList.drop p)=(Ly (Ψ (s.data.toList.drop (p+1)))).map (fun p=>(⟨3,0,p.1⟩,p.2))):=by
    show _=_;unfold BM;rw[if_neg (by rw[HG.out];show¬(s[p].toNat==36)=true;rw[hx];simpa using Jk),if_pos (by rw[HG.out];show(s[p].toNat==47)=true;rw[hx,Fa];rfl),List.drop_drop]
   have ib:((x:Int)==47)=true:=by simp[Fa]
   clear Jk Fa
   go_enter func147,ntmps147
   go_wp2_with fail
   generalize w.alloc (.cells #[.int .i64 0,.int .i64 0,.bool false,.bool false,.slice none 0 0] 177)=W at*;have HC:=Md s (p+1) W (by omega) (by omega);rw[show((p+1:Nat):Int)=(p:Int)+1 from rfl]at HC;refine HC.mono ?_;clear HC;rintro e w1 ⟨b1,⟨CQ,rfl⟩ | ⟨l,q,a,c,BW,VI,Lq,uf,rfl,ν⟩⟩
   ·have Hy:Hid (Bu (s.data.toList.drop p)=none):=by show _=_;rw[HA.out,CQ];rfl
    clear CQ HA;have ξ:=Dg.below b1 Dg.lt;have B1:=B0.trans (b1.mono B0.size);clear Dg B0 b1
    go_wp2_with fail
    refine(Fj 0 0 none [] w1 ⟨rfl,.inl rfl⟩ (by simp) δ).mono ?_;rintro e w2 ⟨hd,tl,a2,n2,c2,b2,EK⟩;have CJ:=ξ.below b2 ξ.lt;have B2:=B1.trans (b2.mono B1.size);have EV:=CJ.lt;have CM:CB (w2.alloc (.cells #[.bool false,.bool false,.slice none 0 0] 169)) w2.heap.size [.bool false,.bool false,.slice none 0 0]:=CB.new w2 _ _ (by simp[Value.oneCell']);have IU:CB (w2.alloc (.cells #[.bool false,.bool false,.slice none 0 0] 169)) w.heap.size [.int .i64 0,.int .i64 0,.bool false,.bool false,.slice none 0 0]:=CJ.below (ζ.alloc δ _) EV;have B3:=B2.alloc (o:= .cells #[.bool false,.bool false,.slice none 0 0] 169) (by omega);generalize jc:w2.alloc (.cells #[.bool false,.bool false,.slice none 0 0] 169)=W3 at*;rcases EK with⟨_,rfl⟩ | ⟨L,hex,_⟩
    ·go_wp2_with(first
      | (refine θ Ps CM rfl rfl _ _ rfl rfl rfl rfl (by simp[Value.oneCell']) ?_;intro w5 BP O5;have GN:=IU.keep (O5.block _ (by omega)) (by rw[O5.size];exact δ))
      | (refine θ Az GN rfl rfl _ _ rfl rfl rfl rfl (by simp[Value.oneCell']) ?_;intro w7 KH O7))
     refine bodyPost_ret (Ω rfl _ _ _ _ rfl Az KH rfl) rfl ?_;exact⟨(B3.trans (O5.below (by omega))).trans (O7.below δ),_,rfl,by simp[Value.oneCell'],.inl ⟨Hy.out,rfl⟩⟩
    ·cases hex
   ·have Hy:Hid (Bu (s.data.toList.drop p)=if(Cv l).isSome then some (3,s.data.toList.drop q)else none):=by show _=_;rw[HA.out,BW];rfl
    have R9:Hid (BM (s.data.toList.drop p)=((Cv l).map (fun x=>(x,s.data.toList.drop q))).map (fun p=>(⟨3,0,p.1⟩,p.2))):=by show _=_;rw[HV.out,BW];rfl
    clear BW HA HV;have ξ:=Dg.below b1 Dg.lt;have B1:=B0.trans (b1.mono B0.size);clear Dg B0 b1;have Z4:=XZ ν;have Tl:=Kl ν;clear ν
    go_wp2_with fail
    refine(Fj _ _ _ l w1 Tl (by omega) Z4).mono ?_;rintro e w2 ⟨hd,tl,a2,n2,c2,b2,EK⟩;have CJ:=ξ.below b2 ξ.lt;have B2:=B1.trans (b2.mono B1.size);have EV:=CJ.lt;have CM:CB (w2.alloc (.cells #[.bool false,.bool false,.slice none 0 0] 169)) w2.heap.size [.bool false,.bool false,.slice none 0 0]:=CB.new w2 _ _ (by simp[Value.oneCell']);have IU:CB (w2.alloc (.cells #[.bool false,.bool false,.slice none 0 0] 169)) w.heap.size [.int .i64 0,.int .i64 0,.bool false,.bool false,.slice none 0 0]:=CJ.below (ζ.alloc δ _) EV;have B3:=B2.alloc (o:= .cells #[.bool false,.bool false,.slice none 0 0] 169) (by omega);generalize jc:w2.alloc (.cells #[.bool false,.bool false,.slice none 0 0] 169)=W3 at*;have NP:¬(q:Int)<0:=by omega
    have hlW:=ξ.lt;rcases EK with⟨hex,rfl⟩ | ⟨L,hex,rfl,rfl,ν,Fx,-⟩
    ·have rT:Hid (Bu (s.data.toList.drop p)=none):=by show _=_;rw[Hy.out,hex];rfl
     clear hex Hy
     go_wp2_with(first
      | (refine θ Ps CM rfl rfl _ _ rfl rfl rfl rfl (by simp[Value.oneCell']) ?_;intro w5 BP O5;have GN:=IU.keep (O5.block _ (by omega)) (by rw[O5.size];exact δ))
      | (refine θ Az GN rfl rfl _ _ rfl rfl rfl rfl (by simp[Value.oneCell']) ?_;intro w7 KH O7))
     refine bodyPost_ret (Ω rfl _ _ _ _ rfl Az KH rfl) rfl ?_;exact⟨(B3.trans (O5.below (by omega))).trans (O7.below δ),_,rfl,by simp[Value.oneCell'],.inl ⟨rT.out,rfl⟩⟩
    ·have rT:Hid (Bu (s.data.toList.drop p)=some (3,s.data.toList.drop q)):=by show _=_;rw[Hy.out,hex];rfl
     have HV3:Hid (BM (s.data.toList.drop p)=some (⟨3,0,⟨hd,tl,L.map IV.it⟩⟩,s.data.toList.drop q)):=by show _=_;rw[R9.out,hex];rfl
     have HND:=γ (dP ν Fx);clear hex Hy R9 ν Fx
     go_wp2_with(first
      | (refine θ Ps CM rfl rfl _ _ rfl rfl rfl rfl (by simp[Value.oneCell']) ?_;intro w5 BP O5;have GN:=IU.keep (O5.block _ (by omega)) (by rw[O5.size];exact δ))
      |refine ω Ps BP rfl rfl _ rfl rfl ?_
      | (refine θ Az GN rfl rfl _ _ rfl rfl rfl rfl (by simp[Value.oneCell']) ?_;intro w7 KH O7))
     refine bodyPost_ret (Ω rfl _ _ _ _ rfl Az KH rfl) rfl ?_;exact⟨(B3.trans (O5.below (by omega))).trans (O7.below δ),_,rfl,by simp[Value.oneCell'],.inr ⟨⟨3,0,⟨hd,tl,L.map IV.it⟩⟩,q,rT.out,fun _=>HV3.out,fun h=>(by cases h),by omega,Lq,(by show 3≤3;decide),⟨a2,c2,(by simp),by rw[←jc]at O5;exact((HND.out.boxed O5).only O7 hlW).mono (Nat.le_of_lt hlW)⟩,rfl⟩⟩
  have ib:((x:Int)==47)=false:=by simp;omega
  by_cases Lr:CG x=true
  ·have hr:49≤x∧x≤57:=by simpa[CG]using Lr
   have HA:Hid (Bu (s.data.toList.drop p)=if 4<At 5 (s.data.toList.drop p)then none else some (1,(s.data.toList.drop p).drop (At 5 (s.data.toList.drop p)))):=by
    show _=_;rw[HG.out,Bu,if_neg (by rw[hx];exact Jk),if_neg (by rw[hx];exact Fa),hx,Lr];rfl
   have HV:Hid (At 5 (s.data.toList.drop p)≤4→BM (s.data.toList.drop p)=some (⟨1,Jo 0 ((s.data.toList.drop p).take (At 5 (s.data.toList.drop p))),Ml⟩,(s.data.toList.drop p).drop (At 5 (s.data.toList.drop p)))):=fun h=>mJ HG.out (by rw[hx];exact Jk) (by rw[hx];exact Fa) (by rw[hx];exact Lr) h
   have pT:(49:Int)≤(x:Int):=by omega
   have uT:(x:Int)≤57:=by omega
   clear Jk Fa Lr
   go_enter func147,ntmps147
   go_wp2_with fail
   go_loop [1,10,11] (fun v1 v10 v11=>∃k n:Nat,k≤5∧p+k≤s.size∧v1= .int .i64 ((p+k:Nat):Int)∧v10= .int .i64 n∧n+1≤10 ^ k∧v11= .int .i64 k∧Hid (At 5 (s.data.toList.drop p)=k+At (5 - k) (s.data.toList.drop (p+k)))∧Hid (n=Jo 0 ((s.data.toList.drop p).take k))) (fun v1 _ _=>s.size - (intOf v1).toNat)
   case atStart=>exact⟨0,0,by omega,by omega,rfl,rfl,by simp,rfl,by show _=_;simp,rfl⟩
   case round=>
    obtain⟨k,n,mK,hpk,rfl,rfl,hn,rfl,HD,yM⟩ :=hrel;have hn5:n+1≤100000:=Nat.le_trans hn (Nat.pow_le_pow_right (by decide) mK);obtain⟨q,hq⟩ :∃q,p+k=q:=⟨_,rfl⟩
    rw[hq]at hpk HD⊢;have HQ:=γ hq;clear hq
    by_cases hql:q<s.size
    ·have ADD:(q:Int)<(s.size:Int):=by omega
     obtain⟨y,hy⟩ :∃y:Nat,s[q].toNat=y:=⟨_,rfl⟩
     have hyc:y<256:=by rw[←hy];exact s[q].toNat_lt
     have HG2:=γ (Ap s q hql);have HY:=γ hy
     by_cases hd:DJ y=true
     ·have LV:48≤y∧y≤57:=by simpa[DJ]using hd
      have OX:(48:Int)≤(y:Int):=by omega
      have hd2:(y:Int)≤57:=by omega
      by_cases L8:k<5
      ·have fu:(k:Int)<5:=by omega
       have I3:Hid (At 5 (s.data.toList.drop p)=(k+1)+At (5 - (k+1)) (s.data.toList.drop (q+1))):=by
        show _=_;obtain⟨m,hm⟩ :∃m,5 - k=m+1:=⟨4 - k,by omega⟩
        rw[HD.out,HG2.out,hm,At,HY.out,hd,if_pos rfl,show 5 - (k+1)=m by omega];omega
       have ADE:Hid (10*n+(y - 48)=Jo 0 ((s.data.toList.drop p).take (k+1))):=by
        show _=_;rw[Rk (s.data.toList.drop p) (s.data.toList.drop (q+1)) k s[q] (by rw[List.drop_drop,HQ.out];exact HG2.out),UQ,←yM.out,HY.out]
       have Qo:Hid (10*n+(y - 48)+1≤10 ^ (k+1)):=by show _≤_;rw[Nat.pow_succ];omega
       have LW:((y - 48:Nat):Int)=(y:Int) - 48:=by omega
       clear hd HD hn LV;go_wp2
       go_round
       case rel=>
        refine⟨k+1,10*n+(y - 48),by omega,by have:=HQ.out;omega,by rw[←Nat.add_assoc,HQ.out];go_num,?_,Qo.out,by go_num,by rw[←Nat.add_assoc,HQ.out];exact I3.out,ADE.out⟩
        first|go_num| (congr 1;simp;omega) | (simp;omega)
       case measure=>simp[intOf]<;>omega
      ·obtain rfl:k=5:=by omega
       have Hy:Hid (Bu (s.data.toList.drop p)=none):=by
        show _=_;rw[HA.out,if_pos (by rw[HD.out];omega)]
       clear HD HA hd
       go_wp2_with(refine θ Az Dg rfl rfl _ _ rfl rfl rfl rfl (by simp[Value.oneCell']) ?_;intro w5 BP O5)
       refine bodyPost_ret (Ω rfl _ _ _ _ rfl Az BP rfl) rfl ?_;exact⟨B0.trans (O5.below δ),_,rfl,by simp[Value.oneCell'],.inl ⟨Hy.out,rfl⟩⟩
     ·have I3:Hid (At 5 (s.data.toList.drop p)=k):=by
       show _=_;rw[HD.out,HG2.out];cases h9:5 - k with
       |zero=>rfl
       |succ m=>rw[At,HY.out,if_neg hd];rfl
      clear HD;have HF:Hid (¬(48≤y∧y≤57)):=fun h=>hd (by simpa[DJ]using h)
      clear hd
      by_cases h48:48≤y
      ·have xB:(48:Int)≤(y:Int):=by omega
       have AAW:¬(y:Int)≤57:=fun h=>HF.out (by omega)
       by_cases L8:4<k
       ·have fu:(4:Int)<(k:Int):=by omega
        have Hy:Hid (Bu (s.data.toList.drop p)=none):=by
         show _=_;rw[HA.out,I3.out,if_pos L8]
        clear I3 HA
        go_wp2_with(refine θ Az Dg rfl rfl _ _ rfl rfl rfl rfl (by simp[Value.oneCell']) ?_;intro w5 BP O5)
        refine bodyPost_ret (Ω rfl _ _ _ _ rfl Az BP rfl) rfl ?_;exact⟨B0.trans (O5.below δ),_,rfl,by simp[Value.oneCell'],.inl ⟨Hy.out,rfl⟩⟩
       ·have fu:¬(4:Int)<(k:Int):=by omega
        have Hy:Hid (Bu (s.data.toList.drop p)=some (1,s.data.toList.drop q)):=by
         show _=_;rw[HA.out,I3.out,if_neg L8,List.drop_drop,HQ.out]
        have R9:Hid (BM (s.data.toList.drop p)=some (⟨1,n,Ml⟩,s.data.toList.drop q)):=by
         show _=_;rw[HV.out (by rw[I3.out];omega),I3.out,←yM.out,List.drop_drop,HQ.out]
        clear I3 HA HV yM
        go_wp2_with(refine θ Az Dg rfl rfl _ _ rfl rfl rfl rfl (by simp[Value.oneCell']) ?_;intro w5 BP O5)
        refine bodyPost_ret (Ω rfl _ _ _ _ rfl Az BP rfl) rfl ?_;exact⟨B0.trans (O5.below δ),_,rfl,by simp[Value.oneCell'],.inr ⟨⟨1,n,Ml⟩,q,Hy.out,fun _=>R9.out,fun h=>(by cases h),(by have:=HQ.out;omega),by omega,(by show 1≤3;decide),⟨none,0,rfl,ID _ _ _⟩,rfl⟩⟩
      ·have xB:¬(48:Int)≤(y:Int):=by omega
       by_cases L8:4<k
       ·have fu:(4:Int)<(k:Int):=by omega
        have Hy:Hid (Bu (s.data.toList.drop p)=none):=by
         show _=_;rw[HA.out,I3.out,if_pos L8]
        clear I3 HA
        go_wp2_with(refine θ Az Dg rfl rfl _ _ rfl rfl rfl rfl (by simp[Value.oneCell']) ?_;intro w5 BP O5)
        refine bodyPost_ret (Ω rfl _ _ _ _ rfl Az BP rfl) rfl ?_;exact⟨B0.trans (O5.below δ),_,rfl,by simp[Value.oneCell'],.inl ⟨Hy.out,rfl⟩⟩
       ·have fu:¬(4:Int)<(k:Int):=by omega
        have Hy:Hid (Bu (s.data.toList.drop p)=some (1,s.data.toList.drop q)):=by
         show _=_;rw[HA.out,I3.out,if_neg L8,List.drop_drop,HQ.out]
        have R9:Hid (BM (s.data.toList.drop p)=some (⟨1,n,Ml⟩,s.data.toList.drop q)):=by
         show _=_;rw[HV.out (by rw[I3.out];omega),I3.out,←yM.out,List.drop_drop,HQ.out]
        clear I3 HA HV yM
        go_wp2_with(refine θ Az Dg rfl rfl _ _ rfl rfl rfl rfl (by simp[Value.oneCell']) ?_;intro w5 BP O5)
        refine bodyPost_ret (Ω rfl _ _ _ _ rfl Az BP rfl) rfl ?_;exact⟨B0.trans (O5.below δ),_,rfl,by simp[Value.oneCell'],.inr ⟨⟨1,n,Ml⟩,q,Hy.out,fun _=>R9.out,fun h=>(by cases h),(by have:=HQ.out;omega),by omega,(by show 1≤3;decide),⟨none,0,rfl,ID _ _ _⟩,rfl⟩⟩
    ·have I3:Hid (At 5 (s.data.toList.drop p)=k):=by
      show _=_;rw[HD.out,List.drop_of_length_le (by rw[Δ];omega)];cases h9:5 - k with
      |zero=>rfl
      |succ m=>rfl
     have ADD:¬(q:Int)<(s.size:Int):=by omega
     clear HD
     by_cases L8:4<k
     ·have fu:(4:Int)<(k:Int):=by omega
      have Hy:Hid (Bu (s.data.toList.drop p)=none):=by
       show _=_;rw[HA.out,I3.out,if_pos L8]
      clear I3 HA
      go_wp2_with(refine θ Az Dg rfl rfl _ _ rfl rfl rfl rfl (by simp[Value.oneCell']) ?_;intro w5 BP O5)
      refine bodyPost_ret (Ω rfl _ _ _ _ rfl Az BP rfl) rfl ?_;exact⟨B0.trans (O5.below δ),_,rfl,by simp[Value.oneCell'],.inl ⟨Hy.out,rfl⟩⟩
     ·have fu:¬(4:Int)<(k:Int):=by omega
      have Hy:Hid (Bu (s.data.toList.drop p)=some (1,s.data.toList.drop q)):=by
       show _=_;rw[HA.out,I3.out,if_neg L8,List.drop_drop,HQ.out]
      have R9:Hid (BM (s.data.toList.drop p)=some (⟨1,n,Ml⟩,s.data.toList.drop q)):=by
       show _=_;rw[HV.out (by rw[I3.out];omega),I3.out,←yM.out,List.drop_drop,HQ.out]
      clear I3 HA HV yM
      go_wp2_with(refine θ Az Dg rfl rfl _ _ rfl rfl rfl rfl (by simp[Value.oneCell']) ?_;intro w5 BP O5)
      refine bodyPost_ret (Ω rfl _ _ _ _ rfl Az BP rfl) rfl ?_;exact⟨B0.trans (O5.below δ),_,rfl,by simp[Value.oneCell'],.inr ⟨⟨1,n,Ml⟩,q,Hy.out,fun _=>R9.out,fun h=>(by cases h),(by have:=HQ.out;omega),by omega,(by show 1≤3;decide),⟨none,0,rfl,ID _ _ _⟩,rfl⟩⟩
  ·have HA:Hid (Bu (s.data.toList.drop p)=some (0,s.data.toList.drop p)):=by
    show _=_;rw[HG.out,Bu,if_neg (by rw[hx];exact Jk),if_neg (by rw[hx];exact Fa),hx,if_neg Lr]
   have HF:Hid (¬(49≤x∧x≤57)):=fun h=>Lr (by simpa[CG]using h)
   clear Lr Jk Fa
   by_cases h49:49≤x
   ·have ADF:(49:Int)≤(x:Int):=by omega
    have h57:¬(x:Int)≤57:=fun h=>HF.out (by omega)
    go_enter func147,ntmps147
    go_wp2_with(refine θ Az Dg rfl rfl _ _ rfl rfl rfl rfl (by simp[Value.oneCell']) ?_;intro w5 BP O5)
    refine bodyPost_ret (Ω rfl _ _ _ _ rfl Az BP rfl) rfl ?_;exact⟨B0.trans (O5.below δ),_,rfl,by simp[Value.oneCell'],.inr ⟨FG,p,HA.out,fun h=>absurd rfl h,fun _=>rfl,δ,hp,(by show 0≤3;decide),⟨none,0,rfl,ID _ _ _⟩,rfl⟩⟩
   ·have ADF:¬(49:Int)≤(x:Int):=by omega
    go_enter func147,ntmps147
    go_wp2_with(refine θ Az Dg rfl rfl _ _ rfl rfl rfl rfl (by simp[Value.oneCell']) ?_;intro w5 BP O5)
    refine bodyPost_ret (Ω rfl _ _ _ _ rfl Az BP rfl) rfl ?_;exact⟨B0.trans (O5.below δ),_,rfl,by simp[Value.oneCell'],.inr ⟨FG,p,HA.out,fun h=>absurd rfl h,fun _=>rfl,δ,hp,(by show 0≤3;decide),⟨none,0,rfl,ID _ _ _⟩,rfl⟩⟩
 ·have AV:(s.size:Int)≤(p:Int):=by omega
  have HA:Hid (Bu (s.data.toList.drop p)=some (0,s.data.toList.drop p)):=by show _=_;rw[List.drop_of_length_le (by rw[Δ];omega)];rfl
  go_enter func147,ntmps147
  go_wp2_with(refine θ Az Dg rfl rfl _ _ rfl rfl rfl rfl (by simp[Value.oneCell']) ?_;intro w5 BP O5)
  refine bodyPost_ret (Ω rfl _ _ _ _ rfl Az BP rfl) rfl ?_;exact⟨B0.trans (O5.below δ),_,rfl,by simp[Value.oneCell'],.inr ⟨FG,p,HA.out,fun h=>absurd rfl h,fun _=>rfl,δ,hp,(by show 0≤3;decide),⟨none,0,rfl,ID _ _ _⟩,rfl⟩⟩
end Go.Proofs.YtlppphmnegdhoabGreatDoor
