import Derived.Test.YtlppphmnegdhoabGreatDoorMz38
set_option linter.unusedVariables false
set_option maxRecDepth 100000
set_option maxHeartbeats 4000000
namespace Go.Proofs.YtlppphmnegdhoabGreatDoor
open Go.Proofs.Tryz
open Go.RowKit
open M
theorem M.DB.dwf{n:Nat}{D:DS}(h:DB n D):Uk D:=⟨h.ou,h.pa,h.ho,h.qt,by have:=h.qu;have:=h.us;have:=h.sp;omega,h.st,h.er⟩
theorem PZ(a b:List Cl)(c:Cl):(AJ a c b).length=a.length+b.length+1:=by unfold AJ;simp;omega
theorem Ll{P:Value→World→Prop}{b:Nat}{V:DV}{D:DS}{w w':World}{v:Value}{l:List Cl}(h:AD P b V D w)(ho:w'.ownsRow w.heap.size 120 2 v l.length (Cn l)):Av (χ b V) w' (fun w=>ψ w v l):=PT ho (fun k hk=>C9 h k hk)
theorem Yl(n:Nat)(P:Value→World→Prop)(b:Nat)(V:DV)(D:DS)(vs:List Value)(c:Cm)(w:World)(h:AD P b V D w)(EU:DB n D)(hd:PQ w vs c)(hn:c.name=110∨c.name=78):
  Calls prog 195 #[.pointer (some ⟨b,0,none⟩),.agg vs.toArray] w fun e w'=>Hl P b V (D.De c.name) w e w':=by
 have Bc:Hid (∀v∈vs,v.oneCell'=true):=hd.one;have Bn:=γ hd.nm;have HH:=γ h;have F7:=γ EU;have Bq:=h.box.lt;obtain⟨nm,CF⟩ :∃k,c.name=k:=⟨_,rfl⟩
 rw[CF]at Bn hn⊢
 have G0:Hid (D.De nm=if D.ask.2.state=1 then D.ask.2 else if D.ask.1=false then D.ask.2.early else
  if(D.ask.2.ο (nm==110)).state≠0 then D.ask.2.ο (nm==110)else(D.ask.2.ο (nm==110)).take.pattern (if nm=78 then AJ (D.ask.2.ο (nm==110)).pat (C4 (D.ask.2.ο (nm==110)).nl) (D.ask.2.ο (nm==110)).Θ else(D.ask.2.ο (nm==110)).Θ)):=rfl
 have ZG:Hid (D.ask.1=true→D.ask.2=D∧D.at'<D.text.size):=fun e=>⟨(EM D e).1,(EM D e).2.1⟩
 have ZU:=γ EU.ask;clear h hd CF EU
 go_enter func195,ntmps195
 go_wp2_with(refine AU rfl _ rfl vs rfl Bc.out ?_
             intro w1 ξ B1 CE)
 have Nd:∀V',V'.AM=V.AM→V'.D8=V.D8→¬χ b V' w.heap.size:=fun V' e1 e2 hf=>by
  have:χ b V w.heap.size:=by unfold χ at hf⊢;rw[←e1,←e2];exact hf
  have:=C9 HH.out _ this;omega
 have RO:Hid (¬χ b V w.heap.size):=Nd V rfl rfl;refine(SS P b V D w1 (HH.out.below B1) F7.out.tx F7.out.at').mono ?_;rintro e w2 ⟨rfl,v2,Ds,JW⟩;have CJ:=ξ.keep (JW.block _ ξ.lt RO.out) JW.size;have QO:=Ds.cell 17 _ rfl;have pP:=Ds.box.lt;have EA:=γ Ds;have GO:=γ ((Rf.η B1).trans JW);have BZ:=ZU.out.st;clear Ds JW ξ Nd;obtain⟨A,hA⟩ :∃A,D.ask.2=A:=⟨_,rfl⟩
 obtain⟨th,hth⟩ :∃A,D.ask.1=A:=⟨_,rfl⟩
 rw[hA]at G0 EA ZU BZ QO ZG;rw[hth]at G0 ZG⊢;obtain⟨st,D5⟩ :∃k,A.state=k:=⟨_,rfl⟩
 have CR:=γ D5;have ze:w2.cell? ⟨b,17,none⟩ =some (.int .i64 (st:Nat)):=by rw[QO];show some (Value.int .i64 (A.state:Nat))=_;rw[D5]
 rw[D5]at G0 BZ;clear QO hA hth D5
 by_cases h1:st=1
 ·have Pr:((st:Int)==1)=true:=by simp[h1]
  rw[if_pos h1]at G0;have HP:Hid (σ P b V (D.De nm) w w2):=by
   show σ _ _ _ _ _ _;rw[G0.out];exact⟨V.Af v2,rfl,EA.out,GO.out⟩
  clear h1 G0;go_wp2
  go_end0
  exact⟨rfl,HP.out⟩
 have Pr:((st:Int)==1)=false:=by simp;omega
 rw[if_neg h1]at G0;clear h1;cases th with
 |false=>
  rw[if_pos rfl]at G0
  go_wp2_with fail
  refine(OA P b (V.Af v2) A w2 EA.out ZU.out.dwf).mono ?_;rintro e w3 ⟨rfl,hp⟩;have HP:Hid (σ P b V (D.De nm) w w3):=by
   show σ _ _ _ _ _ _;rw[G0.out];exact σ.trans (V1:=V.Af v2) rfl GO.out hp
  clear hp;go_wp2
  go_end0
  exact⟨rfl,HP.out⟩
 |true=>
  rw[if_neg (by decide)]at G0;obtain⟨hAD,Cw⟩ :=ZG.out rfl;have hDA:=hAD.symm;clear hAD ZG;subst hDA;have d11:=CJ.c 11 _ Bn.out;have fe:=CJ.lt;obtain⟨bb,hbb⟩ :∃x:Bool,(nm==110)=x:=⟨_,rfl⟩
  have hbi:((nm:Int)==110)=bb:=by
   rw[←hbb,Bool.eq_iff_iff];simp;omega
  rw[hbb]at G0;have HC:=Ih P b (V.Af v2) D bb w2 EA.out ZU.out.dwf;have Qe:=γ (ZU.out.ο bb);have QK:Hid ((D.ο bb).at'<(D.ο bb).text.size):=by
   have:=Ga D bb;show _<_;rw[this.1,this.2];exact Cw
  go_wp2_with fail
  refine HC.mono ?_;clear HC;rintro e w3 ⟨rfl,V3,H4,KP,TD⟩;have lU:¬χ b (V.Af v2) w.heap.size:=RO.out;have CM:=CJ.keep (TD.block _ CJ.lt lU) TD.size;have ub:∀k,χ b V3 k→χ b (V.Af v2) k∨w2.heap.size≤k:=TD.new;have AD2:Hid (¬χ b V3 w.heap.size):=fun hf=>by
   rcases ub _ hf with h9|h9
   ·exact lU h9
   ·have:=CJ.lt;omega
  have Ge:=γ KP;have OT:=γ (GO.out.trans TD);have dI:=γ H4;have pn:=KP.cell 17 _ rfl;have e11:=KP.cell 11 _ rfl;have np:=KP.box.lt;obtain⟨B,hBe⟩ :∃B,D.ο bb=B:=⟨_,rfl⟩
  rw[hBe]at G0 Ge Qe QK pn e11;obtain⟨st3,LM⟩ :∃k,B.state=k:=⟨_,rfl⟩
  have ABm:=Qe.out.st;have AD3:w3.cell? ⟨b,17,none⟩ =some (.int .i64 (st3:Nat)):=by rw[pn];show some (Value.int .i64 (B.state:Nat))=_;rw[LM]
  have AD4:w3.cell? ⟨b,11,none⟩ =some (.int .i64 B.nl):=e11;rw[LM]at G0 ABm;clear KP TD H4 CJ ze d11 fe ub lU hBe pn e11 LM pP BZ
  by_cases h0:st3=0
  ·have KA:((st3:Int) !=0)=false:=by simp[h0]
   rw[if_neg (by simp[h0])]at G0;clear h0
   go_wp2_with fail
   refine(QA P b V3 B w3 Ge.out Qe.out.tx Qe.out.at' (by have:=Qe.out.li;have:=Qe.out.at';have:=Qe.out.tx;omega)).mono ?_;rintro e w4 ⟨v4,rfl,Kh,Mr,TK⟩;have IU:=CM.keep (TK.block _ CM.lt AD2.out) TK.size;have d11:=IU.c 11 _ Bn.out;have lb4:=IU.lt;have KY:=γ Mr;have WB:=γ Kh;have Nv:=γ (OT.out.trans TK);have KT:=γ (Qe.out.take QK.out);have hTP:B.take.pat=B.pat:=by unfold DS.take;split<;>rfl
   have hLL:B.Θ.length≤4096:=by
    unfold DS.Θ;rw[List.length_map,List.length_zipIdx,List.length_take,List.length_drop];have:=Qe.out.tx;have h9:B.text.data.toList.length=B.text.size:=Δ _;omega
   have PD:=γ hLL;have bl4:=Mr.box.lt;have g7:=Mr.cell 7 _ rfl;obtain⟨a4,c4,UJ,_⟩ :=Kh.out.form;obtain⟨ap,cp,EO,_⟩ :=Mr.pat.out.form;rw[hTP]at EO;have Jr:Hid (ψ w4 (.slice ap B.pat.length cp) B.pat):=by
    have h9:=Mr.pat.out;rw[hTP,EO]at h9;exact h9
   have g7':w4.cell? ⟨b,7,none⟩ =some (.slice ap B.pat.length cp):=by rw[g7];show some V3.pat=_;rw[EO]
   subst UJ;have HPB:=γ Qe.out.pa;clear Mr TK Kh CM AD3 AD4 hTP hLL g7 EO IU;rcases hn with rfl|rfl
   ·have HE:Hid (D.De 110=B.take.pattern B.Θ):=by show _=_;rw[G0.out,if_neg (by decide)]
    clear G0;have HC:=Cu P b V3 B.take _ B.Θ w4 KY.out WB.out KT.out.ro (by have:=PD.out;omega)
    go_wp2_with fail
    refine HC.mono ?_;clear HC;rintro e w5 ⟨rfl,hp⟩;have HP:Hid (σ P b V (D.De 110) w w5):=by
     show σ _ _ _ _ _ _;rw[HE.out];exact σ.trans dI.out Nv.out hp
    clear hp;go_wp2
    go_end0
    exact⟨rfl,HP.out⟩
   ·have HE:Hid (D.De 78=B.take.pattern (AJ B.pat (C4 B.nl) B.Θ)):=by show _=_;rw[G0.out,if_pos rfl]
    clear G0;have HC:=GK _ _ B.pat B.Θ B.nl w4 Jr.out WB.out.out (by have:=PD.out;have:=HPB.out;omega)
    go_wp2_with fail
    refine HC.mono ?_;clear HC;rintro e w5 ⟨v5,rfl,BT,B5⟩;have Se:=Ll KY.out BT;have MM:=KY.out.below B5;have HF5:Hid (Rf (χ b V) (χ b V3) w w5):=Nv.out.trans (.η B5);obtain⟨a5,c5,Nu⟩ :=κ BT;subst Nu;have HC:=Cu P b V3 B.take _ (AJ B.pat (C4 B.nl) B.Θ) w5 MM Se KT.out.ro (by have:=PD.out;have:=HPB.out;rw[PZ];omega);clear BT
    go_wp2_with fail
    refine HC.mono ?_;clear HC;rintro e w6 ⟨rfl,hp⟩;have HP:Hid (σ P b V (D.De 78) w w6):=by
     show σ _ _ _ _ _ _;rw[HE.out];exact σ.trans dI.out HF5.out hp
    clear hp MM Se;go_wp2
    go_end0
    exact⟨rfl,HP.out⟩
  ·have KA:((st3:Int) !=0)=true:=by simp;omega
   rw[if_pos h0]at G0;have HP:Hid (σ P b V (D.De nm) w w3):=by
    show σ _ _ _ _ _ _;rw[G0.out];exact⟨V3,dI.out,Ge.out,OT.out⟩
   clear h0 G0;go_wp2
   go_end0
   exact⟨rfl,HP.out⟩
def Sub(v:Value)(l:List Cl)(v':Value)(l':List Cl):Prop:=∀w,ψ w v l→ψ w v' l'
theorem En(a:Option Addr)(n c:Nat)(l:List Cl)(i j:Nat)(aG:i≤j)(hj:j≤l.length):Sub (.slice a n c) l (sliced a i j c 2) (τ l i j):=by
 intro w h;have h0:=h;obtain⟨a',c',e,h1,h2,h3⟩ :=h;simp only[Value.slice.injEq]at e;obtain⟨rfl,rfl,rfl⟩ :=e;have pL:(τ l i j).length=j - i:=by unfold τ;rw[List.length_take,List.length_drop];omega
 unfold sliced
 by_cases hc:c=i
 ·rw[if_pos hc]
  have hz:τ l i j= []:=List.eq_nil_of_length_eq_zero (by omega);refine⟨a,c - i,by rw[pL],by rw[pL];omega,by omega,.inl ⟨hz,fun _=>by omega⟩⟩
 ·rw[if_neg hc]
  rcases h3 with⟨h3,h4⟩ | ⟨g,o,rfl,hg,hr⟩
  ·subst h3
   have hi:i=0:=by simp at hj;omega
   have hj0:j=0:=by simpa using hj
   subst hi;subst hj0;refine⟨a.map (·.add (0*2)),c - 0,rfl,ε,by omega,.inl ⟨rfl,fun e=> ?_⟩⟩;cases a with
   |none=>rw[h4 rfl]
   |some ad=>cases e
  ·show ψ w (.slice (some ((⟨g,o,none⟩ :Addr).add (i*2))) (j - i) (c - i)) _
   rw[Addr.add_mid];exact h0.sub aG hj
theorem Us:prog.underlying 112=some (.slice (prog.elem 112)):=by kernel_rfl
theorem oD(w:World):(sizeOf (prog.elem 112)).run prog w= .ok 2 w:=by
 have h:(prog.info? (prog.elem 112)).map (·.size)=some 2:=by kernel_rfl
 cases hi:prog.info? (prog.elem 112)with
 |none=>rw[hi]at h;cases h
 |some i0=>
  rw[hi]at h;have h':i0.size=2:=by simpa using h
  simp[sizeOf,typeInfo,hi,h']
section
variable {ops : Array Oper} {rest : List Oper} {op : Oper} {a : Act} {w : World} {Q : Exit → Act → World → Prop}
theorem bW{v w0:Value}(Fv:op.guard=none)(x:Operand)(lo hi:Option Operand)(ho:op.op= .slice 112 x lo hi none)(hr:(Instr.sliceAt 112 (a.eval x) (lo.map a.eval) (hi.map a.eval) none).run prog w= .ok v w)(h:wpList prog ops Q rest (a.put op.dst v) w):wpList prog ops Q (op::rest) a w:=by
 refine wpList_plain Fv fun _ hK=> ?_
 unfold Oper.wp execOp;simp only[ho,Option.map_none,Sem.run_bind,hr,Result.andThen_ok];exact hK _ _ h
theorem vV{v:Value}{l:List Cl}{i j:Nat}(hs:ψ w v l)(aG:i≤j)(hj:j≤l.length)(Fv:op.guard=none)(x lo hi:Operand)(ho:op.op= .slice 112 x (some lo) (some hi) none)(hx:a.eval x=v)(Pl:a.eval lo= .int .i64 (i:Nat))(ZE:a.eval hi= .int .i64 (j:Nat))
  (h:∀v',Sub v l v' (τ l i j)→ψ w v' (τ l i j)→wpList prog ops Q rest (a.put op.dst v') w):wpList prog ops Q (op::rest) a w:=by
 obtain⟨a0,c,e,h1⟩ :=hs.form;subst e;refine bW (v:=sliced a0 i j c 2) (w0:=undef) Fv x (some lo) (some hi) ho ?_ (h _ (En a0 _ c l i j aG hj) (En a0 _ c l i j aG hj w hs));show(Instr.sliceAt _ (a.eval x) (some (a.eval lo)) (some (a.eval hi)) none).run _ w=_;rw[hx,Pl,ZE,run_sliceAt_slice _ _ _ _ _ _ Us,run_slice_lh _ _ _ _ _ Us _ _ _ _ (by omega) (by omega) (by omega),oD]
 rfl
theorem AD6{v:Value}{l:List Cl}{j:Nat}(hs:ψ w v l)(hj:j≤l.length)(Fv:op.guard=none)(x hi:Operand)(ho:op.op= .slice 112 x none (some hi) none)(hx:a.eval x=v)(ZE:a.eval hi= .int .i64 (j:Nat))
  (h:∀v',Sub v l v' (τ l 0 j)→ψ w v' (τ l 0 j)→wpList prog ops Q rest (a.put op.dst v') w):wpList prog ops Q (op::rest) a w:=by
 obtain⟨a0,c,e,h1⟩ :=hs.form;subst e;refine bW (v:=sliced a0 0 j c 2) (w0:=undef) Fv x none (some hi) ho ?_ (h _ (En a0 _ c l 0 j ε hj) (En a0 _ c l 0 j ε hj w hs));show(Instr.sliceAt _ (a.eval x) none (some (a.eval hi)) none).run _ w=_;rw[hx,ZE,run_sliceAt_slice _ _ _ _ _ _ Us,run_slice_h _ _ _ _ _ Us _ _ (by omega) (by omega),oD]
 rfl
theorem zf{v:Value}{l:List Cl}{i:Nat}(hs:ψ w v l)(hi:i≤l.length)(Fv:op.guard=none)(x lo:Operand)(ho:op.op= .slice 112 x (some lo) none none)(hx:a.eval x=v)(Pl:a.eval lo= .int .i64 (i:Nat))
  (h:∀v',Sub v l v' (l.drop i)→ψ w v' (l.drop i)→wpList prog ops Q rest (a.put op.dst v') w):wpList prog ops Q (op::rest) a w:=by
 obtain⟨a0,c,e,h1⟩ :=hs.form;subst e;have hb:=En a0 l.length c l i l.length hi δ;rw[Up]at hb;refine bW (v:=sliced a0 i l.length c 2) (w0:=undef) Fv x (some lo) none ho ?_ (h _ hb (hb w hs));show(Instr.sliceAt _ (a.eval x) (some (a.eval lo)) none none).run _ w=_;rw[hx,Pl,run_sliceAt_slice _ _ _ _ _ _ Us,run_slice_l _ _ _ _ _ Us _ _ (by omega) (by omega),oD]
 rfl
end
theorem AQ.drewN{b:Nat}{w w':World}(h:AQ b w w')(n:Nat):AQ b w (w'.drewN n):=⟨h.os,h.tape,h.output,h.size,h.block⟩
theorem Sg(c:Cl):Cn [c]= [.int .u8 (c.1.toNat:Int),.int .i64 c.2]:=rfl
theorem Yo(l:List UInt8):(NG l).data.toList=l:=by unfold NG;simp
theorem WN(v:Value)(l:List Cl)(vs:List Value)(c:Cm)(w:World)(h:ψ w v l)(hl:l.length≤256)(hd:PQ w vs c)(hn:c.name=121):
  Calls prog 197 #[v,.agg vs.toArray] w fun e w'=>LJ (l.map (BQ c.UO.data.toList c.Kv.data.toList)) w e w':=by
 obtain⟨m,m2,am,qm,am2,qm2,qd,h22,ABo,vE,⟨XX,ABp⟩,R4,hM1,hM2⟩ :=hd.ex hn;have Bc:Hid (∀v∈vs,v.oneCell'=true):=hd.one;have H21:=γ qd;have H22:=γ h22;have HY:=γ ABp;have Jv:=γ R4;have Of:=γ hM1;have Kb:=γ hM2;have TA:Hid (l.map (BQ c.UO.data.toList c.Kv.data.toList)=l.map (BQ ((ET m).take m.length) (ET m2))):=by
  show _=_;rw[ABo,vE,Yo,Yo,List.take_of_length_le (by simp[ET])]
 obtain⟨al,cl,rfl,S8⟩ :=h.form;obtain⟨n,hn'⟩ :∃n,l.length=n:=⟨_,rfl⟩
 have HN:=γ hn';obtain⟨nm,CF⟩ :∃n,m.length=n:=⟨_,rfl⟩
 have Bn:=γ CF;rw[hn']at h hl⊢;have HS:=γ h;rw[TA.out];rw[CF]at XX;rw[R4,CF]at H22;rw[CF]at H21;clear h hd hn hn' CF qd h22 ABo vE ABp R4 hM1 hM2 S8 TA
 go_enter func197,ntmps197
 go_wp2_with(refine AU rfl _ rfl vs rfl Bc.out ?_
             intro w1 ξ B1 CE;have d21:=ξ.c 21 _ H21.out;have d22:=ξ.c 22 _ H22.out;have LA:=ξ.lt)
 go_loopw [5,6] (fun v5 v6 wr=>∃i:Nat,v6= .int .i64 i∧i≤n∧wr.ownsRow w1.heap.size 120 2 v5 i (Cn ((l.take i).map (BQ ((ET m).take m.length) (ET m2))))∧Below w1.heap.size w1 wr) (fun _ v6 _=>n - (intOf v6).toNat)
 case atStart=>exact⟨0,rfl,ε,World.ownsRow_nil _ _ _ _,ζ⟩
 case round=>
  obtain⟨i,rfl,S5,ν,hB⟩ :=hrel;obtain⟨av,cv,CX⟩ :=κ ν;subst CX;have K1:=hB.size;have nR:=BC B1 hB
  by_cases Ac:i<n
  ·have AV:(i:Int)<(n:Int):=by omega
   have h0:(0:Int)≤(i:Int):=by omega
   have BN:i<l.length:=by rw[HN.out];exact Ac
   obtain⟨-,gl,ol,rfl,Rp,RE⟩ :=(HS.out.below nR).at' i BN;have CR:Hid ((l.take (i+1)).map (BQ ((ET m).take m.length) (ET m2))=(l.take i).map (BQ ((ET m).take m.length) (ET m2))++ [BQ ((ET m).take m.length) (ET m2) l[i]]):=by
    show _=_;rw[List.take_add_one,List.getElem?_eq_getElem BN,List.map_append];rfl
   obtain⟨lc,S8⟩ :∃c,l[i]=c:=⟨_,rfl⟩
   rw[S8]at RE CR;have tQ:wr.rangeAt gl (ol+i*2) [.int .u8 (lc.1.toNat:Int),.int .i64 lc.2]:=RE;obtain⟨x,hx⟩ :∃x:Nat,lc.1.toNat=x:=⟨_,rfl⟩
   have FT:x<256:=by rw[←hx];exact lc.1.toNat_lt
   have HX:=γ hx;rw[hx]at tQ;have Cq:CB (wr.alloc (.cells #[.int .u8 0,.int .i64 0] 120)) wr.heap.size [.int .u8 0,.int .i64 0]:=CB.new wr _ #[.int .u8 0,.int .i64 0] (by simp[Value.oneCell']);have BA:Below wr.heap.size wr (wr.alloc (.cells #[.int .u8 0,.int .i64 0] 120)):=ζ.alloc δ _;clear RE S8 hx
   go_wp2_with(first
    |refine BX sf tQ rfl rfl _ rfl rfl ?_
    | (refine θ sf Cq rfl rfl _ _ rfl rfl (vs:= [.int .u8 x,.int .i64 lc.2]) rfl rfl (by simp[Value.oneCell']) ?_
       intro w3 CM O3;have B3:=BA.trans (O3.below (B:=wr.heap.size) δ);have H4:w3.heap.size=wr.heap.size+1:=by rw[O3.size];simp))
   obtain⟨xb,hxb⟩ :∃g,wr.heap.size=g:=⟨_,rfl⟩
   rw[hxb]at CM;have HXB:=γ hxb;have Lg:=γ (hB.trans (B3.mono K1));have hxw:w1.heap.size≤xb:=by omega
   have HXW:=γ hxw;have HOW:=γ (Ξ ν B3);have JU:Hid ((Value.slice av i cv).ownBlock≠some xb):=fun e=>by have:=(ν.lt _ e).2;omega
   have uh:w3.cell? ⟨gl,ol+i*2,none⟩ =some (.int .u8 x):=(World.cell?_of_block (B3.block gl Rp)).trans (by have h9:=tQ 0 _ rfl;simpa using h9);have AD8:gl<w3.heap.size:=by omega
   have AD9:gl≠xb:=by omega
   clear Cq BA O3 B3 tQ ν hB Rp;rw[hxb]
   go_loopw [8] (fun v8 wr=>∃k:Nat,v8= .int .i64 k∧k≤nm∧CB wr xb (Cn [BQ ((ET m).take k) (ET m2) lc])∧AQ xb w3 wr) (fun v8 _=>nm - (intOf v8).toNat)
   case atStart=>
    refine⟨0,rfl,ε,?_,AQ.refl _ _⟩;rw[List.take_zero,oC,Sg,HX.out];exact CM
   case round=>
    obtain⟨k,rfl,Ez,zg,hOq⟩ :=hrel;have vW:Below w1.heap.size w1 wr:=Lg.out.trans (hOq.below HXW.out);have ABq:=BC B1 vW;have lq1:w.heap.size<wr.heap.size:=by have:=vW.size;omega
    have e21:=(vW.cell (by exact LA)).trans d21;have e22:=(vW.cell (by exact LA)).trans d22;have lbq:=zg.lt;have ecx:wr.cell? ⟨gl,ol+i*2,none⟩ =some (.int .u8 x):=(World.cell?_of_block (hOq.block gl AD9)).trans uh;have AFi:gl<wr.heap.size:=by rw[hOq.size];exact AD8
    by_cases hk:k<nm
    ·have EW:(k:Int)<(nm:Int):=by omega
     have IW:(0:Int)≤(k:Int):=by omega
     have hkm:k<m.length:=by rw[Bn.out];exact hk
     have AEA:k<m2.length:=by rw[Jv.out];exact hkm
     obtain⟨b1,o1,rfl,AFj,ca,_⟩ :=(Of.out.below ABq).get hkm;obtain⟨b2,o2,rfl,AFk,cb,_⟩ :=(Kb.out.below ABq).get AEA;have HE:=gy m m2 HY.out Jv.out k hkm lc;rw[HX.out]at HE;have hy1:=HY.out.2.1 m[k] (List.getElem_mem _);have hy2:=HY.out.2.2 m2[k] (List.getElem_mem _);obtain⟨y1,ABr⟩ :∃y,m[k].b=y:=⟨_,rfl⟩
     obtain⟨y2,ABs⟩ :∃y,m2[k].b=y:=⟨_,rfl⟩
     rw[ABr]at ca HE hy1;rw[ABs]at cb HE hy2;have HEE:=γ HE;have ay:=γ zg;clear HE ABr ABs
     by_cases hxy:x=y1
     ·have AEB:((x:Int)==(y1:Int))=true:=by simp[hxy]
      have Wh:Hid (Cn [BQ ((ET m).take (k+1)) (ET m2) lc]= [.int .u8 (y2:Nat),.int .i64 (-1)]):=by
       show _=_;rw[HEE.out,if_pos hxy,Sg];have:(UInt8.ofNat y2).toNat=y2:=by simp;omega
       rw[this]
      clear HEE hxy
      go_wp2_with fail
      go_quiet(fail)
      go_wp2_with(refine θ sf (zg.below (below_drewN ζ _) zg.lt) rfl rfl _ _ rfl rfl (vs:= [.int .u8 (y2:Nat),.int .i64 (-1)]) rfl rfl (by simp[Value.oneCell']) ?_
                  intro w5 BP O5)
      go_roundw
      case rel=>exact⟨k+1,by go_num,by omega,by rw[Wh.out];exact BP,(hOq.drewN _).trans O5⟩
      case measure=>simp[intOf]<;>omega
     ·have AEB:((x:Int)==(y1:Int))=false:=by simp;omega
      have Wh:Hid (Cn [BQ ((ET m).take (k+1)) (ET m2) lc]=Cn [BQ ((ET m).take k) (ET m2) lc]):=by
       show _=_;rw[HEE.out,if_neg hxy]
      clear HEE hxy
      go_wp2_with fail
      go_quiet(fail)
      go_wp2_with fail
      go_roundw
      case rel=>exact⟨k+1,by go_num,by omega,by rw[Wh.out];exact ay.out.below (below_drewN ζ _) ay.out.lt,hOq.drewN _⟩
      case measure=>simp[intOf]<;>omega
    ·obtain rfl:k=nm:=by omega
     have EW:¬(k:Int)<(k:Int):=by omega
     have oH:=Jw HOW.out hOq JU.out;rw[Bn.out]at oH CR;obtain⟨ec,hec⟩ :∃c,BQ ((ET m).take k) (ET m2) lc=c:=⟨_,rfl⟩
     rw[hec]at zg CR;obtain⟨y,hy⟩ :∃y:Nat,ec.1.toNat=y:=⟨_,rfl⟩
     have hyc:y<256:=by rw[←hy];exact ec.1.toNat_lt
     have Ms:Hid (Cn [ec]= [.int .u8 (y:Nat),.int .i64 ec.2]):=by show _=_;rw[Sg,hy]
     rw[Ms.out]at zg;clear hec hy
     go_wp2_with(first
      |refine ω sf zg rfl rfl _ rfl rfl ?_
      |refine Bz SK rfl _ rfl [.int .u8 (y:Nat),.int .i64 ec.2] rfl rfl ?_
      | (refine A8 SK (oH.alloc _) wr.heap.size [.int .u8 (y:Nat),.int .i64 ec.2] (heap_alloc_new wr _) rfl (by simp[Value.oneCell']) (by omega) (by have:=vW.size;simp;omega) rfl _ _ rfl rfl rfl ?_
         intro v' w6 Aa AK;have Eg:Below w1.heap.size w1 w6:=(vW.alloc vW.size _).grown AK (by have:=vW.size;simp;omega) (fun k hk=>(oH.lt k hk).1);obtain⟨NF,JV,CX⟩ :=κ Aa;subst CX;clear AK))
     go_roundw
     case rel=>
      refine⟨i+1,by go_num,by omega,?_,Eg⟩;rw[Bn.out,CR.out,Cf,Ms.out];exact Aa
     case measure=>simp[intOf]<;>omega
  ·obtain rfl:i=n:=by omega
   have AV:¬(i:Int)<(i:Int):=by omega
   rw[show l.take i=l from List.take_of_length_le (by rw[HN.out];exact δ)]at ν;go_wp2;go_ret;refine⟨_,rfl,?_,nR⟩;rw[List.length_map,HN.out];exact AH (base:=w1.heap.size) ν (by omega)
theorem Ty(n:Nat)(P:Value→World→Prop)(b:Nat)(V:DV)(D:DS)(vs:List Value)(c:Cm)(w:World)(h:AD P b V D w)(EU:DB n D)(hd:PQ w vs c)(hn:c.name=104∨c.name=72∨c.name=103∨c.name=71∨c.name=120):
  Calls prog 198 #[.pointer (some ⟨b,0,none⟩),.agg vs.toArray] w fun e w'=>Hl P b V (D.Da c.name) w e w':=by
 have Bc:Hid (∀v∈vs,v.oneCell'=true):=hd.one;have Bn:=γ hd.nm;have HH:=γ h;have hro:=EU.ro;have HPH:Hid (D.pat.length≤256∧D.hold.length≤256):=⟨EU.pa,EU.ho⟩
 have Bq:=h.box.lt;obtain⟨nm,CF⟩ :∃k,c.name=k:=⟨_,rfl⟩
 rw[CF]at Bn hn⊢;obtain⟨ap,cp,EO,_⟩ :=h.pat.out.form;obtain⟨ah,ch,zh,_⟩ :=h.hold.out.form;have Tk:=γ EO;have bX:=γ zh;have Jr:Hid (∀w',AD P b V D w'→w'.cell? ⟨b,7,none⟩ =some (.slice ap D.pat.length cp)∧w'.cell? ⟨b,8,none⟩ =some (.slice ah D.hold.length ch)∧Av (χ b V) w' (fun w=>ψ w (.slice ap D.pat.length cp) D.pat)∧Av (χ b V) w' (fun w=>ψ w (.slice ah D.hold.length ch) D.hold)):=fun w' h'=>by
  have k7:=h'.cell 7 _ rfl;have k8:=h'.cell 8 _ rfl;have s7:=h'.pat;have s8:=h'.hold;rw[EO]at s7;rw[zh]at s8;exact⟨by rw[k7];show some V.pat=_;rw[EO],by rw[k8];show some V.hold=_;rw[zh],s7,s8⟩
 clear h hd CF EU EO zh;rcases hn with rfl|rfl|rfl|rfl|rfl
 ·have HE:Hid (D.Da 104=D.Ca D.pat):=rfl
  go_enter func198,ntmps198
  go_wp2_with(refine AU rfl _ rfl vs rfl Bc.out ?_
              intro w1 ξ B1 CE;have d11:=ξ.c 11 _ Bn.out;have LA:=ξ.lt;have Bo:=HH.out.below B1;have Dx:=Bo.box.lt;obtain⟨k7,k8,s7,s8⟩ :=Jr.out w1 Bo)
  have HC:=P7 P b V D _ D.pat w1 Bo s7 hro (by have:=HPH.out;omega);refine HC.mono ?_;clear HC;rintro e w5 ⟨rfl,hp⟩;have HP:Hid (σ P b V (D.Da 104) w w5):=by rw[HE.out];exact σ.below B1 hp
  clear hp Bo s7 s8;go_wp2
  go_end0
  exact⟨rfl,HP.out⟩
 ·have HE:Hid (D.Da 72=D.Ca (AJ D.hold (C4 (-1)) D.pat)):=rfl
  go_enter func198,ntmps198
  go_wp2_with(refine AU rfl _ rfl vs rfl Bc.out ?_
              intro w1 ξ B1 CE;have d11:=ξ.c 11 _ Bn.out;have LA:=ξ.lt;have Bo:=HH.out.below B1;have A0:=γ Bo;have Dx:=Bo.box.lt;obtain⟨k7,k8,s7,s8⟩ :=Jr.out w1 Bo)
  have nr:Hid (∀w2,Below w1.heap.size w1 w2→Calls prog 223 #[.slice ah D.hold.length ch,.int .i64 (-1),.slice ap D.pat.length cp] w2 fun e w'=>LJ (AJ D.hold (C4 (-1)) D.pat) w2 e w'):=fun w2 hb=>GK _ _ D.hold D.pat (-1) w2 (s8.out.below hb) (s7.out.below hb) (by have:=HPH.out;omega)
  clear Bo s7 s8
  go_region_with(first
   | (go_at_call 223
      refine(nr.out _ (ζ.drew)).mono ?_;rintro e w3 ⟨v3,rfl,Γ,B3⟩;have KP:=(A0.out.below (ζ.drew)).below B3;have LM:=Ll (A0.out.below (ζ.drew)) Γ;obtain⟨a3,c3,Ei⟩ :=κ Γ;subst Ei)
   | (go_at_call 226
      refine(P7 P b V D _ (AJ D.hold (C4 (-1)) D.pat) _ KP LM hro (by have:=HPH.out;rw[PZ];omega)).mono ?_;rintro e w5 ⟨rfl,hp⟩))
  all_goals
   have HP:Hid (σ P b V (D.Da 72) w w5):=by
    rw[HE.out];exact σ.below (BC B1 ((ζ.drew).trans B3)) hp
   clear hp KP LM Γ;go_wp2
   go_end0
   exact⟨rfl,HP.out⟩
 ·have HE:Hid (D.Da 103=D.pattern D.hold):=rfl
  go_enter func198,ntmps198
  go_wp2_with(refine AU rfl _ rfl vs rfl Bc.out ?_
              intro w1 ξ B1 CE;have d11:=ξ.c 11 _ Bn.out;have LA:=ξ.lt;have Bo:=HH.out.below B1;have Dx:=Bo.box.lt;obtain⟨k7,k8,s7,s8⟩ :=Jr.out w1 Bo)
  have HC:=Cu P b V D _ D.hold w1 Bo s8 hro (by have:=HPH.out;omega);refine HC.mono ?_;clear HC;rintro e w5 ⟨rfl,hp⟩;have HP:Hid (σ P b V (D.Da 103) w w5):=by rw[HE.out];exact σ.below B1 hp
  clear hp Bo s7 s8;go_wp2
  go_end0
  exact⟨rfl,HP.out⟩
 ·have HE:Hid (D.Da 71=D.pattern (AJ D.pat (C4 (-1)) D.hold)):=rfl
  go_enter func198,ntmps198
  go_wp2_with(refine AU rfl _ rfl vs rfl Bc.out ?_
              intro w1 ξ B1 CE;have d11:=ξ.c 11 _ Bn.out;have LA:=ξ.lt;have Bo:=HH.out.below B1;have A0:=γ Bo;have Dx:=Bo.box.lt;obtain⟨k7,k8,s7,s8⟩ :=Jr.out w1 Bo)
  have nr:Hid (∀w2,Below w1.heap.size w1 w2→Calls prog 223 #[.slice ap D.pat.length cp,.int .i64 (-1),.slice ah D.hold.length ch] w2 fun e w'=>LJ (AJ D.pat (C4 (-1)) D.hold) w2 e w'):=fun w2 hb=>GK _ _ D.pat D.hold (-1) w2 (s7.out.below hb) (s8.out.below hb) (by have:=HPH.out;omega)
  clear Bo s7 s8
  go_region_with(first
   | (go_at_call 223
      refine(nr.out _ (ζ.drew)).mono ?_;rintro e w3 ⟨v3,rfl,Γ,B3⟩;have KP:=(A0.out.below (ζ.drew)).below B3;have LM:=Ll (A0.out.below (ζ.drew)) Γ;obtain⟨a3,c3,Ei⟩ :=κ Γ;subst Ei)
   | (go_at_call 116
      refine(Cu P b V D _ (AJ D.pat (C4 (-1)) D.hold) _ KP LM hro (by have:=HPH.out;rw[PZ];omega)).mono ?_;rintro e w5 ⟨rfl,hp⟩))
  all_goals
   have HP:Hid (σ P b V (D.Da 71) w w5):=by
    rw[HE.out];exact σ.below (BC B1 ((ζ.drew).trans B3)) hp
   clear hp KP LM Γ;go_wp2
   go_end0
   exact⟨rfl,HP.out⟩
 ·have HE:Hid (D.Da 120= {D with pat:=D.hold,hold:=D.pat}):=rfl
  have Ls:Hid (∀w1,Below w.heap.size w w1→σ P b V {D with pat:=D.hold,hold:=D.pat} w ((w1.setCell ⟨b,7,none⟩ (.slice ah D.hold.length ch)).setCell ⟨b,8,none⟩ (.slice ap D.pat.length cp))):=fun w1 B1=>by
   have Bo:=HH.out.below B1;obtain⟨k7,k8,s7,s8⟩ :=Jr.out w1 Bo;have f1:=Rf.DN V b 7 (.slice ah D.hold.length ch) w1;have hA:=Bo.set 7 (by decide) (.slice ah D.hold.length ch) rfl ⟨V.AZ,V.AM,.slice ah D.hold.length ch,V.hold,V.D8,V.out⟩ {D with pat:=D.hold} rfl rfl rfl rfl rfl rfl s8 Bo.hold Bo.out;have hB:=hA.set 8 (by decide) (.slice ap D.pat.length cp) rfl ⟨V.AZ,V.AM,.slice ah D.hold.length ch,.slice ap D.pat.length cp,V.D8,V.out⟩ {D with pat:=D.hold,hold:=D.pat} rfl rfl rfl rfl rfl rfl hA.pat (s7.fr f1) hA.out;exact⟨⟨V.AZ,V.AM,.slice ah D.hold.length ch,.slice ap D.pat.length cp,V.D8,V.out⟩,rfl,hB,(Rf.η B1).trans (f1.trans (Rf.DN V b 8 _ _))⟩
  go_enter func198,ntmps198
  go_wp2_with(refine AU rfl _ rfl vs rfl Bc.out ?_
              intro w1 ξ B1 CE;have d11:=ξ.c 11 _ Bn.out;have LA:=ξ.lt;have Bo:=HH.out.below B1;have Dx:=Bo.box.lt;have f7:=Bo.fz 7 (by decide);have f8:=Bo.fz 8 (by decide);obtain⟨k7,k8,s7,s8⟩ :=Jr.out w1 Bo;have HP:Hid (σ P b V (D.Da 120) w ((w1.setCell ⟨b,7,none⟩ (.slice ah D.hold.length ch)).setCell ⟨b,8,none⟩ (.slice ap D.pat.length cp))):=(by rw[HE.out];exact Ls.out w1 B1)
              clear Bo s7 s8)
  go_end0
  exact⟨rfl,HP.out⟩
section
variable {P : Value → World → Prop} {b : Nat} {V : DV} {D : DS} {w w' : World}
theorem AD.WO(h:AD P b V D w){v':Value}{t:ByteArray}(ν:w'.ownsRow 0 9 1 v' (D.queue.length+1) (D.queue.map .string++ [.string t]))(hg:w.grownBy w' V.D8.ownBlock)(Cw:v'.ownBlock=V.D8.ownBlock∨v'.ownBlock=some w.heap.size):
  CB w' b (pZ V D)∧σ P b V {D with queue:=D.queue++ [t]} w (w'.setCell ⟨b,13,none⟩ v'):=by
 have Bq:=h.box.lt;have hk:∀k,k<w.heap.size→V.D8.ownBlock≠some k→w'.heap[k]? =w.heap[k]? :=fun k hk hne=>hg.block k hk (fun e=>hne e.symm)
 have Eo:=h.box.keep (hk b Bq h.sq) hg.size;refine⟨Eo,⟨V.AZ,V.AM,V.pat,V.hold,v',V.out⟩,rfl,?_⟩;have S6:v'.ownBlock≠some b:=by
  rcases Cw with e|e<;>rw[e]
  ·exact h.sq
  ·intro e';simp at e';omega
 have f1:Rf (χ b V) (χ b ⟨V.AZ,V.AM,V.pat,V.hold,v',V.out⟩) w w':=by
  refine⟨hg.os,hg.tape,hg.output,hg.size,fun k aH hF=>hk k aH (fun e=>hF (.inr (.inr e))),fun k hF=> ?_⟩;rcases hF with e|e |e
  ·exact .inl (.inl e)
  ·exact .inl (.inr (.inl e))
  ·rcases Cw with e'|e'
   ·exact .inl (.inr (.inr (by rw[←e'];exact e)))
   ·have e:v'.ownBlock=some k:=e
    rw[e']at e;simp at e;exact .inr (by omega)
 have f2:=f1.trans (Rf.DN ⟨V.AZ,V.AM,V.pat,V.hold,v',V.out⟩ b 13 v' w');have Ep:∀k,k≠b→(w'.setCell ⟨b,13,none⟩ v').heap[k]? =w'.heap[k]? :=fun k hk=>heap_setCell_other w' _ k v' hk
 refine⟨⟨?_,?_,?_,h.sr,S6,h.AZ.fr f2,h.pat.fr f2,h.hold.fr f2,h.out.fr f2,h.one⟩,f2⟩
 ·exact Eo.set 13 (by rw[J0];omega) v' (Qp ν)
 ·refine Ab (F:=χ b V) (G:=χ b V) h.AM (fun k e=> ?_)
  have e:V.AM.ownBlock=some k:=e;have Ac:=(h.AM.lt k e).2;rw[Ep k (fun e'=>h.sr (by rw[e,e'])),hk k Ac (GF h.AM h.D8 (by decide) k e)]
 ·show World.ownsRow _ 0 _ 1 v' (D.queue++ [t]).length ((D.queue++ [t]).map .string)
  rw[List.length_append,List.map_append];exact Ab (F:=χ b V) (G:=χ b V) ν (fun k e=>Ep k (fun e'=>S6 (by rw[e,e'])))
end
theorem Yq(n:Nat)(P:Value→World→Prop)(b:Nat)(V:DV)(D:DS)(vs:List Value)(c:Cm)(w:World)(h:AD P b V D w)(EU:DB n D)(hd:PQ w vs c)(hk:DZ c)(Ks:1≤D.line):
  Calls prog 199 #[.pointer (some ⟨b,0,none⟩),.agg vs.toArray] w fun e w'=>Hl P b V (D.says c) w e w':=by
 obtain⟨i0,hi,DF,CN,Dq⟩ :=info_parts Yp;have Bc:Hid (∀v∈vs,v.oneCell'=true):=hd.one;have Bn:=γ hd.nm;have L5:=γ hd.tx;have HH:=γ h;have F7:=γ EU;have Bq:=h.box.lt;have ML:=hk.tx;have H7:=hk.nm;have ck:D.line≤4096:=by have:=EU.li;have:=EU.at';have:=EU.tx;omega
 have hql:D.queue.length≤5000:=by have:=EU.qu;have:=EU.us;have:=EU.sp;omega
 obtain⟨nm,CF⟩ :∃k,c.name=k:=⟨_,rfl⟩
 rw[CF]at Bn H7
 have HE:Hid (D.says c=if nm=112 then D.GL else if nm=61 then D.tell (St.itoa D.line)else if nm=80 then(if Ad D.pat=0 then D.GL else D.put (D.pat.take (Ad D.pat)))
  else if nm=97 then{D with queue:=D.queue++ [c.text]}else if nm=105∨nm=99 then D.tell c.text else D):=by show _=_;rw[←CF];rfl
 obtain⟨aq,cq,fP⟩ :=κ h.D8;have aK:=γ fP;obtain⟨ap,cp,EO,_⟩ :=h.pat.out.form;have Tk:=γ EO;clear h hd CF EU hk fP EO
 by_cases h1:nm=112
 ·subst h1
  rw[if_pos rfl]at HE
  go_enter func199,ntmps199
  go_wp2_with(refine AU rfl _ rfl vs rfl Bc.out ?_
              intro w1 ξ B1 CE;have d11:=ξ.c 11 _ Bn.out;have LA:=ξ.lt)
  refine(GM P b V D w1 (HH.out.below B1) F7.out.pa F7.out.ou).mono ?_;rintro e w5 ⟨rfl,hp⟩;have HP:Hid (σ P b V (D.says c) w w5):=by rw[HE.out];exact σ.below B1 hp.nM
  clear hp;go_wp2
  go_end0
  exact⟨rfl,HP.out⟩
 have n1:((nm:Int)==112)=false:=by simp;omega
 rw[if_neg h1]at HE
 by_cases h2:nm=61
 ·subst h2
  rw[if_pos rfl]at HE
  go_enter func199,ntmps199
  go_wp2_with(refine AU rfl _ rfl vs rfl Bc.out ?_
              intro w1 ξ B1 CE;have d11:=ξ.c 11 _ Bn.out;have LA:=ξ.lt;have Bo:=HH.out.below B1;have Dx:=Bo.box.lt;have k9:=Bo.cell 9 _ rfl)
  refine(Vz D.line w1 Ks (by omega)).mono ?_;rintro e w2 ⟨rfl,B2⟩;have X8:=BC B1 B2;have Ds:=HH.out.below X8;have EV:=Ut D.line ck;clear Bo k9
  go_wp2_with fail
  refine(IK P b V D (St.itoa D.line) w2 Ds (by omega) F7.out.ou).mono ?_;rintro e w5 ⟨rfl,hp⟩;have HP:Hid (σ P b V (D.says c) w w5):=by rw[HE.out];exact σ.below X8 hp.nM
  clear hp Ds;go_wp2
  go_end0
  exact⟨rfl,HP.out⟩
 have n2:((nm:Int)==61)=false:=by simp;omega
 rw[if_neg h2]at HE
 by_cases h3:nm=80
 ·subst h3
  rw[if_pos rfl]at HE
  go_enter func199,ntmps199
  go_wp2_with(refine AU rfl _ rfl vs rfl Bc.out ?_
              intro w1 ξ B1 CE;have d11:=ξ.c 11 _ Bn.out;have LA:=ξ.lt;have Bo:=HH.out.below B1;have Dx:=Bo.box.lt;have k7:=Bo.cell 7 _ rfl;have k7':w1.cell? ⟨b,7,none⟩ =some (.slice ap D.pat.length cp):=(by rw[k7];show some V.pat=_;rw[Tk.out])
              clear k7)
  have DC:=Bo.pat.out;rw[Tk.out]at DC;have HC:=P4 _ D.pat w1 DC (by have:=F7.out.pa;omega);refine HC.mono ?_;clear HC;rintro e w2 ⟨rfl,rfl⟩;have Ce:Hid (Ad D.pat≤D.pat.length):=Np _;have QK:=γ F7.out.pa;obtain⟨q,hq⟩ :∃q,Ad D.pat=q:=⟨_,rfl⟩
  rw[hq]at HE Ce⊢
  by_cases h0:q=0
  ·rw[if_pos h0]at HE
   have KA:¬(0:Int)<(q:Int):=by omega
   clear h0
   go_wp2_with fail
   refine(GM P b V D w2 Bo QK.out F7.out.ou).mono ?_;rintro e w5 ⟨rfl,hp⟩;have HP:Hid (σ P b V (D.says c) w w5):=by rw[HE.out];exact σ.below B1 hp.nM
   clear hp Bo;go_wp2
   go_end0
   exact⟨rfl,HP.out⟩
  ·rw[if_neg h0]at HE
   have KA:(0:Int)<(q:Int):=by omega
   have A0:=γ Bo;clear h0 Bo
   go_wp2_with(refine AD6 (j:=q) DC Ce.out rfl _ _ rfl rfl rfl ?_
               intro v3 Sf H4;obtain⟨a3,c3,Ei,_⟩ :=H4.form;subst Ei)
   refine(My P b V D _ _ w2 A0.out H4 (by have:=QK.out;unfold τ;rw[List.length_take,List.length_drop];omega) F7.out.ou).mono ?_;rintro e w5 ⟨rfl,hp⟩;have HP:Hid (σ P b V (D.says c) w w5):=by rw[HE.out];exact σ.below B1 hp.nM
   clear hp;go_wp2
   go_end0
   exact⟨rfl,HP.out⟩
 have n3:((nm:Int)==80)=false:=by simp;omega
 rw[if_neg h3]at HE
 by_cases h4:nm=97
 ·subst h4
  rw[if_pos rfl]at HE
  go_enter func199,ntmps199
  go_wp2_with(refine AU rfl _ rfl vs rfl Bc.out ?_
              intro w1 ξ B1 CE;have d11:=ξ.c 11 _ Bn.out;have d12:=ξ.c 12 _ L5.out;have LA:=ξ.lt;have h1:=HH.out.below B1;have A0:=γ h1;have Dx:=h1.box.lt;have k13:=h1.cell 13 _ rfl;have AFm:w1.cell? ⟨b,13,none⟩ =some (.slice aq D.queue.length cq):=(by rw[k13];show some V.D8=_;rw[aK.out])
              have f13:=h1.fz 13 (by decide);clear k13 h1)
  have BA:Below w1.heap.size w1 (w1.alloc (.cells #[.string c.text] 9)).drew:=(ζ.alloc δ _).drew;have zi:=A0.out.below BA;have HRA:=γ zi;have hqA:=zi.D8;rw[aK.out]at hqA;have cz:(w1.alloc (.cells #[.string c.text] 9)).drew.heap[w1.heap.size]? =some (.cells #[.string c.text] 9):=heap_alloc_new w1 _;have uh:∀j u,([.string c.text]:List Value)[j]? =some u→(w1.alloc (.cells #[.string c.text] 9)).drew.cell? ((⟨w1.heap.size,0,none⟩ :Addr).add j)=some u:=fun j u hu=>by
   rw[Addr.add_mid,cell_of_row _ _ _ _ _ _ cz]
   simpa using hu
  have GO:Hid (Rf (χ b V) (χ b V) w (w1.alloc (.cells #[.string c.text] 9)).drew):=(Rf.η B1).trans (.η BA);clear zi
  go_region_law(first
   | (refine step_append_lies _ rfl (.tmp 45) (.tmp 48) 22 rfl 0 9 i0 (.string ⟨#[]⟩) 1 16 underlying22 hi DF CN Dq rfl (by decide) (.slice aq D.queue.length cq) D.queue.length (D.queue.map .string) (by simp[Act.eval]) hqA ⟨w1.heap.size,0,none⟩ 1 1 [.string c.text] (by simp[Act.eval]) rfl uh (by simp[Value.oneCell']) (by decide) (by unfold maxLen;omega) (by omega) ε (w1.heap.size+1) (by simp) ?_
      intro g cap w3 Γ AE Ea _;have ub:=HRA.out.WO Γ (by rw[aK.out];exact AE) (by rw[aK.out];rcases Ea with e|e;exact .inl (by rw[e];rfl);exact .inr (by rw[e];simp[Value.ownBlock]));obtain⟨He,Wj⟩ :=ub;have mT:=γ Wj;have g13:=He.fz 13 (by rw[J0];decide);have e13:=He.c 13 V.D8 rfl;have l3:=He.lt;clear Wj He AE Ea Γ))
  all_goals
   go_wp2
   go_end0
   exact⟨rfl,by rw[HE.out];exact σ.trans rfl GO.out mT.out⟩
 have n4:((nm:Int)==97)=false:=by simp;omega
 rw[if_neg h4]at HE
 by_cases h5:nm=105
 ·subst h5
  rw[if_pos (.inl rfl)]at HE
  go_enter func199,ntmps199
  go_wp2_with(refine AU rfl _ rfl vs rfl Bc.out ?_
              intro w1 ξ B1 CE;have d11:=ξ.c 11 _ Bn.out;have d12:=ξ.c 12 _ L5.out;have LA:=ξ.lt)
  refine(IK P b V D c.text w1 (HH.out.below B1) ML F7.out.ou).mono ?_;rintro e w5 ⟨rfl,hp⟩;have HP:Hid (σ P b V (D.says c) w w5):=by rw[HE.out];exact σ.below B1 hp.nM
  clear hp;go_wp2
  go_end0
  exact⟨rfl,HP.out⟩
 have n5:((nm:Int)==105)=false:=by simp;omega
 by_cases h6:nm=99
 ·subst h6
  rw[if_pos (.inr rfl)]at HE
  go_enter func199,ntmps199
  go_wp2_with(refine AU rfl _ rfl vs rfl Bc.out ?_
              intro w1 ξ B1 CE;have d11:=ξ.c 11 _ Bn.out;have d12:=ξ.c 12 _ L5.out;have LA:=ξ.lt)
  refine(IK P b V D c.text w1 (HH.out.below B1) ML F7.out.ou).mono ?_;rintro e w5 ⟨rfl,hp⟩;have HP:Hid (σ P b V (D.says c) w w5):=by rw[HE.out];exact σ.below B1 hp.nM
  clear hp;go_wp2
  go_end0
  exact⟨rfl,HP.out⟩
 ·have n6:((nm:Int)==99)=false:=by simp;omega
  rw[if_neg (by omega)]at HE;clear h1 h2 h3 h4 h5 h6
  go_enter func199,ntmps199
  go_wp2_with(refine AU rfl _ rfl vs rfl Bc.out ?_
              intro w1 ξ B1 CE;have d11:=ξ.c 11 _ Bn.out;have LA:=ξ.lt)
  have HP:Hid (σ P b V (D.says c) w w1):=by rw[HE.out];exact σ.refl HH.out B1
  go_end0
  exact⟨rfl,HP.out⟩
end Go.Proofs.YtlppphmnegdhoabGreatDoor
