import Derived.Test.YtlppphmnegdhoabGreatDoorMz20
set_option linter.unusedVariables false
set_option maxRecDepth 100000
set_option maxHeartbeats 4000000
namespace Go.Proofs.YtlppphmnegdhoabGreatDoor
open Go.Proofs.Tryz
open Go.RowKit
open M
def EB(w:World)(a:Option Addr)(L:List It):Prop:=∀k(h:k<L.length),∃g,a=some ⟨g,0,none⟩∧g<w.heap.size∧w.rangeAt g (k*257) (bC 257 (IQ L[k]))
theorem EB.keep{w w':World}{a:Option Addr}{L:List It}(h:EB w a L)(hs:w.heap.size≤w'.heap.size)(hk:∀g,a=some ⟨g,0,none⟩→g<w.heap.size→w'.heap[g]? =w.heap[g]?):EB w' a L:=fun k aH=>by
 obtain⟨g,h1,h2,h3⟩ :=h k aH;exact⟨g,h1,by omega,fun j u hu=>(World.cell?_of_block (hk g h1 h2)).trans (h3 j u hu)⟩
theorem EB.below{w w':World}{a:Option Addr}{L:List It}(h:EB w a L)(hb:Below w.heap.size w w'):EB w' a L:=h.keep hb.size (fun g _ hg=>hb.block g hg)
def L3(w:World)(vs:List Value)(A:Ku):Prop:=∃a c,vs= [.int .i64 (A.kind:Nat),.int .i64 (A.line:Nat),.bool A.ex.head,.bool A.ex.tail,.slice a A.ex.l.length c]∧EB w a A.ex.l
theorem L3.below{w w':World}{vs:List Value}{A:Ku}(h:L3 w vs A)(hb:Below w.heap.size w w'):L3 w' vs A:=by
 obtain⟨a,c,h1,h2⟩ :=h;exact⟨a,c,h1,h2.below hb⟩
theorem lF:EE 137 3:=⟨⟨_,underlying137,rfl⟩,by kernel_rfl⟩
theorem Xz:EE 139 5:=⟨⟨_,underlying139,rfl⟩,by kernel_rfl⟩
theorem lG:EE 141 12:=⟨⟨_,underlying141,rfl⟩,by kernel_rfl⟩
theorem lH(l:List Cl):(Dr l).data.toList=AL l:=rfl
theorem K7(l:List Cl):(Dr l).size=l.length:=by rw[←Δ,lH];simp[AL]
theorem GH(P:Value→World→Prop)(b:Nat)(tl:List Value)(V:RV)(S:St)(vs:List Value)(A:Ku)(w:World)(h:π P b tl V S w)(hw:WF S)(hA:L3 w vs A)(hk:A.kind≤3)(hn:A.line≤9999)(hl:A.ex.l.length≤400):
  Calls prog 216 #[.pointer (some ⟨b,0,none⟩),.agg vs.toArray] w fun e w'=>e= .returned (.bool (S.holds A))∧Below w.heap.size w w':=by
 have HA:Hid (S.holds A=if A.kind=1 then A.line==S.line else if A.kind=2 then S.Ov else if A.kind=3 then Ni A.ex (AL S.pat)else false):=rfl;obtain⟨a,c,rfl,hex⟩ :=hA;have B0:Below w.heap.size w (w.alloc (.cells #[.int .i64 (A.kind:Nat),.int .i64 (A.line:Nat),.bool A.ex.head,.bool A.ex.tail,.slice a A.ex.l.length c] 139)):=ζ.alloc δ _;have Eo:CB (w.alloc (.cells #[.int .i64 (A.kind:Nat),.int .i64 (A.line:Nat),.bool A.ex.head,.bool A.ex.tail,.slice a A.ex.l.length c] 139)) w.heap.size [.int .i64 (A.kind:Nat),.int .i64 (A.line:Nat),.bool A.ex.head,.bool A.ex.tail,.slice a A.ex.l.length c]:=CB.new w _ #[.int .i64 (A.kind:Nat),.int .i64 (A.line:Nat),.bool A.ex.head,.bool A.ex.tail,.slice a A.ex.l.length c] (by simp[Value.oneCell']);have h1:=h.below B0;have HR:=γ h1;have TA:=γ hex;have ck:S.line≤4096:=by have:=hw.li;have:=hw.bh;have:=hw.tx;omega
 have Bq:=h.box.lt;obtain⟨kd,Nk⟩ :∃k,A.kind=k:=⟨_,rfl⟩
 obtain⟨ln,J9⟩ :∃k,A.line=k:=⟨_,rfl⟩
 rw[Nk,J9]at B0 Eo HR HA;rw[Nk]at hk;rw[J9]at hn;rw[Nk,J9];have d0:=Eo.c 0 _ rfl;have d1:=Eo.c 1 _ rfl;have Cq:b≠w.heap.size:=by omega
 clear Nk J9 h hex h1
 by_cases k1:kd=1
 ·have k11:((kd:Int)==1)=true:=by simp[k1]
  have OU:=HR.out.cell 12 _ rfl
  by_cases uf:ln=S.line
  ·have Ks:((ln:Int)==((S.line:Nat):Int))=true:=by simp[uf]
   have HF:Hid (S.holds A=true):=by show _=_;rw[HA.out,if_pos k1];simp[uf]
   clear k1 HA uf
   go_enter func216,ntmps216
   go_wp2_with fail
   go_region
   go_wp2;go_ret;exact⟨by rw[HF.out];rfl,B0.drew⟩
  ·have Ks:((ln:Int)==((S.line:Nat):Int))=false:=by simp;omega
   have HF:Hid (S.holds A=false):=by show _=_;rw[HA.out,if_pos k1];simp[uf]
   clear k1 HA uf
   go_enter func216,ntmps216
   go_wp2_with fail
   go_region
   go_wp2;go_ret;exact⟨by rw[HF.out];rfl,B0.drew⟩
 have k11:((kd:Int)==1)=false:=by simp;omega
 by_cases k2:kd=2
 ·have k21:((kd:Int)==2)=true:=by simp[k2]
  have HF:Hid (S.holds A=S.Ov):=by show _=_;rw[HA.out,if_neg k1,if_pos k2]
  clear k1 k2 HA
  go_enter func216,ntmps216
  go_wp2_with fail
  refine(Te P b tl V S _ HR.out hw).mono ?_;rintro e w2 ⟨rfl,B2⟩;go_wp2;go_ret;exact⟨by rw[HF.out];rfl,B0.trans (B2.mono (by simp))⟩
 have k21:((kd:Int)==2)=false:=by simp;omega
 by_cases k3:kd=3
 ·have k31:((kd:Int)==3)=true:=by simp[k3]
  have HF:Hid (S.holds A=Ni A.ex (AL S.pat)):=by show _=_;rw[HA.out,if_neg k1,if_neg k2,if_pos k3]
  have Xj:=hw.pa;have FJ:=HR.out.cell 10 _ rfl;have DC:=HR.out.pat.out;obtain⟨ap,cp,EO,_⟩ :=DC.form;rw[EO]at FJ DC;have KW:=γ DC;have AFO:=HR.out.box.lt;clear k1 k2 k3 HA DC EO
  go_enter func216,ntmps216
  go_wp2_with fail
  refine(EJ _ S.pat _ KW.out (by omega)).mono ?_;rintro e w2 ⟨rfl,B2⟩;have JD:=Eo.below B2 Eo.lt;have QI:=B0.trans (B2.mono (by simp))
  go_wp2_with(refine D7 lF JD (o:=2) rfl rfl rfl _ rfl rfl ?_)
  refine(Xy A.ex.head A.ex.tail a c A.ex.l (Dr S.pat) 0 w2 (by rw[K7];omega) ε (by omega) (TA.out.below QI)).mono ?_;rintro e w3 ⟨⟨i,j,rfl,hfi⟩,B3⟩;have HFI:Hid (decide (0≤i)=Ni A.ex (AL S.pat)):=find_eq hfi;have fN:=QI.trans (B3.mono QI.size);clear hfi
  by_cases Zs:0≤i
  ·have GO:Hid (S.holds A=true):=by show _=_;rw[HF.out,←HFI.out,decide_eq_true Zs]
   clear HF HFI;go_wp2;go_ret;exact⟨by rw[GO.out];rfl,fN⟩
  ·have GO:Hid (S.holds A=false):=by show _=_;rw[HF.out,←HFI.out,decide_eq_false Zs]
   have XT:decide ((0:Int)≤i)=false:=decide_eq_false Zs;have QJ:i<0:=by omega
   clear HF HFI Zs;go_wp2;go_ret;refine⟨?_,fN⟩;rw[GO.out]
   first|rfl| (simp[XT];done) | (simp;omega)
 have k31:((kd:Int)==3)=false:=by simp;omega
 have HF:Hid (S.holds A=false):=by show _=_;rw[HA.out,if_neg k1,if_neg k2,if_neg k3]
 clear k1 k2 k3 HA
 go_enter func216,ntmps216
 go_wp2;go_ret;exact⟨by rw[HF.out];rfl,B0⟩
theorem lI{w w':World}{base g:Nat}{e:TypeId}{size:Nat}{v:Value}{n:Nat}{xs:List Value}(h:w.ownsRow base e size v n xs)(ho:AQ g w w')(hne:v.ownBlock≠some g):w'.ownsRow base e size v n xs:=
 Ab (F:=fun _=>True) (G:=fun _=>True) h (fun k hk=>ho.block k (fun e=>hne (by rw[hk,e])))
def X0(t:List UInt8)(c:UInt8):Int:=match G9 t c with
 |none=> -1
 |some k=>(k:Int)
theorem X1(d:UInt8)(t:List UInt8)(c:UInt8):G9 (d::t) c=if d=c then some 0 else(G9 t c).map (· +1):=by
 unfold G9;rw[List.findIdx?_cons]
 by_cases e:d=c
 ·subst e;simp
 ·have:(d==c)=false:=by simpa using e
  rw[this];simp[e]
def ug(t:List UInt8)(i:Nat)(c:UInt8):Int:=match G9 (t.drop i) c with
 |none=> -1
 |some k=>((i+k:Nat):Int)
theorem lJ(s:ByteArray)(i:Nat)(c:UInt8)(h:i<s.size):ug s.data.toList i c=if s[i]=c then(i:Int)else ug s.data.toList (i+1) c:=by
 unfold ug;rw[Ap s i h,X1]
 by_cases e:s[i]=c
 ·rw[if_pos e,if_pos e];rfl
 ·rw[if_neg e,if_neg e]
  cases G9 (s.data.toList.drop (i+1)) c with
  |none=>rfl
  |some k=>
   show((i+(k+1):Nat):Int)=((i+1+k:Nat):Int)
   congr 1;omega
theorem Ti(s:ByteArray)(c:UInt8)(x:Nat)(w:World)(hc:c.toNat=x)(hs:s.size≤400):
  Calls prog 249 #[.string s,.int .u8 x] w fun e w'=>e= .returned (.int .i64 (X0 s.data.toList c))∧w'=w:=by
 have FT:x<256:=by rw[←hc];exact c.toNat_lt
 have HC:=γ hc;have H0:Hid (X0 s.data.toList c=ug s.data.toList 0 c):=by
  show _=_;unfold X0 ug;rw[List.drop_zero];cases G9 s.data.toList c with
  |none=>rfl
  |some k=>show(k:Int)=((0+k:Nat):Int);rw[Nat.zero_add]
 clear hc
 go_enter func249,ntmps249
 go_wp2_with fail
 go_loop [5] (fun v5=>∃i:Nat,v5= .int .i64 i∧i≤s.size∧Hid (X0 s.data.toList c=ug s.data.toList i c)) (fun v5=>s.size - (intOf v5).toNat)
 case atStart=>exact⟨0,rfl,ε,H0⟩
 case round=>
  clear H0;obtain⟨i,rfl,hi,HI⟩ :=hrel
  by_cases Ac:i<s.size
  ·have AV:(i:Int)<(s.size:Int):=by omega
   have HS:=lJ s i c Ac;obtain⟨y,hy⟩ :∃y:Nat,s[i].toNat=y:=⟨_,rfl⟩
   have hyc:y<256:=by rw[←hy];exact s[i].toNat_lt
   have hey:s[i]=c↔y=x:=by rw[←hy,←HC.out];exact UInt8.toNat_inj.symm
   by_cases hyx:y=x
   ·have h1:((y:Int)==(x:Int))=true:=by simp[hyx]
    have HF:Hid (X0 s.data.toList c=(i:Int)):=by show _=_;rw[HI.out,HS,if_pos (hey.2 hyx)]
    clear hyx HI HS hey;go_wp2;go_ret;exact⟨by rw[HF.out];rfl,rfl⟩
   ·have h1:((y:Int)==(x:Int))=false:=by simp;omega
    have HF:Hid (X0 s.data.toList c=ug s.data.toList (i+1) c):=by show _=_;rw[HI.out,HS,if_neg (fun e=>hyx (hey.1 e))]
    clear hyx HI HS hey;go_wp2
    go_round
    case rel=>exact⟨i+1,by go_num,by omega,HF⟩
    case measure=>simp[intOf]<;>omega
  ·obtain rfl:i=s.size:=by omega
   have AV:¬(s.size:Int)<(s.size:Int):=by omega
   have HF:Hid (X0 s.data.toList c= -1):=by
    show _=_;rw[HI.out];unfold ug;rw[List.drop_of_length_le (by rw[Δ];exact δ)];rfl
   clear HI;go_wp2;go_ret;exact⟨by rw[HF.out];rfl,rfl⟩
theorem fW(f g:List UInt8)(c:Cl)(h:¬(0≤X0 f c.1∧X0 f c.1<(g.length:Int))):BQ f g c=c:=by
 unfold BQ;unfold X0 at h;cases hp:G9 f c.1 with
 |none=>rfl
 |some k=>
  rw[hp]at h;simp only at h⊢;have:g[k]? =none:=List.getElem?_eq_none (by omega);rw[this]
theorem fX(f:List UInt8)(g:ByteArray)(c:Cl)(k:Nat)(h:X0 f c.1=(k:Int))(hk:k<g.size):BQ f g.data.toList c=(g[k],-1):=by
 unfold BQ;unfold X0 at h;cases hp:G9 f c.1 with
 |none=>rw[hp]at h;simp only at h;omega
 |some q=>
  rw[hp]at h;simp only at h⊢;have e:q=k:=by omega
  subst e;have:g.data.toList[q]? =some g[q]:=by rw[List.getElem?_eq_getElem (by rw[Δ];exact hk)];rfl
  rw[this]
theorem QS(v:Value)(l:List Cl)(f g:ByteArray)(w:World)(h:ψ w v l)(hl:l.length≤100000)(hf:f.size≤400)(hg:g.size≤400):
  Calls prog 241 #[v,.agg #[.string f,.string g]] w fun e w'=>Rl (l.map (BQ f.data.toList g.data.toList)) w e w':=by
 obtain⟨a,c,rfl,S8⟩ :=h.form;obtain⟨n,hn⟩ :∃n,l.length=n:=⟨_,rfl⟩
 have HN:=γ hn;rw[hn]at h hl⊢;have HS:=γ h;have B0:Below w.heap.size w (w.alloc (.cells #[.string f,.string g] 146)):=ζ.alloc δ _;have Eo:CB (w.alloc (.cells #[.string f,.string g] 146)) w.heap.size [.string f,.string g]:=CB.new w _ #[.string f,.string g] (by simp[Value.oneCell']);have I0:(w.alloc (.cells #[.string f,.string g] 146)).heap.size=w.heap.size+1:=by simp
 clear h hn S8
 go_enter func241,ntmps241
 go_wp2_with fail
 go_loopw [5,11] (fun v5 v11 wr=>∃i:Nat,v11= .int .i64 i∧i≤n∧wr.ownsRow (w.heap.size+1) 230 2 v5 i (Cn ((l.take i).map (BQ f.data.toList g.data.toList)))∧CB wr w.heap.size [.string f,.string g]∧Below w.heap.size w wr) (fun _ v11 _=>n - (intOf v11).toNat)
 case atStart=>exact⟨0,rfl,ε,World.ownsRow_nil _ _ _ _,Eo,B0⟩
 case round=>
  clear Eo B0 I0;obtain⟨i,rfl,hi,ν,Eo,hB⟩ :=hrel;obtain⟨av,cv,CX⟩ :=κ ν;subst CX;have K1:=hB.size;have hwl:=Eo.lt
  by_cases Ac:i<n
  ·have AV:(i:Int)<(n:Int):=by omega
   have h0:(0:Int)≤(i:Int):=by omega
   have BN:i<l.length:=by rw[HN.out];exact Ac
   obtain⟨-,ga,o,rfl,hga,hr⟩ :=(HS.out.below hB).at' i BN;have HT:Hid (Cn ((l.take (i+1)).map (BQ f.data.toList g.data.toList))=Cn ((l.take i).map (BQ f.data.toList g.data.toList))++Cn [BQ f.data.toList g.data.toList l[i]]):=by
    show _=_;rw[List.take_add_one,List.getElem?_eq_getElem BN,List.map_append,Cf];rfl
   obtain⟨cx,uh⟩ :∃cx,l[i]=cx:=⟨_,rfl⟩
   rw[uh]at hr HT;obtain⟨x,hx⟩ :∃x:Nat,cx.1.toNat=x:=⟨_,rfl⟩
   have FT:x<256:=by rw[←hx];exact cx.1.toNat_lt
   obtain⟨y,hy⟩ :∃y:Int,cx.2=y:=⟨_,rfl⟩
   have HX:=γ hx;have HY:=γ hy;rw[hx,hy]at hr;have ξ:CB (wr.alloc (.cells #[.int .u8 x,.int .i64 y] 230)) wr.heap.size [.int .u8 x,.int .i64 y]:=CB.new wr _ #[.int .u8 x,.int .i64 y] (by simp[Value.oneCell']);have Bp:=ν.alloc (.cells #[.int .u8 x,.int .i64 y] 230);have GI:=Eo.below ((Below.refl wr.heap.size wr).alloc δ (.cells #[.int .u8 x,.int .i64 y] 230)) Eo.lt;have L0:=hB.alloc K1 (.cells #[.int .u8 x,.int .i64 y] 230);have d0:=GI.c 0 _ rfl;have d1:=GI.c 1 _ rfl;have Ks:w.heap.size<wr.heap.size+1:=by omega
   have VJ:wr.heap.size+1≤(wr.alloc (.cells #[.int .u8 x,.int .i64 y] 230)).heap.size:=by simp
   have hne:(Value.slice av i cv).ownBlock≠some wr.heap.size:=fun e=>by have:=(ν.lt _ e).2;omega
   clear hx hy uh ν Eo hB
   go_wp2_with(refine BX Lz hr rfl rfl _ rfl rfl ?_)
   refine(Ti f cx.1 x _ HX.out hf).mono ?_;rintro e wq ⟨rfl,JE⟩;rw[JE];clear JE;generalize wr.alloc (.cells #[.int .u8 x,.int .i64 y] 230)=W1 at*
   by_cases hp:0≤X0 f.data.toList cx.1∧X0 f.data.toList cx.1<(g.size:Int)
   ·obtain⟨k,hk⟩ :∃k:Nat,X0 f.data.toList cx.1=(k:Int):=⟨(X0 f.data.toList cx.1).toNat,by omega⟩
    have hkg:k<g.size:=by omega
    have hE:=fX f.data.toList g cx k hk hkg;obtain⟨z,hz⟩ :∃z:Nat,g[k].toNat=z:=⟨_,rfl⟩
    have hzc:z<256:=by rw[←hz];exact g[k].toNat_lt
    have Er:Hid (Cn [BQ f.data.toList g.data.toList cx]= [.int .u8 z,.int .i64 (-1)]):=by show _=_;rw[hE,←hz];rfl
    rw[hk];have EW:(0:Int)≤(k:Int):=by omega
    have Ep:(k:Int)<(g.size:Int):=by omega
    clear hp hE hk
    go_wp2_with(first
     | (refine θ Lz ξ rfl rfl _ _ rfl rfl (vs:= [.int .u8 z,.int .i64 (-1)]) rfl rfl (by simp[Value.oneCell']) ?_
        intro w5 BP O5;have BT:=lI Bp O5 hne;have lK:=GI.keep (O5.block _ (by omega)) (by rw[O5.size];exact δ);have aF:=L0.trans (O5.below (B:=w.heap.size) (by omega));have Qk:wr.heap.size+1≤w5.heap.size:=by rw[O5.size];exact VJ)
     |refine ω Lz BP rfl rfl _ rfl rfl ?_
     |refine Bz Jp rfl _ rfl [.int .u8 z,.int .i64 (-1)] rfl rfl ?_
     | (refine A8 Jp (BT.alloc _) w5.heap.size [.int .u8 z,.int .i64 (-1)] (heap_alloc_new w5 _) rfl (by simp[Value.oneCell']) (by omega) (by simp;omega) rfl _ _ rfl rfl rfl ?_
        intro v' w6 Aa AK;have ui:Below (w.heap.size+1) w5 w6:=(ζ.alloc (by omega) _).grown AK (by simp;omega) (fun k hk=>(BT.lt k hk).1);have Eg:=aF.trans (ui.mono (by omega));have lL:=lK.below ui (by omega);obtain⟨NF,JV,CX⟩ :=κ Aa;subst CX;clear AK))
    go_roundw
    case rel=>
     refine⟨i+1,by go_num,by omega,?_,lL,Eg⟩;rw[HT.out,Er.out];exact Aa
    case measure=>simp[intOf]<;>omega
   ·have hE:=fW f.data.toList g.data.toList cx (by rw[Δ];exact hp)
    have Er:Hid (Cn [BQ f.data.toList g.data.toList cx]= [.int .u8 x,.int .i64 y]):=by show _=_;rw[hE,←HX.out,←HY.out];rfl
    generalize X0 f.data.toList cx.1=k at*;have EK:k<0∨(0≤k∧¬k<(g.size:Int)):=by omega
    clear hp hE;rcases EK with EW| ⟨EW,Ep⟩
    ·have Px:¬(0:Int)≤k:=by omega
     go_wp2_with(first
      |refine ω Lz ξ rfl rfl _ rfl rfl ?_
      |refine Bz Jp rfl _ rfl [.int .u8 x,.int .i64 y] rfl rfl ?_
      | (refine A8 Jp (Bp.alloc _) W1.heap.size [.int .u8 x,.int .i64 y] (heap_alloc_new W1 _) rfl (by simp[Value.oneCell']) (by omega) (by simp;omega) rfl _ _ rfl rfl rfl ?_
         intro v' w6 Aa AK;have ui:Below (w.heap.size+1) W1 w6:=(ζ.alloc (by omega) _).grown AK (by simp;omega) (fun k hk=>(Bp.lt k hk).1);have Eg:=L0.trans (ui.mono (by omega));have lL:=GI.below ui (by omega);obtain⟨NF,JV,CX⟩ :=κ Aa;subst CX;clear AK))
     go_roundw
     case rel=>
      refine⟨i+1,by go_num,by omega,?_,lL,Eg⟩;rw[HT.out,Er.out];exact Aa
     case measure=>simp[intOf]<;>omega
    ·go_wp2_with(first
      |refine ω Lz ξ rfl rfl _ rfl rfl ?_
      |refine Bz Jp rfl _ rfl [.int .u8 x,.int .i64 y] rfl rfl ?_
      | (refine A8 Jp (Bp.alloc _) W1.heap.size [.int .u8 x,.int .i64 y] (heap_alloc_new W1 _) rfl (by simp[Value.oneCell']) (by omega) (by simp;omega) rfl _ _ rfl rfl rfl ?_
         intro v' w6 Aa AK;have ui:Below (w.heap.size+1) W1 w6:=(ζ.alloc (by omega) _).grown AK (by simp;omega) (fun k hk=>(Bp.lt k hk).1);have Eg:=L0.trans (ui.mono (by omega));have lL:=GI.below ui (by omega);obtain⟨NF,JV,CX⟩ :=κ Aa;subst CX;clear AK))
     go_roundw
     case rel=>
      refine⟨i+1,by go_num,by omega,?_,lL,Eg⟩;rw[HT.out,Er.out];exact Aa
     case measure=>simp[intOf]<;>omega
  ·obtain rfl:i=n:=by omega
   have AV:¬(i:Int)<(i:Int):=by omega
   rw[List.take_of_length_le (by rw[HN.out];exact δ)]at ν;have ZJ:(l.map (BQ f.data.toList g.data.toList)).length=i:=by rw[List.length_map];exact HN.out
   go_wp2;go_ret;exact⟨_,rfl,by rw[ZJ];exact AH ν (by omega),hB⟩
def uj:Option UInt8→List Value
 |none=> [.bool true,.int .u8 0]
 |some c=> [.bool false,.int .u8 (c.toNat:Int)]
def Ia(w:World)(a:Option Addr)(L:List (Option UInt8)):Prop:=∀k(h:k<L.length),∃g,a=some ⟨g,0,none⟩∧g<w.heap.size∧w.rangeAt g (k*2) (uj L[k])
theorem Ia.keep{w w':World}{a:Option Addr}{L:List (Option UInt8)}(h:Ia w a L)(hs:w.heap.size≤w'.heap.size)(hk:∀g,a=some ⟨g,0,none⟩→g<w.heap.size→w'.heap[g]? =w.heap[g]?):Ia w' a L:=fun k aH=>by
 obtain⟨g,h1,h2,h3⟩ :=h k aH;exact⟨g,h1,by omega,fun j u hu=>(World.cell?_of_block (hk g h1 h2)).trans (h3 j u hu)⟩
theorem Ia.below{w w':World}{a:Option Addr}{L:List (Option UInt8)}(h:Ia w a L)(hb:Below w.heap.size w w'):Ia w' a L:=h.keep hb.size (fun g _ hg=>hb.block g hg)
theorem AAi:EE 274 2:=⟨⟨_,underlying274,rfl⟩,by kernel_rfl⟩
theorem fY(L:List (Option UInt8))(m:List Cl)(i:Nat)(h:i<L.length):Ai (L.take (i+1)) m=Ai (L.take i) m++Ai [L[i]] m:=by
 unfold Ai;rw[List.take_add_one,List.getElem?_eq_getElem h,List.flatMap_append];rfl
theorem X2(L:List (Option UInt8))(m:List Cl):(Ai L m).length≤L.length*(m.length+1):=by
 unfold Ai
 induction L with
 |nil=>simp
 |cons p L ih=>
  rw[List.flatMap_cons,List.length_append,List.length_cons,Nat.add_mul,Nat.one_mul];cases p with
  |none=>simp only;omega
  |some c=>simp only[List.length_singleton];omega
theorem K8(a:Option Addr)(c:Nat)(L:List (Option UInt8))(vm:Value)(m:List Cl)(w:World)(hL:Ia w a L)(hl:L.length≤400)(hm:ψ w vm m)(XX:m.length≤256):
  Calls prog 251 #[.slice a L.length c,vm] w fun e w'=>Rl (Ai L m) w e w':=by
 have HL:=γ hL;have HM:=γ hm;obtain⟨am,cm,rfl,_⟩ :=hm.form;obtain⟨n,hn⟩ :∃n,L.length=n:=⟨_,rfl⟩
 have HN:=γ hn;rw[hn]at hl⊢;clear hL hm hn
 go_enter func251,ntmps251
 go_wp2_with fail
 go_loopw [5,10] (fun v5 v10 wr=>∃(i q:Nat),v10= .int .i64 i∧i≤n∧Hid ((Ai (L.take i) m).length=q)∧q≤i*257∧wr.ownsRow w.heap.size 230 2 v5 q (Cn (Ai (L.take i) m))∧Below w.heap.size w wr) (fun _ v10 _=>n - (intOf v10).toNat)
 case atStart=>exact⟨0,0,rfl,ε,rfl,ε,World.ownsRow_nil _ _ _ _,ζ⟩
 case round=>
  obtain⟨i,q,rfl,hi,HQ,hq,ν,hB⟩ :=hrel;obtain⟨av,cv,CX⟩ :=κ ν;subst CX;have K1:=hB.size
  by_cases Ac:i<n
  ·have AV:(i:Int)<(n:Int):=by omega
   have h0:(0:Int)≤(i:Int):=by omega
   have BN:i<L.length:=by rw[HN.out];exact Ac
   obtain⟨g,rfl,hg,hr⟩ :=(HL.out.below hB) i BN;have HT:=fY L m i BN;cases hp:L[i]with
   |none=>
    rw[hp]at hr HT;have Er:Hid (Ai (L.take (i+1)) m=Ai (L.take i) m++m):=by show _=_;rw[HT];simp[Ai]
    have FV:=(HM.out.below hB).below ((Below.refl wr.heap.size wr).alloc δ (.cells #[.bool true,.int .u8 0] 274));have R1:wr.rangeAt g (i*2) [.bool true,.int .u8 0]:=hr;clear hp HT hr;have Bp:=ν.alloc (.cells #[.bool true,.int .u8 0] 274)
    go_wp2_with(first
     |refine BX AAi R1 rfl rfl _ rfl rfl ?_
     | (refine Le Bp FV (by omega) (by simp;omega) rfl (.tmp 16) (.tmp 17) rfl rfl rfl ?_
        intro v' w6 Aa AK;have Eg:Below w.heap.size w w6:=(hB.alloc (by omega) _).grown AK (by simp;omega) (fun k hk=>(ν.lt k hk).1);obtain⟨NF,JV,CX⟩ :=κ Aa;subst CX;clear AK))
    go_roundw
    case rel=>
     refine⟨i+1,q+m.length,by go_num,by omega,?_,?_,?_,Eg⟩
     ·show _=_;rw[Er.out,List.length_append,HQ.out]
     ·rw[Nat.add_mul];omega
     ·rw[Er.out,Cf];exact Aa
    case measure=>simp[intOf]<;>omega
   |some d=>
    rw[hp]at hr HT;obtain⟨x,hx⟩ :∃x:Nat,d.toNat=x:=⟨_,rfl⟩
    have FT:x<256:=by rw[←hx];exact d.toNat_lt
    have Er:Hid (Ai (L.take (i+1)) m=Ai (L.take i) m++ [(d,-1)]):=by show _=_;rw[HT];simp[Ai]
    have xT:Hid (Cn [(d,(-1:Int))]= [.int .u8 x,.int .i64 (-1)]):=by show _=_;rw[←hx];rfl
    have R1:wr.rangeAt g (i*2) [.bool false,.int .u8 x]:=by rw[←hx];exact hr
    clear hp HT hr hx;have cz:((wr.alloc (.cells #[.bool false,.int .u8 x] 274)).alloc (.cells #[.int .u8 x,.int .i64 (-1)] 230)).heap[wr.heap.size+1]? =some (.cells #[.int .u8 x,.int .i64 (-1)] 230):=by
     have:=heap_alloc_new (wr.alloc (.cells #[.bool false,.int .u8 x] 274)) (.cells #[.int .u8 x,.int .i64 (-1)] 230)
     simpa using this
    go_wp2_with(first
     |refine BX AAi R1 rfl rfl _ rfl rfl ?_
     | (refine A8 Jp ((ν.alloc _).alloc _) (wr.heap.size+1) [.int .u8 x,.int .i64 (-1)] cz rfl (by simp[Value.oneCell']) (by omega) (by simp;omega) rfl (.tmp 19) (.tmp 23) rfl rfl rfl ?_
        intro v' w6 Aa AK;have Eg:Below w.heap.size w w6:=((hB.alloc (by omega) _).alloc (by simp;omega) _).grown AK (by simp;omega) (fun k hk=>(ν.lt k hk).1);obtain⟨NF,JV,CX⟩ :=κ Aa;subst CX;clear AK))
    go_roundw
    case rel=>
     refine⟨i+1,q+1,by go_num,by omega,?_,?_,?_,Eg⟩
     ·show _=_;rw[Er.out,List.length_append,HQ.out];rfl
     ·rw[Nat.add_mul];omega
     ·rw[Er.out,Cf,xT.out];exact Aa
    case measure=>simp[intOf]<;>omega
  ·obtain rfl:i=n:=by omega
   have AV:¬(i:Int)<(i:Int):=by omega
   rw[List.take_of_length_le (by rw[HN.out];exact δ)]at ν HQ;go_wp2;go_ret;exact⟨_,rfl,by rw[HQ.out];exact ν,hB⟩
def Ns(n:Nat):Nat→List (Nat×Nat)→Prop
 |b,[]=>b≤n
 |b,m::ms=>b≤m.1∧m.1≤m.2∧m.2≤n∧Ns n m.2 ms
theorem Ns.mono{n:Nat}:∀{ms:List (Nat×Nat)}{b b':Nat},Ns n b ms→b'≤b→Ns n b' ms
 | [],b,b',h,hb=>Nat.le_trans hb h
 |m::ms,b,b',h,hb=>⟨Nat.le_trans hb h.1,h.2⟩
theorem xZ(E:Nat→Int)(n:Nat)(hE:∀p,E p= -1∨∃q:Nat,E p=q∧p≤q∧q≤n):∀(f i:Nat)(b:Int),i≤n+1→Ns n (min i n) (G8 E n f i b):=by
 intro f
 induction f with
 |zero=>intro i b _;exact Nat.min_le_right _ _
 |succ f ih=>
  intro i b hi;unfold G8
  by_cases h1:i≤n
  ·rw[if_pos h1]
   split
   ·rename_i hc
    rcases hE i with he| ⟨q,he,h2,h3⟩
    ·rw[he]at hc;omega
    ·have e:(E i).toNat=q:=by rw[he];simp
     rw[e];refine⟨by show min i n≤i;omega,h2,h3,?_⟩;exact(ih q (E i) (by omega)).mono (by show q≤min q n;omega)
   ·exact(ih (i+1) b (by omega)).mono (by omega)
  ·rw[if_neg h1];exact Nat.min_le_right _ _
theorem qo(x:Ex)(s:List UInt8):Ns s.length 0 (CP x s):=by
 have:=xZ (Hw x s) s.length (fun p=>by
  rcases Rt x s p with h| ⟨q,h1,h2,h3,_⟩
  ·exact .inl h
  ·exact .inr ⟨q,h1,h2,h3⟩) (2*s.length+3) 0 (-1) ε
 exact this.mono ε
def fZ(L:List (Nat×Nat)):List Value:=(L.map (fun m=> [.int .i64 (m.1:Nat),.int .i64 (m.2:Nat)])).flatten
theorem qp:ZH 288 294 2 16 (.agg #[.int .i64 0,.int .i64 0]):=⟨by kernel_rfl,by kernel_rfl,rfl,by decide,by decide,by decide⟩
theorem lM(L:List (Nat×Nat))(m:Nat×Nat):fZ (L++ [m])=fZ L++ [.int .i64 (m.1:Nat),.int .i64 (m.2:Nat)]:=by simp[fZ]
def xa(x:Ex)(s:ByteArray)(w:World)(e:Ending)(w':World):Prop:=∃v,e= .returned v∧w'.ownsRow w.heap.size 294 2 v (CP x s.data.toList).length (fZ (CP x s.data.toList))∧(CP x s.data.toList).length≤600∧Below w.heap.size w w'
def Wk(n i:Nat)(b:Int):Nat:=2*(n+1 - i)+(if b=(i:Int)then 0 else 1)
theorem qq(n i k:Nat)(b:Int)(hik:i≤k)(Ez:k≤n)(hc:(i:Int)<(k:Int)∨((k:Int)=(i:Int)∧(i:Int)≠b)):Wk n k (k:Int)<Wk n i b:=by
 unfold Wk;rw[if_pos rfl];obtain⟨d,rfl⟩ :∃d,k=i+d:=⟨k - i,by omega⟩
 obtain⟨r,rfl⟩ :∃r,n=i+d+r:=⟨n - (i+d),by omega⟩
 have e1:i+d+r+1 - (i+d)=r+1:=by omega
 have e2:i+d+r+1 - i=d+r+1:=by omega
 rw[e1,e2]
 by_cases e:b=(i:Int)
 ·rw[if_pos e]
  have:0<d:=by omega
  omega
 ·rw[if_neg e];omega
theorem lN(n i:Nat)(b:Int)(h:i≤n):Wk n (i+1) b<Wk n i b:=by
 unfold Wk;obtain⟨r,rfl⟩ :∃r,n=i+r:=⟨n - i,by omega⟩
 have e1:i+r+1 - (i+1)=r:=by omega
 have e2:i+r+1 - i=r+1:=by omega
 rw[e1,e2];have h1:(if b=((i+1:Nat):Int)then 0 else 1)≤1:=by split<;>omega
 generalize(if b=((i+1:Nat):Int)then 0 else 1)=u at*;omega
theorem qw(n i:Nat)(b:Int)(h:i≤n):0<Wk n i b:=by
 unfold Wk;obtain⟨r,rfl⟩ :∃r,n=i+r:=⟨n - i,by omega⟩
 have e2:i+r+1 - i=r+1:=by omega
 rw[e2];omega
theorem lO(E:Nat→Int)(n f i:Nat)(b:Int)(h:i≤n):G8 E n (f+1) i b=if(i:Int)<E i∨(E i=(i:Int)∧(i:Int)≠b)then(i,(E i).toNat)::G8 E n f (E i).toNat (E i)else G8 E n f (i+1) b:=by
 rw[G8,if_pos h]
theorem qy(E:Nat→Int)(n f i:Nat)(b:Int)(h:¬i≤n):G8 E n f i b= []:=by
 cases f with
 |zero=>rfl
 |succ f=>rw[G8,if_neg h]
theorem Tj(hd tl:Bool)(a:Option Addr)(c:Nat)(L:List It)(s:ByteArray)(w:World)(hs:s.size≤256)(hL:L.length≤8192)(Dz:EB w a L):
  Calls prog 247 #[.agg #[.bool hd,.bool tl,.slice a L.length c],.string s] w fun x w'=>xa ⟨hd,tl,L⟩ s w x w':=by
 have Hc:=γ (Δ s);have ξ:Below w.heap.size w (w.alloc (.cells #[.bool hd,.bool tl,.slice a L.length c] 137)):=ζ.alloc δ _;have Eo:CB (w.alloc (.cells #[.bool hd,.bool tl,.slice a L.length c] 137)) w.heap.size [.bool hd,.bool tl,.slice a L.length c]:=CB.new w _ #[.bool hd,.bool tl,.slice a L.length c] (by simp[Value.oneCell']);have I0:(w.alloc (.cells #[.bool hd,.bool tl,.slice a L.length c] 137)).heap.size=w.heap.size+1:=by simp
 go_enter func247,ntmps247
 go_wp2_with(refine ω lF Eo rfl rfl _ rfl rfl ?_)
 refine(Rz hd tl a c L s _ hs hL (Dz.below ξ)).mono ?_;rintro e w2 ⟨⟨g,c',E,rfl,hir,Mp⟩,B2⟩;have QI:=ξ.trans (B2.mono (by omega));have HE:Hid (∀p,p≤s.size→E p=Hw ⟨hd,tl,L⟩ s.data.toList p):=fun p hp=>kz (Mp p hp)
 have pM:=γ hir;have HB:Hid (∀p,p≤s.size→E p= -1∨∃q:Nat,E p=q∧p≤q∧q≤s.size):=fun p hp=>by
  rw[HE.out p hp];rcases Rt ⟨hd,tl,L⟩ s.data.toList p with h| ⟨q,h1,h2,h3,_⟩
  ·exact .inl h
  ·exact .inr ⟨q,h1,h2,by rw[←Hc.out];exact h3⟩
 generalize hX:Hw ⟨hd,tl,L⟩ s.data.toList=EX at HE;have HMT:Hid (CP ⟨hd,tl,L⟩ s.data.toList=G8 EX s.size (2*s.size+3) 0 (-1)):=by show _=_;unfold CP;rw[hX,Hc.out]
 have Rp:=hir.lt;have Fw:=B2.size;clear hX hir Mp Eo Dz ξ B2 Hc;obtain⟨MS,hMS⟩ :∃MS,CP ⟨hd,tl,L⟩ s.data.toList=MS:=⟨_,rfl⟩
 have HMS:=γ hMS;rw[hMS]at HMT;clear hMS;generalize s.size=n at*
 go_wp2_with fail
 go_loopw [5,7,8] (fun v5 v7 v8 wr=>∃(i f:Nat)(b:Int)(R:List (Nat×Nat))(q:Nat),v7= .int .i64 b∧v8= .int .i64 i∧i≤n+1∧ -1≤b∧b≤(n:Int)∧Hid (MS=R++G8 EX n f i b)∧Hid (R.length=q)∧q+f≤2*n+3∧Hid (Wk n i b≤f)∧wr.ownsRow w2.heap.size 294 2 v5 q (fZ R)∧Hid (IR wr g (n+1) E)∧Below w.heap.size w wr∧w2.heap.size≤wr.heap.size) (fun _ v7 v8 _=>Wk n (intOf v8).toNat (intOf v7))
 case atStart=>exact⟨0,2*n+3,-1,[],0,rfl,rfl,ε,by omega,by omega,HMT,rfl,by omega,by show Wk n 0 (-1)≤_;unfold Wk;simp;omega,World.ownsRow_nil _ _ _ _,pM,QI,δ⟩
 case round=>
  obtain⟨i,f,b,R,q,rfl,rfl,S5,Dg,Cq,HR,HQ,hqf,uk,ν,lQ,hB,hsw⟩ :=hrel;obtain⟨av,cv,CX⟩ :=κ ν;subst CX;have Zs:(0:Int)≤(i:Int):=by omega
  have xc:g<wr.heap.size:=by omega
  have K1:w.heap.size+1≤wr.heap.size:=by omega
  have hgo:(Value.slice av q cv).ownBlock≠some g:=fun e=>by have:=(ν.lt g e).1;omega
  by_cases Ac:i≤n
  ·have AV:(i:Int)<(n:Int)+1:=by omega
   have ce:=lQ.out.c i (by omega);have xd:=HB.out i Ac;have hex:=HE.out i Ac;obtain⟨f',hf'⟩ :∃f',f=f'+1:=by
    have h8:=uk.out;have h9:=qw n i b Ac;exact⟨f - 1,by omega⟩
   subst hf';have CR:=lO EX n f' i b Ac;rw[←hex]at CR;have AAj:=uk.out;generalize E i=y at*
   by_cases hc:(i:Int)<y∨(y=(i:Int)∧(i:Int)≠b)
   ·obtain⟨k,hk,hik,Ez⟩ :∃k:Nat,y=k∧i≤k∧k≤n:=by
     rcases xd with h|h
     ·omega
     ·exact h
    subst hk;rw[if_pos hc]at CR;have EA:Hid (MS=(R++ [(i,k)])++G8 EX n f' k (k:Int)):=by show _=_;rw[HR.out,CR,List.append_assoc];simp
    have xe:=γ (qq n i k b hik Ez hc);have lR:Hid (Wk n k (k:Int)≤f'):=by show _≤_;have:=xe.out;omega
    have EK:(i:Int)<(k:Int)∨(¬(i:Int)<(k:Int)∧((k:Int)==(i:Int))=true∧((i:Int) !=b)=true):=by
     by_cases h:(i:Int)<(k:Int)
     ·exact .inl h
     ·rcases hc with h'| ⟨h1,h2⟩
      ·exact absurd h' h
      ·exact .inr ⟨h,by simp[h1],by simpa using h2⟩
    have JU:=γ (lM R (i,k));clear hc CR HR uk AAj xd hex;rcases EK with h1| ⟨h1,h2,h3⟩
    all_goals
     go_wp2_with(first
      |refine Bz qp rfl _ rfl [.int .i64 (i:Nat),.int .i64 (k:Nat)] rfl rfl ?_
      | (refine A8 qp (ν.alloc _) wr.heap.size [.int .i64 (i:Nat),.int .i64 (k:Nat)] (heap_alloc_new wr _) rfl (by simp[Value.oneCell']) (by omega) (by simp;omega) rfl _ _ rfl rfl rfl ?_
         intro v' w6 Aa AK;have OV:w6.heap[g]? =wr.heap[g]? :=by rw[AK.block g (by simp;omega) (fun e=>hgo e.symm),Below.heap_alloc _ _ _ xc]
         have lS:=lQ.out.keep OV (by have:=AK.size;simp at this;omega);have xf:=γ lS;have Eg:Below w.heap.size w w6:=(hB.alloc (by omega) _).grown AK (by simp;omega) (fun k hk=>by have:=(ν.lt k hk).1;omega);have LY:w2.heap.size≤w6.heap.size:=by have:=AK.size;simp at this;omega
         obtain⟨NF,JV,CX⟩ :=κ Aa;subst CX;clear AK OV lS))
     go_roundw
     case rel=>exact⟨k,f',(k:Int),R++ [(i,k)],q+1,rfl,rfl,by omega,by omega,by omega,EA,by show _=_;rw[List.length_append,HQ.out];rfl,by omega,lR,by rw[JU.out];exact Aa,xf,Eg,LY⟩
     case measure=>exact xe.out
   ·have EK:(¬(i:Int)<y∧(y==(i:Int))=false)∨(¬(i:Int)<y∧(y==(i:Int))=true∧((i:Int) !=b)=false):=by
     have h1:¬(i:Int)<y:=fun h=>hc (.inl h)
     by_cases h2:y=(i:Int)
     ·refine .inr ⟨h1,by simp[h2],?_⟩
      by_cases h3:(i:Int)=b
      ·simpa using h3
      ·exact absurd (.inr ⟨h2,h3⟩) hc
     ·exact .inl ⟨h1,by simpa using h2⟩
    rw[if_neg hc]at CR;have EA:Hid (MS=R++G8 EX n f' (i+1) b):=by show _=_;rw[HR.out,CR]
    have xe:=γ (lN n i b Ac);have lR:Hid (Wk n (i+1) b≤f'):=by show _≤_;have:=xe.out;omega
    clear hc CR HR uk AAj xd hex;rcases EK with⟨h1,h2⟩ | ⟨h1,h2,h3⟩
    all_goals
     go_wp2
     go_roundw
     case rel=>exact⟨i+1,f',b,R,q,rfl,by go_num,by omega,Dg,Cq,EA,HQ,by omega,lR,ν,lQ,hB,hsw⟩
     case measure=>exact xe.out
  ·have AV:¬(i:Int)<(n:Int)+1:=by omega
   have HF:Hid (MS=R):=by show _=_;rw[HR.out,qy EX n f i b Ac,List.append_nil]
   clear HR uk;go_wp2;go_ret;refine⟨_,rfl,?_,?_,hB⟩
   ·rw[HMS.out,HF.out,HQ.out];exact AH ν (by omega)
   ·rw[HMS.out,HF.out,HQ.out];omega
end Go.Proofs.YtlppphmnegdhoabGreatDoor
