import Derived.Test.YtlppphmnegdhoabGreatDoorMz12
set_option linter.unusedVariables false
set_option maxRecDepth 100000
set_option maxHeartbeats 1000000
namespace Go.Proofs.YtlppphmnegdhoabGreatDoor
open Go.Proofs.Tryz
open Go.RowKit
open M
def DW:List (Nat×Nat)→Nat→Bool
 | [],d=>d==0
 | (n,_)::t,d=>if n=123 then DW t (d+1)else if n=125 then(if d=0 then false else DW t (d - 1))else DW t d
theorem JG(q:Nat×Nat)(t:List (Nat×Nat))(d:Nat):DW (q::t) d=if q.1=123 then DW t (d+1)else if q.1=125 then(if d=0 then false else DW t (d - 1))else DW t d:=by
 obtain⟨n,l⟩ :=q;rw[DW]
theorem gH(L:List (Nat×List UInt8)):∀d,DW (L.map (fun c=>(c.1,Bv c.2))) d=pJ L d:=by
 induction L with
 |nil=>intro d;rfl
 |cons x L ih=>
  obtain⟨n,s⟩ :=x;intro d;rw[List.map_cons,JG,pJ];show(if n=123 then _ else if n=125 then _ else _)=_;rw[ih,ih,ih]
theorem ABZ:ZH 116 3 1 8 (.int .i64 0):=⟨by kernel_rfl,by kernel_rfl,rfl,by decide,by decide,by decide⟩
structure KD(a:Option Addr)(w w':World):Prop where
 os:w'.os=w.os
 tape:w'.tape=w.tape
 output:w'.output=w.output
 size:w.heap.size≤w'.heap.size
 block:∀k,k<w.heap.size→(∀g,a=some ⟨g,0,none⟩→k≠g)→w'.heap[k]? =w.heap[k]?
theorem KD.refl(a:Option Addr)(w:World):KD a w w:=⟨rfl,rfl,rfl,δ,fun _ _ _=>rfl⟩
theorem KD.trans{a:Option Addr}{x y z:World}(h:KD a x y)(k:KD a y z):KD a x z:=
 ⟨k.os.trans h.os,k.tape.trans h.tape,k.output.trans h.output,Nat.le_trans h.size k.size,fun i hi hg=>(k.block i (Nat.lt_of_lt_of_le hi h.size) hg).trans (h.block i hi hg)⟩
theorem KD.set(g o:Nat)(u:Value)(w:World):KD (some ⟨g,0,none⟩) w (w.setCell ⟨g,o,none⟩ u):=⟨rfl,rfl,rfl,by simp,fun k _ hk=>heap_setCell_other w _ k u (hk g rfl)⟩
theorem Gf.set{w:World}{b g:Nat}{c:Nat}{L:List (Nat×Nat)}(h:Gf w b (some ⟨g,0,none⟩) c L)(j:Nat)(hj:j<L.length)(u:Value):Gf (w.setCell ⟨g,j*25+14,none⟩ u) b (some ⟨g,0,none⟩) c L:=by
 obtain⟨g',e,hp,hg⟩ :∃g',(some ⟨g,0,none⟩ :Option Addr)=some ⟨g',0,none⟩∧N5 w g' L∧g'≠b:=by
  rcases h.row with h0|h0
  ·rw[h0]at hj;simp at hj
  ·exact h0
 simp at e;subst e;exact⟨by simpa using h.lt,by rw[World.cell?_setCell_other _ _ _ _ (fun e=>hg (congrArg Addr.block e))];exact h.c0,.inr ⟨g,rfl,hp.set j hj u,hg⟩,h.ZI⟩
def CZ(L:List (Nat×Nat))(i:Nat)(h:i<L.length):Prop:=(L[i].1=58→Ee L L[i].2=i+1)∧(L[i].1=98∨L[i].1=116→L[i].2≠0→Ee L L[i].2≠0)
def yz(b:Nat)(a:Option Addr)(c:Nat)(L:List (Nat×Nat))(w:World)(e:Ending)(w':World):Prop:=
 ∃r:Bool,e= .returned (.bool r)∧(r=true↔∀i(h:i<L.length),CZ L i h)∧Gf w' b a c L∧KD a w w'
theorem Mw(b:Nat)(a:Option Addr)(c:Nat)(L:List (Nat×Nat))(w:World)(hS:Gf w b a c L):
  Calls prog 92 #[.pointer (some ⟨b,0,none⟩)] w fun e w'=>yz b a c L w e w':=by
 have SD:=hS.ZI;have Vw:=hS.c0;have Bq:=hS.lt;obtain⟨n,hn⟩ :∃n,L.length=n:=⟨_,rfl⟩
 have HN:=γ hn;rw[hn]at Vw SD;have HS:=γ hS;clear hn hS
 go_enter func92,ntmps92
 go_wp2_with fail
 go_loopw [3,4,5,11] (fun _ _ _ v11 wr=>∃i:Nat,i≤n∧v11= .int .i64 i∧Hid (Gf wr b a c L∧KD a w wr)∧Hid (∀j(h:j<L.length),j<i→CZ L j h)) (fun _ _ _ v11 _=>n - (intOf v11).toNat)
 case atStart=>exact⟨0,ε,rfl,⟨HS.out,KD.refl _ _⟩,fun _ _ h=>by omega⟩
 case round=>
  clear Vw Bq HS;obtain⟨i,hi,rfl,HW,HJ⟩ :=hrel;have Vw:=HW.out.1.c0;rw[HN.out]at Vw;have Bq:=HW.out.1.lt
  by_cases Ac:i<n
  ·have AV:(i:Int)<(n:Int):=by omega
   have h0:(0:Int)≤(i:Int):=by omega
   have BN:i<L.length:=by rw[HN.out];exact Ac
   obtain⟨g,rfl,Gz,dJ⟩ :∃g,a=some ⟨g,0,none⟩∧N5 wr g L∧g≠b:=by
    rcases HW.out.1.row with h|h
    ·rw[h]at BN;simp at BN
    ·exact h
   have d1:=Gz.nm i BN;have d2:=Gz.lb i BN;obtain⟨v9,d3⟩ :=Gz.nx i BN;have f3:=Gz.fz i BN;have Rp:=Gz.lt;have e1:=Gz.b1 i BN;have e2:=Gz.b2 i BN;obtain⟨y,hy⟩ :∃y,L[i].1=y:=⟨_,rfl⟩
   obtain⟨z,hz⟩ :∃z,L[i].2=z:=⟨_,rfl⟩
   rw[hy]at d1 e1;rw[hz]at d2 e2;have HY:Hid (L[i].1=y∧L[i].2=z):=⟨hy,hz⟩
   have TH:Hid (CZ L i BN→∀j(h:j<L.length),j<i+1→CZ L j h):=fun hl j h hj=>by
    by_cases e:j=i
    ·subst e;exact hl
    ·exact HJ.out j h (by omega)
   have Pz:Hid (¬CZ L i BN→¬∀j(h:j<L.length),CZ L j h):=fun h hk=>h (hk i BN)
   clear hy hz HJ Gz
   go_wp2_with fail
   refine(IE b _ c z L _ HW.out.1 e2).mono ?_;rintro e wq ⟨rfl,JE⟩;rw[JE];clear JE;obtain⟨q,hq⟩ :∃q,Ee L z=q:=⟨_,rfl⟩
   have HQ:=γ hq;rw[hq];clear hq
   by_cases Ed:y=58
   ·have Vg:((y:Int)==58)=true:=by simp[Ed]
    by_cases QG:q=i+1
    ·have AF5:((q:Int) !=(i:Int)+1)=false:=by simp;omega
     have HL:Hid (CZ L i BN):=⟨fun _=>by rw[HY.out.2,HQ.out];exact QG,fun h=>by have:=HY.out.1;omega⟩
     clear Ed QG;go_wp2
     go_roundw
     case rel=>exact⟨i+1,by omega,by go_num,HW.out,TH.out HL.out⟩
     case measure=>simp[intOf]<;>omega
    ·have AF5:((q:Int) !=(i:Int)+1)=true:=by simp;omega
     have HF:Hid (¬∀j(h:j<L.length),CZ L j h):=Pz.out (fun h=>QG (by rw[←HQ.out,←HY.out.2];exact h.1 (by rw[HY.out.1];exact Ed)));clear Ed QG;go_wp2;go_ret;exact⟨false,rfl,⟨fun h=>Bool.noConfusion h,fun h=>absurd h HF.out⟩,HW.out⟩
   have Vg:((y:Int)==58)=false:=by simp;omega
   by_cases Io:y=98∨y=116
   ·have EK:(((y:Int)==98)=true)∨(((y:Int)==98)=false∧((y:Int)==116)=true):=by
     rcases Io with h|h
     ·exact .inl (by simp[h])
     ·exact .inr (by simp[h])
    have sJ:=γ Io;clear Io Ed
    by_cases DF:z=0
    ·have CN:((z:Int) !=0)=false:=by simp[DF]
     have Dq:((z:Int)==0)=true:=by simp[DF]
     have HL:Hid (CZ L i BN):=⟨fun h=>by have:=HY.out.1;have:=sJ.out;omega,fun _ h=>absurd (by rw[HY.out.2];exact DF) h⟩
     have YJ:Hid (Gf (wr.setCell ⟨g,i*25+14,none⟩ (.int .i64 n)) b (some ⟨g,0,none⟩) c L∧KD (some ⟨g,0,none⟩) w (wr.setCell ⟨g,i*25+14,none⟩ (.int .i64 n))):=⟨HW.out.1.set i BN _,HW.out.2.trans (KD.set _ _ _ _)⟩
     clear DF;rcases EK with ho| ⟨yJ,ie⟩
     all_goals
      go_wp2
      go_roundw
      case rel=>exact⟨i+1,by omega,by go_num,YJ.out,TH.out HL.out⟩
      case measure=>simp[intOf]<;>omega
    ·have CN:((z:Int) !=0)=true:=by simp;omega
     have Dq:((z:Int)==0)=false:=by simp;omega
     by_cases VI:q=0
     ·have Lq:((q:Int)==0)=true:=by simp[VI]
      have HF:Hid (¬∀j(h:j<L.length),CZ L j h):=Pz.out (fun h=>h.2 (by rw[HY.out.1];exact sJ.out) (by rw[HY.out.2];exact DF) (by rw[HY.out.2,HQ.out];exact VI));clear DF VI;rcases EK with ho| ⟨yJ,ie⟩
      all_goals
       go_wp2;go_ret;exact⟨false,rfl,⟨fun h=>Bool.noConfusion h,fun h=>absurd h HF.out⟩,HW.out⟩
     ·have Lq:((q:Int)==0)=false:=by simp;omega
      have HL:Hid (CZ L i BN):=⟨fun h=>by have:=HY.out.1;have:=sJ.out;omega,fun _ _=>by rw[HY.out.2,HQ.out];exact VI⟩
      have YJ:Hid (Gf (wr.setCell ⟨g,i*25+14,none⟩ (.int .i64 q)) b (some ⟨g,0,none⟩) c L∧KD (some ⟨g,0,none⟩) w (wr.setCell ⟨g,i*25+14,none⟩ (.int .i64 q))):=⟨HW.out.1.set i BN _,HW.out.2.trans (KD.set _ _ _ _)⟩
      clear DF VI;rcases EK with ho| ⟨yJ,ie⟩
      all_goals
       go_wp2
       go_roundw
       case rel=>exact⟨i+1,by omega,by go_num,YJ.out,TH.out HL.out⟩
       case measure=>simp[intOf]<;>omega
   have YA:((y:Int)==98)=false:=by simp;omega
   have MA:((y:Int)==116)=false:=by simp;omega
   have HL:Hid (CZ L i BN):=⟨fun h=>by have:=HY.out.1;omega,fun h=>by have:=HY.out.1;omega⟩
   clear Io Ed;go_wp2
   go_roundw
   case rel=>exact⟨i+1,by omega,by go_num,HW.out,TH.out HL.out⟩
   case measure=>simp[intOf]<;>omega
  ·have AV:¬(i:Int)<(n:Int):=by omega
   have HF:Hid (∀j(h:j<L.length),CZ L j h):=fun j h=>HJ.out j h (by rw[HN.out]at h;omega)
   clear HJ;go_wp2;go_ret;exact⟨true,rfl,⟨fun _=>HF.out,fun _=>rfl⟩,HW.out⟩
end Go.Proofs.YtlppphmnegdhoabGreatDoor
namespace Go.Proofs.YtlppphmnegdhoabGreatDoor
open M
theorem qV:∀(n:Nat)(t:List UInt8),At n t≤n:=by
 intro n
 induction n with
 |zero=>intro t;simp[At]
 |succ n ih=>
  intro t
  match t with
  | []=>simp[At]
  |c::t=>
   rw[At];split
   ·have:=ih t;omega
   ·omega
theorem fA:∀(n:Nat)(t:List UInt8),At (n+1) t≤n→At n t=At (n+1) t:=by
 intro n
 induction n with
 |zero=>
  intro t h;have h1:At (0+1) t=0:=by omega
  rw[h1];rfl
 |succ n ih=>
  intro t h
  match t with
  | []=>rfl
  |c::t=>
   rw[At,At]at*;cases hd:DJ c.toNat
   ·rfl
   ·rw[hd]at h
    simp only[if_true]at h⊢;rw[ih t (by omega)]
theorem fB:∀(n:Nat)(t:List UInt8),n<At (n+1) t→At n t=n∧∃c r,t.drop n=c::r∧DJ c.toNat=true:=by
 intro n
 induction n with
 |zero=>
  intro t h
  match t with
  | []=>simp[At]at h
  |c::t=>
   cases hd:DJ c.toNat
   ·rw[At,hd]at h;simp at h
   ·exact⟨rfl,c,t,rfl,hd⟩
 |succ n ih=>
  intro t h
  match t with
  | []=>simp[At]at h
  |c::t=>
   cases hd:DJ c.toNat
   ·rw[At,hd]at h;simp at h
   ·rw[At,hd]at h
    simp only[if_true]at h;obtain⟨h1,c2,r2,h2,h3⟩ :=ih t (by omega);exact⟨by rw[At,hd,if_pos rfl,h1],c2,r2,by rw[List.drop_succ_cons];exact h2,h3⟩
theorem kO(k k' nm:Nat)(t:List UInt8)(h:k≠0)(h':k'≠0):AF k nm t=AF k' nm t:=by
 unfold AF;rw[decide_eq_false h,decide_eq_false h']
theorem cj(k k':Nat)(t:List UInt8)(h:k≠0)(h':k'≠0):Cz k t=Cz k' t:=by
 match t with
 | []=>rfl
 |c::r=>show(if AF k c.toNat r then _ else _)=if AF k' c.toNat r then _ else _;rw[kO k k' _ _ h h']
theorem Nh(k:Nat)(c:UInt8)(r:List UInt8)(h:DJ c.toNat=true∨c.toNat=47∨c.toNat=44):Cz k (c::r)=none:=by
 have hd:c.toNat≤57∧44≤c.toNat:=by
  rcases h with h|h |h
  ·have:48≤c.toNat∧c.toNat≤57:=by simpa[DJ]using h
   omega
  ·omega
  ·omega
 have:AF k c.toNat r=false:=by
  unfold AF;rw[if_neg (by omega),if_neg (by omega),if_neg (by omega),if_neg (by omega),if_neg (by omega)];have:Kr.any (fun d=>d.toNat==c.toNat)=false:=by
   simp only[Kr,List.any_cons,List.any_nil,Bool.or_false];simp;omega
  rw[this];rfl
 show(if AF k c.toNat r then _ else none)=none;rw[this];rfl
theorem VN(c:UInt8)(r:List UInt8)(h:DJ c.toNat=true∨c.toNat=47∨c.toNat=44):Kt (c::r)=c::r:=by
 unfold Kt;have:CH (c::r) 33=false:=by
  show(c.toNat==33)=false;rcases h with h|h |h
  ·have:48≤c.toNat∧c.toNat≤57:=by simpa[DJ]using h
   simp;omega
  ·simp;omega
  ·simp;omega
 rw[this];rfl
theorem Rc(t:List UInt8):(Bu t=some (0,t)∧KB t=none)∨(∃k t1,k≠0∧Bu t=some (k,t1)∧KB t=some (k,t1))∨(Bu t=none∧((KB t=none∧∃c r,t=c::r∧c.toNat=47)∨∃c r,KB t=some (1,c::r)∧DJ c.toNat=true)):=by
 match t with
 | []=>exact .inl ⟨rfl,rfl⟩
 |c::r=>
  have hP:KB (c::r)=if c.toNat==36 then some (2,r)else if c.toNat==47 then I5 (Ψ r)else if 0<FW (c::r)then some (1,(c::r).drop (FW (c::r)))else none:=rfl
  by_cases Jk:c.toNat=36
  ·right;left
   refine⟨2,r,by decide,by rw[Bu,if_pos Jk],by rw[hP,if_pos (by simpa using Jk)]⟩
  ·by_cases Fa:c.toNat=47
   ·have e1:Bu (c::r)=I5 (Ψ r):=by rw[Bu,if_neg Jk,if_pos Fa]
    have e2:KB (c::r)=I5 (Ψ r):=by rw[hP,if_neg (by simpa using Jk),if_pos (by simpa using Fa)]
    cases hb:I5 (Ψ r)with
    |none=>exact .inr (.inr ⟨by rw[e1,hb],.inl ⟨by rw[e2,hb],c,r,rfl,Fa⟩⟩)
    |some p=>
     obtain⟨k,t1⟩ :=p;have hk:k≠0:=by
      cases hu:Ψ r with
      |none=>rw[hu]at hb;cases hb
      |some q=>
       rw[hu,I5]at hb;split at hb
       ·simp at hb;omega
       ·cases hb
     exact .inr (.inl ⟨k,t1,hk,by rw[e1,hb],by rw[e2,hb]⟩)
   ·have e1:Bu (c::r)=if CG c.toNat then(if 4<At 5 (c::r)then none else some (1,(c::r).drop (At 5 (c::r))))else some (0,c::r):=by rw[Bu,if_neg Jk,if_neg Fa]
    have e2:KB (c::r)=if 0<FW (c::r)then some (1,(c::r).drop (FW (c::r)))else none:=by rw[hP,if_neg (by simpa using Jk),if_neg (by simpa using Fa)]
    have hn:FW (c::r)=if CG c.toNat then At 4 (c::r)else 0:=rfl;cases hp:CG c.toNat
    all_goals
     rw[hp]at e1 hn
    ·have TZ:FW (c::r)=0:=hn
     exact .inl ⟨e1,by rw[e2,TZ];rfl⟩
    ·have TZ:FW (c::r)=At 4 (c::r):=hn
     simp only[if_true]at e1;have hd:DJ c.toNat=true:=by
      have:49≤c.toNat∧c.toNat≤57:=by simpa[CG]using hp
      simp[DJ];omega
     have h1:0<At 4 (c::r):=by rw[At,hd,if_pos rfl];omega
     by_cases h5:4<At 5 (c::r)
     ·obtain⟨g1,c2,r2,g2,g3⟩ :=fB 4 (c::r) h5
      rw[if_pos h5]at e1;exact .inr (.inr ⟨e1,.inr ⟨c2,r2,by rw[e2,TZ,if_pos h1,g1,g2],g3⟩⟩)
     ·rw[if_neg h5]at e1
      have:=fA 4 (c::r) (by show At 5 (c::r)≤4;omega);exact .inr (.inl ⟨1,_,by decide,e1,by rw[e2,TZ,if_pos h1,this]⟩)
def xD(t:List UInt8):Option (Nat×List UInt8):=Cz (QM t).1 (QM t).2
theorem kP(t:List UInt8):xD t=EH t:=by
 unfold xD EH;rcases Rc t with⟨h1,h2⟩ | ⟨k,t1,hk,h1,h2⟩ | ⟨h1,⟨h2,c,r,rfl,hc⟩ | ⟨c,r,h2,hc⟩⟩
 ·have hb:QM t=(0,t):=by unfold QM;rw[h2]
  rw[hb,h1];show Cz 0 t=Zz 0 (Mi 0 t);have e1:Mi 0 t=some t:=by unfold Mi;rw[if_neg (by simp)]
  have e2:M.notM 0 t=t:=by unfold M.notM;rw[if_neg (by simp)]
  rw[e1];show Cz 0 t=Cz 0 (M.notM 0 t);rw[e2]
 ·have hb:QM t=((KO t1).1,Kt (KO t1).2):=by unfold QM;rw[h2]
  rw[hb,h1];show Cz (KO t1).1 (Kt (KO t1).2)=Zz k (Mi k t1);have hex:∀u,M.notM k u=Kt u:=fun u=>by
   unfold M.notM Kt;cases CH u 33
   ·rw[if_neg (by simp)];rfl
   ·rw[if_pos ⟨hk,rfl⟩];rfl
  cases Z5:CH t1 44
  ·have e1:Mi k t1=some t1:=by unfold Mi;rw[Z5,if_neg (by simp)]
   have e2:KO t1=(1,t1):=by unfold KO;rw[Z5];rfl
   rw[e1,e2];show Cz 1 (Kt t1)=Cz k (M.notM k t1);rw[hex,cj 1 k _ (by decide) hk]
  ·have e1:Mi k t1=eo (Bu (t1.drop 1)):=by unfold Mi;rw[Z5,if_pos ⟨hk,rfl⟩]
   have e2:KO t1=match KB (t1.drop 1)with|none=>(1,t1) |some p=>(2,p.2):=by unfold KO;rw[Z5];rfl
   obtain⟨d,v,iZ,qW⟩ :∃d v,t1=d::v∧d.toNat=44:=by
    match t1,Z5 with
    |d::v,Z5=>exact⟨d,v,rfl,by simpa[CH]using Z5⟩
   rw[e1];rcases Rc (t1.drop 1)with⟨g1,g2⟩ | ⟨k2,t2,Ep,g1,g2⟩ | ⟨g1,⟨g2,_⟩ | ⟨c2,r2,g2,ib⟩⟩
   all_goals
    rw[e2,g1,g2]
   ·show Cz 1 (Kt t1)=none
    rw[iZ,VN d v (.inr (.inr qW)),Nh 1 d v (.inr (.inr qW))]
   ·have e3:eo (some (k2,t2))=some t2:=by rw[eo,if_neg Ep]
    rw[e3];show Cz 2 (Kt t2)=Cz k (M.notM k t2);rw[hex,cj 2 k _ (by decide) hk]
   ·show Cz 1 (Kt t1)=none
    rw[iZ,VN d v (.inr (.inr qW)),Nh 1 d v (.inr (.inr qW))]
   ·show Cz 2 (Kt (c2::r2))=none
    rw[VN c2 r2 (.inl ib),Nh 2 c2 r2 (.inl ib)]
 ·have hb:QM (c::r)=(0,c::r):=by unfold QM;rw[h2]
  rw[hb,h1];exact Nh 0 c r (.inr (.inl hc))
 ·have hb:QM t=((KO (c::r)).1,Kt (KO (c::r)).2):=by unfold QM;rw[h2]
  have hs:KO (c::r)=(1,c::r):=by
   unfold KO;have:CH (c::r) 44=false:=by
    show(c.toNat==44)=false;have:48≤c.toNat∧c.toNat≤57:=by simpa[DJ]using hc
    simp;omega
   rw[this];rfl
  rw[hb,h1,hs];show Cz 1 (Kt (c::r))=none;rw[VN c r (.inl hc),Nh 1 c r (.inl hc)]
def ZM(tl:Bool)(l:List It)(s:List UInt8)(k p:Nat)(e:Int):Prop:=
 (e= -1∧∀q,q≤s.length→FX tl l s q k p=false)∨∃q:Nat,q≤s.length∧e=q∧FX tl l s q k p=true∧∀q',q<q'→q'≤s.length→FX tl l s q' k p=false
theorem F5(tl:Bool)(l:List It)(s:List UInt8)(q k p:Nat)(h:q<p):FX tl l s q k p=false:=by
 unfold FX;rw[decide_eq_false (by omega)];rfl
theorem qi(tl:Bool)(l:List It)(s:List UInt8)(p:Nat)(hp:p≤s.length):ZM tl l s l.length p (if tl=true∧p<s.length then -1 else(p:Int)):=by
 by_cases h:tl=true∧p<s.length
 ·rw[if_pos h]
  refine .inl ⟨rfl,fun q hq=> ?_⟩;rw[Qs tl l s q p hq,h.1]
  by_cases e:p=q
  ·subst e;simp;omega
  ·simp[e]
 ·rw[if_neg h]
  refine .inr ⟨p,hp,rfl,?_,fun q' h1 h2=> ?_⟩
  ·rw[Qs tl l s p p hp]
   cases tl
   ·simp
   ·have:p=s.length:=by
     by_cases e:p<s.length
     ·exact absurd ⟨rfl,e⟩ h
     ·omega
    simp[this]
  ·rw[Qs tl l s q' p h2,decide_eq_false (by omega)];rfl
theorem Qt(tl:Bool)(l:List It)(s:List UInt8)(q k p:Nat)(hk:k<l.length)(hs:l[k].star=false)(hp:p<s.length)(hq:q≤s.length):FX tl l s q k p=(Fe l[k] s[p].toNat && FX tl l s q (k+1) (p+1)):=by
 have e:s.getD p 0=s[p]:=by rw[List.getD_eq_getElem?_getD,List.getElem?_eq_getElem hp];rfl
 by_cases h:p≤q
 ·rw[K5 tl l s q k p hk hq h,hs,e]
  by_cases h2:p<q
  ·simp[h2]
  ·rw[F5 tl l s q (k+1) (p+1) (by omega)];simp
 ·rw[F5 tl l s q k p (by omega),F5 tl l s q (k+1) (p+1) (by omega)];simp
theorem Xt(tl:Bool)(l:List It)(s:List UInt8)(q k:Nat)(hk:k<l.length)(hs:l[k].star=false)(hq:q≤s.length):FX tl l s q k s.length=false:=by
 by_cases h:s.length≤q
 ·rw[K5 tl l s q k s.length hk hq h,hs,decide_eq_false (by omega)];simp
 ·exact F5 tl l s q k s.length (by omega)
theorem Xu(tl:Bool)(l:List It)(s:List UInt8)(q k p:Nat)(hk:k<l.length)(hs:l[k].star=true)(hp:p<s.length)(hq:q≤s.length):FX tl l s q k p=(FX tl l s q (k+1) p || (Fe l[k] s[p].toNat && FX tl l s q k (p+1))):=by
 have e:s.getD p 0=s[p]:=by rw[List.getD_eq_getElem?_getD,List.getElem?_eq_getElem hp];rfl
 by_cases h:p≤q
 ·rw[K5 tl l s q k p hk hq h,hs,e]
  by_cases h2:p<q
  ·simp[h2]
  ·rw[F5 tl l s q k (p+1) (by omega)];simp
 ·rw[F5 tl l s q k p (by omega),F5 tl l s q k (p+1) (by omega),F5 tl l s q (k+1) p (by omega)];simp
theorem Jq(tl:Bool)(l:List It)(s:List UInt8)(q k:Nat)(hk:k<l.length)(hs:l[k].star=true)(hq:q≤s.length):FX tl l s q k s.length=FX tl l s q (k+1) s.length:=by
 by_cases h:s.length≤q
 ·rw[K5 tl l s q k s.length hk hq h,hs,decide_eq_false (show¬s.length<q by omega)];simp
 ·rw[F5 tl l s q k s.length (by omega),F5 tl l s q (k+1) s.length (by omega)]
theorem qj(tl:Bool)(l:List It)(s:List UInt8)(k p:Nat)(e:Int)(hk:k<l.length)(hs:l[k].star=false)(hp:p<s.length)(h:ZM tl l s (k+1) (p+1) e):ZM tl l s k p (if Fe l[k] s[p].toNat then e else -1):=by
 cases hh:Fe l[k] s[p].toNat
 ·exact .inl ⟨rfl,fun q hq=>by rw[Qt tl l s q k p hk hs hp hq,hh];rfl⟩
 ·simp only[if_true]
  rcases h with⟨rfl,h⟩ | ⟨q,hq,rfl,h1,h2⟩
  ·exact .inl ⟨rfl,fun q hq=>by rw[Qt tl l s q k p hk hs hp hq,h q hq,Bool.and_false]⟩
  ·exact .inr ⟨q,hq,rfl,by rw[Qt tl l s q k p hk hs hp hq,hh,h1];rfl,fun q' hl PE=>by rw[Qt tl l s q' k p hk hs hp PE,h2 q' hl PE,Bool.and_false]⟩
theorem Xv(tl:Bool)(l:List It)(s:List UInt8)(k:Nat)(hk:k<l.length)(hs:l[k].star=false):ZM tl l s k s.length (-1):=
 .inl ⟨rfl,fun q hq=>Xt tl l s q k hk hs hq⟩
theorem ku(tl:Bool)(l:List It)(s:List UInt8)(k p:Nat)(e1 e2:Int)(hk:k<l.length)(hs:l[k].star=true)(hp:p<s.length)(h:ZM tl l s (k+1) p e1)(g:ZM tl l s k (p+1) e2):ZM tl l s k p (if Fe l[k] s[p].toNat=true∧e1<e2 then e2 else e1):=by
 cases hh:Fe l[k] s[p].toNat
 ·rw[if_neg (by simp)]
  have e:∀q,q≤s.length→FX tl l s q k p=FX tl l s q (k+1) p:=fun q hq=>by rw[Xu tl l s q k p hk hs hp hq,hh];simp
  rcases h with⟨rfl,h⟩ | ⟨q,hq,rfl,h1,h2⟩
  ·exact .inl ⟨rfl,fun q hq=>by rw[e q hq];exact h q hq⟩
  ·exact .inr ⟨q,hq,rfl,by rw[e q hq];exact h1,fun q' hl PE=>by rw[e q' PE];exact h2 q' hl PE⟩
 ·have e:∀q,q≤s.length→FX tl l s q k p=(FX tl l s q (k+1) p || FX tl l s q k (p+1)):=fun q hq=>by rw[Xu tl l s q k p hk hs hp hq,hh];simp
  rcases h with⟨rfl,h⟩ | ⟨q,hq,rfl,h1,h2⟩ <;>rcases g with⟨rfl,g⟩ | ⟨r,hr,rfl,g1,g2⟩
  ·rw[if_neg (by omega)]
   exact .inl ⟨rfl,fun q hq=>by rw[e q hq,h q hq,g q hq];rfl⟩
  ·rw[if_pos ⟨rfl,by omega⟩]
   exact .inr ⟨r,hr,rfl,by rw[e r hr,g1,Bool.or_true],fun q' hl PE=>by rw[e q' PE,h q' PE,g2 q' hl PE];rfl⟩
  ·rw[if_neg (by omega)]
   exact .inr ⟨q,hq,rfl,by rw[e q hq,h1];rfl,fun q' hl PE=>by rw[e q' PE,h2 q' hl PE,g q' PE];rfl⟩
  ·by_cases Ac:q<r
   ·rw[if_pos ⟨rfl,by omega⟩]
    exact .inr ⟨r,hr,rfl,by rw[e r hr,g1,Bool.or_true],fun q' hl PE=>by rw[e q' PE,h2 q' (by omega) PE,g2 q' hl PE];rfl⟩
   ·rw[if_neg (by omega)]
    exact .inr ⟨q,hq,rfl,by rw[e q hq,h1];rfl,fun q' hl PE=>by rw[e q' PE,h2 q' hl PE,g2 q' (by omega) PE];rfl⟩
theorem VY(tl:Bool)(l:List It)(s:List UInt8)(k:Nat)(e:Int)(hk:k<l.length)(hs:l[k].star=true)(h:ZM tl l s (k+1) s.length e):ZM tl l s k s.length e:=by
 rcases h with⟨rfl,h⟩ | ⟨q,hq,rfl,h1,h2⟩
 ·exact .inl ⟨rfl,fun q hq=>by rw[Jq tl l s q k hk hs hq];exact h q hq⟩
 ·exact .inr ⟨q,hq,rfl,by rw[Jq tl l s q k hk hs hq];exact h1,fun q' hl PE=>by rw[Jq tl l s q' k hk hs PE];exact h2 q' hl PE⟩
theorem Rs(x:Ex)(s:List UInt8)(i j:Nat)(hj:j≤s.length):AP x s i j=((!x.head || decide (i=0)) && FX x.tail x.l s j 0 i):=by
 unfold AP FX;rw[List.drop_zero,decide_eq_true hj];cases decide (i≤j)<;>cases(!x.head || decide (i=0))<;>cases(!x.tail || decide (j=s.length))<;>rfl
theorem K6(x:Ex)(s:List UInt8)(i j:Nat)(hj:s.length<j):AP x s i j=false:=by
 unfold AP;rw[decide_eq_false (show¬j≤s.length by omega)];simp
def Pv(x:Ex)(s:List UInt8)(p:Nat)(e:Int):Prop:=
 (e= -1∧∀q,AP x s p q=false)∨∃q:Nat,e=q∧AP x s p q=true∧∀q',q<q'→AP x s p q'=false
theorem kv(x:Ex)(s:List UInt8)(p:Nat)(e:Int)(hp:x.head=false∨p=0)(h:ZM x.tail x.l s 0 p e):Pv x s p e:=by
 have ht:(!x.head || decide (p=0))=true:=by
  rcases hp with h|h<;>simp[h]
 have e1:∀q,q≤s.length→AP x s p q=FX x.tail x.l s q 0 p:=fun q hq=>by rw[Rs x s p q hq,ht];rfl
 rcases h with⟨rfl,h⟩ | ⟨q,hq,rfl,h1,h2⟩
 ·refine .inl ⟨rfl,fun q=> ?_⟩
  by_cases hq:q≤s.length
  ·rw[e1 q hq];exact h q hq
  ·exact K6 x s p q (by omega)
 ·refine .inr ⟨q,rfl,by rw[e1 q hq];exact h1,fun q' hl=> ?_⟩
  by_cases PE:q'≤s.length
  ·rw[e1 q' PE];exact h2 q' hl PE
  ·exact K6 x s p q' (by omega)
theorem kx(x:Ex)(s:List UInt8)(p:Nat)(hx:x.head=true)(hp:p≠0):Pv x s p (-1):=by
 refine .inl ⟨rfl,fun q=> ?_⟩
 by_cases hq:q≤s.length
 ·rw[Rs x s p q hq,hx,decide_eq_false hp];rfl
 ·exact K6 x s p q (by omega)
def sK(L:List (Nat×List UInt8)):Prop:=∀c∈L,(c.1=58→Cc c.2=true)∧(c.1=98∨c.1=116→c.2= []∨Cc c.2=true)
def FZ(L:List (Nat×List UInt8)):List (Nat×Nat):=L.map (fun c=>(c.1,Bv c.2))
theorem SE(t:List UInt8)(h:Cc t=true):∃c,t= [c]∧Bv t=c.toNat∧97≤c.toNat:=by
 match t,h with
 | [c],h=>
   refine⟨c,rfl,by simp[Bv,h],?_⟩;simp[Cc]at h;omega
theorem mb(s t:List UInt8)(hs:Cc s=true)(ht:Cc t=true):Bv s=Bv t↔s=t:=by
 obtain⟨c,rfl,h1,_⟩ :=SE s hs;obtain⟨d,rfl,h2,_⟩ :=SE t ht;rw[h1,h2]
 constructor
 ·intro e;rw[UInt8.toNat_inj.1 e]
 ·intro e;simp at e;rw[e]
theorem gI(s:List UInt8):∀(M:List (Nat×List UInt8)),BD M s≠some 0
 | []=>fun h=>by cases h
 | (n2,l2)::M=>fun h=>by
   rw[BD]at h;split at h
   ·simp at h
   ·cases hm:BD M s with
    |none=>rw[hm]at h;simp at h
    |some r=>rw[hm]at h;simp at h
theorem PL(s:List UInt8)(L:List (Nat×List UInt8)):(BD L s).getD 0=0↔BD L s=none:=by
 cases pF:BD L s with
 |none=>simp
 |some r=>
  have hr:r≠0:=fun e=>gI s L (by rw[pF,e])
  constructor
  ·intro h;exact absurd h hr
  ·intro h;cases h
theorem SF(L:List (Nat×List UInt8))(hv:sK L)(s:List UInt8)(hs:Cc s=true):Ee (FZ L) (Bv s)=(BD L s).getD 0:=by
 induction L with
 |nil=>rfl
 |cons x L ih=>
  obtain⟨n,l⟩ :=x;have ih:=ih (fun c hc=>hv c (by simp[hc]));have hx:=hv (n,l) (by simp);show Ee ((n,Bv l)::FZ L) (Bv s)=_;rw[PK,BD];have Il:(n=58∧Bv l=Bv s)↔(n=58∧l=s):=
   and_congr_right fun Ed=>mb l s (hx.1 Ed) hs
  show(if n=58∧Bv l=Bv s then 1 else if Ee (FZ L) (Bv s)=0 then 0 else Ee (FZ L) (Bv s)+1)=_;rw[ih]
  by_cases hc:n=58∧l=s
  ·have ib:=Il.2 hc
   rw[if_pos ib,if_pos hc];rfl
  ·have ib:¬(n=58∧Bv l=Bv s):=fun h=>hc (Il.1 h)
   rw[if_neg ib,if_neg hc]
   by_cases h0:(BD L s).getD 0=0
   ·rw[if_pos h0,(PL s L).1 h0];rfl
   ·rw[if_neg h0]
    cases pF:BD L s with
    |none=>exact absurd ((PL s L).2 pF) h0
    |some r=>rfl
theorem gJ(L:List (Nat×List UInt8))(hv:sK L):(∀i(h:i<(FZ L).length),CZ (FZ L) i h)↔kH L:=by
 have hlen:(FZ L).length=L.length:=by simp[FZ]
 have N3:∀i(h:i<(FZ L).length),(FZ L)[i]=(L[i].1,Bv L[i].2):=fun i h=>by simp[FZ]
 have key:∀i(h:i<(FZ L).length),CZ (FZ L) i h↔((L[i].1=58→BD L L[i].2=some (i+1))∧(L[i].1=98∨L[i].1=116→L[i].2≠ []→BD L L[i].2≠none)):=fun i h=>by
  have BN:i<L.length:=by rw[hlen]at h;exact h
  have hx:=hv L[i] (List.getElem_mem _);unfold CZ;rw[N3 i h];refine and_congr ?_ ?_
  ·refine imp_congr_right fun Ed=> ?_
   rw[SF L hv _ (hx.1 Ed)];cases BD L L[i].2 with
   |none=>simp
   |some r=>simp
  ·refine imp_congr_right fun Io=> ?_
   rcases hx.2 Io with he|hl
   ·have h0:Bv L[i].2=0:=by rw[he];rfl
    exact⟨fun _ h=>absurd he h,fun _ h=>absurd h0 h⟩
   ·obtain⟨c,hc,hb,im⟩ :=SE _ hl
    have h1:Bv L[i].2≠0:=by omega
    have h2:L[i].2≠ []:=by rw[hc];simp
    rw[SF L hv _ hl];have h3:(BD L L[i].2).getD 0≠0↔BD L L[i].2≠none:=by
     exact not_congr (PL _ L)
    constructor
    ·intro h _;exact h3.1 (h h1)
    ·intro h _;exact h3.2 (h h2)
 unfold kH
 constructor
 all_goals
  intro h i hi
 ·exact(key i (by rw[hlen];exact hi)).1 (h i (by rw[hlen];exact hi))
 ·exact(key i hi).2 (h i (by rw[hlen]at hi;exact hi))
theorem mg(t:List UInt8)(c:Nat×List UInt8)(h:EH t=some c):(c.1=58→Cc c.2=true)∧(c.1=98∨c.1=116→c.2= []∨Cc c.2=true):=by
 have main:∀k u,Cz k u=some c→(c.1=58→Cc c.2=true)∧(c.1=98∨c.1=116→c.2= []∨Cc c.2=true):=fun k u hn=>by
  match u with
  | []=>cases hn
  |d::r=>
   rw[Cz]at hn;split at hn
   ·rename_i ha
    simp only[Option.some.injEq]at hn;subst hn;simp only;refine⟨fun Ed=> ?_,fun Io=> ?_⟩
    ·rw[Ed]at ha
     have hl:labelled d.toNat=true:=by rw[Ed];rfl
     rw[hl];have:(decide (k=0) && Cc r)=true:=ha;simp only[if_true];rw[Bool.and_eq_true]at this;exact this.2
    ·have hl:labelled d.toNat=true:=by rcases Io with h|h<;>rw[h]<;>rfl
     rw[hl];simp only[if_true];have:(r.isEmpty || Cc r)=true:=by
      rcases Io with h|h<;>rw[h]at ha<;>exact ha
     rw[Bool.or_eq_true,List.isEmpty_iff]at this;exact this
   ·cases hn
 unfold EH at h;cases ha:Bu t with
 |none=>rw[ha]at h;cases h
 |some p=>
  rw[ha]at h;cases hs:Mi p.1 p.2 with
  |none=>
   have h9:Zz p.1 (Mi p.1 p.2)=some c:=h;rw[hs]at h9;cases h9
  |some u=>
   have h9:Zz p.1 (Mi p.1 p.2)=some c:=h;rw[hs]at h9;exact main p.1 _ h9
theorem P2(L:List (Nat×List UInt8))(hv:sK L):Cd L↔(DW (FZ L) 0=true∧∀i(h:i<(FZ L).length),CZ (FZ L) i h):=by
 unfold Cd;rw[gJ L hv];have:DW (FZ L) 0=pJ L 0:=gH L 0;rw[this]
theorem bF(u:List UInt8):∀acc,(∀c∈u,c.toNat≠10)→AR acc u=if acc++u= []then []else [acc++u]:=by
 induction u with
 |nil=>intro acc _;rw[AR,List.append_nil]
 |cons c u ih=>
  intro acc h;have hc:=h c (by simp);rw[AR,if_neg hc,ih (acc++ [c]) (fun d hd=>h d (by simp[hd]))];rw[List.append_assoc,List.singleton_append]
theorem mh(u:List UInt8)(d:UInt8)(hd:d.toNat=10)(r:List UInt8):∀acc,(∀c∈u,c.toNat≠10)→AR acc (u++d::r)=if acc++u= []then AR [] r else(acc++u)::AR [] r:=by
 induction u with
 |nil=>intro acc _;rw[List.nil_append,AR,if_pos hd,List.append_nil]
 |cons c u ih=>
  intro acc h;have hc:=h c (by simp);rw[List.cons_append,AR,if_neg hc,ih (acc++ [c]) (fun d hd=>h d (by simp[hd]))];rw[List.append_assoc,List.singleton_append]
theorem PM:∀(M:List (List UInt8))(L:List (Nat×List UInt8)),CW M=some L→sK L
 | [],L,h=>by
   rw[CW]at h;cases h;intro c hc;cases hc
 |u::M,L,h=>by
  rw[CW]at h;cases hu:EH u with
  |none=>rw[hu]at h;cases h
  |some c=>
   cases hm:CW M with
   |none=>rw[hu,hm]at h;cases h
   |some l=>
    rw[hu,hm]at h;have h:c::l=L:=by simpa using h
    subst h;intro x hx;rcases List.mem_cons.1 hx with rfl|hx
    ·exact mg u x hu
    ·exact PM M l hm x hx
end Go.Proofs.YtlppphmnegdhoabGreatDoor
namespace Go.Proofs.YtlppphmnegdhoabGreatDoor
namespace M
namespace St
theorem Xe(S:St)(t:ByteArray)(c:Bool):(S.ext t c).Aq=S.Aq.ext t c:=by
 have e:(S.ext t c).Aq=(if S.asks=2 then(({S with asks:=0}:St).ext t c).Ar else({S with asks:=0}:St).ext t c).φ:=rfl;rw[e,Ow];unfold Aq;split
 ·rw[FE]
 ·rw[FE]
theorem kV(S:St)(u:ByteArray)(c:Bool)(h:S.Bj<S.text.size):(S.ext (S.text++u) c).take=S.take.ext (S.text++u) c:=by
 have el:(S.ext (S.text++u) c).Dv=S.Dv:=by unfold Dv;rw[fE S u c h];rfl
 rw[IA,IA S,el,Xe,kU S u c h];generalize S.text++u=t;have e5:∀n,(S.ext t c).fits n=S.fits n:=fun _=>rfl
 rw[e5];split<;>rfl
theorem fJ(S:St):S.took.text=S.text∧S.took.closed=S.closed∧S.took.behind=if S.Bj<S.text.size then S.Bj+1 else S.Bj:=by
 unfold took;split<;>simp
theorem I8(S:St):S.take.text=S.text∧S.take.closed=S.closed∧S.take.behind=(if S.Bj<S.text.size then S.Bj+1 else S.Bj)∧S.take.cs=S.cs∧S.take.room=S.room∧S.take.quiet=S.quiet∧S.take.line=S.line+1:=by
 rw[IA];have h:Dl S S.Aq:=by
  unfold Aq;have h0:Dl S {S with asks:=0}:=⟨rfl,rfl,rfl,rfl,rfl,rfl,rfl,rfl⟩
  exact Dl.trans (.ite (fun _=>h0.trans (El _)) (fun _=>h0)) (Ch _)
 have hb:=(fJ S).2.2;split
 all_goals
  exact⟨h.text,h.closed,hb,h.cs,h.room,h.quiet,rfl⟩
theorem Z9(S:St)(h:uY S)(ha:S.asks≠0)(hs:S.still=false):S.Bj+2≤S.text.size∧S.ask=1∧∀u c,(S.ext (S.text++u) c).ask=1:=by
 unfold still stuck at hs;rw[Bool.or_eq_false_iff,decide_eq_true ha,Bool.true_and]at hs;have h2:=hs.2;have hl:=Nj S h.beh;have EV:S.Bj+2≤S.text.size:=by
  by_cases hc:S.text.size<S.Bj+2
  ·unfold ask at h2
   rw[if_pos ⟨h.closed,hc⟩]at h2;cases h2
  ·omega
 refine⟨EV,?_,fun u c=> ?_⟩
 ·unfold ask
  rw[if_neg (fun x=>by omega),if_neg (by omega)]
 ·unfold ask
  rw[Re S u c (by omega)];have e:(S.ext (S.text++u) c).text.size=S.text.size+u.size:=by show(S.text++u).size=_;simp
  have e2:(S.ext (S.text++u) c).behind=S.behind:=rfl;rw[e,e2,if_neg (fun x=>by omega),if_neg (by omega)]
theorem kW(S:St)(h:uY S)(hs:S.still=false):(∀u c,(S.ext (S.text++u) c).move=S.move.ext (S.text++u) c∧(S.ext (S.text++u) c).still=false)∧uY S.move∧S.move.text=S.text:=by
 by_cases ha:S.asks=0
 ·have em:S.move=S.reach:=by unfold move;rw[if_pos ha]
  have hb:=h.AAX ha;have hr:=HU S;refine⟨fun u c=>⟨?_,?_⟩,?_,?_⟩
  ·have e:(S.ext (S.text++u) c).move=(S.ext (S.text++u) c).reach:=by unfold move;rw[if_pos (by exact ha)]
   rw[e,em,fD]
   rw[decide_eq_false (by have:(S.text++u).size=S.text.size+u.size:=by simp
                          omega),decide_eq_false (by omega)]
  ·unfold still stuck at hs⊢
   have e1:(S.ext (S.text++u) c).over=S.over:=rfl;have e2:(S.ext (S.text++u) c).asks=S.asks:=rfl;rw[Bool.or_eq_false_iff]at hs⊢;rw[e1,e2];refine⟨hs.1,?_⟩;rw[ha];rfl
  ·rw[em]
   exact⟨hr.closed.trans h.closed,by rw[hr.behind,hr.text];omega,fun _=>by rw[hr.behind,hr.text];exact hb⟩
  ·rw[em];exact hr.text
 ·obtain⟨EV,xE,uZ⟩ :=Z9 S h ha hs
  have em:S.move=S.take:=by unfold move;rw[if_neg ha,xE];rfl
  have hk:=I8 S;refine⟨fun u c=>⟨?_,?_⟩,?_,?_⟩
  ·have e:(S.ext (S.text++u) c).move=(S.ext (S.text++u) c).take:=by unfold move;rw[if_neg (by exact ha),uZ];rfl
   rw[e,em,kV S u c (by omega)]
  ·unfold still stuck at hs⊢
   rw[Bool.or_eq_false_iff]at hs⊢;refine⟨hs.1,?_⟩;rw[uZ];simp
  ·rw[em]
   refine⟨hk.2.1.trans h.closed,?_,fun _=> ?_⟩
   all_goals
    rw[hk.2.2.1,hk.1,if_pos (by omega)];omega
  ·rw[em];exact hk.1
end St
open St
theorem Xf{S T:St}(hg:Goes S T):uY S→uY T∧T.text=S.text∧∀u c R,Goes (S.ext (S.text++u) c) R↔Goes (T.ext (S.text++u) c) R:=by
 induction hg with
 |stop h=>exact fun ho=>⟨ho,rfl,fun u c R=>Iff.rfl⟩
 | @step S T h hg ih=>
   intro ho;obtain⟨hm,hom,ML⟩ :=kW S ho h;obtain⟨h1,h2,h3⟩ :=ih hom;refine⟨h1,h2.trans ML,fun u c R=> ?_⟩;have h4:=h3 u c R;rw[ML]at h4;rw[←h4,←(hm u c).1]
   constructor
   ·intro g
    cases g with
    |stop k=>rw[(hm u c).2]at k;cases k
    |step _ g=>exact g
   ·intro g
    exact .step (hm u c).2 g
end M
end Go.Proofs.YtlppphmnegdhoabGreatDoor
