import Derived.Laws.AppendOwnNone
import Derived.Laws.OwnMore
import Derived.Test.YtlppphmnegdhoabGreatDoorMz16
set_option maxRecDepth 100000
set_option linter.unusedVariables false
set_option maxHeartbeats 1000000
namespace Go.Proofs.YtlppphmnegdhoabGreatDoor
namespace M
theorem J4(cs:List Cm)(f:Nat)(D:DS)(k:Nat)(c:Cm)(hc:cs[k]? =some c)(hf:f=D.steps - D.used)(hu:D.used<D.steps):
  DS.Bd cs f D k=if(D.step k c).1.state≠0 then((D.step k c).1,false)else if(D.step k c).2<0 then((D.step k c).1.flush,(D.step k c).2== -2)else DS.Bd cs ((D.step k c).1.steps - (D.step k c).1.used) (D.step k c).1 (D.step k c).2.toNat:=by
 obtain⟨f',rfl⟩ :∃f',f=f'+1:=⟨f - 1,by omega⟩
 have s:=Gp D k c;rw[DS.Bd,hc];simp only;rw[s.1.steps,s.2,show D.steps - (D.used+1)=f' by omega]
theorem Sh(cs:List Cm)(D:DS)(k:Nat)(f:Nat)(hk:k<cs.length)(hf:f=D.steps - D.used)(hu:¬D.used<D.steps):DS.Bd cs f D k=(D.die 4,false):=by
 have:f=0:=by omega
 subst this;rw[DS.Bd,if_pos hk]
theorem iA(cs:List Cm)(D:DS)(k:Nat)(f:Nat)(hk:¬k<cs.length):DS.Bd cs f D k=(D.ο true,false):=by
 cases f with
 |zero=>rw[DS.Bd,if_neg hk]
 |succ f=>rw[DS.Bd,List.getElem?_eq_none (by omega)]
theorem bY(D:DS)(k n:Nat)(c:Cm)(hk:k<n)(hn:c.next≤n):(D.does k c).2≤(n:Int)∧ -2≤(D.does k c).2:=by
 unfold DS.does;split
 ·exact⟨by show(-1:Int)≤n;omega,by show(-2:Int)≤ -1;omega⟩
 split
 ·split
  ·exact⟨by show(-1:Int)≤n;omega,by show(-2:Int)≤ -1;omega⟩
  ·exact⟨by show(-2:Int)≤n;omega,by show(-2:Int)≤ -2;omega⟩
 split
 ·exact⟨by show(k:Int)+1≤n;omega,by show(-2:Int)≤(k:Int)+1;omega⟩
 split
 ·exact⟨by show(c.next:Int)≤n;omega,by show(-2:Int)≤(c.next:Int);omega⟩
 split
 ·split
  ·exact⟨by show(c.next:Int)≤n;omega,by show(-2:Int)≤(c.next:Int);omega⟩
  ·exact⟨by show(k:Int)+1≤n;omega,by show(-2:Int)≤(k:Int)+1;omega⟩
 split
 ·exact⟨by show(k:Int)+1≤n;omega,by show(-2:Int)≤(k:Int)+1;omega⟩
 split
 ·exact⟨by show(k:Int)+1≤n;omega,by show(-2:Int)≤(k:Int)+1;omega⟩
 split
 ·exact⟨by show(k:Int)+1≤n;omega,by show(-2:Int)≤(k:Int)+1;omega⟩
 split
 ·exact⟨by show(k:Int)+1≤n;omega,by show(-2:Int)≤(k:Int)+1;omega⟩
 ·show(if c.name=99 then(-1:Int)else(k:Int)+1)≤n∧ -2≤(if c.name=99 then(-1:Int)else(k:Int)+1)
  split
  all_goals
   exact⟨by omega,by omega⟩
theorem M5(D:DS)(k n:Nat)(c:Cm)(hk:k<n)(hn:c.next≤n):(D.step k c).2≤(n:Int)∧ -2≤(D.step k c).2:=by
 unfold DS.step;simp only;split
 ·exact bY _ k n c hk hn
 ·split
  ·exact⟨by show(c.next:Int)≤n;omega,by show(-2:Int)≤(c.next:Int);omega⟩
  ·exact⟨by show(k:Int)+1≤n;omega,by show(-2:Int)≤(k:Int)+1;omega⟩
theorem Pc(D:DS)(k:Nat)(c:Cm):D.line≤(D.step k c).1.line:=(Gp D k c).1.line.1
theorem Si(cs:List Cm)(D:DS)(hu:D.used≤D.steps):(D.A6 cs).1.left (D.A6 cs).2<D.left true:=by
 obtain⟨h1,h2,h3⟩ :=Hn cs (D.steps - D.used) D 0;have e:DS.Bd cs (D.steps - D.used) D 0=D.A6 cs:=rfl;have ule:=WH cs (D.steps - D.used) D 0 rfl hu;rw[e]at h1 h2 h3 ule;have ha:=h1.at';have hb:=h1.used
 by_cases hk:0<cs.length
 ·by_cases ZP:D.used<D.steps
  ·obtain⟨c,hc⟩ :∃c,cs[0]? =some c:=⟨_,List.getElem?_eq_getElem hk⟩
   have s:=Gp D 0 c;have hs:=J4 cs (D.steps - D.used) D 0 c hc rfl ZP;rw[e]at hs;have hu2:D.used+1≤(D.A6 cs).1.used:=by
    rw[hs];split
    ·rw[s.2];exact δ
    ·split
     ·show _≤(D.step 0 c).1.flush.used
      rw[(JL _).used,s.2];exact δ
     ·have g:=(Hn cs ((D.step 0 c).1.steps - (D.step 0 c).1.used) (D.step 0 c).1 (D.step 0 c).2.toNat).1.used
      exact Nat.le_trans (Nat.le_of_eq s.2.symm) g
   unfold DS.left;rw[h1.text,h1.steps];simp only[if_true];split<;>omega
  ·have hs:=Sh cs D 0 (D.steps - D.used) hk rfl ZP
   rw[e]at hs;rw[hs];unfold DS.left DS.die;simp
 ·unfold DS.left
  rw[h1.text,h1.steps,h3 hk];simp only[if_true];simp;omega
theorem Uu(cs:List Cm)(D:DS):D.line≤(D.A6 cs).1.line:=(Hn cs (D.steps - D.used) D 0).1.line.1
theorem Lm(cs:List Cm)(D:DS):(D.A6 cs).1.text=D.text∧(D.A6 cs).1.steps=D.steps:=⟨(Hn cs (D.steps - D.used) D 0).1.text,(Hn cs (D.steps - D.used) D 0).1.steps⟩
theorem LP(cs:List Cm)(f:Nat)(D:DS)(h:D.state=0):DS.By cs (f+1) D true=DS.By cs f (D.A6 cs).1 (D.A6 cs).2:=by
 rw[DS.By,if_neg (show¬D.state≠0 by simp[h])];simp
theorem M6(cs:List Cm)(f:Nat)(D:DS)(h:D.state=0)(ha:D.ask.1=false):DS.By cs (f+1) D false=if D.ask.2.state=0 then{D.ask.2 with state:=2}else D.ask.2:=by
 rw[DS.By,if_neg (show¬D.state≠0 by simp[h])];simp[ha]
theorem M7(cs:List Cm)(f:Nat)(D:DS)(h:D.state=0)(ha:D.ask.1=true):DS.By cs (f+1) D false=if(D.take.pattern D.Θ).state≠0 then D.take.pattern D.Θ else DS.By cs f ((D.take.pattern D.Θ).A6 cs).1 ((D.take.pattern D.Θ).A6 cs).2:=by
 rw[DS.By,if_neg (show¬D.state≠0 by simp[h])];simp only[Bool.false_eq_true,↓reduceIte];rw[if_neg (by rw[ha];decide),(EM D ha).1]
theorem QB(D:DS)(l:List Cl)(h:D.at'<D.text.size):(D.take.pattern l).left true<D.left false∧1≤(D.take.pattern l).line∧(D.take.pattern l).text=D.text∧(D.take.pattern l).steps=D.steps:=by
 obtain⟨w1,w2⟩ :=Qx D h;have w3:=w1.trans (Fp D.take l);have w4:(D.take.pattern l).at'=D.take.at':=by unfold DS.pattern;split<;>rfl
 have w5:(D.take.pattern l).line=D.take.line:=by unfold DS.pattern;split<;>rfl
 have w6:D.take.line=D.line+1:=by unfold DS.take;split<;>rfl
 exact⟨SX D _ w3 (by rw[w4];exact w2) h,by rw[w5,w6];omega,w3.text,w3.steps⟩
theorem DB.A6{n:Nat}{D:DS}(h:DB n D)(cs:List Cm)(hcs:∀c∈cs,c.text.size≤400):DB n (D.A6 cs).1:=DB.Bd cs hcs _ D 0 h rfl
theorem DB.By{n:Nat}(cs:List Cm)(hcs:∀c∈cs,c.text.size≤400):∀(f:Nat)(D:DS)(b:Bool),DB n D→DB n (DS.By cs f D b)
 |0,D,b,h=>h
 |f+1,D,b,h=>by
  by_cases h0:D.state=0
  ·cases b with
   |true=>
    rw[LP cs f D h0];exact DB.By cs hcs f _ _ (h.A6 cs hcs)
   |false=>
    cases ha:D.ask.1 with
    |false=>
     rw[M6 cs f D h0 ha];split
     ·exact h.ask.state 2 (by decide)
     ·exact h.ask
    |true=>
     rw[M7 cs f D h0 ha];have g:=(h.take (EM D ha).2.1).pattern D.Θ;split
     ·exact g
     ·exact DB.By cs hcs f _ _ (g.A6 cs hcs)
  ·rw[Lj cs (f+1) D b h0];exact h
end M
end Go.Proofs.YtlppphmnegdhoabGreatDoor
namespace Go.Proofs.YtlppphmnegdhoabGreatDoor
open M
namespace M
def Ml:Ex:=⟨false,false,[]⟩
def FG:Ku:=⟨0,0,Ml⟩
def Ha:Lx:=⟨Ml,[],0,false,false⟩
def Jo(n:Nat)(t:List UInt8):Nat:=t.foldl (fun n c=>10*n+(c.toNat - 48)) n
def Ly:Option (List Mk×List UInt8)→Option (Ex×List UInt8)
 |none=>none
 |some p=>(Cv p.1).map (fun x=>(x,p.2))
structure QN where
 cnt:Nat
 a1:Ku
 a2:Ku
 no:Bool
def qZ:QN:=⟨0,FG,FG,false⟩
def kX(q:Mk):Option UInt8:=if q.is 38 then none else some (UInt8.ofNat q.b)
def DK(m:List Mk):List (Option UInt8):=m.map kX
def NG(l:List UInt8):ByteArray:=⟨l.toArray⟩
def ET(m:List Mk):List UInt8:=m.map (fun q=>UInt8.ofNat q.b)
end M
def Ri(t:List UInt8):Nat:=Jo 0 (t.take (FW t))
def BM(t:List UInt8):Option (Ku×List UInt8):=
 if CH t 36 then some (⟨2,0,Ml⟩,t.drop 1)else if CH t 47 then(Ly (Ψ (t.drop 1))).map (fun p=>(⟨3,0,p.1⟩,p.2))else if 0<FW t then some (⟨1,Ri t,Ml⟩,t.drop (FW t))else none
def Hb(A:Ku)(t:List UInt8):QN×List UInt8:=if CH t 44 then(match BM (t.drop 1)with|none=>(⟨1,A,FG,false⟩,t) |some p=>(⟨2,A,p.1,false⟩,p.2))else(⟨1,A,FG,false⟩,t)
def GB(p:QN×List UInt8):QN×List UInt8:=if CH p.2 33 then(⟨p.1.cnt,p.1.a1,p.1.a2,true⟩,p.2.drop 1)else p
def CI(t:List UInt8):QN×List UInt8:=match BM t with
 |none=>(qZ,t)
 |some p=>GB (Hb p.1 p.2)
def Mm(t:List UInt8):Nat:=if 0<Du t then(Du t).toNat else 1
def UP(t:List UInt8):Bool:=CH (Dk CG t) 103
def aA(t:List UInt8):Bool:=CH (Dk (· ==103) (Dk CG t)) 112
def FH(t:List UInt8):Lx:=match Ψ (t.drop 1)with
 |none=>Ha
 |some p=>match Ψ p.2 with
  |none=>Ha
  |some q=>⟨(Cv p.1).getD Ml,DK q.1,Mm q.2,UP q.2,aA q.2⟩
def CA(t:List UInt8):List Mk×List Mk:=match Ψ (t.drop 1)with
 |none=>([],[])
 |some p=>match Ψ p.2 with
  |none=>([],[])
  |some q=>(p.1,q.1)
def Es(A:QN)(nm:Nat)(t:List UInt8):Cm:=
 ⟨A.cnt,A.a1,A.a2,A.no,nm,(if labelled nm then Bv t else 0),0,(if nm=97∨nm=105∨nm=99 then NG t else⟨#[]⟩),(if nm=115 then FH t else Ha),
  (if nm=121 then NG (ET (CA t).1)else⟨#[]⟩),(if nm=121 then NG (ET (CA t).2)else⟨#[]⟩)⟩
def Rj(A:QN):List UInt8→Option Cm
 | []=>none
 |c::r=>if AF A.cnt c.toNat r then some (Es A c.toNat r)else none
def Dw(t:List UInt8):Option Cm:=Rj (CI t).1 (CI t).2
theorem cw(t:List UInt8):KB t=(BM t).map (fun p=>(p.1.kind,p.2)):=by
 unfold KB BM;split
 ·rfl
 ·split
  ·cases h:Ψ (t.drop 1)with
   |none=>rfl
   |some p=>
    show(if(Cv p.1).isSome then some (3,p.2)else none)=(((Cv p.1).map (fun x=>(x,p.2))).map (fun p=>((⟨3,0,p.1⟩,p.2):Ku×List UInt8))).map (fun p=>(p.1.kind,p.2));cases Cv p.1<;>rfl
  ·split<;>rfl
theorem xG(A:Ku)(t:List UInt8):KO t=((Hb A t).1.cnt,(Hb A t).2):=by
 unfold KO Hb;split
 ·rw[cw]
  cases BM (t.drop 1)<;>rfl
 ·rfl
theorem kY(p:QN×List UInt8):(GB p).1.cnt=p.1.cnt∧(GB p).2=Kt p.2:=by
 unfold GB Kt;split<;>exact⟨rfl,rfl⟩
theorem xH(t:List UInt8):QM t=((CI t).1.cnt,(CI t).2):=by
 unfold QM CI;rw[cw];cases BM t with
 |none=>rfl
 |some p=>
  show((KO p.2).1,Kt (KO p.2).2)=((GB (Hb p.1 p.2)).1.cnt,(GB (Hb p.1 p.2)).2);rw[(kY _).1,(kY _).2,xG p.1]
theorem xI(t:List UInt8):(Dw t=none∧EH t=none)∨∃c x,Dw t=some c∧EH t=some x∧c.name=x.1∧c.label=Bv x.2:=by
 rw[←kP];unfold Dw xD;rw[xH];show(Rj (CI t).1 (CI t).2=none∧Cz (CI t).1.cnt (CI t).2=none)∨_
 match(CI t).2 with
 | []=>exact .inl ⟨rfl,rfl⟩
 |c::r=>
  show((if AF (CI t).1.cnt c.toNat r then _ else _)=_∧(if AF (CI t).1.cnt c.toNat r then _ else _)=_)∨∃x y,(if AF (CI t).1.cnt c.toNat r then _ else _)=_∧(if AF (CI t).1.cnt c.toNat r then _ else _)=_∧_;cases AF (CI t).1.cnt c.toNat r with
  |false=>exact .inl ⟨rfl,rfl⟩
  |true=>
   refine .inr ⟨_,_,rfl,rfl,rfl,?_⟩;show(if labelled c.toNat then Bv r else 0)=Bv (if labelled c.toNat then r else []);cases labelled c.toNat<;>rfl
def GV(L:List Cm):List (Nat×Nat):=L.map (fun c=>(c.name,c.label))
theorem Fk{x:Ex}{s:List UInt8}{i j:Nat}(h:AP x s i j=true):i≤j∧j≤s.length:=by
 unfold AP at h;simp only[Bool.and_eq_true,decide_eq_true_eq]at h;exact⟨h.1.1.1.1,h.1.1.1.2⟩
theorem US(x:Ex)(s:List UInt8)(p:Nat)(h:∀q,AP x s p q=false):Hw x s p= -1:=by
 unfold Hw;have:(List.range (s.length+1)).reverse.find? (fun q=>AP x s p q)=none:=by
  rw[List.find?_eq_none];intro q _;rw[h q];decide
 rw[this]
theorem ky(f:Nat→Bool):∀(n q:Nat),q<n→f q=true→(∀q',q<q'→f q'=false)→(List.range n).reverse.find? f=some q:=by
 intro n
 induction n with
 |zero=>intro q h;omega
 |succ n ih=>
  intro q hq hf CQ;rw[List.range_succ,List.reverse_append,List.reverse_singleton,List.singleton_append,List.find?_cons]
  by_cases e:q=n
  ·subst e;rw[hf]
  ·rw[CQ n (by omega)]
   exact ih q (by omega) hf CQ
theorem PF(x:Ex)(s:List UInt8)(p q:Nat)(h:AP x s p q=true)(CQ:∀q',q<q'→AP x s p q'=false):Hw x s p=q:=by
 unfold Hw;rw[ky _ (s.length+1) q (by have:=(Fk h).2;omega) h CQ]
theorem kz{x:Ex}{s:List UInt8}{p:Nat}{e:Int}(h:Pv x s p e):e=Hw x s p:=by
 rcases h with⟨rfl,h⟩ | ⟨q,rfl,h1,h2⟩
 ·exact(US x s p h).symm
 ·exact(PF x s p q h1 h2).symm
theorem Rt(x:Ex)(s:List UInt8)(p:Nat):Hw x s p= -1∨∃q:Nat,Hw x s p=q∧p≤q∧q≤s.length∧AP x s p q=true:=by
 unfold Hw;cases hf:(List.range (s.length+1)).reverse.find? (fun q=>AP x s p q)with
 |none=>exact .inl rfl
 |some q=>
  have h1:=List.find?_some hf;have h2:=Fk h1;exact .inr ⟨q,rfl,h2.1,h2.2,h1⟩
theorem find_eq{x:Ex}{s:List UInt8}{i j:Int}(h:Ka x s 0 i j):decide (0≤i)=Ni x s:=by
 unfold Ni;rcases h with⟨rfl,rfl,h⟩ | ⟨a,b,rfl,rfl,h1,h2,h3,h4⟩
 ·have:(List.range (s.length+1)).any (fun p=>Hw x s p != -1)=false:=by
   rw[List.any_eq_false];intro p _;rw[US x s p (fun q=>h p q ε)];decide
  rw[this];decide
 ·have:(List.range (s.length+1)).any (fun p=>Hw x s p != -1)=true:=by
   rw[List.any_eq_true];have hl:=Fk h2;refine⟨a,List.mem_range.2 (by omega),?_⟩;rw[PF x s a b h2 h4];rw[bne_iff_ne];omega
  rw[this,decide_eq_true_eq];omega
end Go.Proofs.YtlppphmnegdhoabGreatDoor
namespace Go.Proofs.YtlppphmnegdhoabGreatDoor
open Go.Proofs.Tryz
open Go.RowKit
open M
theorem UQ(n:Nat)(t:List UInt8)(c:UInt8):Jo n (t++ [c])=10*Jo n t+(c.toNat - 48):=by unfold Jo;rw[List.foldl_append];rfl
theorem Rk(l r:List UInt8)(d:Nat)(c:UInt8)(h:l.drop d=c::r):l.take (d+1)=l.take d++ [c]:=by
 have hd:d<l.length:=by
  refine Nat.lt_of_not_le fun h9=> ?_
  rw[List.drop_of_length_le h9]at h;cases h
 rw[List.take_add_one,List.getElem?_eq_getElem hd];rw[List.drop_eq_getElem_cons hd]at h;injection h with h1 _;rw[h1];rfl
def xJ(s:ByteArray)(k:Nat)(w:World)(e:Ending)(w':World):Prop:=(∃(n q:Nat),q=k+FW (s.data.toList.drop k)∧e= .returned (.tuple #[.int .i64 (n:Nat),.int .i64 q])∧q≤s.size∧(k<q→n=Ri (s.data.toList.drop k))∧n≤9999)∧w'=w
theorem aC(s:ByteArray)(k:Nat)(w:World)(hs:s.size≤400)(hk:k≤s.size):
  Calls prog 204 #[.string s,.int .i64 k] w fun e w'=>xJ s k w e w':=by
 go_enter func204,ntmps204
 go_wp2_with fail
 refine(Fz s k w hs hk).mono ?_;rintro e w1 ⟨rfl,rfl⟩
 go_wp2_with fail
 go_loop [6,7,8] (fun v6 v7 v8=>∃(n:Nat)(d:Nat),v6= .int .i64 n∧v7= .int .i64 ((k+d:Nat):Int)∧v8= .int .i64 (Du (s.data.toList.drop (k+d)))∧k+d≤s.size∧d≤4∧n+1≤10 ^ d∧(d=0∨1≤n)∧Hid (n=Jo 0 ((s.data.toList.drop k).take d))∧Hid (d=0∨FW (s.data.toList.drop k)=d+At (4 - d) (s.data.toList.drop (k+d)))) (fun _ v7 _=>s.size+1 - (intOf v7).toNat)
 case atStart=>exact⟨0,0,rfl,rfl,rfl,by omega,by omega,by simp,.inl rfl,rfl,.inl rfl⟩
 case round=>
  obtain⟨n,d,rfl,rfl,rfl,Nk,hd4,hn,hnd,HDV,Ce⟩ :=hrel;have uU:n+1≤10000:=Nat.le_trans hn (Nat.pow_le_pow_right (by decide) hd4);have HN:=γ hn;clear hn;obtain⟨q,hq⟩ :∃q,k+d=q:=⟨_,rfl⟩
  have HQ:=γ hq;have hqd:(q:Int) - (k:Int)=(d:Int):=by omega
  rw[hq]at Nk Ce⊢;clear hq;have hle:=VL (s.data.toList.drop q);obtain⟨dg,hdg⟩ :∃dg,Du (s.data.toList.drop q)=dg:=⟨_,rfl⟩
  have HDG:=γ hdg;rw[hdg]at hle⊢;clear hdg
  by_cases hp:0≤dg
  ·by_cases hd3:d<4
   ·have AFL:(d:Int)<4:=by omega
    obtain⟨c,r,kZ,Db,iZ,hds⟩ :=kL (s.data.toList.drop q) (3 - d) (by rw[HDG.out];exact hp);have Oy:q+1≤s.size:=by
     refine Nat.lt_of_not_le fun h=> ?_
     rw[List.drop_of_length_le (by rw[Δ];omega)]at kZ;cases kZ
    have hdr:s.data.toList.drop (q+1)=r:=by rw[←List.drop_drop,kZ];rfl
    by_cases hz:n=0∧dg=0
    ·-- a ACp ahead
     obtain⟨CN,Dq⟩ :=hz;have hd0:d=0:=by omega
     have HF:Hid (FW (s.data.toList.drop k)=0):=by
      show _=_;have hqk:q=k:=by have:=HQ.out;omega
      rw[←hqk,kZ,FW];have:c.toNat=48:=by
       have h1:48≤c.toNat∧c.toNat≤57:=by simpa[DJ]using Db
       rw[HDG.out,Dq]at iZ;omega
      rw[this];rfl
     subst CN Dq;clear kZ Db iZ hds hdr Ce;go_wp2;go_ret2;exact⟨⟨0,k,by rw[HF.out];rfl,rfl,hk,fun h=>by omega,by omega⟩,rfl⟩
    ·have AAY:Hid (FW (s.data.toList.drop k)=(d+1)+At (4 - (d+1)) (s.data.toList.drop (q+1))):=by
      show _=_;have e4:4 - (d+1)=3 - d:=by omega
      have e5:4 - d=(3 - d)+1:=by omega
      rw[hdr,e4];rcases Ce.out with hd0|h
      ·subst hd0
       have hqk:q=k:=by have:=HQ.out;omega
       have TZ:n=0:=by have:=HN.out;omega
       have Lr:CG c.toNat=true:=by
        have h1:48≤c.toNat∧c.toNat≤57:=by simpa[DJ]using Db
        have h2:c.toNat≠48:=fun e=>hz ⟨TZ,by rw[←HDG.out,iZ,e];rfl⟩
        simp[CG];omega
       rw[←hqk,kZ];show(if CG c.toNat then At 4 (c::r)else 0)=_;rw[Lr,if_pos rfl,←kZ];have:At (3 - 0+1) (s.data.toList.drop q)=At (3 - 0) r+1:=hds;rw[show(4:Nat)=3 - 0+1 from rfl,this];omega
      ·rw[h,e5,hds];omega
     have qa:(n=0∧dg≠0)∨n≠0:=by
      by_cases e:n=0
      ·exact .inl ⟨e,fun h=>hz ⟨e,h⟩⟩
      ·exact .inr e
     obtain⟨dn,fK⟩ :∃dn:Nat,dg=dn:=⟨dg.toNat,by omega⟩
     have Qo:Hid (10*n+dn+1≤10 ^ (d+1)):=by
      show _≤_;have:=HN.out;rw[Nat.pow_succ];omega
     have hge:1≤10*n+dn:=by omega
     have ka:Hid (10*n+dn=Jo 0 ((s.data.toList.drop k).take (d+1))):=by
      show _=_;have NP:(s.data.toList.drop k).drop d=c::r:=by rw[List.drop_drop,HQ.out,kZ]
      rw[Rk _ _ _ _ NP,UQ,←HDV.out];have h1:Du (s.data.toList.drop q)=((c.toNat - 48:Nat):Int):=iZ;rw[HDG.out,fK]at h1;omega
     subst fK;clear kZ Db iZ hds hdr Ce hz;rcases qa with⟨e1,e2⟩ |e1
     ·have e3:((dn:Int)==0)=false:=by simp;omega
      subst e1
      go_wp2_with fail
      have HC:=Fz s (q+1) w1 hs Oy;rw[show((q+1:Nat):Int)=(q:Int)+1 from rfl]at HC;refine HC.mono ?_;clear HC;rintro e w2 ⟨rfl,rfl⟩;go_wp2
      go_round
      case rel=>exact⟨10*0+dn,d+1,by first|go_num| (simp;omega),by rw[←Nat.add_assoc,HQ.out];go_num,by rw[←Nat.add_assoc,HQ.out],by rw[←Nat.add_assoc,HQ.out];exact Oy,by omega,Qo.out,.inr hge,ka.out,.inr (by rw[←Nat.add_assoc,HQ.out];exact AAY.out)⟩
      case measure=>simp[intOf]<;>omega
     ·have e3:((n:Int)==0)=false:=by simp;omega
      go_wp2_with fail
      have HC:=Fz s (q+1) w1 hs Oy;rw[show((q+1:Nat):Int)=(q:Int)+1 from rfl]at HC;refine HC.mono ?_;clear HC;rintro e w2 ⟨rfl,rfl⟩;go_wp2
      go_round
      case rel=>exact⟨10*n+dn,d+1,by first|go_num| (simp;omega),by rw[←Nat.add_assoc,HQ.out];go_num,by rw[←Nat.add_assoc,HQ.out],by rw[←Nat.add_assoc,HQ.out];exact Oy,by omega,Qo.out,.inr hge,ka.out,.inr (by rw[←Nat.add_assoc,HQ.out];exact AAY.out)⟩
      case measure=>simp[intOf]<;>omega
   ·obtain rfl:d=4:=by omega
    have HF:Hid (k+FW (s.data.toList.drop k)=q):=by
     show _=_;rcases Ce.out with h|h
     ·omega
     ·rw[h]
      have:=HQ.out;show k+(4+At 0 _)=q;rw[At];omega
    have HNV:Hid (n=Ri (s.data.toList.drop k)):=by
     show _=_;have h1:=HF.out;have h2:=HQ.out;unfold Ri;rw[show FW (s.data.toList.drop k)=4 by omega];exact HDV.out
    clear Ce;go_wp2;go_ret2;exact⟨⟨n,q,HF.out.symm,rfl,Nk,fun _=>HNV.out,by omega⟩,rfl⟩
  ·have fL:¬(0:Int)≤dg:=hp
   have HF:Hid (k+FW (s.data.toList.drop k)=q):=by
    show _=_;have CQ:∀m,At m (s.data.toList.drop q)=0:=fun m=>kM _ m (by rw[HDG.out];exact hp)
    rcases Ce.out with h|h
    ·subst h
     have hqk:k=q:=HQ.out;subst hqk;have:FW (s.data.toList.drop k)=0:=by
      match kZ:s.data.toList.drop k with
      | []=>rfl
      |c::r=>
       show(if CG c.toNat then At 4 (c::r)else 0)=0;rw[←kZ,CQ 4];split<;>rfl
     rw[this];rfl
    ·rw[h,CQ]
     have:=HQ.out;omega
   have HNV:Hid (n=Ri (s.data.toList.drop k)):=by
    show _=_;have h1:=HF.out;have h2:=HQ.out;unfold Ri;rw[show FW (s.data.toList.drop k)=d by omega];exact HDV.out
   clear Ce;go_wp2;go_ret2;exact⟨⟨n,q,HF.out.symm,rfl,Nk,fun _=>HNV.out,by omega⟩,rfl⟩
def clV(c:Cl):List Value:= [.int .u8 (c.1.toNat:Int),.int .i64 c.2]
def Cn(l:List Cl):List Value:=(l.map clV).flatten
theorem VT:Cn []= []:=rfl
theorem JA(c:Cl)(l:List Cl):Cn (c::l)= .int .u8 (c.1.toNat:Int):: .int .i64 c.2::Cn l:=rfl
theorem VU(l:List Cl):(Cn l).length=l.length*2:=by
 induction l with
 |nil=>rfl
 |cons c l ih=>rw[JA,List.length_cons,List.length_cons,ih,List.length_cons];omega
theorem Cf(a b:List Cl):Cn (a++b)=Cn a++Cn b:=by simp[Cn]
theorem VV(l:List Cl):∀v∈Cn l,v.oneCell'=true:=by
 induction l with
 |nil=>intro v hv;cases hv
 |cons c l ih=>
  intro v hv;rw[JA]at hv;rcases List.mem_cons.1 hv with rfl|hv
  ·rfl
  rcases List.mem_cons.1 hv with rfl|hv
  ·rfl
  ·exact ih v hv
theorem xK(l:List Cl):∀i(h:i<l.length),(Cn l)[i*2]? =some (.int .u8 (l[i].1.toNat:Int))∧(Cn l)[i*2+1]? =some (.int .i64 l[i].2):=by
 induction l with
 |nil=>intro i h;simp at h
 |cons c l ih=>
  intro i h;cases i with
  |zero=>exact⟨rfl,rfl⟩
  |succ i=>
   have:=ih i (by simpa using h);rw[JA,show(i+1)*2=i*2+2 by omega]
   simpa using this
theorem kb(l:List Cl):∀i,(Cn l).drop (i*2)=Cn (l.drop i):=by
 induction l with
 |nil=>intro i;simp[Cn]
 |cons c l ih=>
  intro i;cases i with
  |zero=>rfl
  |succ i=>rw[JA,show(i+1)*2=i*2+2 by omega];simpa using ih i
theorem kf(l:List Cl):∀i,(Cn l).take (i*2)=Cn (l.take i):=by
 induction l with
 |nil=>intro i;simp[Cn]
 |cons c l ih=>
  intro i;cases i with
  |zero=>rfl
  |succ i=>rw[JA,show(i+1)*2=i*2+2 by omega];simpa[JA]using ih i
def ψ(w:World)(v:Value)(l:List Cl):Prop:=
 ∃(a:Option Addr)(c:Nat),v= .slice a l.length c∧l.length≤c∧c≤maxLen∧((l= []∧(a=none→c=0))∨∃g o,a=some ⟨g,o,none⟩∧g<w.heap.size∧w.rangeAt g o (Cn l))
theorem ψ.nil(w:World):ψ w (.slice none 0 0) []:=⟨none,0,rfl,δ,by unfold maxLen;omega,.inl ⟨rfl,fun _=>rfl⟩⟩
theorem ψ.keep{w w':World}{v:Value}{l:List Cl}(h:ψ w v l)(hs:w.heap.size≤w'.heap.size)(hk:∀g o n c,v= .slice (some ⟨g,o,none⟩) n c→g<w.heap.size→w'.heap[g]? =w.heap[g]?):ψ w' v l:=by
 obtain⟨a,c,rfl,h1,h2,h3⟩ :=h;refine⟨a,c,rfl,h1,h2,?_⟩;rcases h3 with h3| ⟨g,o,rfl,hg,hr⟩
 ·exact .inl h3
 ·exact .inr ⟨g,o,rfl,by omega,fun j u hu=>(World.cell?_of_block (hk g o _ c rfl hg)).trans (hr j u hu)⟩
theorem ψ.below{w w':World}{v:Value}{l:List Cl}(h:ψ w v l)(hb:Below w.heap.size w w'):ψ w' v l:=h.keep hb.size (fun g _ _ _ _ hg=>hb.block g hg)
theorem ψ.own{w:World}{B:Nat}{v:Value}{l:List Cl}(h:w.ownsRow B 230 2 v l.length (Cn l)):ψ w v l:=by
 have hh:=h;obtain⟨h1,⟨rfl,h2⟩ | ⟨g,cap,cur,rfl,e2,e3,e4,e5,e6,e7⟩⟩ :=h
 ·have:l= []:=List.eq_nil_of_length_eq_zero h2
  subst this;exact ψ.nil w
 ·refine⟨_,cap,rfl,e4,e5,.inr ⟨g,0,rfl,(hh.lt g rfl).2,fun j u hu=> ?_⟩⟩
  have:=hh.cells rfl j u hu
  rwa [Addr.add_mid]at this
theorem Jp:ZH 82 230 2 16 (.agg #[.int .u8 0,.int .i64 0]):=⟨by kernel_rfl,by kernel_rfl,rfl,by decide,by decide,by decide⟩
theorem Lz:EE 230 2:=⟨⟨_,underlying230,rfl⟩,by kernel_rfl⟩
theorem A8{ops:Array Oper}{rest:List Oper}{o:Oper}{a:Act}{w:World}{Q:Exit→Act→World→Prop}{TS T:TypeId}{N BO:Nat}{z:Value}(hE:ZH TS T N BO z){B:Nat}{v:Value}{n:Nat}{xs:List Value}(ν:w.ownsRow B T N v n xs)(g:Nat)(vs:List Value)(hg:w.heap[g]? =some (.cells vs.toArray T))(hl:vs.length=N)(h1:∀u∈vs,u.oneCell'=true)(hn:n≤1000000000)(hB:B≤w.heap.size)(Fv:o.guard=none)(s x:Operand)
  (ho:o.op= .call {callee:= .builtin .append,args:= #[s,x],argTypes:= #[TS,TS]}) (hs:a.eval s=v) (hx:a.eval x= .slice (some ⟨g,0,none⟩) 1 1)
  (h:∀v' w',w'.ownsRow B T N v' (n+1) (xs++vs)→w.grownBy w' v.ownBlock→wpList prog ops Q rest (a.put o.dst v') w'):wpList prog ops Q (o::rest) a w:=by
 obtain⟨i0,hi,DF,CN,Dq⟩ :=info_parts hE.info;have hb:=hE.byt;refine wpList_append_own w Fv s x _ ho B _ i0 _ N BO hE.und hi DF CN Dq hE.zc hE.pos v n xs hs ν ⟨g,0,none⟩ 1 1 vs hx (by rw[hl];omega) ?_ h1 (by unfold maxLen;omega) ?_ hB (fun v' w' h1 h2 _=>h v' w' h1 h2)
 ·intro j u hu
  rw[Addr.add_mid,cell_of_row _ _ _ _ _ _ hg]
  simpa using hu
 ·exact Nat.le_trans (Nat.mul_le_mul (show n+1≤1000000001 by omega) hb) (by decide)
theorem Le{ops:Array Oper}{rest:List Oper}{o:Oper}{a:Act}{w:World}{Q:Exit→Act→World→Prop}{B:Nat}{v v2:Value}{n:Nat}{xs:List Value}{l:List Cl}(ν:w.ownsRow B 230 2 v n xs)(DC:ψ w v2 l)(hn:n+l.length≤1000000000)(hB:B≤w.heap.size)(Fv:o.guard=none)(s x:Operand)
  (ho:o.op= .call {callee:= .builtin .append,args:= #[s,x],argTypes:= #[82,82]}) (hs:a.eval s=v) (hx:a.eval x=v2)
  (h:∀v' w',w'.ownsRow B 230 2 v' (n+l.length) (xs++Cn l)→w.grownBy w' v.ownBlock→wpList prog ops Q rest (a.put o.dst v') w'):wpList prog ops Q (o::rest) a w:=by
 obtain⟨i0,hi,DF,CN,Dq⟩ :=info_parts Jp.info;obtain⟨ad,c,rfl,h1,h2,h3⟩ :=DC;cases ad with
 |none=>
  have hl:l= []∧c=0:=by
   rcases h3 with⟨h3,h4⟩ | ⟨g,o,h3,_⟩
   ·exact⟨h3,h4 rfl⟩
   ·cases h3
  obtain⟨rfl,rfl⟩ :=hl;refine wpList_append_own_none Fv s x _ ho B _ i0 2 Jp.und hi v n xs hs ν hx ?_;refine h v w ?_ ⟨rfl,rfl,rfl,δ,fun _ _ _=>rfl⟩;rw[VT,List.append_nil];exact ν
 |some ad=>
  have hc:∀j u,(Cn l)[j]? =some u→w.cell? (ad.add j)=some u:=by
   rcases h3 with⟨h3,_⟩ | ⟨g,o,h3,hg,hr⟩
   ·subst h3;intro j u hu;simp[Cn]at hu
   ·simp only[Option.some.injEq]at h3
    subst h3;intro j u hu;rw[Addr.add_mid];exact hr j u hu
  exact wpList_append_own w Fv s x _ ho B _ i0 _ 2 16 Jp.und hi DF CN Dq rfl (by decide) v n xs hs ν ad l.length c (Cn l) hx (by rw[VU]) hc (VV l) (by unfold maxLen;omega) (by omega) hB (fun v' w' h1 h2 _=>h v' w' h1 h2)
theorem ψ.at'{w:World}{a:Option Addr}{n c:Nat}{l:List Cl}(h:ψ w (.slice a n c) l)(i:Nat)(hi:i<l.length):n=l.length∧∃g o,a=some ⟨g,o,none⟩∧g<w.heap.size∧w.rangeAt g (o+i*2) [.int .u8 (l[i].1.toNat:Int),.int .i64 l[i].2]:=by
 obtain⟨a',c',e,h1,h2,h3⟩ :=h;simp only[Value.slice.injEq]at e;obtain⟨rfl,rfl,rfl⟩ :=e;refine⟨rfl,?_⟩;rcases h3 with⟨h3,_⟩ | ⟨g,o,rfl,hg,hr⟩
 ·subst h3;simp at hi
 ·refine⟨g,o,rfl,hg,fun j u hu=> ?_⟩
  obtain⟨c0,c1⟩ :=xK l i hi
  match j,hu with
  |0,hu=>have:=hr _ _ c0;simp at hu;rw[←hu];simpa using this
  |1,hu=>have:=hr _ _ c1;simp at hu;rw[←hu,Nat.add_assoc];exact this
  |j+2,hu=>simp at hu
theorem BX{ops:Array Oper}{rest:List Oper}{op:Oper}{a:Act}{w:World}{Q:Exit→Act→World→Prop}{g o n:Nat}{vs:List Value}{T:TypeId}(hT:EE T n)(hr:w.rangeAt g o vs)(hl:vs.length=n)(Fv:op.guard=none)(x:Operand)(ho:op.op= .load T x)(hx:a.eval x= .pointer (some ⟨g,o,none⟩))
  (h:wpList prog ops Q rest (a.put op.dst (.agg vs.toArray)) w):wpList prog ops Q (op::rest) a w:=by
 obtain⟨⟨d,hu,hd⟩,hi⟩ :=hT;exact wpList_load_mid Fv T x ho g o hx vs d hr hu hd (by rw[hl];exact hi) h
theorem Kz{fn:Func}{p:Tmp}{T:TypeId}{n:Nat}(h:fn.results= #[.cell p T])(tmps:Array Value)(w:World)(g:Nat)(cs:List Value)(hp:tmps.getD p undef= .pointer (some ⟨g,0,none⟩))(hT:EE T n)(hb:CB w g cs)(hl:cs.length=n):
  (results fn tmps).run prog w= .ok (.agg cs.toArray) w:=by
 have wG:tmps[p]?.getD undef= .pointer (some ⟨g,0,none⟩):=by simpa using hp
 simp[results,h,wG,asAddr,Z2 hT hb hl]
theorem ψ.form{w:World}{v:Value}{l:List Cl}(h:ψ w v l):∃a c,v= .slice a l.length c∧l.length≤c:=by
 obtain⟨a,c,h0,h1,_⟩ :=h;exact⟨a,c,h0,h1⟩
theorem ACq:ZH 151 5 1 1 (.int .u8 0):=⟨by kernel_rfl,by kernel_rfl,rfl,by decide,by decide,by decide⟩
theorem fM{w:World}{base:Nat}{v:Value}{n:Nat}{A:List UInt8}(h:w.ownsRow base 5 1 v n (A.map fun b=> .int .u8 (b.toNat:Int))):(convert 151 9 v).run prog w= .ok (.string ⟨A.toArray⟩) w:=by
 obtain⟨h1,⟨rfl,rfl⟩ | ⟨g,cap,cur,rfl,kg⟩⟩ :=id h
 ·have:A= []:=by simpa using h1
  subst this;exact run_convert_bytes_nil w 151 5 underlying151 underlying5 0 0 9 underlying9
 ·have hl:n=A.length:=by simpa using h1.symm
  subst hl;refine run_convert_bytes_back w 151 9 5 ⟨g,0,none⟩ cap A underlying151 underlying5 underlying9 (fun j hj=> ?_);exact h.cells rfl j _ (by simp[List.getElem?_eq_getElem hj])
def qb(A:List UInt8):List Value:=A.map fun b=> .int .u8 (b.toNat:Int)
theorem EJ(v:Value)(l:List Cl)(w:World)(h:ψ w v l)(hl:l.length≤100000):
  Calls prog 113 #[v] w fun e w'=>e= .returned (.string (Dr l))∧Below w.heap.size w w':=by
 obtain⟨a,c,rfl,S8⟩ :=h.form;obtain⟨n,hn⟩ :∃n,l.length=n:=⟨_,rfl⟩
 have HN:=γ hn;rw[hn]at h hl⊢;have HS:=γ h;clear h hn S8
 go_enter func113,ntmps113
 go_wp2_with fail
 go_loopw [3,8] (fun v3 v8 wr=>∃i:Nat,v8= .int .i64 i∧i≤n∧wr.ownsRow w.heap.size 5 1 v3 i (qb (AL (l.take i)))∧Below w.heap.size w wr) (fun _ v8 _=>n - (intOf v8).toNat)
 case atStart=>exact⟨0,rfl,ε,World.ownsRow_nil _ _ _ _,ζ⟩
 case round=>
  obtain⟨i,rfl,hi,ν,hB⟩ :=hrel;obtain⟨av,cv,CX⟩ :=κ ν;subst CX;have K1:=hB.size
  by_cases Ac:i<n
  ·have AV:(i:Int)<(n:Int):=by omega
   have h0:(0:Int)≤(i:Int):=by omega
   have BN:i<l.length:=by rw[HN.out];exact Ac
   obtain⟨-,g,o,rfl,hg,hr⟩ :=(HS.out.below hB).at' i BN;have HT:Hid (qb (AL (l.take (i+1)))=qb (AL (l.take i))++ [.int .u8 (l[i].1.toNat:Int)]):=by
    show _=_;rw[List.take_add_one,List.getElem?_eq_getElem BN];unfold qb AL;rw[List.map_append,List.map_append];rfl
   obtain⟨x,hx⟩ :∃x:Nat,l[i].1.toNat=x:=⟨_,rfl⟩
   have FT:x<256:=by rw[←hx];exact l[i].1.toNat_lt
   rw[hx]at hr HT;generalize l[i].2=y at*;clear hx;have cz:((wr.alloc (.cells #[.int .u8 x,.int .i64 y] 230)).alloc (.cells #[.int .u8 x] 5)).heap[wr.heap.size+1]? =some (.cells #[.int .u8 x] 5):=by
    have:=heap_alloc_new (wr.alloc (.cells #[.int .u8 x,.int .i64 y] 230)) (.cells #[.int .u8 x] 5)
    simpa using this
   go_wp2_with(first
    |refine BX Lz hr rfl rfl _ rfl rfl ?_
    | (refine A8 ACq ((ν.alloc _).alloc _) (wr.heap.size+1) [.int .u8 x] cz rfl (by simp[Value.oneCell']) (by omega) (by simp;omega) rfl _ _ rfl rfl rfl ?_
       intro v' w6 Aa AK;have Eg:Below w.heap.size w w6:=((hB.alloc (by omega) _).alloc (by simp;omega) _).grown AK (by simp;omega) (fun k hk=>(ν.lt k hk).1);obtain⟨NF,JV,CX⟩ :=κ Aa;subst CX;clear AK))
   go_roundw
   case rel=>
    refine⟨i+1,by go_num,by omega,?_,Eg⟩;rw[HT.out];exact Aa
   case measure=>simp[intOf]<;>omega
  ·obtain rfl:i=n:=by omega
   have AV:¬(i:Int)<(i:Int):=by omega
   rw[List.take_of_length_le (by rw[HN.out];exact δ)]at ν;have hcv:=fM ν;go_wp2;go_ret;exact⟨rfl,hB⟩
def Rl(l:List Cl)(w:World)(e:Ending)(w':World):Prop:=∃v,e= .returned v∧w'.ownsRow w.heap.size 230 2 v l.length (Cn l)∧Below w.heap.size w w'
theorem Xh(s:ByteArray)(w:World)(hs:s.size≤100000):
  Calls prog 243 #[.string s] w fun e w'=>Rl (BJ s.data.toList) w e w':=by
 have Hc:=γ (Δ s)
 go_enter func243,ntmps243
 go_wp2_with fail
 go_loopw [3,4] (fun v3 v4 wr=>∃i:Nat,v4= .int .i64 i∧i≤s.size∧wr.ownsRow w.heap.size 230 2 v3 i (Cn (BJ (s.data.toList.take i)))∧Below w.heap.size w wr) (fun _ v4 _=>s.size - (intOf v4).toNat)
 case atStart=>exact⟨0,rfl,ε,World.ownsRow_nil _ _ _ _,ζ⟩
 case round=>
  obtain⟨i,rfl,hi,ν,hB⟩ :=hrel;obtain⟨av,cv,CX⟩ :=κ ν;subst CX;have K1:=hB.size
  by_cases Ac:i<s.size
  ·have AV:(i:Int)<(s.size:Int):=by omega
   have HT:Hid (Cn (BJ (s.data.toList.take (i+1)))=Cn (BJ (s.data.toList.take i))++ [.int .u8 (s[i].toNat:Int),.int .i64 (-1)]):=by
    show _=_;have BN:i<s.data.toList.length:=by rw[Hc.out];exact Ac
    rw[List.take_add_one,List.getElem?_eq_getElem BN];unfold BJ;rw[List.map_append,Cf];rfl
   obtain⟨x,hx⟩ :∃x:Nat,s[i].toNat=x:=⟨_,rfl⟩
   have FT:x<256:=by rw[←hx];exact s[i].toNat_lt
   rw[hx]at HT
   go_wp2_with(first
    |refine Bz Jp rfl _ rfl [.int .u8 x,.int .i64 (-1)] rfl rfl ?_
    | (refine A8 Jp (ν.alloc _) wr.heap.size [.int .u8 x,.int .i64 (-1)] (heap_alloc_new wr _) rfl (by simp[Value.oneCell']) (by omega) (by simp;omega) rfl _ _ rfl rfl rfl ?_
       intro v' w6 Aa AK;have Eg:Below w.heap.size w w6:=(hB.alloc (by omega) _).grown AK (by simp;omega) (fun k hk=>(ν.lt k hk).1);obtain⟨NF,JV,CX⟩ :=κ Aa;subst CX;clear AK))
   go_roundw
   case rel=>
    refine⟨i+1,by go_num,by omega,?_,Eg⟩;rw[HT.out];exact Aa
   case measure=>simp[intOf]<;>omega
  ·obtain rfl:i=s.size:=by omega
   have AV:¬(s.size:Int)<(s.size:Int):=by omega
   rw[List.take_of_length_le (by rw[Hc.out];exact δ)]at ν;have ZJ:(BJ s.data.toList).length=s.size:=by rw[←Hc.out];simp[BJ]
   go_wp2;go_ret;exact⟨_,rfl,by rw[ZJ];exact ν,hB⟩
end Go.Proofs.YtlppphmnegdhoabGreatDoor
