import Derived.Test.YtlppphmnegdhoabGreatDoorMz32
set_option linter.unusedVariables false
set_option maxRecDepth 100000
namespace Go.Proofs.YtlppphmnegdhoabGreatDoor
open Go.RowKit
open M
theorem sL:∀(n:Nat)(t:List UInt8)(a:Nat),Jo a (t.take (At n t))+1≤(a+1)*10 ^ (At n t):=by
 intro n
 induction n with
 |zero=>intro t a;simp[At,Jo]
 |succ n ih=>
  intro t a
  match t with
  | []=>simp[At,Jo]
  |c::t=>
   rw[At];cases hd:DJ c.toNat
   ·simp[Jo]
   ·have hc:48≤c.toNat∧c.toNat≤57:=by simpa[DJ]using hd
    have h1:=ih t (10*a+(c.toNat - 48));have e:Jo a ((c::t).take (At n t+1))=Jo (10*a+(c.toNat - 48)) (t.take (At n t)):=rfl;simp only[if_true];rw[e,Nat.pow_succ];refine Nat.le_trans h1 ?_;rw[Nat.mul_comm (10 ^ At n t) 10,←Nat.mul_assoc];exact Nat.mul_le_mul_right _ (by omega)
theorem sM(t:List UInt8):Ri t≤9999:=by
 unfold Ri FW
 match t with
 | []=>simp[Jo]
 |c::r=>
  show Jo 0 ((c::r).take (if CG c.toNat then At 4 (c::r)else 0))≤9999;cases CG c.toNat
  ·simp[Jo]
  ·simp only[if_true]
   have h1:=sL 4 (c::r) 0;have h2:(10:Nat) ^ At 4 (c::r)≤10 ^ 4:=Nat.pow_le_pow_right (by decide) (qV 4 _);omega
structure Uf(A:Ku):Prop where
 k:A.kind≤3
 n:A.line≤9999
 i:A.ex.l.length≤400
theorem Uf.z:Uf FG:=⟨by decide,by decide,by decide⟩
theorem YK(t:List UInt8)(h:t.length≤400)(A:Ku)(r:List UInt8)(ha:BM t=some (A,r)):Uf A∧r.length≤t.length:=by
 unfold BM at ha;split at ha
 ·injection ha with ha;injection ha with h1 h2;subst h1;subst h2
  exact⟨⟨by decide,ε,by simp[Ml]⟩,by rw[List.length_drop];omega⟩
 ·split at ha
  ·cases hu:Ψ (t.drop 1)with
   |none=>rw[hu]at ha;cases ha
   |some p=>
    rw[hu]at ha;cases hx:Cv p.1 with
    |none=>simp[Ly,hx]at ha
    |some x=>
     simp[Ly,hx]at ha;obtain⟨h1,h2⟩ :=ha;subst h1;subst h2;have h3:=LH _ p.1 p.2 hu;have h4:=dU _ _ hx;rw[List.length_drop]at h3;exact⟨⟨by show 3≤3;decide,ε,by show x.l.length≤400;omega⟩,by omega⟩
  ·split at ha
   ·injection ha with ha;injection ha with h1 h2;subst h1;subst h2
    exact⟨⟨by show 1≤3;decide,sM t,by simp[Ml]⟩,by rw[List.length_drop];omega⟩
   ·cases ha
structure YL(A:QN):Prop where
 c:A.cnt≤2
 a1:Uf A.a1
 a2:Uf A.a2
theorem sN(A:Ku)(hA:Uf A)(t:List UInt8)(h:t.length≤400):YL (Hb A t).1∧(Hb A t).2.length≤t.length:=by
 unfold Hb;split
 ·cases ha:BM (t.drop 1)with
  |none=>exact⟨⟨by show 1≤2;decide,hA,.z⟩,δ⟩
  |some p=>
   have:=YK (t.drop 1) (by rw[List.length_drop];omega) p.1 p.2 ha;rw[List.length_drop]at this;exact⟨⟨by show 2≤2;decide,hA,this.1⟩,by show p.2.length≤_;omega⟩
 ·exact⟨⟨by show 1≤2;decide,hA,.z⟩,δ⟩
theorem sO(p:QN×List UInt8)(h:YL p.1):YL (GB p).1∧(GB p).2.length≤p.2.length:=by
 unfold GB;split
 ·exact⟨⟨h.c,h.a1,h.a2⟩,by rw[List.length_drop];omega⟩
 ·exact⟨h,δ⟩
theorem sP(t:List UInt8)(h:t.length≤400):YL (CI t).1∧(CI t).2.length≤t.length:=by
 unfold CI;cases ha:BM t with
 |none=>exact⟨⟨ε,.z,.z⟩,δ⟩
 |some p=>
  have h1:=YK t h p.1 p.2 ha;have h2:=sN p.1 h1.1 p.2 (by omega);have h3:=sO _ h2.1;exact⟨h3.1,by show(GB (Hb p.1 p.2)).2.length≤_;omega⟩
theorem SG(l:List UInt8):(NG l).size=l.length:=by rw[←Δ];simp[NG]
theorem AF6(t:List UInt8):Mm t≤9:=by
 unfold Mm;have:=VL t;split<;>omega
theorem sQ(t:List UInt8)(h:t.length≤400):(FH t).rep.length≤400∧(FH t).ex.l.length≤400∧(FH t).count≤9:=by
 unfold FH;cases hu:Ψ (t.drop 1)with
 |none=>exact⟨by simp[Ha],by simp[Ha,Ml],by simp[Ha]⟩
 |some p=>
  cases hv:Ψ p.2 with
  |none=>simp only[hv];exact⟨by simp[Ha],by simp[Ha,Ml],by simp[Ha]⟩
  |some q=>
   simp only[hv];have h1:=LH _ p.1 p.2 hu;have h2:=LH _ q.1 q.2 hv;rw[List.length_drop]at h1;refine⟨by simp[DK];omega,?_,AF6 _⟩;cases hx:Cv p.1 with
   |none=>simp[Ml]
   |some x=>
    have:=dU _ _ hx;show x.l.length≤400;omega
theorem mj(t:List UInt8)(h:t.length≤400):(CA t).1.length≤400∧(CA t).2.length≤400:=by
 unfold CA;cases hu:Ψ (t.drop 1)with
 |none=>simp
 |some p=>
  cases hv:Ψ p.2 with
  |none=>simp[hv]
  |some q=>
   simp only[hv];have h1:=LH _ p.1 p.2 hu;have h2:=LH _ q.1 q.2 hv;rw[List.length_drop]at h1;exact⟨by omega,by omega⟩
theorem sR(A:QN)(hA:YL A)(nm:Nat)(hn:nm<256)(t:List UInt8)(h:t.length≤400):DZ (Es A nm t):=by
 have hs:=sQ t h;have hx:=mj t h;refine⟨?_,?_,hA.a1.i,hA.a2.i,?_,?_,?_,hn,ε,?_,hA.a1.n,hA.a2.n,hA.a1.k,hA.a2.k,hA.c⟩
 ·show(if nm=97∨nm=105∨nm=99 then NG t else⟨#[]⟩ :ByteArray).size≤400
  split
  ·rw[SG];exact h
  ·exact ε
 ·show(if nm=115 then FH t else Ha).rep.length≤400
  split
  ·exact hs.1
  ·simp[Ha]
 ·show(if nm=115 then FH t else Ha).ex.l.length≤400
  split
  ·exact hs.2.1
  ·simp[Ha,Ml]
 ·show(if nm=121 then NG (ET (CA t).1)else⟨#[]⟩ :ByteArray).size≤400
  split
  ·rw[SG];simp[ET];exact hx.1
  ·exact ε
 ·show(if nm=121 then NG (ET (CA t).2)else⟨#[]⟩ :ByteArray).size≤400
  split
  ·rw[SG];simp[ET];exact hx.2
  ·exact ε
 ·show(if nm=115 then FH t else Ha).count≤9
  split
  ·exact hs.2.2
  ·simp[Ha]
theorem sS(t:List UInt8)(h:t.length≤400)(c:Cm)(hc:Dw t=some c):DZ c∧c.next=0:=by
 unfold Dw at hc;have hb:=sP t h
 match hr:(CI t).2 with
 | []=>rw[hr]at hc;cases hc
 |d::r=>
  rw[hr]at hc hb;rw[Rj]at hc;split at hc
  ·injection hc with hc
   subst hc;exact⟨sR _ hb.1 _ d.toNat_lt _ (by have:=hb.2;simp at this;omega),rfl⟩
  ·cases hc
theorem PO:∀(t acc:List UInt8),(AR acc t).length≤t.length+(if acc= []then 0 else 1)∧∀l∈AR acc t,l.length≤acc.length+t.length
 | [],acc=>by
   rw[AR];split
   ·exact⟨by simp,fun l hl=>by cases hl⟩
   ·rename_i h
    exact⟨by simp,fun l hl=>by simp at hl;rw[hl];simp⟩
 |c::t,acc=>by
  rw[AR];split
  ·have ih:=PO t []
   split
   ·rename_i h
    subst h;refine⟨?_,fun l hl=> ?_⟩
    ·have:=ih.1;simp at this⊢;omega
    ·have:=ih.2 l hl;simp at this⊢;omega
   ·rename_i h
    refine⟨?_,fun l hl=> ?_⟩
    ·have:=ih.1;simp at this⊢;omega
    ·rcases List.mem_cons.1 hl with rfl|hl
     ·simp
     ·have:=ih.2 l hl;simp at this⊢;omega
  ·have ih:=PO t (acc++ [c])
   refine⟨?_,fun l hl=> ?_⟩
   ·have:=ih.1
    simp at this⊢;split<;>omega
   ·have:=ih.2 l hl;simp at this⊢;omega
theorem YM:∀(M:List (List UInt8))(L:List Cm),(∀t∈M,t.length≤400)→BF M=some L→L.length=M.length∧∀c∈L,DZ c∧c.next=0
 | [],L,_,h=>by rw[BF]at h;injection h with h;subst h;exact⟨rfl,fun c hc=>by cases hc⟩
 |u::M,L,hM,h=>by
  rw[BF]at h;cases hu:Dw u with
  |none=>rw[hu]at h;cases h
  |some c=>
   rw[hu]at h;cases hm:BF M with
   |none=>simp[hm]at h
   |some l=>
    simp[hm]at h;subst h;have ih:=YM M l (fun t ht=>hM t (by simp[ht])) hm;refine⟨by simp[ih.1],fun x hx=> ?_⟩;rcases List.mem_cons.1 hx with rfl|hx
    ·exact sS u (hM u (by simp)) x hu
    ·exact ih.2 x hx
theorem dV:∀(t:List (Nat×Nat))(d p:Nat),GZ t d p≤p+t.length
 | [],d,p=>by rw[GZ];omega
 |q::t,d,p=>by
  have ih:=fun d=>dV t d (p+1)
  rw[GZ];simp only[List.length_cons];split
  ·have:=ih (d+1);omega
  ·split
   ·split
    ·omega
    ·have:=ih (d - 1);omega
   ·have:=ih d;omega
theorem dW:∀(t:List (Nat×Nat))(x:Nat),Ee t x≤t.length
 | [],x=>by rw[Ee];simp
 |q::t,x=>by
  have ih:=dW t x;rw[PK];simp only[List.length_cons];split
  ·omega
  ·split<;>omega
theorem sT(P:List (Nat×Nat))(k:Nat)(h:k<P.length):N6 P k≤P.length:=by
 unfold N6;have:=dV (P.drop (k+1)) 1 (k+1);rw[List.length_drop]at this;omega
theorem mn(P:List (Nat×Nat))(k:Nat)(h:k<P.length):Hz P k≤P.length:=by
 unfold Hz;split
 ·unfold tgt
  split
  ·omega
  ·exact dW P (lbA P k)
 ·split
  ·exact sT P k h
  ·omega
theorem dX(t:List UInt8)(h:t.length≤400)(cs:List Cm)(hs:Ef t cs):cs.length≤400∧(∀c∈cs,DZ c)∧∀c∈cs,c.next≤cs.length:=by
 obtain⟨L,h1,_,rfl⟩ :=hs;have hl:=PO t [];have hk:=YM _ L (fun u hu=>by have:=hl.2 u hu;simp at this;omega) h1;have hlen:L.length≤400:=by have:=hl.1;simp at this;omega
 have hlv:(GV L).length=L.length:=by simp[GV]
 have hcs:(CD L).length=L.length:=by simp[CD]
 have N3:∀i(h:i<(CD L).length),(CD L)[i]= {L[i]'(by rw[hcs]at h;exact h)with next:=Hz (GV L) i}:=fun i h=>by simp[CD]
 have OW:∀i(h:i<(CD L).length),Hz (GV L) i≤L.length:=fun i h=>by
  have:=mn (GV L) i (by omega);omega
 refine⟨by omega,fun c hc=> ?_,fun c hc=> ?_⟩
 all_goals
  obtain⟨i,hi,rfl⟩ :=List.getElem_of_mem hc
 ·have ho:=(hk.2 (L[i]'(by omega)) (List.getElem_mem _)).1
  have hn:=OW i hi;rw[N3 i hi];exact⟨ho.tx,ho.rp,ho.i1,ho.i2,ho.i3,ho.fr,ho.Kv,ho.nm,by show Hz (GV L) i≤400;omega,ho.ct,ho.n1,ho.n2,ho.k1,ho.k2,ho.cn⟩
 ·rw[N3 i hi]
  show Hz (GV L) i≤_;rw[hcs];exact OW i hi
theorem Ym:∀(l:List Mk),FD l=false→∀i j(aG:i<j)(hj:j<l.length),l[i].b≠l[j].b
 | [],_,i,j,_,hj=>absurd hj (Nat.not_lt_zero _)
 |k::m,h,i,j,aG,hj=>by
  rw[FD,Bool.or_eq_false_iff]at h;cases i with
  |zero=>
   obtain⟨j',rfl⟩ :∃j',j=j'+1:=⟨j - 1,by omega⟩
   have hj':j'<m.length:=by simpa using hj
   have h1:=List.any_eq_false.1 h.1 m[j'] (List.getElem_mem _);show k.b≠m[j'].b;intro e;exact h1 (by simp[e])
  |succ i'=>
   obtain⟨j',rfl⟩ :∃j',j=j'+1:=⟨j - 1,by omega⟩
   exact Ym m h.2 i' j' (by omega) (by simpa using hj)
theorem gy(l l2:List Mk)(h:vD l l2)(hl:l2.length=l.length)(k:Nat)(hk:k<l.length)(c:Cl):
  BQ ((ET l).take (k+1)) (ET l2) c=if c.1.toNat=l[k].b then(UInt8.ofNat (l2[k]'(by omega)).b,-1)else BQ ((ET l).take k) (ET l2) c:=by
 have jd:(ET l).length=l.length:=by simp[ET]
 have aH:k<(ET l).length:=by omega
 have hg:(ET l)[k]=UInt8.ofNat l[k].b:=by simp[ET]
 have hb:=h.2.1 l[k] (List.getElem_mem _);have hgn:(UInt8.ofNat l[k].b).toNat=l[k].b:=by simp;omega
 unfold BQ G9;rw[List.take_add_one,List.getElem?_eq_getElem aH,hg,List.findIdx?_append]
 by_cases e:c.1.toNat=l[k].b
 ·rw[if_pos e]
  have hc:UInt8.ofNat l[k].b=c.1:=UInt8.toNat_inj.1 (by rw[hgn,e]);have hn:((ET l).take k).findIdx? (fun d=>d==c.1)=none:=by
   rw[List.findIdx?_eq_none_iff];intro d hd;obtain⟨i,hi,rfl⟩ :=List.getElem_of_mem hd;rw[List.length_take]at hi;have QJ:i<l.length:=by omega
   rw[List.getElem_take];have eI:(ET l)[i]=UInt8.ofNat l[i].b:=by simp[ET]
   have CJ:=h.2.1 l[i] (List.getElem_mem _);have AD5:(UInt8.ofNat l[i].b).toNat=l[i].b:=by simp;omega
   have hne:=Ym l h.1 i k (by omega) hk;rw[eI];simp;intro e2;apply hne;rw[←AD5,e2,e]
  rw[hn];have h1:([UInt8.ofNat l[k].b]:List UInt8).findIdx? (fun d=>d==c.1)=some 0:=by rw[hc];simp
  have Ac:((ET l).take k).length=k:=by rw[List.length_take];omega
  simp only[Option.toList_some,h1,Ac,Option.map_some,Nat.zero_add,Option.none_or];have Ep:k<(ET l2).length:=by simp[ET];omega
  rw[List.getElem?_eq_getElem Ep];simp[ET]
 ·rw[if_neg e]
  have h1:([UInt8.ofNat l[k].b]:List UInt8).findIdx? (fun d=>d==c.1)=none:=by
   rw[List.findIdx?_eq_none_iff];intro d hd;simp at hd;subst hd;simp;intro e2;apply e;rw[←e2,hgn]
  simp only[Option.toList_some,h1,Option.map_none,Option.or_none]
theorem oC(tt:List UInt8)(c:Cl):BQ [] tt c=c:=rfl
structure KU(pat:List Cl)(s:Lx)(k at':Nat)(Ew:Int)(l:List Cl)(d:Nat)(Dz:Bool):Prop where
 ex:∃f,2*(pat.length+1 - at')+1≤f+(if Ew=(at':Int)then 1 else 0)∧(CP s.ex (AL pat)).length=(k - 1)+(G8 (Hw s.ex (AL pat)) pat.length f at' Ew).length∧
  Au pat s (CP s.ex (AL pat)) 1 0=l++Au pat s (G8 (Hw s.ex (AL pat)) pat.length f at' Ew) k d
 k1:1≤k
 ha:at'≤pat.length
 hb: -1≤Ew∧Ew≤pat.length
 kk:k≤at'+1+(if Ew=(at':Int)then 1 else 0)
 hh:Dz=decide (s.count<k)
 hd:d≤at'
 hl:l.length≤400*d+400*(k - 1)
theorem JN(l:List Cl):(AL l).length=l.length:=by simp[AL]
theorem KU.start(pat:List Cl)(s:Lx)(hc:1≤s.count):KU pat s 1 0 (-1) [] 0 false:=by
 refine⟨⟨2*pat.length+3,?_,?_,?_⟩,δ,ε,⟨by omega,by omega⟩,by simp,?_,δ,by simp⟩
 ·rw[if_neg (by decide)];omega
 ·unfold CP;rw[JN];simp
 ·unfold CP;rw[JN];rfl
 ·symm;rw[decide_eq_false_iff_not];omega
theorem KU.none{pat:List Cl}{s:Lx}{k at':Nat}{Ew:Int}{l:List Cl}{d:Nat}{Dz:Bool}(h:KU pat s k at' Ew l d Dz){i j:Int}(hf:LN s.ex (AL pat) at' Ew i j)(hi:i<0):
  Dz=decide (¬(CP s.ex (AL pat)).length<s.count)∧Au pat s (CP s.ex (AL pat)) 1 0=l++pat.drop d:=by
 obtain⟨f,h1,h2,h3⟩ :=h.ex;have hn:=JN pat;rcases Ur s.ex (AL pat) Ew i j f at' (by rw[hn];have:=h.ha;omega) (by rw[hn];exact h1) hf with⟨_,e⟩ | ⟨a,b,f',e,_⟩
 ·rw[hn]at e
  rw[e]at h2 h3;refine⟨?_,h3⟩;rw[h.hh,h2,decide_eq_decide];have:=h.k1;simp;omega
 ·omega
theorem KU.over{pat:List Cl}{s:Lx}{k at':Nat}{Ew:Int}{l:List Cl}{d:Nat}{Dz:Bool}(h:KU pat s k at' Ew l d Dz)(hk:pat.length+1<k):
  Dz=decide (¬(CP s.ex (AL pat)).length<s.count)∧Au pat s (CP s.ex (AL pat)) 1 0=l++pat.drop d:=by
 have Cw:=h.ha;have I2:=h.kk;have e1:at'=pat.length∧Ew=(at':Int):=by
  split at I2
  ·exact⟨by omega,by assumption⟩
  ·omega
 refine h.none (i:= -1) (j:= -1) (.inl ⟨rfl,rfl,fun p q hp hm=> ?_⟩) (by omega);have:=Fk hm;rw[JN]at this;exact⟨by omega,by rw[e1.2];omega⟩
theorem KU.some{pat:List Cl}{s:Lx}{k at':Nat}{Ew:Int}{l:List Cl}{d:Nat}{Dz:Bool}(h:KU pat s k at' Ew l d Dz)(hr:s.rep.length≤400){i j:Int}(hf:LN s.ex (AL pat) at' Ew i j)(hi:0≤i):
  ∃a b:Nat,i=a∧j=b∧at'≤a∧a≤b∧b≤pat.length∧
   (I7 s k=true→KU pat s (k+1) b b (l++τ pat d a++Ai s.rep (τ pat a b)) b true)∧(I7 s k=false→KU pat s (k+1) b b l d Dz):=by
 obtain⟨f,h1,h2,h3⟩ :=h.ex;have hn:=JN pat;have Cw:=h.ha;have EW:=h.k1;have hd:=h.hd;rcases Ur s.ex (AL pat) Ew i j f at' (by rw[hn];omega) (by rw[hn];exact h1) hf with⟨e,_⟩ | ⟨a,b,f',e1,e2,e3,e4,e5,e6,e7,e8⟩
 ·omega
 ·rw[hn]at e5 e7 e8
  have I2:=h.kk;have hkb:k+1≤b+2:=by
   split at I2
   ·rcases e6 with e6|e6
    ·omega
    ·have:(a:Int)≠at':=fun e=>e6 (by omega)
     omega
   ·omega
  rw[e7]at h2 h3;refine⟨a,b,e1,e2,e3,e4,e5,fun Js=> ?_,fun Js=> ?_⟩
  ·refine⟨⟨f',by rw[if_pos rfl];exact e8,by rw[h2,List.length_cons];omega,?_⟩,by omega,e5,⟨by omega,by omega⟩,by rw[if_pos rfl];omega,?_,δ,?_⟩
   ·rw[h3,Au,if_pos Js]
    simp only[List.append_assoc]
   ·symm
    rw[decide_eq_true_iff];unfold I7 at Js;simp at Js;omega
   ·have fL:(τ pat d a).length≤a - d:=by unfold τ;rw[List.length_take];omega
    have R0:(τ pat a b).length≤b - a:=by unfold τ;rw[List.length_take];omega
    have hp3:(Ai s.rep (τ pat a b)).length≤s.rep.length*((τ pat a b).length+1):=by
     generalize s.rep=r;generalize τ pat a b=m;unfold Ai
     induction r with
     |nil=>simp
     |cons p r ih=>
      rw[List.flatMap_cons,List.length_append,List.length_cons,Nat.add_mul,Nat.one_mul];cases p with
      |none=>simp only;omega
      |some c=>simp only[List.length_singleton];omega
    have hp4:s.rep.length*((τ pat a b).length+1)≤400*(b - a+1):=Nat.mul_le_mul hr (by omega);have hl:=h.hl;rw[List.length_append,List.length_append];have:k+1 - 1=(k - 1)+1:=by omega
    rw[this];omega
  ·refine⟨⟨f',by rw[if_pos rfl];exact e8,by rw[h2,List.length_cons];omega,?_⟩,by omega,e5,⟨by omega,by omega⟩,by rw[if_pos rfl];omega,?_,by omega,?_⟩
   ·rw[h3,Au,if_neg (by rw[Js];decide)]
   ·rw[h.hh,decide_eq_decide]
    unfold I7 at Js;simp at Js
    constructor
    ·intro e;omega
    ·intro e
     rcases Nat.lt_or_ge s.count k with e9|e9
     ·exact e9
     ·exact absurd (by omega) Js.1
   ·have hl:=h.hl
    have:k+1 - 1=(k - 1)+1:=by omega
    rw[this];omega
end Go.Proofs.YtlppphmnegdhoabGreatDoor
