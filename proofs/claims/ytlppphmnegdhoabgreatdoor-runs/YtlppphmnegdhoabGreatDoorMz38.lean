import Derived.Test.YtlppphmnegdhoabGreatDoorMz37
set_option linter.unusedVariables false
set_option maxRecDepth 100000
set_option maxHeartbeats 4000000
namespace Go.Proofs.YtlppphmnegdhoabGreatDoor
open Go.Proofs.Tryz
open Go.RowKit
open M
theorem QW.below{w w':World}{a:Option Addr}{l:List It}(h:QW w a l)(hb:Below w.heap.size w w'):QW w' a l:=by
 obtain⟨Li,e1,e2⟩ :=h;exact⟨Li,e1,e2.below hb⟩
theorem PQ.below{w w':World}{vs:List Value}{c:Cm}(h:PQ w vs c)(hb:Below w.heap.size w w'):PQ w' vs c:=by
 refine⟨h.len,h.one,?_,?_,h.no,h.nm,h.tx,fun e=> ?_,fun e=> ?_⟩
 ·obtain⟨p,q,h1,h2⟩ :=h.a1;exact⟨p,q,h1,h2.below hb⟩
 ·obtain⟨p,q,h1,h2⟩ :=h.a2;exact⟨p,q,h1,h2.below hb⟩
 ·obtain⟨a,q,m,a2,q2,h1,h2,h3,h4,h5,h6,h7,h8,h9,Ff,Pr⟩ :=h.sb e
  exact⟨a,q,m,a2,q2,h1,h2,h3,h4,h5,h6,h7,h8,h9,Ff.below hb,Pr.below hb⟩
 ·obtain⟨l,l2,a,q,a2,q2,h1,h2,h3,h4,h5,h6,h7,h8⟩ :=h.ex e
  exact⟨l,l2,a,q,a2,q2,h1,h2,h3,h4,h5,h6,h7.below hb,h8.below hb⟩
def E5(cs:List Cm)(L:List (Nat×List UInt8))(w:World)(v:Value):Prop:=∃a q,v= .slice a L.length q∧GJ w a L∧cs.length=L.length∧∀k(h:k<cs.length),∃g vs,a=some ⟨g,0,none⟩∧g<w.heap.size∧w.rangeAt g (k*23) vs∧PQ w vs cs[k]
theorem vS{vs:List Value}{A:Ku}{p:Option Addr}{q o:Nat}(hl:o+5≤vs.length)(h:∀j,j<5→vs[o+j]? =(OZ A p q)[j]?):(vs.drop o).take 5=OZ A p q:=by
 apply List.ext_getElem?;intro j;rw[List.getElem?_take];split
 all_goals
  rename_i hj
 ·rw[List.getElem?_drop,h j hj]
 ·rw[List.getElem?_eq_none (by show 5≤j;omega)]
theorem PQ.ad1{w:World}{vs:List Value}{c:Cm}(h:PQ w vs c):∃p q,(vs.drop 0).take 5=OZ c.a1 p q∧QW w p c.a1.ex.l:=by
 obtain⟨p,q,h1,h2⟩ :=h.a1;exact⟨p,q,vS (by rw[h.len];decide) (fun j hj=>by rw[Nat.zero_add];exact h1 j hj),h2⟩
theorem PQ.ad2{w:World}{vs:List Value}{c:Cm}(h:PQ w vs c):∃p q,(vs.drop 5).take 5=OZ c.a2 p q∧QW w p c.a2.ex.l:=by
 obtain⟨p,q,h1,h2⟩ :=h.a2;exact⟨p,q,vS (by rw[h.len];decide) h1,h2⟩
theorem MU(P:Value→World→Prop)(b:Nat)(V:DV)(D:DS)(A:Ku)(p:Option Addr)(c:Nat)(w:World)(h:AD P b V D w)(hA:A.line≤100000)(hD:D.line≤100000):
  Calls prog 222 #[.pointer (some ⟨b,0,none⟩),.agg (OZ A p c).toArray] w fun e w'=>e= .returned (.bool (D.Fm A))∧Below w.heap.size w w':=by
 have Bq:=h.box.lt;obtain⟨kd,Nk⟩ :∃k,A.kind=k:=⟨_,rfl⟩
 obtain⟨ln,J9⟩ :∃k,A.line=k:=⟨_,rfl⟩
 obtain⟨dl,hdl⟩ :∃k,D.line=k:=⟨_,rfl⟩
 have hne:OZ A p c= [.int .i64 (kd:Nat),.int .i64 (ln:Nat),.bool A.ex.head,.bool A.ex.tail,.slice p A.ex.l.length c]:=by unfold OZ;rw[Nk,J9]
 have HE:Hid (D.Fm A=(decide (kd=1) && decide (ln≤dl))):=by show _=_;unfold DS.Fm;rw[Nk,J9,hdl]
 rw[hne];rw[J9]at hA;rw[hdl]at hD;clear hne J9 Nk;have Dg:CB (w.alloc (.cells #[.int .i64 (kd:Nat),.int .i64 (ln:Nat),.bool A.ex.head,.bool A.ex.tail,.slice p A.ex.l.length c] 177)) w.heap.size [.int .i64 (kd:Nat),.int .i64 (ln:Nat),.bool A.ex.head,.bool A.ex.tail,.slice p A.ex.l.length c]:=CB.new w _ #[.int .i64 (kd:Nat),.int .i64 (ln:Nat),.bool A.ex.head,.bool A.ex.tail,.slice p A.ex.l.length c] (by simp[Value.oneCell']);have B0:Below w.heap.size w (w.alloc (.cells #[.int .i64 (kd:Nat),.int .i64 (ln:Nat),.bool A.ex.head,.bool A.ex.tail,.slice p A.ex.l.length c] 177)):=ζ.alloc δ _;have pd:=h.below B0;have a9:=pd.cell 9 _ rfl;rw[hdl]at a9;have la:=pd.box.lt;have p0:=Dg.c 0 _ rfl;have p1:=Dg.c 1 _ rfl;have lp:=Dg.lt;have pg:=γ B0;clear h B0 pd Dg hdl;have hd:decide ((ln:Int)≤(dl:Int))=decide (ln≤dl):=by rw[decide_eq_decide];omega
 by_cases h1:kd=1
 ·have k1:((kd:Int)==1)=true:=by simp[h1]
  rw[decide_eq_true h1,Bool.true_and,←hd]at HE;clear h1 hd;obtain⟨le,hle⟩ :∃x,decide ((ln:Int)≤(dl:Int))=x:=⟨_,rfl⟩
  rw[hle]at HE
  go_enter func222,ntmps222
  go_wp2_with fail
  generalize w.alloc (.cells #[.int .i64 (kd:Nat),.int .i64 (ln:Nat),.bool A.ex.head,.bool A.ex.tail,.slice p A.ex.l.length c] 177)=W0 at*
  go_quiet(fail)
  all_goals
   go_wp2;go_ret;exact⟨ι (by rw[HE.out,←hle];first|done|rfl| (rw[decide_eq_decide];omega)),below_drewN pg.out _⟩
 ·have k1:((kd:Int)==1)=false:=by simp;omega
  rw[decide_eq_false h1,Bool.false_and]at HE;clear h1 hd
  go_enter func222,ntmps222
  go_wp2_with fail
  generalize w.alloc (.cells #[.int .i64 (kd:Nat),.int .i64 (ln:Nat),.bool A.ex.head,.bool A.ex.tail,.slice p A.ex.l.length c] 177)=W0 at*
  go_quiet(fail)
  all_goals
   go_wp2;go_ret;exact⟨ι (by rw[HE.out]),below_drewN pg.out _⟩
section
variable {P : Value → World → Prop} {b : Nat} {V : DV} {D : DS} {w w' : World}
theorem AD.FP(h:AD P b V D w){g n c:Nat}(hv:V.AM= .slice (some ⟨g,0,none⟩) n c)(k:Nat)(x:Bool):σ P b V {D with AM:=D.AM.set k x} w (w.setCell ⟨g,k,none⟩ (.bool x)):=by
 have dJ:g≠b:=fun e=>h.sr (by rw[hv,←e];rfl)
 have hfg:χ b V g:= .inr (.inl (by rw[hv];rfl));have f1:Rf (χ b V) (χ b V) w (w.setCell ⟨g,k,none⟩ (.bool x)):=⟨rfl,rfl,rfl,by simp,fun q _ hq=>heap_setCell_other w _ q _ (fun e=>hq (by rw[e];exact hfg)),fun _ h=> .inl h⟩
 have hk:∀q,q≠g→(w.setCell ⟨g,k,none⟩ (.bool x)).heap[q]? =w.heap[q]? :=fun q hq=>heap_setCell_other w _ q _ hq
 refine⟨V,rfl,⟨?_,?_,?_,h.sr,h.sq,h.AZ.fr f1,h.pat.fr f1,h.hold.fr f1,h.out.fr f1,h.one⟩,f1⟩
 ·exact h.box.keep (hk b (fun e=>dJ e.symm)) (by simp)
 ·have h9:=h.AM
  show World.ownsRow _ 0 _ 1 V.AM (D.AM.set k x).length ((D.AM.set k x).map .bool);rw[List.length_set,List.map_set];have hn:n=D.AM.length:=by
   rcases h9.2 with⟨e,_⟩ | ⟨g',cap,cur,e,_⟩
   ·rw[hv]at e;cases e
   ·rw[hv]at e;simp at e;omega
  subst hn;rw[hv]at h9⊢;exact(h9.stored k (.bool x)).1
 ·refine Ab (F:=χ b V) (G:=χ b V) h.D8 (fun q e=>hk q (fun e'=> ?_))
  exact GF h.D8 h.AM (by decide) q e (by rw[hv,e'];rfl)
end
theorem σ.below{P:Value→World→Prop}{b:Nat}{V:DV}{D:DS}{w w1 w':World}(hb:Below w.heap.size w w1)(h:σ P b V D w1 w'):σ P b V D w w':=σ.trans rfl (.η hb) h
theorem σ.refl{P:Value→World→Prop}{b:Nat}{V:DV}{D:DS}{w w':World}(h:AD P b V D w)(hb:Below w.heap.size w w'):σ P b V D w w':=⟨V,rfl,h.below hb,.η hb⟩
theorem σ.drew{P:Value→World→Prop}{b:Nat}{V:DV}{D:DS}{w w':World}(h:σ P b V D w w'):σ P b V D w w'.drew:=by
 obtain⟨V',h1,h2,h3⟩ :=h;exact⟨V',h1,h2.below (ζ.drew),h3.trans (.η (ζ.drew))⟩
def SZ(P:Value→World→Prop)(b:Nat)(V:DV)(r:Bool×DS)(w:World)(e:Ending)(w':World):Prop:=e= .returned (.bool r.1)∧σ P b V r.2 w w'
theorem Tw(cs:List Cm)(L:List (Nat×List UInt8))(P:Value→World→Prop)(b:Nat)(V:DV)(D:DS)(k:Nat)(c:Cm)(w:World)(h:AD P b V D w)(hP:∀w,P V.AZ w→E5 cs L w V.AZ)(hc:cs[k]? =some c)(hk:DZ c)(Ht:D.pat.length≤256)(hD:D.line≤100000)(Ez:k<D.AM.length)(DL:cs.length≤400)(RE:D.AM.length≤400):
  Calls prog 192 #[.pointer (some ⟨b,0,none⟩),.int .i64 (k:Nat)] w fun e w'=>SZ P b V (D.AG k c) w e w':=by
 obtain⟨Lv,F6⟩ :=List.getElem?_eq_some_iff.1 hc;have HK:=γ hk;have F7:Hid (D.pat.length≤256∧D.line≤100000):=⟨Ht,hD⟩
 obtain⟨aS,qs,Fb,Ig,hlen,Co⟩ :=hP w h.AZ.out;obtain⟨g,vs,rfl,hg,hr,Db⟩ :=Co k Lv;rw[F6]at Db;have Bh:=γ Db.len;have FY:=Db.one;obtain⟨p1,q1,EN,pE⟩ :=Db.ad1;obtain⟨p2,q2,S7,zB⟩ :=Db.ad2;have zQ:=γ EN;have R9:=γ S7;have HX1:=γ pE;have fT:=γ zB;have HH:=γ h;have Bq:=h.box.lt;have c5:=h.cell 5 _ rfl;have PY:w.cell? ⟨b,5,none⟩ =some (.slice (some ⟨g,0,none⟩) L.length qs):=by rw[c5];show some V.AZ=_;rw[Fb]
 obtain⟨gr,cr,aW,dJ⟩ :∃g c,V.AM= .slice (some ⟨g,0,none⟩) D.AM.length c∧g≠b:=by
  obtain⟨g,cap,hv,_,_⟩ :=h.AM.form (by omega);exact⟨g,cap,hv,fun e=>h.sr (by rw[hv,←e];rfl)⟩
 have dK:=γ aW;have NI:Hid (∀w',AD P b V D w'→gr<w'.heap.size∧w'.cell? ⟨gr,k,none⟩ =some (.bool D.AM[k])∧w'.frozen? ⟨gr,k,none⟩ =false∧w'.cell? ⟨b,6,none⟩ =some (.slice (some ⟨gr,0,none⟩) D.AM.length cr)):=fun w' h'=>by
  have hr:=h'.AM;rw[aW]at hr;have c0:=hr.cells rfl k (.bool D.AM[k]) (by simp[Ez]);rw[Addr.add_mid,Nat.zero_add]at c0;have c1:=h'.cell 6 _ rfl;exact⟨(hr.lt gr rfl).2,c0,hr.frozenAt k,by rw[c1];show some V.AM=_;rw[aW]⟩
 have HGD:Hid (D.AM.getD k false=D.AM[k]):=by show _=_;simp[Ez]
 have Eu:Hid (D.AG k c=if D.AM.getD k false then(true,{D with AM:=D.AM.set k (!(D.Fm c.a2 || D.holds c.a2))})else(D.holds c.a1,if D.holds c.a1 then{D with AM:=D.AM.set k (!D.Fm c.a2)}else D)):=rfl;rw[HGD.out]at Eu;obtain⟨n,hn⟩ :∃n,D.AM.length=n:=⟨_,rfl⟩
 rw[hn]at NI Ez RE;obtain⟨op,ur⟩ :∃x,D.AM[k]=x:=⟨_,rfl⟩
 rw[ur]at NI Eu;obtain⟨nL,Ej⟩ :∃n,L.length=n:=⟨_,rfl⟩
 rw[hlen,Ej]at Lv DL;rw[Ej]at PY;have EW:¬(k:Int)<0:=by omega
 have Ep:¬(n:Int)≤(k:Int):=by omega
 have Px:(k:Int)<(n:Int):=by omega
 have L8:(0:Int)≤(k:Int):=by omega
 have mK:¬(nL:Int)≤(k:Int):=by omega
 have vT:(k:Int)<(nL:Int):=by omega
 have Cq:CB (w.alloc (.cells A9.toArray 179)) w.heap.size A9:=CB.new w _ _ C8;have BA:Below w.heap.size w (w.alloc (.cells A9.toArray 179)):=ζ.alloc δ _;have ZF:=(zero_of_info (show(prog.info? 179).map (fun i=>(i.zero,i.size))=some (some (.agg A9.toArray),23)by kernel_rfl)).1;clear h hP hc F6 hk Db Co Ig hlen Fb c5 EN S7 pE zB aW hn ur Ej HGD Ht hD;cases op with
 |true=>
  rw[if_pos rfl]at Eu
  go_enter func192,ntmps192
  go_wp2_with(first
   |refine BX Ao hr Bh.out rfl _ rfl rfl ?_
   | (refine θ Ao Cq rfl rfl _ _ rfl rfl rfl Bh.out FY ?_
      intro w1 ξ O1;have B1:=BA.trans (O1.below (B:=w.heap.size) δ);have Bo:=HH.out.below B1;have A0:=γ Bo;obtain⟨xq,xr,_,E2⟩ :=NI.out w1 Bo;have Dx:=Bo.box.lt;have LA:=ξ.lt;clear Bo)
   |refine D7 Az ξ (o:=5) R9.out (by rw[←R9.out,List.length_take,List.length_drop,Bh.out];rfl) rfl _ rfl rfl ?_)
  refine(MU P b V D c.a2 p2 q2 w1 A0.out (by have:=HK.out.n2;omega) F7.out.2).mono ?_;rintro e w2 ⟨rfl,B2⟩;have X8:=BC B1 B2;have Ds:=HH.out.below X8;have EA:=γ Ds;obtain⟨lg2,cg2,fg2,OU⟩ :=NI.out w2 Ds;have pP:=Ds.box.lt;have CJ:=ξ.below B2 ξ.lt;have fe:=CJ.lt;clear Ds PY hr ξ xq xr E2 Dx LA Cq BA;cases Xj:D.Fm c.a2 with
  |true=>
   rw[Xj]at Eu;have HF:Hid (σ P b V (D.AG k c).2 w (w2.setCell ⟨gr,k,none⟩ (.bool false))):=by
    show σ _ _ _ _ _ _;rw[Eu.out];exact σ.below X8 (EA.out.FP dK.out k false)
   have Bm:Hid ((D.AG k c).1=true):=by show _=_;rw[Eu.out]
   clear Xj;go_wp2;go_ret;exact⟨by rw[Bm.out];rfl,HF.out⟩
  |false=>
   rw[Xj,Bool.false_or]at Eu;clear Xj;have Nu:∀j,j<5→vs[5+j]? =(OZ c.a2 p2 q2)[j]? :=fun j hj=>by rw[←R9.out,List.getElem?_take,if_pos hj,List.getElem?_drop]
   have d5:=CJ.c 5 _ (Nu 0 (by decide));have d6:=CJ.c 6 _ (Nu 1 (by decide));have d7:=CJ.c 7 _ (Nu 2 (by decide));have d8:=CJ.c 8 _ (Nu 3 (by decide));have d9:=CJ.c 9 _ (Nu 4 (by decide));clear Nu
   go_wp2_with fail
   clear d5 d6 d7 d8 d9;refine(J3 P b V D c.a2 p2 q2 w2 EA.out (fT.out.below X8) (by have:=HK.out.i2;omega) F7.out.1 (by have:=HK.out.n2;omega) F7.out.2).mono ?_;rintro e w3 ⟨rfl,B3⟩;have ij:=BC X8 B3;have KP:=HH.out.below ij;have Ge:=γ KP;obtain⟨lg3,cg3,fg3,Ro⟩ :=NI.out w3 KP;have np:=KP.box.lt;have HF:Hid (∀x,D.holds c.a2=x→σ P b V (D.AG k c).2 w (w3.setCell ⟨gr,k,none⟩ (.bool (!x)))):=fun x hx=>by
    rw[Eu.out,hx];exact σ.below ij (Ge.out.FP dK.out k (!x))
   have Bm:Hid ((D.AG k c).1=true):=by show _=_;rw[Eu.out]
   clear KP CJ lg2 cg2 fg2 OU pP fe Eu;cases Wm:D.holds c.a2 with
   |true=>
    have GO:=HF.out true Wm;have OT:=γ GO;clear Wm HF GO;go_wp2;go_ret;exact⟨by rw[Bm.out];rfl,OT.out⟩
   |false=>
    have GO:=HF.out false Wm;have OT:=γ GO;clear Wm HF GO;go_wp2;go_ret;exact⟨by rw[Bm.out];rfl,OT.out⟩
 |false=>
  rw[if_neg (by decide)]at Eu
  go_enter func192,ntmps192
  go_wp2_with(first
   |refine BX Ao hr Bh.out rfl _ rfl rfl ?_
   | (refine θ Ao Cq rfl rfl _ _ rfl rfl rfl Bh.out FY ?_
      intro w1 ξ O1;have B1:=BA.trans (O1.below (B:=w.heap.size) δ);have Bo:=HH.out.below B1;have A0:=γ Bo;obtain⟨xq,xr,_,E2⟩ :=NI.out w1 Bo;have Dx:=Bo.box.lt;have LA:=ξ.lt;clear Bo)
   |refine D7 Az ξ (o:=0) zQ.out (by rw[←zQ.out,List.length_take,List.length_drop,Bh.out];rfl) rfl _ rfl rfl ?_)
  refine(J3 P b V D c.a1 p1 q1 w1 A0.out (HX1.out.below B1) (by have:=HK.out.i1;omega) F7.out.1 (by have:=HK.out.n1;omega) F7.out.2).mono ?_;rintro e w2 ⟨rfl,B2⟩;have X8:=BC B1 B2;have Ds:=HH.out.below X8;have EA:=γ Ds;obtain⟨lg2,cg2,fg2,OU⟩ :=NI.out w2 Ds;have pP:=Ds.box.lt;have CJ:=ξ.below B2 ξ.lt;have fe:=CJ.lt;clear Ds PY hr ξ xq xr E2 Dx LA Cq BA;cases Wm:D.holds c.a1 with
  |false=>
   rw[Wm]at Eu;have HF:Hid (σ P b V (D.AG k c).2 w w2):=by
    show σ _ _ _ _ _ _;rw[Eu.out];exact σ.refl HH.out X8
   have Bm:Hid ((D.AG k c).1=false):=by show _=_;rw[Eu.out]
   clear Wm;go_wp2;go_ret;exact⟨by rw[Bm.out];rfl,HF.out⟩
  |true=>
   rw[Wm]at Eu;clear Wm;have HF:Hid (∀x w3,D.Fm c.a2=x→Below w.heap.size w w3→σ P b V (D.AG k c).2 w (w3.setCell ⟨gr,k,none⟩ (.bool (!x)))):=fun x w3 hx CM=>by
    rw[Eu.out,hx];exact σ.below CM ((HH.out.below CM).FP dK.out k (!x))
   have Bm:Hid ((D.AG k c).1=true):=by show _=_;rw[Eu.out]
   clear Eu;obtain⟨xp,hxp⟩ :∃x,D.Fm c.a2=x:=⟨_,rfl⟩
   have HXP:=γ hxp;have HC:=fun w3(B3:Below w2.heap.size w2 w3)=>MU P b V D c.a2 p2 q2 w3 (EA.out.below B3) (by have:=HK.out.n2;omega) F7.out.2
   rw[hxp]at HC;have nr:Hid (∀w3,Below w2.heap.size w2 w3→Calls prog 222 #[.pointer (some ⟨b,0,none⟩),.agg (OZ c.a2 p2 q2).toArray] w3 fun e w'=>e= .returned (.bool xp)∧Below w3.heap.size w3 w'):=HC;clear HC hxp;have HFX:Hid (∀w3,Below w.heap.size w w3→σ P b V (D.AG k c).2 w (w3.setCell ⟨gr,k,none⟩ (.bool (!xp)))):=fun w3 h9=>HF.out xp w3 HXP.out h9
   clear HF HXP;have Nu:∀j,j<5→vs[5+j]? =(OZ c.a2 p2 q2)[j]? :=fun j hj=>by rw[←R9.out,List.getElem?_take,if_pos hj,List.getElem?_drop]
   have d5:=CJ.c 5 _ (Nu 0 (by decide));have d6:=CJ.c 6 _ (Nu 1 (by decide));have d7:=CJ.c 7 _ (Nu 2 (by decide));have d8:=CJ.c 8 _ (Nu 3 (by decide));have d9:=CJ.c 9 _ (Nu 4 (by decide));clear Nu;cases xp
   all_goals
    go_wp2_with fail
    go_region_with(first
     | (go_at_call 222
        refine(nr.out _ (ζ.drew)).mono ?_;rintro e w3 ⟨rfl,B3⟩;have ij:=BC X8 ((ζ.drew).trans B3);have KP:=HH.out.below ij;obtain⟨lg3,cg3,fg3,Ro⟩ :=NI.out w3 KP;have np:=KP.box.lt;clear KP))
    all_goals
     go_wp2;go_ret;exact⟨by rw[Bm.out];rfl,HFX.out _ ij⟩
theorem Qd(cs:List Cm)(L:List (Nat×List UInt8))(P:Value→World→Prop)(b:Nat)(V:DV)(D:DS)(k:Nat)(c:Cm)(w:World)(h:AD P b V D w)(hP:∀w,P V.AZ w→E5 cs L w V.AZ)(hc:cs[k]? =some c)(hk:DZ c)(Ht:D.pat.length≤256)(hD:D.line≤100000)(Ez:k<D.AM.length)(DL:cs.length≤400)(RE:D.AM.length≤400):
  Calls prog 157 #[.pointer (some ⟨b,0,none⟩),.int .i64 (k:Nat)] w fun e w'=>SZ P b V (D.AX k c) w e w':=by
 have pQ:=fun w'(h':AD P b V D w')=>Tw cs L P b V D k c w' h' hP hc hk Ht hD Ez DL RE
 have ADy:Hid (∀w',AD P b V D w'→Calls prog 192 #[.pointer (some ⟨b,0,none⟩),.int .i64 (k:Nat)] w' fun e w2=>SZ P b V (D.AG k c) w' e w2):=pQ;clear pQ;obtain⟨Lv,F6⟩ :=List.getElem?_eq_some_iff.1 hc;have HK:=γ hk;have F7:Hid (D.pat.length≤256∧D.line≤100000):=⟨Ht,hD⟩
 obtain⟨aS,qs,Fb,Ig,hlen,Co⟩ :=hP w h.AZ.out;obtain⟨g,vs,rfl,hg,hr,Db⟩ :=Co k Lv;rw[F6]at Db;have Bh:=γ Db.len;have FY:=Db.one;obtain⟨p1,q1,EN,pE⟩ :=Db.ad1;obtain⟨p2,q2,S7,_⟩ :=Db.ad2;have zQ:=γ EN;have HX1:=γ pE;have pW:Hid (vs[0]? =some (.int .i64 (c.a1.kind:Nat))):=by
  show _=_;have h9:=congrArg (fun l:List Value=>l[0]?) EN
  simpa[List.getElem?_take,OZ]using h9
 have HK5:Hid (vs[5]? =some (.int .i64 (c.a2.kind:Nat))):=by
  show _=_;have h9:=congrArg (fun l:List Value=>l[0]?) S7
  simpa[List.getElem?_take,OZ]using h9
 have Pz:=γ Db.no;have HH:=γ h;have Bq:=h.box.lt;have c5:=h.cell 5 _ rfl;have PY:w.cell? ⟨b,5,none⟩ =some (.slice (some ⟨g,0,none⟩) L.length qs):=by rw[c5];show some V.AZ=_;rw[Fb]
 have HS:Hid (D.AX k c=if c.a1.kind=0 then(true,D)else if c.a2.kind=0 then(D.holds c.a1 !=c.no,D)else((D.AG k c).1 !=c.no,(D.AG k c).2)):=rfl;obtain⟨nL,Ej⟩ :∃n,L.length=n:=⟨_,rfl⟩
 rw[hlen,Ej]at Lv DL;rw[Ej]at PY;obtain⟨k1,EW⟩ :∃x,c.a1.kind=x:=⟨_,rfl⟩
 obtain⟨k2,Ep⟩ :∃x,c.a2.kind=x:=⟨_,rfl⟩
 have ADz:=hk.k1;have AD0:=hk.k2;rw[EW]at pW HS ADz;rw[Ep]at HK5 HS AD0;have L8:(0:Int)≤(k:Int):=by omega
 have mK:¬(nL:Int)≤(k:Int):=by omega
 have vT:(k:Int)<(nL:Int):=by omega
 have Cq:CB (w.alloc (.cells A9.toArray 179)) w.heap.size A9:=CB.new w _ _ C8;have BA:Below w.heap.size w (w.alloc (.cells A9.toArray 179)):=ζ.alloc δ _;have ZF:=(zero_of_info (show(prog.info? 179).map (fun i=>(i.zero,i.size))=some (some (.agg A9.toArray),23)by kernel_rfl)).1;clear h hP hc F6 hk Db Co Ig hlen Fb c5 EN S7 pE Ej Ht hD EW Ep
 go_enter func157,ntmps157
 go_upto_region 2 with(first
  |refine BX Ao hr Bh.out rfl _ rfl rfl ?_
  | (refine θ Ao Cq rfl rfl _ _ rfl rfl rfl Bh.out FY ?_
     intro w1 ξ O1;have B1:=BA.trans (O1.below (B:=w.heap.size) δ);have Bo:=HH.out.below B1;have A0:=γ Bo;have Dx:=Bo.box.lt;have LA:=ξ.lt;have d0:=ξ.c 0 _ pW.out;have d5:=ξ.c 5 _ HK5.out;have d10:=ξ.c 10 _ Pz.out;clear Bo))
 clear PY hr Cq BA
 by_cases h1:k1=0
 ·have Pr:((k1:Int)==0)=true:=by simp[h1]
  rw[if_pos h1]at HS;have HP:Hid (σ P b V (D.AX k c).2 w w1):=by
   show σ _ _ _ _ _ _;rw[HS.out];exact σ.refl HH.out B1
  have FO:Hid ((D.AX k c).1=true):=by show _=_;rw[HS.out]
  clear h1 HS;go_wp2;go_ret;exact⟨by rw[FO.out];rfl,HP.out⟩
 have Pr:((k1:Int)==0)=false:=by simp;omega
 rw[if_neg h1]at HS
 by_cases h2:k2=0
 ·have qd:((k2:Int)==0)=true:=by simp[h2]
  rw[if_pos h2]at HS;clear h1 h2
  go_wp2_with(refine D7 Az ξ (o:=0) zQ.out (by rw[←zQ.out,List.length_take,List.length_drop,Bh.out];rfl) rfl _ rfl rfl ?_)
  have HC:=J3 P b V D c.a1 p1 q1 w1 A0.out (HX1.out.below B1) (by have:=HK.out.i1;omega) F7.out.1 (by have:=HK.out.n1;omega) F7.out.2;refine HC.mono ?_;clear HC;rintro e w2 ⟨rfl,B2⟩;have CJ:=ξ.below B2 ξ.lt;have e10:=CJ.c 10 _ Pz.out;have fe:=CJ.lt;have HP:Hid (σ P b V (D.AX k c).2 w w2):=by
   show σ _ _ _ _ _ _;rw[HS.out];exact σ.refl HH.out (BC B1 B2)
  have FO:Hid ((D.AX k c).1=(D.holds c.a1 !=c.no)):=by show _=_;rw[HS.out]
  generalize D.holds c.a1=x at*;generalize c.no=y at*;clear HS ξ d0 d5 d10;cases x<;>cases y
  all_goals
   go_wp2;go_ret;exact⟨by rw[FO.out];rfl,HP.out⟩
 ·have qd:((k2:Int)==0)=false:=by simp;omega
  rw[if_neg h2]at HS;clear h1 h2;have HC:=ADy.out w1 A0.out
  go_wp2_with fail
  refine HC.mono ?_;clear HC;rintro e w2 ⟨rfl,V2,Fw,Ds,JW⟩;have Nd:¬χ b V w.heap.size:=fun hf=>by have:=C9 HH.out _ hf;omega
  have CJ:=ξ.keep (JW.block _ ξ.lt Nd) JW.size;have e10:=CJ.c 10 _ Pz.out;have fe:=CJ.lt;have HP:Hid (σ P b V (D.AX k c).2 w w2):=by
   show σ _ _ _ _ _ _;rw[HS.out];exact⟨V2,Fw,Ds,(Rf.η B1).trans JW⟩
  have FO:Hid ((D.AX k c).1=((D.AG k c).1 !=c.no)):=by show _=_;rw[HS.out]
  clear Ds JW Fw HS ξ d0 d5 d10;generalize(D.AG k c).1=x at*;generalize c.no=y at*;cases x<;>cases y
  all_goals
   go_wp2;go_ret;exact⟨by rw[FO.out];rfl,HP.out⟩
def tK(r:Nat):Int:=if r=0 then -1 else(r:Int)
theorem WK(a:Option Addr)(c p:Nat)(L:List (Nat×List UInt8))(w:World)(hL:GJ w a L)(hp:p<L.length)(R0:L[p].1=123):
  Calls prog 149 #[.slice a L.length c,.int .i64 p] w fun e w'=>e= .returned (.int .i64 (tK (N6 (FZ L) p)))∧w'=w:=by
 have FV:=hL.small;obtain⟨n,hn⟩ :∃n,L.length=n:=⟨_,rfl⟩
 have HN:=γ hn;have HP:=γ R0;have hpn:p<n:=by omega
 rw[hn]at FV⊢;clear hn R0;have HC:Hid (∀i(h:i<L.length),∃g,a=some ⟨g,0,none⟩∧g<w.heap.size∧w.cell? ⟨g,i*23+11,none⟩ =some (.int .u8 L[i].1)∧L[i].1<256∧∃t:ByteArray,w.cell? ⟨g,i*23+13,none⟩ =some (.string t)∧t.data.toList=L[i].2):=hL.cells;clear hL;obtain⟨R,hR⟩ :∃R,N6 (FZ L) p=R:=⟨_,rfl⟩
 rw[hR];have HR:=γ hR;have Xi:Hid ((FZ L).length=n):=by show _=_;rw[←HN.out];simp[FZ]
 clear hR
 go_enter func149,ntmps149
 go_wp2
 go_loop [5,6] (fun v5 v6=>∃i d:Nat,i≤n∧v6= .int .i64 i∧v5= .int .i64 d∧d≤i∧Hid ((i=p∧d=0)∨(p<i∧1≤d∧GZ ((FZ L).drop i) d i=R))) (fun _ v6=>n - (intOf v6).toNat)
 case atStart=>exact⟨p,0,by omega,rfl,rfl,by omega,.inl ⟨rfl,rfl⟩⟩
 case round=>
  obtain⟨i,d,hi,rfl,rfl,hdi,HS⟩ :=hrel
  by_cases Ac:i<n
  ·have AV:(i:Int)<(n:Int):=by omega
   have h0:(0:Int)≤(i:Int):=by omega
   have BN:i<L.length:=by rw[HN.out];exact Ac
   obtain⟨g,rfl,hg,E2,CF,t,Ro,ht⟩ :=HC.out i BN;obtain⟨nm,Ib⟩ :∃x,L[i].1=x:=⟨_,rfl⟩
   rw[Ib]at E2 CF;have vK:P3 (FZ L) i=nm:=by rw[PN (FZ L) i (by rw[Xi.out];exact Ac),←Ib];simp[FZ]
   have CR:Hid (1≤d→GZ ((FZ L).drop i) d i=R→(if nm=123 then GZ ((FZ L).drop (i+1)) (d+1) (i+1)else if nm=125 then(if d=1 then i+1 else GZ ((FZ L).drop (i+1)) (d - 1) (i+1))else GZ ((FZ L).drop (i+1)) d (i+1))=R):=fun _ h=>by
    rw[N7 (FZ L) i d i (by rw[Xi.out];exact Ac),vK]at h;exact h
   clear vK;have Vi:Hid (i=p→nm=123):=fun h=>by rw[←Ib];subst h;exact HP.out
   clear ht Ro Ib
   by_cases BV:nm=123
   ·have R7:((nm:Int)==123)=true:=by simp[BV]
    have Ny:((nm:Int)==125)=false:=by simp[BV]
    have h3:((d:Int)+1==0)=false:=by simp;omega
    have ER:Hid (p<i+1∧1≤d+1∧GZ ((FZ L).drop (i+1)) (d+1) (i+1)=R):=by
     rcases HS.out with⟨rfl,rfl⟩ | ⟨e1,e2,e3⟩
     ·exact⟨by omega,by omega,HR.out⟩
     ·have:=CR.out e2 e3
      rw[if_pos BV]at this;exact⟨by omega,by omega,this⟩
    clear BV HS CR Vi;go_wp2
    go_round
    case rel=>exact⟨i+1,d+1,by omega,by go_num,by go_num,by omega,.inr ER.out⟩
    case measure=>simp[intOf]<;>omega
   ·have R7:((nm:Int)==123)=false:=by simp;omega
    have Gc:Hid (p<i∧1≤d∧GZ ((FZ L).drop i) d i=R):=by
     rcases HS.out with⟨e,_⟩ |h
     ·exact absurd (Vi.out e) BV
     ·exact h
    by_cases Bk:nm=125
    ·have Ny:((nm:Int)==125)=true:=by simp[Bk]
     by_cases OX:d=1
     ·have EA:Hid (R=i+1):=by
       have:=CR.out Gc.out.2.1 Gc.out.2.2;rw[if_neg BV,if_pos Bk,if_pos OX]at this;exact this.symm
      subst OX;clear BV Bk HS CR Vi Gc;go_wp2;go_ret;exact⟨H2 (by rw[EA.out];unfold tK;rw[if_neg (by omega)];omega),rfl⟩
     ·have ER:Hid (p<i+1∧1≤d - 1∧GZ ((FZ L).drop (i+1)) (d - 1) (i+1)=R):=by
       have:=CR.out Gc.out.2.1 Gc.out.2.2;rw[if_neg BV,if_pos Bk,if_neg OX]at this;exact⟨by have:=Gc.out.1;omega,by have:=Gc.out.2.1;omega,this⟩
      obtain⟨d',rfl⟩ :∃d',d=d'+2:=⟨d - 2,by have:=Gc.out.2.1;omega⟩
      have e9:((d'+2:Nat):Int) - 1=((d'+1:Nat):Int):=by omega
      have h3:(((d'+1:Nat):Int)==0)=false:=by simp;omega
      clear BV Bk HS CR Vi Gc OX;go_wp2
      go_round
      case rel=>exact⟨i+1,d'+1,by omega,by go_num,by first|go_num| (congr 1;omega) | (simp;omega),by omega,.inr ER.out⟩
      case measure=>simp[intOf]<;>omega
    ·have Ny:((nm:Int)==125)=false:=by simp;omega
     have ER:Hid (p<i+1∧1≤d∧GZ ((FZ L).drop (i+1)) d (i+1)=R):=by
      have:=CR.out Gc.out.2.1 Gc.out.2.2;rw[if_neg BV,if_neg Bk]at this;exact⟨by have:=Gc.out.1;omega,Gc.out.2.1,this⟩
     have h3:((d:Int)==0)=false:=by have:=Gc.out.2.1;simp;omega
     clear BV Bk HS CR Vi Gc;go_wp2
     go_round
     case rel=>exact⟨i+1,d,by omega,by go_num,rfl,by omega,.inr ER.out⟩
     case measure=>simp[intOf]<;>omega
  ·obtain rfl:i=n:=by omega
   have EA:Hid (R=0):=by
    show _=_;rcases HS.out with⟨e,_⟩ | ⟨_,_,h⟩
    ·omega
    ·rw[List.drop_of_length_le (by rw[Xi.out];exact δ)]at h
     exact h.symm
   clear HS;go_wp2;go_ret;exact⟨H2 (by rw[EA.out];rfl),rfl⟩
def IL(P:Value→World→Prop)(b:Nat)(V:DV)(D:DS)(w:World)(e:Ending)(w':World):Prop:=
 ∃v,e= .returned v∧Av (χ b V) w' (fun w=>ψ w v D.Θ)∧AD P b V D.take w'∧Rf (χ b V) (χ b V) w w'
theorem QA(P:Value→World→Prop)(b:Nat)(V:DV)(D:DS)(w:World)(h:AD P b V D w)(Q7:D.text.size≤4096)(Cw:D.at'≤D.text.size)(J9:D.line≤100000):
  Calls prog 115 #[.pointer (some ⟨b,0,none⟩)] w fun e w'=>IL P b V D w e w':=by
 have HC:=SR P b V D w h Q7 Cw;have Bq:=h.box.lt;have HH:=γ h;clear h
 go_enter func115,ntmps115
 go_wp2_with fail
 refine HC.mono ?_;clear HC;rintro e w1 ⟨⟨rfl,S9,sx⟩,B1⟩;have Qc:=HH.out.below B1;have UR:=γ Qc;have Bm:Hid (Rf (χ b V) (χ b V) w w1):=Rf.η B1;have d0:=Qc.cell 0 _ rfl;have d12:=Qc.cell 12 _ rfl;have l1:=Qc.box.lt;obtain⟨s,hs⟩ :∃s,D.text=s:=⟨_,rfl⟩
 obtain⟨k,hk⟩ :∃k,D.at'=k:=⟨_,rfl⟩
 obtain⟨L,hL⟩ :∃L,D.Cx=L:=⟨_,rfl⟩
 have ZL:Hid (D.Θ=(((s.data.toList.drop k).take (L - k)).zipIdx k).map (fun p=>(p.1,(p.2:Int)))):=by show _=_;unfold DS.Θ;rw[hs,hk,hL]
 have PD:Hid (D.Θ.length=L - k):=by
  show _=_;rw[ZL.out,List.length_map,List.length_zipIdx,List.length_take,List.length_drop,Δ];rw[hs,hL]at sx;rw[hk,hL]at S9;omega
 have Yj:Hid (D.text=s∧D.at'=k∧D.Cx=L):=⟨hs,hk,hL⟩
 rw[hs]at d0 Q7 sx Cw;rw[hk]at d12 S9 Cw;rw[hL]at S9 sx⊢;clear Qc B1 hs hk hL
 go_wp2_with fail
 go_loopw [4,5] (fun v4 v5 wr=>∃i:Nat,v5= .int .i64 i∧k≤i∧i≤L∧wr.ownsRow w1.heap.size 120 2 v4 (i - k) (Cn ((((s.data.toList.drop k).take (i - k)).zipIdx k).map (fun p=>(p.1,(p.2:Int)))))∧Below w1.heap.size w1 wr) (fun _ v5 _=>L - (intOf v5).toNat)
 case atStart=>exact⟨k,rfl,δ,S9,by rw[Nat.sub_self];exact World.ownsRow_nil _ _ _ _,ζ⟩
 case round=>
  obtain⟨i,rfl,dA,BN,ν,hB⟩ :=hrel;obtain⟨av,cv,CX⟩ :=κ ν;subst CX;have K1:=hB.size;have e0:=(hB.cell (by exact l1)).trans d0;have Og:b<wr.heap.size:=by omega
  by_cases Ac:i<L
  ·have AV:(i:Int)<(L:Int):=by omega
   have h0:(0:Int)≤(i:Int):=by omega
   have hls:(i:Int)<(s.size:Int):=by omega
   have AD1:i<s.size:=by omega
   have HT:Hid (Cn ((((s.data.toList.drop k).take (i+1 - k)).zipIdx k).map (fun p=>(p.1,(p.2:Int))))=Cn ((((s.data.toList.drop k).take (i - k)).zipIdx k).map (fun p=>(p.1,(p.2:Int))))++ [.int .u8 (s[i].toNat:Int),.int .i64 (i:Int)]):=by
    show _=_;rw[Xl s k i dA AD1,Cf];rfl
   obtain⟨x,hx⟩ :∃x:Nat,s[i].toNat=x:=⟨_,rfl⟩
   have FT:x<256:=by rw[←hx];exact s[i].toNat_lt
   rw[hx]at HT
   go_wp2_with(first
    |refine Bz SK rfl _ rfl [.int .u8 x,.int .i64 (i:Int)] rfl rfl ?_
    | (refine A8 SK (ν.alloc _) wr.heap.size [.int .u8 x,.int .i64 (i:Int)] (heap_alloc_new wr _) rfl (by simp[Value.oneCell']) (by omega) (by simp;omega) rfl _ _ rfl rfl rfl ?_
       intro v' w6 Aa AK;have Eg:Below w1.heap.size w1 w6:=(hB.alloc (by omega) _).grown AK (by simp;omega) (fun k hk=>(ν.lt k hk).1);obtain⟨NF,JV,CX⟩ :=κ Aa;subst CX;clear AK))
   go_roundw
   case rel=>
    refine⟨i+1,by go_num,by omega,by omega,?_,Eg⟩;rw[HT.out];have e9:i+1 - k=i - k+1:=by omega
    rw[e9];exact Aa
   case measure=>simp[intOf]<;>omega
  ·obtain rfl:i=L:=by omega
   have AV:¬(i:Int)<(i:Int):=by omega
   have hR:=UR.out.below hB;have pk:Hid (Rf (χ b V) (χ b V) w wr):=Bm.out.trans (Rf.η hB);have KW:Hid (Av (χ b V) wr (fun w=>ψ w (.slice av (i - k) cv) D.Θ)):=by
    have h9:wr.ownsRow w1.heap.size 120 2 (.slice av (i - k) cv) D.Θ.length (Cn D.Θ):=by rw[PD.out,ZL.out];exact ν
    exact PT h9 (fun k hk=>C9 UR.out k hk)
   have c9:=hR.cell 9 _ rfl;have QQ:=hR.cell 14 _ rfl;have E2:=hR.cell 11 _ rfl;have OU:=hR.cell 12 _ rfl;have FJ:=hR.cell 10 _ rfl;have c1:=hR.cell 1 _ rfl;have f9:=hR.fz 9 (by decide);have f14:=hR.fz 14 (by decide);have f11:=hR.fz 11 (by decide);have f12:=hR.fz 12 (by decide);have f10:=hR.fz 10 (by decide);have Hs:=hR.plain 9 (by decide) (.int .i64 ((D.line:Int)+1)) rfl {D with line:=D.line+1} rfl rfl rfl rfl rfl rfl;have VW:=Hs.plain 14 (by decide) (.bool false) rfl {D with line:=D.line+1,mark:=false} rfl rfl rfl rfl rfl rfl;have aP:=VW.plain 11 (by decide) (.int .i64 (-1)) rfl {D with line:=D.line+1,mark:=false,nl:= -1} rfl rfl rfl rfl rfl rfl;have ko:=aP.plain 12 (by decide) (.int .i64 (i:Nat)) rfl {D with line:=D.line+1,mark:=false,nl:= -1,at':=i} rfl rfl rfl rfl rfl rfl;have ra:=γ ko;clear Hs VW aP ko hR ν
   by_cases hls:i<s.size
   ·have xP:(i:Int)<(s.size:Int):=by omega
    have hA5:=ra.out.plain 11 (by decide) (.int .i64 (i:Nat)) rfl {D with line:=D.line+1,mark:=false,nl:=(i:Nat),at':=i} rfl rfl rfl rfl rfl rfl;have Yk:=hA5.plain 12 (by decide) (.int .i64 ((i:Int)+1)) rfl {D with line:=D.line+1,mark:=false,nl:=(i:Nat),at':=i+1} rfl rfl rfl rfl rfl rfl;have Qr:Rf (χ b V) (χ b V) w ((((((wr.setCell ⟨b,9,none⟩ (.int .i64 ((D.line:Int)+1))).setCell ⟨b,14,none⟩ (.bool false)).setCell ⟨b,11,none⟩ (.int .i64 (-1))).setCell ⟨b,12,none⟩ (.int .i64 (i:Nat))).setCell ⟨b,11,none⟩ (.int .i64 (i:Nat))).setCell ⟨b,12,none⟩ (.int .i64 ((i:Int)+1))):=
     pk.out.trans ((Rf.DN V b 9 _ _).trans ((Rf.DN V b 14 _ _).trans ((Rf.DN V b 11 _ _).trans ((Rf.DN V b 12 _ _).trans ((Rf.DN V b 11 _ _).trans (Rf.DN V b 12 _ _))))))
    have il:Av (χ b V) ((((((wr.setCell ⟨b,9,none⟩ (.int .i64 ((D.line:Int)+1))).setCell ⟨b,14,none⟩ (.bool false)).setCell ⟨b,11,none⟩ (.int .i64 (-1))).setCell ⟨b,12,none⟩ (.int .i64 (i:Nat))).setCell ⟨b,11,none⟩ (.int .i64 (i:Nat))).setCell ⟨b,12,none⟩ (.int .i64 ((i:Int)+1))) (fun w=>ψ w (.slice av (i - k) cv) D.Θ):=
     KW.out.fr ((Rf.DN V b 9 _ _).trans ((Rf.DN V b 14 _ _).trans ((Rf.DN V b 11 _ _).trans ((Rf.DN V b 12 _ _).trans ((Rf.DN V b 11 _ _).trans (Rf.DN V b 12 _ _))))))
    go_wp2_with fail
    generalize hW6:((((((wr.setCell ⟨b,9,none⟩ (.int .i64 ((D.line:Int)+1))).setCell ⟨b,14,none⟩ (.bool false)).setCell ⟨b,11,none⟩ (.int .i64 (-1))).setCell ⟨b,12,none⟩ (.int .i64 (i:Nat))).setCell ⟨b,11,none⟩ (.int .i64 (i:Nat))).setCell ⟨b,12,none⟩ (.int .i64 ((i:Int)+1)))=W6 at*;have HA6:=γ Yk;have oB:=γ Qr;have HS6:=γ il;clear c9 QQ E2 OU FJ c1 f9 f14 f11 f12 f10 e0 Og;have q0:W6.cell? ⟨b,0,none⟩ =some (.string s):=by have:=Yk.cell 0 _ rfl;rw[this];show some (Value.string D.text)=_;rw[Yj.out.1]
    have q1:W6.cell? ⟨b,1,none⟩ =some (.bool D.closed):=Yk.cell 1 _ rfl;have q12:W6.cell? ⟨b,12,none⟩ =some (.int .i64 ((i:Int)+1)):=Yk.cell 12 _ rfl;have q10:W6.cell? ⟨b,10,none⟩ =some (.bool D.last):=Yk.cell 10 _ rfl;have g10:=Yk.fz 10 (by decide);have ql:=Yk.box.lt;clear hA5 Yk Qr il hW6 ra KW pk d0 d12 hB BN Ac AV;obtain⟨cl,DL⟩ :∃c,D.closed=c:=⟨_,rfl⟩
    rw[DL]at q1;have dT:Hid (∀lb,lb=(cl && decide (s.size≤i+1))→IL P b V D w (.returned (.slice av (i - k) cv)) ((W6.setCell ⟨b,10,none⟩ (.bool lb)).drew)):=fun lb jd=>by
     refine⟨_,rfl,(HS6.out.fr (Rf.DN V b 10 _ _)).fr (.η (ζ.drew)),?_,(oB.out.trans (Rf.DN V b 10 _ _)).trans (.η (ζ.drew))⟩;have hA7:=HA6.out.plain 10 (by decide) (.bool lb) rfl {D with line:=D.line+1,mark:=false,nl:=(i:Nat),at':=i+1,last:=lb} rfl rfl rfl rfl rfl rfl;unfold DS.take;rw[Yj.out.2.2,if_pos (by rw[Yj.out.1];exact hls)];have e7:(D.closed && decide (D.text.size≤i+1))=lb:=by rw[DL,Yj.out.1,jd]
     rw[e7];exact hA7.below (ζ.drew)
    cases cl with
    |false=>
     have tM:Hid (IL P b V D w (.returned (.slice av (i - k) cv)) ((W6.setCell ⟨b,10,none⟩ (.bool false)).drew)):=dT.out false (by simp);clear dT ZL PD HH UR Bm S9 sx K1 dA DL
     go_region
     go_wp2;go_ret;exact tM.out
    |true=>
     by_cases hz:s.size≤i+1
     ·have CN:(s.size:Int)≤(i:Int)+1:=by omega
      have tM:Hid (IL P b V D w (.returned (.slice av (i - k) cv)) ((W6.setCell ⟨b,10,none⟩ (.bool true)).drew)):=dT.out true (by simp[hz]);clear dT ZL PD HH UR Bm S9 sx K1 dA DL hz
      go_region
      go_wp2;go_ret;exact tM.out
     ·have CN:¬(s.size:Int)≤(i:Int)+1:=by omega
      have tM:Hid (IL P b V D w (.returned (.slice av (i - k) cv)) ((W6.setCell ⟨b,10,none⟩ (.bool false)).drew)):=dT.out false (by simp[hz]);clear dT ZL PD HH UR Bm S9 sx K1 dA DL hz
      go_region
      go_wp2;go_ret;exact tM.out
   ·have xP:¬(i:Int)<(s.size:Int):=by omega
    have Qr:Rf (χ b V) (χ b V) w ((((wr.setCell ⟨b,9,none⟩ (.int .i64 ((D.line:Int)+1))).setCell ⟨b,14,none⟩ (.bool false)).setCell ⟨b,11,none⟩ (.int .i64 (-1))).setCell ⟨b,12,none⟩ (.int .i64 (i:Nat))):=
     pk.out.trans ((Rf.DN V b 9 _ _).trans ((Rf.DN V b 14 _ _).trans ((Rf.DN V b 11 _ _).trans (Rf.DN V b 12 _ _))))
    have il:Av (χ b V) ((((wr.setCell ⟨b,9,none⟩ (.int .i64 ((D.line:Int)+1))).setCell ⟨b,14,none⟩ (.bool false)).setCell ⟨b,11,none⟩ (.int .i64 (-1))).setCell ⟨b,12,none⟩ (.int .i64 (i:Nat))) (fun w=>ψ w (.slice av (i - k) cv) D.Θ):=
     KW.out.fr ((Rf.DN V b 9 _ _).trans ((Rf.DN V b 14 _ _).trans ((Rf.DN V b 11 _ _).trans (Rf.DN V b 12 _ _))))
    have Yk:=ra.out
    go_wp2_with fail
    generalize hW6:((((wr.setCell ⟨b,9,none⟩ (.int .i64 ((D.line:Int)+1))).setCell ⟨b,14,none⟩ (.bool false)).setCell ⟨b,11,none⟩ (.int .i64 (-1))).setCell ⟨b,12,none⟩ (.int .i64 (i:Nat)))=W6 at*;have HA6:=γ Yk;have oB:=γ Qr;have HS6:=γ il;clear c9 QQ E2 OU FJ c1 f9 f14 f11 f12 f10 e0 Og;have q0:W6.cell? ⟨b,0,none⟩ =some (.string s):=by have:=Yk.cell 0 _ rfl;rw[this];show some (Value.string D.text)=_;rw[Yj.out.1]
    have q1:W6.cell? ⟨b,1,none⟩ =some (.bool D.closed):=Yk.cell 1 _ rfl;have q12:W6.cell? ⟨b,12,none⟩ =some (.int .i64 (i:Int)):=Yk.cell 12 _ rfl;have q10:W6.cell? ⟨b,10,none⟩ =some (.bool D.last):=Yk.cell 10 _ rfl;have g10:=Yk.fz 10 (by decide);have ql:=Yk.box.lt;clear Yk Qr il hW6 ra KW pk d0 d12 hB BN Ac AV;obtain⟨cl,DL⟩ :∃c,D.closed=c:=⟨_,rfl⟩
    rw[DL]at q1;have dT:Hid (∀lb,lb=(cl && decide (s.size≤i))→IL P b V D w (.returned (.slice av (i - k) cv)) ((W6.setCell ⟨b,10,none⟩ (.bool lb)).drew)):=fun lb jd=>by
     refine⟨_,rfl,(HS6.out.fr (Rf.DN V b 10 _ _)).fr (.η (ζ.drew)),?_,(oB.out.trans (Rf.DN V b 10 _ _)).trans (.η (ζ.drew))⟩;have hA7:=HA6.out.plain 10 (by decide) (.bool lb) rfl {D with line:=D.line+1,mark:=false,nl:= -1,at':=i,last:=lb} rfl rfl rfl rfl rfl rfl;unfold DS.take;rw[Yj.out.2.2,if_neg (by rw[Yj.out.1];exact hls)];have e7:(D.closed && decide (D.text.size≤i))=lb:=by rw[DL,Yj.out.1,jd]
     rw[e7];exact hA7.below (ζ.drew)
    have CN:(s.size:Int)≤(i:Int):=by omega
    cases cl with
    |false=>
     have tM:Hid (IL P b V D w (.returned (.slice av (i - k) cv)) ((W6.setCell ⟨b,10,none⟩ (.bool false)).drew)):=dT.out false (by simp);clear dT ZL PD HH UR Bm S9 sx K1 dA DL
     go_region
     go_wp2;go_ret;exact tM.out
    |true=>
     have tM:Hid (IL P b V D w (.returned (.slice av (i - k) cv)) ((W6.setCell ⟨b,10,none⟩ (.bool true)).drew)):=dT.out true (by simp;omega);clear dT ZL PD HH UR Bm S9 sx K1 dA DL
     go_region
     go_wp2;go_ret;exact tM.out
end Go.Proofs.YtlppphmnegdhoabGreatDoor
