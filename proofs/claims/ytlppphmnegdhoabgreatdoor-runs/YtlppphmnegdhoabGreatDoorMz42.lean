import Derived.Test.YtlppphmnegdhoabGreatDoorMz41
set_option linter.unusedVariables false
set_option maxRecDepth 100000
set_option linter.unusedSimpArgs false
set_option maxHeartbeats 8000000
namespace Go.Proofs.YtlppphmnegdhoabGreatDoor
open Go.Proofs.Tryz
open Go.RowKit
open M
theorem GJ.below{w w':World}{a:Option Addr}{L:List (Nat×List UInt8)}(h:GJ w a L)(hb:Below w.heap.size w w'):GJ w' a L:=by
 refine⟨h.small,fun i hi=> ?_⟩;obtain⟨g,e,hg,c1,l1,t,c2,ht⟩ :=h.cells i hi;exact⟨g,e,by have:=hb.size;omega,(hb.cell (by exact hg)).trans c1,l1,t,(hb.cell (by exact hg)).trans c2,ht⟩
def LO(P:Value→World→Prop)(b:Nat)(V:DV)(r:DS×Int)(w:World)(e:Ending)(w':World):Prop:=e= .returned (.int .i64 r.2)∧σ P b V r.1 w w'
theorem Ho{x y:Int}(h:x=y):Ending.returned (.int .i64 x)= .returned (.int .i64 y):=by rw[h]
theorem tN(n0:Nat)(cs:List Cm)(L:List (Nat×List UInt8))(P:Value→World→Prop)(b:Nat)(V:DV)(D:DS)(k:Nat)(c:Cm)(w:World)(h:AD P b V D w)(hP:∀w,P V.AZ w→E5 cs L w V.AZ)(hc:cs[k]? =some c)(hk:DZ c)(GQ:KS L k c)(EU:DB n0 D)(DL:cs.length≤400)(hn:c.name=100∨c.name=68∨c.name=113):
  Calls prog 158 #[.pointer (some ⟨b,0,none⟩),.int .i64 (k:Nat)] w fun e w'=>LO P b V (D.does k c) w e w':=by
 obtain⟨Lv,F6⟩ :=List.getElem?_eq_some_iff.1 hc;have HK:=γ hk;have Tx:=γ GQ;have F7:=γ EU;have Yn:Hid (∀w',AD P b V D w'→E5 cs L w' V.AZ):=fun w' h'=>hP w' h'.AZ.out
 obtain⟨aS,qs,Fb,Ig,hlen,Co⟩ :=hP w h.AZ.out;obtain⟨g,vs,rfl,hg,hr,Db⟩ :=Co k Lv;rw[F6]at Db;have fg:=γ Fb;have Bh:=γ Db.len;have FY:=Db.one;have oF:=γ Db;have Bn:=γ Db.nm;have QR:k<L.length:=GQ.lt;obtain⟨t,Hu,Hv⟩ :∃t:ByteArray,vs[13]? =some (.string t)∧t.data.toList=(L[k]).2:=by
  obtain⟨g2,e2,_,_,_,t,ht,Hv⟩ :=Ig.cells k QR;have Hu:vs[13]? =some (vs[13]'(by rw[Db.len];decide)):=List.getElem?_eq_getElem _;have h9:=hr 13 _ Hu;have e3:g=g2:=by simpa using e2
  subst e3;rw[ht]at h9;injection h9 with h9;exact⟨t,by rw[Hu,←h9],Hv⟩
 have gz:=γ Hu;have Qm:=γ Hv;have HH:=γ h;have Bq:=h.box.lt;have c5:=h.cell 5 _ rfl;have PY:w.cell? ⟨b,5,none⟩ =some (.slice (some ⟨g,0,none⟩) L.length qs):=by rw[c5];show some V.AZ=_;rw[Fb]
 have RO:Hid (¬χ b V w.heap.size):=fun hf=>by have:=C9 HH.out _ hf;omega
 obtain⟨nL,Ej⟩ :∃n,L.length=n:=⟨_,rfl⟩
 have Ce:=γ Ej;have hH:k<nL:=by omega
 rw[hlen,Ej]at DL;rw[Ej]at PY;have L8:(0:Int)≤(k:Int):=by omega
 have mK:¬(nL:Int)≤(k:Int):=by omega
 have vT:(k:Int)<(nL:Int):=by omega
 have Cq:CB (w.alloc (.cells A9.toArray 179)) w.heap.size A9:=CB.new w _ _ C8;have BA:Below w.heap.size w (w.alloc (.cells A9.toArray 179)):=ζ.alloc δ _;have ZF:=(zero_of_info (show(prog.info? 179).map (fun i=>(i.zero,i.size))=some (some (.agg A9.toArray),23)by kernel_rfl)).1;have H7:=hk.nm;obtain⟨nm,CF⟩ :∃x,c.name=x:=⟨_,rfl⟩
 have JU:=γ CF;rw[CF]at Bn H7 hn;clear h hP hc F6 hk Db Co Ig hlen Fb c5 Hu Hv Ej CF GQ EU Lv
 go_enter func158,ntmps158
 go_upto_region 2 with(first
  |refine BX Ao hr Bh.out rfl _ rfl rfl ?_
  | (refine θ Ao Cq rfl rfl _ _ rfl rfl rfl Bh.out FY ?_
     intro w1 ξ O1;have B1:=BA.trans (O1.below (B:=w.heap.size) δ);have Bo:=HH.out.below B1;have A0:=γ Bo;have Dx:=Bo.box.lt;have LA:=ξ.lt;have d11:=ξ.c 11 _ Bn.out;have d13:=ξ.c 13 _ gz.out;clear Bo))
 clear PY hr Cq BA;rcases hn with rfl|rfl|rfl
 ·have HE:Hid (D.does k c=(D,-1)):=by show _=_;unfold DS.does;rw[if_pos JU.out]
  have HP:Hid (σ P b V (D.does k c).1 w w1):=by rw[HE.out];exact σ.refl HH.out B1
  have FO:Hid ((D.does k c).2= -1):=by show _=_;rw[HE.out]
  go_wp2;go_ret;exact⟨Ho FO.out.symm,HP.out⟩
 ·have HE:Hid (D.does k c=if Ad D.pat=0 then(D,-1)else({D with pat:=D.pat.drop (Ad D.pat)},-2)):=by show _=_;unfold DS.does;rw[JU.out,if_neg (by decide),if_pos rfl]
  obtain⟨ap,cp,EO,_⟩ :=A0.out.pat.out.form;have k7:=A0.out.cell 7 _ rfl;have k7':w1.cell? ⟨b,7,none⟩ =some (.slice ap D.pat.length cp):=by rw[k7];show some V.pat=_;rw[EO]
  have BZ:=A0.out.pat;rw[EO]at BZ;have CR:=γ BZ;have f7:=A0.out.fz 7 (by decide);clear k7 EO;have HC:=P4 _ D.pat w1 BZ.out (by have:=F7.out.pa;omega);have HBL:Hid (Ad D.pat≤D.pat.length∧D.pat.length≤256):=⟨Np _,F7.out.pa⟩
  clear BZ
  go_wp2_with fail
  refine HC.mono ?_;clear HC;rintro e w2 ⟨rfl,hw2⟩;have AD7:=hw2.symm;clear hw2;subst AD7;obtain⟨q,hq⟩ :∃q,Ad D.pat=q:=⟨_,rfl⟩
  rw[hq]at HE HBL⊢;have NP:=HBL.out;clear hq
  by_cases h0:q=0
  ·have KA:((q:Int)==0)=true:=by simp[h0]
   rw[if_pos h0]at HE;have HP:Hid (σ P b V (D.does k c).1 w w1):=by rw[HE.out];exact σ.refl HH.out B1
   have FO:Hid ((D.does k c).2= -1):=by show _=_;rw[HE.out]
   clear h0;go_wp2;go_ret;exact⟨Ho FO.out.symm,HP.out⟩
  ·have KA:((q:Int)==0)=false:=by simp;omega
   rw[if_neg h0]at HE;have FO:Hid ((D.does k c).2= -2):=by show _=_;rw[HE.out]
   clear h0
   go_wp2_with(refine zf (i:=q) CR.out.out NP.1 rfl _ _ rfl rfl rfl ?_
               intro v3 Sf H4;have dI:=γ Sf;obtain⟨a3,c3,Ei,_⟩ :=H4.form;subst Ei;clear H4 Sf)
   have hA:=A0.out.GX _ (D.pat.drop q) (fun w' q1 q2=>dI.out w' (CR.out w' q1 q2));have hB:=σ.below B1 hA;rw[←show(D.does k c).1= {D with pat:=D.pat.drop q}by rw[HE.out],List.length_drop]at hB;go_ret;exact⟨Ho FO.out.symm,hB⟩
 ·have HE:Hid (D.does k c=(D.early,(k:Int)+1)):=by show _=_;unfold DS.does;rw[JU.out,if_neg (by decide),if_neg (by decide),if_pos rfl]
  have HC:=OA P b V D w1 A0.out F7.out.dwf;have FO:Hid ((D.does k c).2=(k:Int)+1):=by show _=_;rw[HE.out]
  go_wp2_with fail
  refine HC.mono ?_;clear HC;rintro e w2 ⟨rfl,hp⟩;have HP:Hid (σ P b V (D.does k c).1 w w2):=by rw[HE.out];exact σ.below B1 hp
  clear hp;go_wp2;go_ret;exact⟨Ho (by rw[FO.out];first|done|rfl|simp),HP.out⟩
theorem tO(n0:Nat)(cs:List Cm)(L:List (Nat×List UInt8))(P:Value→World→Prop)(b:Nat)(V:DV)(D:DS)(k:Nat)(c:Cm)(w:World)(h:AD P b V D w)(hP:∀w,P V.AZ w→E5 cs L w V.AZ)(hc:cs[k]? =some c)(hk:DZ c)(GQ:KS L k c)(EU:DB n0 D)(DL:cs.length≤400)(Ks:1≤D.line)(hn:c.name=110∨c.name=78):
  Calls prog 158 #[.pointer (some ⟨b,0,none⟩),.int .i64 (k:Nat)] w fun e w'=>LO P b V (D.does k c) w e w':=by
 obtain⟨Lv,F6⟩ :=List.getElem?_eq_some_iff.1 hc;have HK:=γ hk;have Tx:=γ GQ;have F7:=γ EU;have Yn:Hid (∀w',AD P b V D w'→E5 cs L w' V.AZ):=fun w' h'=>hP w' h'.AZ.out
 obtain⟨aS,qs,Fb,Ig,hlen,Co⟩ :=hP w h.AZ.out;obtain⟨g,vs,rfl,hg,hr,Db⟩ :=Co k Lv;rw[F6]at Db;have fg:=γ Fb;have Bh:=γ Db.len;have FY:=Db.one;have oF:=γ Db;have Bn:=γ Db.nm;have QR:k<L.length:=GQ.lt;obtain⟨t,Hu,Hv⟩ :∃t:ByteArray,vs[13]? =some (.string t)∧t.data.toList=(L[k]).2:=by
  obtain⟨g2,e2,_,_,_,t,ht,Hv⟩ :=Ig.cells k QR;have Hu:vs[13]? =some (vs[13]'(by rw[Db.len];decide)):=List.getElem?_eq_getElem _;have h9:=hr 13 _ Hu;have e3:g=g2:=by simpa using e2
  subst e3;rw[ht]at h9;injection h9 with h9;exact⟨t,by rw[Hu,←h9],Hv⟩
 have gz:=γ Hu;have Qm:=γ Hv;have HH:=γ h;have Bq:=h.box.lt;have c5:=h.cell 5 _ rfl;have PY:w.cell? ⟨b,5,none⟩ =some (.slice (some ⟨g,0,none⟩) L.length qs):=by rw[c5];show some V.AZ=_;rw[Fb]
 have RO:Hid (¬χ b V w.heap.size):=fun hf=>by have:=C9 HH.out _ hf;omega
 obtain⟨nL,Ej⟩ :∃n,L.length=n:=⟨_,rfl⟩
 have Ce:=γ Ej;have hH:k<nL:=by omega
 rw[hlen,Ej]at DL;rw[Ej]at PY;have L8:(0:Int)≤(k:Int):=by omega
 have mK:¬(nL:Int)≤(k:Int):=by omega
 have vT:(k:Int)<(nL:Int):=by omega
 have Cq:CB (w.alloc (.cells A9.toArray 179)) w.heap.size A9:=CB.new w _ _ C8;have BA:Below w.heap.size w (w.alloc (.cells A9.toArray 179)):=ζ.alloc δ _;have ZF:=(zero_of_info (show(prog.info? 179).map (fun i=>(i.zero,i.size))=some (some (.agg A9.toArray),23)by kernel_rfl)).1;have H7:=hk.nm;obtain⟨nm,CF⟩ :∃x,c.name=x:=⟨_,rfl⟩
 have JU:=γ CF;rw[CF]at Bn H7 hn;clear h hP hc F6 hk Db Co Ig hlen Fb c5 Hu Hv Ej CF GQ EU Lv
 go_enter func158,ntmps158
 go_upto_region 2 with(first
  |refine BX Ao hr Bh.out rfl _ rfl rfl ?_
  | (refine θ Ao Cq rfl rfl _ _ rfl rfl rfl Bh.out FY ?_
     intro w1 ξ O1;have B1:=BA.trans (O1.below (B:=w.heap.size) δ);have Bo:=HH.out.below B1;have A0:=γ Bo;have Dx:=Bo.box.lt;have LA:=ξ.lt;have d11:=ξ.c 11 _ Bn.out;have d13:=ξ.c 13 _ gz.out;clear Bo))
 clear PY hr Cq BA;have HE:Hid (D.does k c=(D.De nm,(k:Int)+1)):=by
  show _=_;unfold DS.does;rw[JU.out,if_neg (by omega),if_neg (by omega),if_neg (by omega),if_neg (by omega),if_neg (by omega),if_pos hn]
 have FO:Hid ((D.does k c).2=(k:Int)+1):=by show _=_;rw[HE.out]
 have HC:=Yl n0 P b V D vs c w1 A0.out F7.out (oF.out.below B1) (by rw[JU.out];exact hn);rw[JU.out]at HC;rcases hn with rfl|rfl
 all_goals
  go_wp2_with(refine ω Ao ξ Bh.out rfl _ rfl rfl ?_)
  refine HC.mono ?_;clear HC;rintro e w2 ⟨rfl,hp⟩;have HP:Hid (σ P b V (D.does k c).1 w w2):=by rw[HE.out];exact σ.below B1 hp
  clear hp;go_wp2;go_ret;exact⟨Ho (by rw[FO.out];first|done|rfl|simp),HP.out⟩
theorem tP(n0:Nat)(cs:List Cm)(L:List (Nat×List UInt8))(P:Value→World→Prop)(b:Nat)(V:DV)(D:DS)(k:Nat)(c:Cm)(w:World)(h:AD P b V D w)(hP:∀w,P V.AZ w→E5 cs L w V.AZ)(hc:cs[k]? =some c)(hk:DZ c)(GQ:KS L k c)(EU:DB n0 D)(DL:cs.length≤400)(hn:c.name=98∨c.name=116):
  Calls prog 158 #[.pointer (some ⟨b,0,none⟩),.int .i64 (k:Nat)] w fun e w'=>LO P b V (D.does k c) w e w':=by
 obtain⟨Lv,F6⟩ :=List.getElem?_eq_some_iff.1 hc;have HK:=γ hk;have Tx:=γ GQ;have F7:=γ EU;have Vi:Hid (∀w,P V.AZ w→E5 cs L w V.AZ):=hP;obtain⟨aS,qs,Fb,Ig,hlen,Co⟩ :=hP w h.AZ.out;obtain⟨g,vs,rfl,hg,hr,Db⟩ :=Co k Lv;rw[F6]at Db;have fg:=γ Fb;have Bh:=γ Db.len;have FY:=Db.one;have oF:=γ Db;have Bn:=γ Db.nm;have QR:k<L.length:=GQ.lt;obtain⟨t,Hu,Hv⟩ :∃t:ByteArray,vs[13]? =some (.string t)∧t.data.toList=(L[k]).2:=by
  obtain⟨g2,e2,_,_,_,t,ht,Hv⟩ :=Ig.cells k QR;have Hu:vs[13]? =some (vs[13]'(by rw[Db.len];decide)):=List.getElem?_eq_getElem _;have h9:=hr 13 _ Hu;have e3:g=g2:=by simpa using e2
  subst e3;rw[ht]at h9;injection h9 with h9;exact⟨t,by rw[Hu,←h9],Hv⟩
 have gz:=γ Hu;have Qm:=γ Hv;have HH:=γ h;have Bq:=h.box.lt;have c5:=h.cell 5 _ rfl;have PY:w.cell? ⟨b,5,none⟩ =some (.slice (some ⟨g,0,none⟩) L.length qs):=by rw[c5];show some V.AZ=_;rw[Fb]
 have RO:Hid (¬χ b V w.heap.size):=fun hf=>by have:=C9 HH.out _ hf;omega
 obtain⟨nL,Ej⟩ :∃n,L.length=n:=⟨_,rfl⟩
 have Ce:=γ Ej;have hH:k<nL:=by omega
 rw[hlen,Ej]at DL;rw[Ej]at PY;have L8:(0:Int)≤(k:Int):=by omega
 have mK:¬(nL:Int)≤(k:Int):=by omega
 have vT:(k:Int)<(nL:Int):=by omega
 have Cq:CB (w.alloc (.cells A9.toArray 179)) w.heap.size A9:=CB.new w _ _ C8;have BA:Below w.heap.size w (w.alloc (.cells A9.toArray 179)):=ζ.alloc δ _;have ZF:=(zero_of_info (show(prog.info? 179).map (fun i=>(i.zero,i.size))=some (some (.agg A9.toArray),23)by kernel_rfl)).1;have H7:=hk.nm;obtain⟨nm,CF⟩ :∃x,c.name=x:=⟨_,rfl⟩
 have JU:=γ CF;rw[CF]at Bn H7 hn;clear h hP hc F6 hk Db Co Ig hlen Fb c5 Hu Hv Ej CF GQ EU Lv;have HJ:Hid (∀(D2:DS)(w2:World),σ P b V D2 w w2→∀w3,Below w2.heap.size w2 w3→σ P b V D2 w w3):=fun D2 w2 hp w3 hb=>by
  obtain⟨V',e1,e2,e3⟩ :=hp;exact⟨V',e1,e2.below hb,e3.trans (.η hb)⟩
 have hem:(t.toList.isEmpty=true∧t.data.toList= [])∨(t.toList.isEmpty=false∧t.data.toList≠ []):=by
  have hl:=Δ t
  by_cases h0:t.size=0
  ·exact .inl ⟨by rw[Dy];exact decide_eq_true h0,List.length_eq_zero_iff.1 (hl.trans h0)⟩
  ·exact .inr ⟨by rw[Dy];exact decide_eq_false h0,fun e=>h0 (by rw[←hl,e];rfl)⟩
 have ABn:Hid (∀(V2:DV)(D2:DS)(w2:World),V2.AZ=V.AZ→AD P b V2 D2 w2→w2.cell? ⟨b,5,none⟩ =some (.slice (some ⟨g,0,none⟩) nL qs)∧GJ w2 (some ⟨g,0,none⟩) L∧b<w2.heap.size):=fun V2 D2 w2 e h2=>by
  have k5:=h2.cell 5 _ rfl;have k5':w2.cell? ⟨b,5,none⟩ =some (.slice (some ⟨g,0,none⟩) nL qs):=by rw[k5];show some V2.AZ=_;rw[e,fg.out,Ce.out]
  have h9:=h2.AZ.out;rw[e]at h9;obtain⟨a,q,e1,Ig,_⟩ :=Vi.out w2 h9;rw[fg.out]at e1;simp only[Value.slice.injEq]at e1;rw[←e1.1]at Ig;exact⟨k5',Ig,h2.box.lt⟩
 have ZL:Hid (∀w2,GJ w2 (some ⟨g,0,none⟩) L→Calls prog 150 #[.slice (some ⟨g,0,none⟩) nL qs,.string t] w2 fun e w'=>e= .returned (.int .i64 (L9 (BD L t.data.toList)))∧w'=w2):=fun w2 Ig=>by
  have HC:=IB _ qs L t w2 Ig;rw[Ce.out]at HC;exact HC
 go_enter func158,ntmps158
 go_upto_region 2 with(first
  |refine BX Ao hr Bh.out rfl _ rfl rfl ?_
  | (refine θ Ao Cq rfl rfl _ _ rfl rfl rfl Bh.out FY ?_
     intro w1 ξ O1;have B1:=BA.trans (O1.below (B:=w.heap.size) δ);have Bo:=HH.out.below B1;have A0:=γ Bo;have Dx:=Bo.box.lt;have LA:=ξ.lt;have d11:=ξ.c 11 _ Bn.out;have d13:=ξ.c 13 _ gz.out;clear Bo))
 clear PY hr Cq BA;rcases hn with rfl|rfl
 ·have HE:Hid (D.does k c=(D,(c.next:Int))):=by show _=_;unfold DS.does;rw[JU.out,if_neg (by decide),if_neg (by decide),if_neg (by decide),if_pos rfl]
  have FO:Hid ((D.does k c).2=(c.next:Int)):=by show _=_;rw[HE.out]
  obtain⟨k5,Ig,_⟩ :=ABn.out V D w1 rfl A0.out;have HCD:=γ Ig;clear Ig;rcases hem with⟨he,oG⟩ | ⟨he,oG⟩
  ·have G0:Hid ((c.next:Int)=(nL:Int)):=by
    show _=_;rw[Tx.out.em (by rw[JU.out];exact .inl rfl) (by rw[←Qm.out];exact oG),Ce.out]
   have HP:Hid (σ P b V (D.does k c).1 w w1):=by rw[HE.out];exact σ.refl HH.out B1
   clear oG;go_wp2;go_ret;exact⟨Ho (by rw[FO.out,G0.out]),HP.out⟩
  ·have G0:Hid (L9 (BD L t.data.toList)=(c.next:Int)):=by
    show _=_;rw[Qm.out];exact Tx.out.lb (by rw[JU.out];exact .inl rfl) (by rw[←Qm.out];exact oG)
   have HC:=ZL.out w1.drew (HCD.out.below (ζ.drew));have nr:Hid (Calls prog 150 #[.slice (some ⟨g,0,none⟩) nL qs,.string t] w1.drew fun e w'=>e= .returned (.int .i64 (L9 (BD L t.data.toList)))∧w'=w1.drew):=HC;clear oG HC
   go_wp2_with fail
   go_region_held3(fun w'=>w'.cell? ⟨b,5,none⟩ =some (.slice (some ⟨g,0,none⟩) nL qs)∧w'.cell? ⟨w.heap.size,13,none⟩ =some (.string t)∧b<w'.heap.size∧w.heap.size<w'.heap.size)
    (go_keep)
    (first
     | (go_at_call 150;refine nr.out.mono ?_;rintro e w2 ⟨rfl,rfl⟩))
   have HP:Hid (σ P b V (D.does k c).1 w w1.drew):=by rw[HE.out];exact σ.refl HH.out B1.drew
   go_wp2;go_ret;exact⟨Ho (by rw[FO.out,←G0.out]),HP.out⟩
 ·have HE:Hid (D.does k c=if D.mark then({D with mark:=false},(c.next:Int))else(D,(k:Int)+1)):=by show _=_;unfold DS.does;rw[JU.out,if_neg (by decide),if_neg (by decide),if_neg (by decide),if_neg (by decide),if_pos rfl]
  have k14:=A0.out.cell 14 _ rfl;have f14:=A0.out.fz 14 (by decide);obtain⟨mk,Tl⟩ :∃x,D.mark=x:=⟨_,rfl⟩
  have AFh:w1.cell? ⟨b,14,none⟩ =some (.bool mk):=by rw[k14];show some (Value.bool D.mark)=_;rw[Tl]
  rw[Tl]at HE;clear k14 Tl;cases mk with
  |false=>
   rw[if_neg (by decide)]at HE;have HP:Hid (σ P b V (D.does k c).1 w w1):=by rw[HE.out];exact σ.refl HH.out B1
   have FO:Hid ((D.does k c).2=(k:Int)+1):=by show _=_;rw[HE.out]
   go_wp2;go_ret;exact⟨Ho (by rw[FO.out];first|done|rfl|simp),HP.out⟩
  |true=>
   rw[if_pos rfl]at HE;have FO:Hid ((D.does k c).2=(c.next:Int)):=by show _=_;rw[HE.out]
   have hA:=A0.out.plain 14 (by decide) (.bool false) rfl {D with mark:=false} rfl rfl rfl rfl rfl rfl;have HA:=γ hA;have Tf:Hid (Rf (χ b V) (χ b V) w (w1.setCell ⟨b,14,none⟩ (.bool false))):=(Rf.η B1).trans (Rf.DN V b 14 _ w1);have K1:w.heap.size≠b:=by omega
   have g13:(w1.setCell ⟨b,14,none⟩ (.bool false)).cell? ⟨w.heap.size,13,none⟩ =some (.string t):=by
    rw[World.cell?_of_block (heap_setCell_other w1 _ _ _ K1)];exact d13
   have lb7:w.heap.size<(w1.setCell ⟨b,14,none⟩ (.bool false)).heap.size:=by simpa using LA
   obtain⟨k5,Ig,bl7⟩ :=ABn.out V _ _ rfl hA;have HCD:=γ Ig;clear Ig hA;rcases hem with⟨he,oG⟩ | ⟨he,oG⟩
   ·have G0:Hid ((c.next:Int)=(nL:Int)):=by
     show _=_;rw[Tx.out.em (by rw[JU.out];exact .inr rfl) (by rw[←Qm.out];exact oG),Ce.out]
    have HP:Hid (σ P b V (D.does k c).1 w (w1.setCell ⟨b,14,none⟩ (.bool false))):=by rw[HE.out];exact⟨V,rfl,HA.out,Tf.out⟩
    clear oG;go_wp2;go_ret;exact⟨Ho (by rw[FO.out,G0.out]),HP.out⟩
   ·have G0:Hid (L9 (BD L t.data.toList)=(c.next:Int)):=by
     show _=_;rw[Qm.out];exact Tx.out.lb (by rw[JU.out];exact .inr rfl) (by rw[←Qm.out];exact oG)
    have HC:=ZL.out (w1.setCell ⟨b,14,none⟩ (.bool false)).drew (HCD.out.below (ζ.drew));have nr:Hid (Calls prog 150 #[.slice (some ⟨g,0,none⟩) nL qs,.string t] (w1.setCell ⟨b,14,none⟩ (.bool false)).drew fun e w'=>e= .returned (.int .i64 (L9 (BD L t.data.toList)))∧w'=(w1.setCell ⟨b,14,none⟩ (.bool false)).drew):=HC;clear oG HC
    go_wp2_with fail
    generalize w1.setCell ⟨b,14,none⟩ (.bool false)=W7 at*
    go_region_held3(fun w'=>w'.cell? ⟨b,5,none⟩ =some (.slice (some ⟨g,0,none⟩) nL qs)∧w'.cell? ⟨w.heap.size,13,none⟩ =some (.string t)∧b<w'.heap.size∧w.heap.size<w'.heap.size)
     (go_keep)
     (first
     | (go_at_call 150;refine nr.out.mono ?_;rintro e w2 ⟨rfl,rfl⟩))
    have HP:Hid (σ P b V (D.does k c).1 w W7.drew):=by rw[HE.out];exact σ.drew ⟨V,rfl,HA.out,Tf.out⟩
    go_wp2;go_ret;exact⟨Ho (by rw[FO.out,←G0.out]),HP.out⟩
theorem tS(n0:Nat)(cs:List Cm)(L:List (Nat×List UInt8))(P:Value→World→Prop)(b:Nat)(V:DV)(D:DS)(k:Nat)(c:Cm)(w:World)(h:AD P b V D w)(hP:∀w,P V.AZ w→E5 cs L w V.AZ)(hc:cs[k]? =some c)(hk:DZ c)(GQ:KS L k c)(EU:DB n0 D)(DL:cs.length≤400)(q5:1≤c.sub.count)(hn:c.name=115):
  Calls prog 158 #[.pointer (some ⟨b,0,none⟩),.int .i64 (k:Nat)] w fun e w'=>LO P b V (D.does k c) w e w':=by
 obtain⟨Lv,F6⟩ :=List.getElem?_eq_some_iff.1 hc;have HK:=γ hk;have Tx:=γ GQ;have F7:=γ EU;have Yn:Hid (∀w',AD P b V D w'→E5 cs L w' V.AZ):=fun w' h'=>hP w' h'.AZ.out
 obtain⟨aS,qs,Fb,Ig,hlen,Co⟩ :=hP w h.AZ.out;obtain⟨g,vs,rfl,hg,hr,Db⟩ :=Co k Lv;rw[F6]at Db;have fg:=γ Fb;have Bh:=γ Db.len;have FY:=Db.one;have oF:=γ Db;have Bn:=γ Db.nm;have QR:k<L.length:=GQ.lt;obtain⟨t,Hu,Hv⟩ :∃t:ByteArray,vs[13]? =some (.string t)∧t.data.toList=(L[k]).2:=by
  obtain⟨g2,e2,_,_,_,t,ht,Hv⟩ :=Ig.cells k QR;have Hu:vs[13]? =some (vs[13]'(by rw[Db.len];decide)):=List.getElem?_eq_getElem _;have h9:=hr 13 _ Hu;have e3:g=g2:=by simpa using e2
  subst e3;rw[ht]at h9;injection h9 with h9;exact⟨t,by rw[Hu,←h9],Hv⟩
 have gz:=γ Hu;have Qm:=γ Hv;have HH:=γ h;have Bq:=h.box.lt;have c5:=h.cell 5 _ rfl;have PY:w.cell? ⟨b,5,none⟩ =some (.slice (some ⟨g,0,none⟩) L.length qs):=by rw[c5];show some V.AZ=_;rw[Fb]
 have RO:Hid (¬χ b V w.heap.size):=fun hf=>by have:=C9 HH.out _ hf;omega
 obtain⟨nL,Ej⟩ :∃n,L.length=n:=⟨_,rfl⟩
 have Ce:=γ Ej;have hH:k<nL:=by omega
 rw[hlen,Ej]at DL;rw[Ej]at PY;have L8:(0:Int)≤(k:Int):=by omega
 have mK:¬(nL:Int)≤(k:Int):=by omega
 have vT:(k:Int)<(nL:Int):=by omega
 have Cq:CB (w.alloc (.cells A9.toArray 179)) w.heap.size A9:=CB.new w _ _ C8;have BA:Below w.heap.size w (w.alloc (.cells A9.toArray 179)):=ζ.alloc δ _;have ZF:=(zero_of_info (show(prog.info? 179).map (fun i=>(i.zero,i.size))=some (some (.agg A9.toArray),23)by kernel_rfl)).1;have H7:=hk.nm;obtain⟨nm,CF⟩ :∃x,c.name=x:=⟨_,rfl⟩
 have JU:=γ CF;rw[CF]at Bn H7 hn;clear h hP hc F6 hk Db Co Ig hlen Fb c5 Hu Hv Ej CF GQ EU Lv
 go_enter func158,ntmps158
 go_upto_region 2 with(first
  |refine BX Ao hr Bh.out rfl _ rfl rfl ?_
  | (refine θ Ao Cq rfl rfl _ _ rfl rfl rfl Bh.out FY ?_
     intro w1 ξ O1;have B1:=BA.trans (O1.below (B:=w.heap.size) δ);have Bo:=HH.out.below B1;have A0:=γ Bo;have Dx:=Bo.box.lt;have LA:=ξ.lt;have d11:=ξ.c 11 _ Bn.out;have d13:=ξ.c 13 _ gz.out;clear Bo))
 clear PY hr Cq BA;have HE:Hid (D.does k c=(D.subst c.sub,(k:Int)+1)):=by
  show _=_;unfold DS.does;rw[JU.out,if_neg (by omega),if_neg (by omega),if_neg (by omega),if_neg (by omega),if_neg (by omega),if_neg (by omega),if_pos hn]
 have FO:Hid ((D.does k c).2=(k:Int)+1):=by show _=_;rw[HE.out]
 have HC:=WQ n0 P b V D vs c w1 A0.out F7.out (oF.out.below B1) (by rw[JU.out];exact hn) HK.out q5;subst hn
 go_wp2_with(refine ω Ao ξ Bh.out rfl _ rfl rfl ?_)
 refine HC.mono ?_;clear HC;rintro e w2 ⟨rfl,hp⟩;have HP:Hid (σ P b V (D.does k c).1 w w2):=by rw[HE.out];exact σ.below B1 hp
 clear hp;go_wp2;go_ret;exact⟨Ho (by rw[FO.out];first|done|rfl|simp),HP.out⟩
theorem tT(n0:Nat)(cs:List Cm)(L:List (Nat×List UInt8))(P:Value→World→Prop)(b:Nat)(V:DV)(D:DS)(k:Nat)(c:Cm)(w:World)(h:AD P b V D w)(hP:∀w,P V.AZ w→E5 cs L w V.AZ)(hc:cs[k]? =some c)(hk:DZ c)(GQ:KS L k c)(EU:DB n0 D)(DL:cs.length≤400)(hn:c.name=104∨c.name=72∨c.name=103∨c.name=71∨c.name=120):
  Calls prog 158 #[.pointer (some ⟨b,0,none⟩),.int .i64 (k:Nat)] w fun e w'=>LO P b V (D.does k c) w e w':=by
 obtain⟨Lv,F6⟩ :=List.getElem?_eq_some_iff.1 hc;have HK:=γ hk;have Tx:=γ GQ;have F7:=γ EU;have Yn:Hid (∀w',AD P b V D w'→E5 cs L w' V.AZ):=fun w' h'=>hP w' h'.AZ.out
 obtain⟨aS,qs,Fb,Ig,hlen,Co⟩ :=hP w h.AZ.out;obtain⟨g,vs,rfl,hg,hr,Db⟩ :=Co k Lv;rw[F6]at Db;have fg:=γ Fb;have Bh:=γ Db.len;have FY:=Db.one;have oF:=γ Db;have Bn:=γ Db.nm;have QR:k<L.length:=GQ.lt;obtain⟨t,Hu,Hv⟩ :∃t:ByteArray,vs[13]? =some (.string t)∧t.data.toList=(L[k]).2:=by
  obtain⟨g2,e2,_,_,_,t,ht,Hv⟩ :=Ig.cells k QR;have Hu:vs[13]? =some (vs[13]'(by rw[Db.len];decide)):=List.getElem?_eq_getElem _;have h9:=hr 13 _ Hu;have e3:g=g2:=by simpa using e2
  subst e3;rw[ht]at h9;injection h9 with h9;exact⟨t,by rw[Hu,←h9],Hv⟩
 have gz:=γ Hu;have Qm:=γ Hv;have HH:=γ h;have Bq:=h.box.lt;have c5:=h.cell 5 _ rfl;have PY:w.cell? ⟨b,5,none⟩ =some (.slice (some ⟨g,0,none⟩) L.length qs):=by rw[c5];show some V.AZ=_;rw[Fb]
 have RO:Hid (¬χ b V w.heap.size):=fun hf=>by have:=C9 HH.out _ hf;omega
 obtain⟨nL,Ej⟩ :∃n,L.length=n:=⟨_,rfl⟩
 have Ce:=γ Ej;have hH:k<nL:=by omega
 rw[hlen,Ej]at DL;rw[Ej]at PY;have L8:(0:Int)≤(k:Int):=by omega
 have mK:¬(nL:Int)≤(k:Int):=by omega
 have vT:(k:Int)<(nL:Int):=by omega
 have Cq:CB (w.alloc (.cells A9.toArray 179)) w.heap.size A9:=CB.new w _ _ C8;have BA:Below w.heap.size w (w.alloc (.cells A9.toArray 179)):=ζ.alloc δ _;have ZF:=(zero_of_info (show(prog.info? 179).map (fun i=>(i.zero,i.size))=some (some (.agg A9.toArray),23)by kernel_rfl)).1;have H7:=hk.nm;obtain⟨nm,CF⟩ :∃x,c.name=x:=⟨_,rfl⟩
 have JU:=γ CF;rw[CF]at Bn H7 hn;clear h hP hc F6 hk Db Co Ig hlen Fb c5 Hu Hv Ej CF GQ EU Lv
 go_enter func158,ntmps158
 go_upto_region 2 with(first
  |refine BX Ao hr Bh.out rfl _ rfl rfl ?_
  | (refine θ Ao Cq rfl rfl _ _ rfl rfl rfl Bh.out FY ?_
     intro w1 ξ O1;have B1:=BA.trans (O1.below (B:=w.heap.size) δ);have Bo:=HH.out.below B1;have A0:=γ Bo;have Dx:=Bo.box.lt;have LA:=ξ.lt;have d11:=ξ.c 11 _ Bn.out;have d13:=ξ.c 13 _ gz.out;clear Bo))
 clear PY hr Cq BA;have HE:Hid (D.does k c=(D.Da nm,(k:Int)+1)):=by
  show _=_;unfold DS.does;rw[JU.out,if_neg (by omega),if_neg (by omega),if_neg (by omega),if_neg (by omega),if_neg (by omega),if_neg (by omega),if_neg (by omega),if_neg (by omega),if_pos hn]
 have FO:Hid ((D.does k c).2=(k:Int)+1):=by show _=_;rw[HE.out]
 have HC:=Ty n0 P b V D vs c w1 A0.out F7.out (oF.out.below B1) (by rw[JU.out];exact hn);rw[JU.out]at HC;rcases hn with rfl|rfl|rfl|rfl|rfl
 all_goals
  go_wp2_with(refine ω Ao ξ Bh.out rfl _ rfl rfl ?_)
  refine HC.mono ?_;clear HC;rintro e w2 ⟨rfl,hp⟩;have HP:Hid (σ P b V (D.does k c).1 w w2):=by rw[HE.out];exact σ.below B1 hp
  clear hp;go_wp2;go_ret;exact⟨Ho (by rw[FO.out];first|done|rfl|simp),HP.out⟩
theorem tU(n0:Nat)(cs:List Cm)(L:List (Nat×List UInt8))(P:Value→World→Prop)(b:Nat)(V:DV)(D:DS)(k:Nat)(c:Cm)(w:World)(h:AD P b V D w)(hP:∀w,P V.AZ w→E5 cs L w V.AZ)(hc:cs[k]? =some c)(hk:DZ c)(GQ:KS L k c)(EU:DB n0 D)(DL:cs.length≤400)(Ks:1≤D.line)(hn:¬(c.name=100∨c.name=68∨c.name=113∨c.name=98∨c.name=116∨c.name=110∨c.name=78∨c.name=115∨c.name=121∨c.name=104∨c.name=72∨c.name=103∨c.name=71∨c.name=120)):
  Calls prog 158 #[.pointer (some ⟨b,0,none⟩),.int .i64 (k:Nat)] w fun e w'=>LO P b V (D.does k c) w e w':=by
 obtain⟨Lv,F6⟩ :=List.getElem?_eq_some_iff.1 hc;have HK:=γ hk;have Tx:=γ GQ;have F7:=γ EU;have Yn:Hid (∀w',AD P b V D w'→E5 cs L w' V.AZ):=fun w' h'=>hP w' h'.AZ.out
 obtain⟨aS,qs,Fb,Ig,hlen,Co⟩ :=hP w h.AZ.out;obtain⟨g,vs,rfl,hg,hr,Db⟩ :=Co k Lv;rw[F6]at Db;have fg:=γ Fb;have Bh:=γ Db.len;have FY:=Db.one;have oF:=γ Db;have Bn:=γ Db.nm;have QR:k<L.length:=GQ.lt;obtain⟨t,Hu,Hv⟩ :∃t:ByteArray,vs[13]? =some (.string t)∧t.data.toList=(L[k]).2:=by
  obtain⟨g2,e2,_,_,_,t,ht,Hv⟩ :=Ig.cells k QR;have Hu:vs[13]? =some (vs[13]'(by rw[Db.len];decide)):=List.getElem?_eq_getElem _;have h9:=hr 13 _ Hu;have e3:g=g2:=by simpa using e2
  subst e3;rw[ht]at h9;injection h9 with h9;exact⟨t,by rw[Hu,←h9],Hv⟩
 have gz:=γ Hu;have Qm:=γ Hv;have HH:=γ h;have Bq:=h.box.lt;have c5:=h.cell 5 _ rfl;have PY:w.cell? ⟨b,5,none⟩ =some (.slice (some ⟨g,0,none⟩) L.length qs):=by rw[c5];show some V.AZ=_;rw[Fb]
 have RO:Hid (¬χ b V w.heap.size):=fun hf=>by have:=C9 HH.out _ hf;omega
 obtain⟨nL,Ej⟩ :∃n,L.length=n:=⟨_,rfl⟩
 have Ce:=γ Ej;have hH:k<nL:=by omega
 rw[hlen,Ej]at DL;rw[Ej]at PY;have L8:(0:Int)≤(k:Int):=by omega
 have mK:¬(nL:Int)≤(k:Int):=by omega
 have vT:(k:Int)<(nL:Int):=by omega
 have Cq:CB (w.alloc (.cells A9.toArray 179)) w.heap.size A9:=CB.new w _ _ C8;have BA:Below w.heap.size w (w.alloc (.cells A9.toArray 179)):=ζ.alloc δ _;have ZF:=(zero_of_info (show(prog.info? 179).map (fun i=>(i.zero,i.size))=some (some (.agg A9.toArray),23)by kernel_rfl)).1;have H7:=hk.nm;obtain⟨nm,CF⟩ :∃x,c.name=x:=⟨_,rfl⟩
 have JU:=γ CF;rw[CF]at Bn H7 hn;clear h hP hc F6 hk Db Co Ig hlen Fb c5 Hu Hv Ej CF GQ EU Lv;have HE:Hid (D.does k c=(D.says c,if nm=99 then -1 else(k:Int)+1)):=by
  show _=_;unfold DS.does;rw[JU.out,if_neg (by omega),if_neg (by omega),if_neg (by omega),if_neg (by omega),if_neg (by omega),if_neg (by omega),if_neg (by omega),if_neg (by omega),if_neg (by omega)]
 have n1:((nm:Int)==100)=false:=by simp;omega
 have n2:((nm:Int)==68)=false:=by simp;omega
 have n3:((nm:Int)==113)=false:=by simp;omega
 have n4:((nm:Int)==98)=false:=by simp;omega
 have n5:((nm:Int)==116)=false:=by simp;omega
 have n6:((nm:Int)==110)=false:=by simp;omega
 have n7:((nm:Int)==78)=false:=by simp;omega
 have n8:((nm:Int)==115)=false:=by simp;omega
 have n9:((nm:Int)==121)=false:=by simp;omega
 have n10:((nm:Int)==104)=false:=by simp;omega
 have n11:((nm:Int)==72)=false:=by simp;omega
 have n12:((nm:Int)==103)=false:=by simp;omega
 have n13:((nm:Int)==71)=false:=by simp;omega
 have n14:((nm:Int)==120)=false:=by simp;omega
 go_enter func158,ntmps158
 go_upto_region 2 with(first
  |refine BX Ao hr Bh.out rfl _ rfl rfl ?_
  | (refine θ Ao Cq rfl rfl _ _ rfl rfl rfl Bh.out FY ?_
     intro w1 ξ O1;have B1:=BA.trans (O1.below (B:=w.heap.size) δ);have Bo:=HH.out.below B1;have A0:=γ Bo;have Dx:=Bo.box.lt;have LA:=ξ.lt;have d11:=ξ.c 11 _ Bn.out;have d13:=ξ.c 13 _ gz.out;clear Bo))
 clear PY hr Cq BA;have HC:=Yq n0 P b V D vs c w1 A0.out F7.out (oF.out.below B1) HK.out Ks
 go_wp2_with(refine ω Ao ξ Bh.out rfl _ rfl rfl ?_)
 refine HC.mono ?_;clear HC;rintro e w2 ⟨rfl,V2,Fw,Ds,JW⟩;have CJ:=ξ.keep (JW.block _ ξ.lt RO.out) JW.size;have e11:=CJ.c 11 _ Bn.out;have fe:=CJ.lt;have HP:Hid (σ P b V (D.does k c).1 w w2):=by rw[HE.out];exact⟨V2,Fw,Ds,(Rf.η B1).trans JW⟩
 clear Ds JW Fw ξ
 by_cases au:nm=99
 ·have m1:((nm:Int)==99)=true:=by simp[au]
  have FO:Hid ((D.does k c).2= -1):=by show _=_;rw[HE.out,if_pos au]
  clear au;go_wp2;go_ret;exact⟨Ho (by rw[FO.out]),HP.out⟩
 ·have m1:((nm:Int)==99)=false:=by simp;omega
  have FO:Hid ((D.does k c).2=(k:Int)+1):=by show _=_;rw[HE.out,if_neg au]
  clear au;go_wp2;go_ret;exact⟨Ho (by rw[FO.out];first|done|rfl|simp),HP.out⟩
theorem tV(n0:Nat)(cs:List Cm)(L:List (Nat×List UInt8))(P:Value→World→Prop)(b:Nat)(V:DV)(D:DS)(k:Nat)(c:Cm)(w:World)(h:AD P b V D w)(hP:∀w,P V.AZ w→E5 cs L w V.AZ)(hc:cs[k]? =some c)(hk:DZ c)(GQ:KS L k c)(EU:DB n0 D)(DL:cs.length≤400)(hn:c.name=121):
  Calls prog 158 #[.pointer (some ⟨b,0,none⟩),.int .i64 (k:Nat)] w fun e w'=>LO P b V (D.does k c) w e w':=by
 obtain⟨Lv,F6⟩ :=List.getElem?_eq_some_iff.1 hc;have HK:=γ hk;have Tx:=γ GQ;have F7:=γ EU;have Yn:Hid (∀w',AD P b V D w'→E5 cs L w' V.AZ):=fun w' h'=>hP w' h'.AZ.out
 obtain⟨aS,qs,Fb,Ig,hlen,Co⟩ :=hP w h.AZ.out;obtain⟨g,vs,rfl,hg,hr,Db⟩ :=Co k Lv;rw[F6]at Db;have fg:=γ Fb;have Bh:=γ Db.len;have FY:=Db.one;have oF:=γ Db;have Bn:=γ Db.nm;have QR:k<L.length:=GQ.lt;obtain⟨t,Hu,Hv⟩ :∃t:ByteArray,vs[13]? =some (.string t)∧t.data.toList=(L[k]).2:=by
  obtain⟨g2,e2,_,_,_,t,ht,Hv⟩ :=Ig.cells k QR;have Hu:vs[13]? =some (vs[13]'(by rw[Db.len];decide)):=List.getElem?_eq_getElem _;have h9:=hr 13 _ Hu;have e3:g=g2:=by simpa using e2
  subst e3;rw[ht]at h9;injection h9 with h9;exact⟨t,by rw[Hu,←h9],Hv⟩
 have gz:=γ Hu;have Qm:=γ Hv;have HH:=γ h;have Bq:=h.box.lt;have c5:=h.cell 5 _ rfl;have PY:w.cell? ⟨b,5,none⟩ =some (.slice (some ⟨g,0,none⟩) L.length qs):=by rw[c5];show some V.AZ=_;rw[Fb]
 have RO:Hid (¬χ b V w.heap.size):=fun hf=>by have:=C9 HH.out _ hf;omega
 obtain⟨nL,Ej⟩ :∃n,L.length=n:=⟨_,rfl⟩
 have Ce:=γ Ej;have hH:k<nL:=by omega
 rw[hlen,Ej]at DL;rw[Ej]at PY;have L8:(0:Int)≤(k:Int):=by omega
 have mK:¬(nL:Int)≤(k:Int):=by omega
 have vT:(k:Int)<(nL:Int):=by omega
 have Cq:CB (w.alloc (.cells A9.toArray 179)) w.heap.size A9:=CB.new w _ _ C8;have BA:Below w.heap.size w (w.alloc (.cells A9.toArray 179)):=ζ.alloc δ _;have ZF:=(zero_of_info (show(prog.info? 179).map (fun i=>(i.zero,i.size))=some (some (.agg A9.toArray),23)by kernel_rfl)).1;have H7:=hk.nm;obtain⟨nm,CF⟩ :∃x,c.name=x:=⟨_,rfl⟩
 have JU:=γ CF;rw[CF]at Bn H7 hn;clear h hP hc F6 hk Db Co Ig hlen Fb c5 Hu Hv Ej CF GQ EU Lv
 go_enter func158,ntmps158
 go_upto_region 2 with(first
  |refine BX Ao hr Bh.out rfl _ rfl rfl ?_
  | (refine θ Ao Cq rfl rfl _ _ rfl rfl rfl Bh.out FY ?_
     intro w1 ξ O1;have B1:=BA.trans (O1.below (B:=w.heap.size) δ);have Bo:=HH.out.below B1;have A0:=γ Bo;have Dx:=Bo.box.lt;have LA:=ξ.lt;have d11:=ξ.c 11 _ Bn.out;have d13:=ξ.c 13 _ gz.out;clear Bo))
 clear PY hr Cq BA;have HE:Hid (D.does k c=(D.turned c,(k:Int)+1)):=by
  show _=_;unfold DS.does;rw[JU.out,if_neg (by omega),if_neg (by omega),if_neg (by omega),if_neg (by omega),if_neg (by omega),if_neg (by omega),if_neg (by omega),if_pos hn]
 have FO:Hid ((D.does k c).2=(k:Int)+1):=by show _=_;rw[HE.out]
 have X5:Hid (c.name=121):=by show _=_;rw[JU.out];exact hn
 obtain⟨ap,cp,EO,_⟩ :=A0.out.pat.out.form;have k7:=A0.out.cell 7 _ rfl;have k7':w1.cell? ⟨b,7,none⟩ =some (.slice ap D.pat.length cp):=by rw[k7];show some V.pat=_;rw[EO]
 have BZ:=A0.out.pat.out;rw[EO]at BZ;have f7:=A0.out.fz 7 (by decide);have HTC:Hid (Calls prog 197 #[.slice ap D.pat.length cp,.agg vs.toArray] w1.drew fun e w'=>LJ (D.pat.map (BQ c.UO.data.toList c.Kv.data.toList)) w1.drew e w'):=
  WN _ D.pat vs c w1.drew BZ.drew F7.out.pa (oF.out.below B1.drew) X5.out
 have AEH:=γ EO;clear k7 EO BZ;subst hn;have iw:=γ (A0.out.below (ζ.drew));have L6:=γ ξ;clear ξ;have ξ:=L6.out;have HRG:Hid (w1.drew.rangeAt w.heap.size 0 vs):=by
  have h9:=(ξ.keep (w':=w1.drew) rfl δ).range 0 23;rw[List.drop_zero,List.take_of_length_le (by rw[Bh.out];exact δ)]at h9;exact h9
 have Ls:Hid (∀(v3:Value)(w3:World),w3.ownsRow w1.drew.heap.size 120 2 v3 (D.pat.map (BQ c.UO.data.toList c.Kv.data.toList)).length (Cn (D.pat.map (BQ c.UO.data.toList c.Kv.data.toList)))→Below w1.drew.heap.size w1.drew w3→σ P b V (D.does k c).1 w (w3.setCell ⟨b,7,none⟩ v3)∧w3.frozen? ⟨b,7,none⟩ =false∧w3.cell? ⟨b,7,none⟩ =some (.slice ap D.pat.length cp)∧b<w3.heap.size∧w3.rangeAt w.heap.size 0 vs):=fun v3 w3 Γ B3=>by
  have KP:=iw.out.below B3;have hA:=KP.GX _ _ (Ll iw.out Γ);exact⟨by rw[HE.out];exact σ.below (B1.drew.trans (B3.mono B1.drew.size)) hA,KP.fz 7 (by decide),by rw[KP.cell 7 _ rfl];show some V.pat=_;rw[AEH.out],KP.box.lt,fun j u hu=>(B3.cell (by exact LA)).trans (HRG.out j u hu)⟩
 clear ξ
 go_wp2_with fail
 have r5:w1.drew.rangeAt w.heap.size 0 vs∧b<w1.drew.heap.size:=⟨HRG.out,Dx⟩
 have K1:w.heap.size≠b:=by omega
 have k7d:w1.drew.cell? ⟨b,7,none⟩ =some (.slice ap D.pat.length cp):=k7';have bld:b<w1.drew.heap.size:=Dx;refine wp_region_held_drew (S:=fun wx=>wx.rangeAt w.heap.size 0 vs∧b<wx.heap.size) (by kernel_rfl) r5 (fun hHeld=> ?_);refine wpAnyH_take (i:=0) (v:= .pointer (some ⟨b,0,none⟩)) rfl (by kernel_rfl) (by kernel_rfl) (by kernel_rfl) (fun _ _ _ h=>h) (Or.inl ⟨by rfl,fun w hSw=>by go_simp⟩) hHeld ?_;simp only[Act.put,List.setIfInBounds_toArray,List.set_cons_zero,List.set_cons_succ];refine wpAnyH_take (i:=1) (v:= .pointer (some ⟨b,0,none⟩)) rfl (by kernel_rfl) (by kernel_rfl) (by kernel_rfl) (fun _ _ _ h=>h) (Or.inl ⟨by rfl,fun w hSw=>by go_simp⟩) hHeld ?_;simp only[Act.put,List.setIfInBounds_toArray,List.set_cons_zero,List.set_cons_succ];refine wpAnyH_take (i:=2) (v:= .pointer (some ⟨b,0,none⟩)) rfl (by kernel_rfl) (by kernel_rfl) (by kernel_rfl) (fun _ _ _ h=>h) (Or.inl ⟨by rfl,fun w hSw=>by go_simp⟩) hHeld ?_;simp only[Act.put,List.setIfInBounds_toArray,List.set_cons_zero,List.set_cons_succ];refine wpAnyH_take (i:=3) (v:= .pointer (some ⟨b,7,none⟩)) rfl (by kernel_rfl) (by kernel_rfl) (by kernel_rfl) (fun _ _ _ h=>h) (Or.inl ⟨by rfl,fun w hSw=>by go_simp⟩) hHeld ?_;simp only[Act.put,List.setIfInBounds_toArray,List.set_cons_zero,List.set_cons_succ];refine wpAnyH_take (i:=5) rfl (by kernel_rfl) (by kernel_rfl) (by kernel_rfl) (fun _ _ _ h=>h) (yieldsIf_load_mid (by rfl) 179 (.tmp 5) rfl w.heap.size 0 rfl vs _ (fun _ h=>h.1) underlying179 rfl (by rw[Bh.out];kernel_rfl)) hHeld ?_;simp only[Act.put,List.setIfInBounds_toArray,List.set_cons_zero,List.set_cons_succ];refine wpAnyH_ready (rs:= [4]) (by kernel_rfl) (by simp) ?_;refine AllReadyH.cons rfl (fun K hK=> ?_) AllReadyH.nil
 go_simp
 refine hK.out _ _ r5 (fun mY=> ?_);clear hK K
 try simp only[Act.put,List.setIfInBounds_toArray,List.set_cons_zero,List.set_cons_succ]
 refine wpAnyH_ready (rs:= [6]) (by kernel_rfl) (by simp) ?_;refine AllReadyH.cons rfl (fun K hK=> ?_) AllReadyH.nil
 go_simp
 refine HTC.out.mono ?_;rintro e w3 ⟨v3,rfl,Γ,B3⟩;obtain⟨a3,n3,c3,Ei,cP⟩ :=(ψ.JI Γ).IM;subst Ei;clear cP;obtain⟨HP,g7,gk,gl,grg⟩ :=Ls.out _ w3 Γ B3;clear Γ;refine hK.out _ _ ⟨grg,gl⟩ (fun oO=> ?_);clear hK K
 try simp only[Act.put,List.setIfInBounds_toArray,List.set_cons_zero,List.set_cons_succ]
 refine wpAnyH_take (i:=7) (v:= .pointer (some ⟨b,0,none⟩)) rfl (by kernel_rfl) (by kernel_rfl) (by kernel_rfl) (fun _ _ _ h=>h) (Or.inl ⟨by rfl,fun w hSw=>by go_simp⟩) oO ?_;simp only[Act.put,List.setIfInBounds_toArray,List.set_cons_zero,List.set_cons_succ];refine wpAnyH_take (i:=8) (v:= .pointer (some ⟨b,7,none⟩)) rfl (by kernel_rfl) (by kernel_rfl) (by kernel_rfl) (fun _ _ _ h=>h) (Or.inl ⟨by rfl,fun w hSw=>by go_simp⟩) oO ?_;simp only[Act.put,List.setIfInBounds_toArray,List.set_cons_zero,List.set_cons_succ];refine wpAnyH_ready (rs:= [9]) (by kernel_rfl) (by simp) ?_;refine AllReadyH.cons rfl (fun K hK=> ?_) AllReadyH.nil
 go_simp
 have AEI:(w3.setCell ⟨b,7,none⟩ (.slice a3 n3 c3)).rangeAt w.heap.size 0 vs∧b<(w3.setCell ⟨b,7,none⟩ (.slice a3 n3 c3)).heap.size:=⟨fun j u hu=>(World.cell?_of_block (heap_setCell_other w3 _ _ _ K1)).trans (grg j u hu),by simpa using gl⟩
 refine hK.out _ _ AEI (fun _=>wpAnyH_done (by kernel_rfl) ?_ _);clear hK K
 try simp only[Act.put,List.setIfInBounds_toArray,List.set_cons_zero,List.set_cons_succ]
 go_wp2;go_ret;exact⟨Ho (by rw[FO.out];first|done|rfl|simp),HP⟩
end Go.Proofs.YtlppphmnegdhoabGreatDoor
