import Derived.Test.YtlppphmnegdhoabGreatDoorMz39
set_option linter.unusedVariables false
set_option maxRecDepth 100000
set_option maxHeartbeats 8000000
namespace Go.Proofs.YtlppphmnegdhoabGreatDoor
open Go.Proofs.Tryz
open Go.RowKit
open M
theorem ABt{vs:List Value}{x y z:Value}{o:Nat}(h0:vs[o]? =some x)(h1:vs[o+1]? =some y)(h2:vs[o+2]? =some z):(vs.drop o).take 3= [x,y,z]:=by
 apply List.ext_getElem?;intro j;rw[List.getElem?_take];split
 ·rw[List.getElem?_drop]
  match j with
  |0=>exact h0
  |1=>exact h1
  |2=>exact h2
  |j+3=>omega
 ·rw[List.getElem?_eq_none (by show 3≤j;omega)]
theorem ψ.IM{w:World}{v:Value}{l:List Cl}(h:ψ w v l):∃a n c,v= .slice a n c∧l.length=n:=by
 obtain⟨a,c,h1,_⟩ :=h.form;exact⟨a,_,c,h1,rfl⟩
theorem WQ(n0:Nat)(P:Value→World→Prop)(b:Nat)(V:DV)(D:DS)(vs:List Value)(c:Cm)(w:World)(h:AD P b V D w)(EU:DB n0 D)(hd:PQ w vs c)(hn:c.name=115)(hk:DZ c)(q5:1≤c.sub.count):
  Calls prog 196 #[.pointer (some ⟨b,0,none⟩),.agg vs.toArray] w fun e w'=>Hl P b V (D.subst c.sub) w e w':=by
 have Bc:Hid (∀v∈vs,v.oneCell'=true):=hd.one;have Bh:=γ hd.len;obtain⟨ax,qx,m,am,qm,h14,h15,vG,h17,h18,pU,pV,Js,⟨XX,hmb⟩,hex,Tl⟩ :=hd.sb hn;have HX3:=γ (ABt h14 h15 vG);have H17:=γ h17;have H18:=γ h18;have H19:=γ pU;have H20:=γ pV;have pO:=γ hk.rp;have iv:Hid (DK m=c.sub.rep∧m.length≤400∧(∀q∈m,q.b<256)∧A7 w am m.length m):=⟨Js,XX,hmb,Tl⟩
 obtain⟨Li,nI,Dz⟩ :=hex;have SJ:=γ nI;have PD:Hid (c.sub.ex.l.length=Li.length):=by show _=_;rw[←nI];simp
 have HLS:Hid (Li.length≤8192):=by show _≤_;rw[←PD.out];have:=hk.i3;omega
 have qQ:=γ Dz;have HH:=γ h;have F7:=γ EU;have HCT:=γ q5;have P0:=hk.ct;have Bq:=h.box.lt;obtain⟨ap,cp,EO,Z4⟩ :=h.pat.out.form;obtain⟨n,jZ⟩ :∃n,D.pat.length=n:=⟨_,rfl⟩
 have HN:=γ jZ;rw[jZ]at EO Z4;have Tk:=γ EO;have oI:n≤256:=by rw[←jZ];exact EU.pa
 have hU:Hid (∀w',Below w.heap.size w w'→w'.cell? ⟨b,7,none⟩ =some (.slice ap n cp)∧ψ w' (.slice ap n cp) D.pat∧b<w'.heap.size∧AD P b V D w'):=fun w' hb=>by
  have h':=HH.out.below hb;have k7:=h'.cell 7 _ rfl;have s7:=h'.pat.out;rw[EO]at s7;exact⟨by rw[k7];show some V.pat=_;rw[EO],s7,h'.box.lt,h'⟩
 have HE:Hid (D.subst c.sub=if(CP c.sub.ex (AL D.pat)).length<c.sub.count then D else
  if(D.pattern (Au D.pat c.sub (CP c.sub.ex (AL D.pat)) 1 0)).state=0 then(if c.sub.Pt then DS.GL {D.pattern (Au D.pat c.sub (CP c.sub.ex (AL D.pat)) 1 0)with mark:=true}else{D.pattern (Au D.pat c.sub (CP c.sub.ex (AL D.pat)) 1 0)with mark:=true})else D.pattern (Au D.pat c.sub (CP c.sub.ex (AL D.pat)) 1 0)):=rfl
 have oJ:(Dr D.pat).size=n:=by rw[←Δ,←jZ];unfold Dr;simp[AL]
 have Io:(Dr D.pat).data.toList=AL D.pat:=by unfold Dr;simp
 have Un:Hid ((Dr D.pat).size=n∧(Dr D.pat).data.toList=AL D.pat):=⟨oJ,Io⟩
 obtain⟨nx,OW⟩ :∃k,c.sub.ex.l.length=k:=⟨_,rfl⟩
 rw[OW]at HX3 PD;clear h hd EU hn hk q5 h14 h15 vG h17 h18 pU pV Js XX hmb Tl nI Dz jZ EO oJ Io OW
 go_enter func196,ntmps196
 go_wp2_with(refine AU rfl _ rfl vs rfl Bc.out ?_
             intro w1 ξ B1 CE;have LA:=ξ.lt;obtain⟨k7,s7,Dx,_⟩ :=hU.out w1 B1)
 refine(IH _ D.pat w1 s7 (by rw[HN.out];omega)).mono ?_;rintro e w2 ⟨rfl,B2⟩;have X8:=BC B1 B2;have CJ:=ξ.below B2 ξ.lt;clear k7 s7 Dx
 go_wp2_with(refine D7 Ps CJ (o:=14) HX3.out rfl rfl _ rfl rfl ?_)
 have HC:=P8 c.sub.ex.head c.sub.ex.tail ax nx qx Li (Dr D.pat) w2 PD.out (qQ.out.below X8) HLS.out (by rw[Un.out.1];exact oI);refine HC.mono ?_;clear HC;rintro e w3 ⟨G,a2,c2,hG,rfl,Bl,PW,B3⟩;have ij:=BC X8 B3;have CM:=CJ.below B3 CJ.lt;have e18:=CM.c 18 _ H18.out;have lb3:=CM.lt;rw[Un.out.1]at Bl hG⊢;have AED:Hid (({head:=c.sub.ex.head,tail:=c.sub.ex.tail,l:=Li.map IV.it}:Ex)=c.sub.ex):=by show _=_;rw[SJ.out]
 have HMC:Hid (∀(k:Nat)(Ew:Int)(wr:World),Below w3.heap.size w3 wr→k≤n→ -1≤Ew→Ew≤256→Calls prog 107 #[.slice a2 (n+1) c2,.int .i64 k,.int .i64 Ew] wr fun e w'=>(∃i j:Int,e= .returned (.tuple #[.int .i64 i,.int .i64 j])∧LN c.sub.ex (AL D.pat) k Ew i j)∧w'=wr):=fun k Ew wr hb h1 h2 h3=>by
  have HC:=WL G a2 c2 w2.heap.size c.sub.ex (Dr D.pat) k Ew wr (by rw[Un.out.1];exact oI) (by rw[Un.out.1];exact hG) (by rw[Un.out.1];exact Ξ Bl hb) (fun j hj=>by
   have h9:=(PW j hj).below hb (PW j hj).lt;rw[AED.out]at h9;exact h9) (by rw[Un.out.1];exact h1) h2 h3
  rw[Un.out.1,Un.out.2]at HC;exact HC
 have Lg:=γ CM;clear Bl PW ξ CJ CM hG;have hbs:(Dr D.pat).size≤256:=by rw[Un.out.1];exact oI
 obtain⟨ct,zj⟩ :∃k,c.sub.count=k:=⟨_,rfl⟩
 have HCE:=γ zj;rw[zj]at e18 P0 H18;obtain⟨al,rr⟩ :∃k,c.sub.all=k:=⟨_,rfl⟩
 have HAL:=γ rr;rw[rr]at H19;clear zj rr
 go_wp2_with fail
 go_loopw [6,7,8,9,10,11] (fun v6 v7 v8 v9 v10 v11 wr=>∃(k at':Nat)(Ew:Int)(l:List Cl)(d:Nat)(Dz:Bool),v11= .int .i64 (k:Nat)∧v9= .int .i64 (at':Nat)∧v10= .int .i64 Ew∧v7= .int .i64 (d:Nat)∧v8= .bool Dz∧k≤n+2∧Hid (KU D.pat c.sub k at' Ew l d Dz)∧wr.ownsRow w3.heap.size 120 2 v6 l.length (Cn l)∧Below w3.heap.size w3 wr) (fun _ _ _ _ _ v11 _=>n+2 - (intOf v11).toNat)
 case atStart=>exact⟨1,0,-1,[],0,false,rfl,rfl,rfl,rfl,rfl,by omega,KU.start D.pat c.sub HCT.out,World.ownsRow_nil _ _ _ _,ζ⟩
 case round=>
  obtain⟨k,at',Ew,l,d,Dz,rfl,rfl,rfl,rfl,rfl,Ep,HI,ν,hB⟩ :=hrel;have L0:=BC ij hB;obtain⟨k7,s7,iz,vX⟩ :=hU.out wr L0;have Og:=Lg.out.below hB Lg.out.lt;have vY:=Og.lt;have K1:=hB.size;have e18:=Og.c 18 _ H18.out;have e19:=Og.c 19 _ H19.out;have pn:=Og.c 17 _ H17.out;have e20:=Og.c 20 _ H20.out;obtain⟨av,cv,CX⟩ :=κ ν;subst CX;have AEE:at'≤n:=by have:=HI.out.ha;rw[HN.out]at this;exact this
  have WM:=HI.out.hb;rw[HN.out]at WM;have EW:=HI.out.k1;have OQ:l.length≤300000:=by have h1:=HI.out.hl;have h2:=HI.out.hd;omega
  have KW:=γ (ψ.JI ν);obtain⟨nl,Im⟩ :∃k,l.length=k:=⟨_,rfl⟩
  have Ce:=γ Im;rw[Im]at OQ KW⊢;have Hi:=ν;rw[Im]at Hi;have MN:Hid (Dz=decide (¬(CP c.sub.ex (AL D.pat)).length<c.sub.count)∧Au D.pat c.sub (CP c.sub.ex (AL D.pat)) 1 0=l++D.pat.drop d→(Dz=false→σ P b V (D.subst c.sub) w wr)∧(Dz=true→D.subst c.sub=if(D.pattern (l++D.pat.drop d)).state=0 then(if c.sub.Pt then DS.GL {D.pattern (l++D.pat.drop d)with mark:=true}else{D.pattern (l++D.pat.drop d)with mark:=true})else D.pattern (l++D.pat.drop d))):=fun⟨h1,h2⟩ =>by
   refine⟨fun h3=> ?_,fun h3=> ?_⟩
   all_goals
    rw[h3]at h1
   ·have h4:(CP c.sub.ex (AL D.pat)).length<c.sub.count:=by simpa using h1.symm
    rw[HE.out,if_pos h4];exact σ.refl HH.out L0
   ·have h4:¬(CP c.sub.ex (AL D.pat)).length<c.sub.count:=by simpa using h1.symm
    rw[HE.out,if_neg h4,h2]
  have fK:d≤n:=by have:=HI.out.hd;omega
  clear Im ν
  by_cases Ez:k≤n+1
  ·have Z1:(k:Int)≤((Dr D.pat).size:Int)+1:=by rw[Un.out.1];omega
   go_wp2_with fail
   refine(HMC.out at' Ew wr hB AEE WM.1 (by omega)).mono ?_;rintro e wm ⟨⟨i,j,rfl,TJ⟩,rfl⟩
   by_cases Zs:i<0
   ·have HT:=MN.out (HI.out.none TJ Zs)
    have Er:Hid _:=HT;clear HT MN TJ HI;cases Dz with
    |false=>
     have HP:Hid (σ P b V (D.subst c.sub) w _):=Er.out.1 rfl;clear Er;go_wp2
     go_end0
     exact⟨rfl,HP.out⟩
    |true=>
     have ER:Hid _:=Er.out.2 rfl;clear Er;have HDL:Hid ((l++D.pat.drop d).length≤900000):=by show _≤_;rw[List.length_append,List.length_drop,Ce.out,HN.out];omega
     go_wp2_with(refine zf (i:=d) s7 (by rw[HN.out];exact fK) rfl _ _ rfl rfl rfl ?_
                 intro v3 Sf H4;obtain⟨a3,n3,c3,Ei,cP⟩ :=H4.IM;subst Ei;clear cP)
     have HC:=Dn _ _ l (D.pat.drop d) _ KW.out H4 (by have:=HDL.out;rw[List.length_append]at this;omega);refine HC.mono ?_;clear HC;rintro e w5 ⟨v5,rfl,BT,B5⟩;have Se:=Ll vX BT;have MM:=vX.below B5;have BP:=Og.below B5 Og.lt;have B15:=BC L0 B5;obtain⟨a5,n5,c5,Nu,hn5⟩ :=(ψ.JI BT).IM;subst Nu;clear hn5;clear BT;have HC:=Cu P b V D _ (l++D.pat.drop d) w5 MM Se F7.out.ro (by have:=HDL.out;omega)
     go_wp2_with fail
     refine HC.mono ?_;clear HC;rintro e w6 ⟨rfl,V6,LY,Qq,Qr⟩;have Nd:¬χ b V w.heap.size:=fun hf=>by have:=C9 HH.out _ hf;omega
     have GN:=BP.keep (Qr.block _ BP.lt Nd) Qr.size;have g20:=GN.c 20 _ H20.out;have lb6:=GN.lt;have oB:=γ ((Rf.η B15).trans Qr);have iq:=γ Qq;have WR:Hid (DB n0 (D.pattern (l++D.pat.drop d))):=F7.out.pattern _;have QO:=Qq.cell 17 _ rfl;have QQ:=Qq.cell 14 _ rfl;have f14:=Qq.fz 14 (by decide);have bl6:=Qq.box.lt;have Ip:=γ LY;clear MM Se BP Qq Qr LY H4 Sf k7 s7 iz vX Og vY pn e18 e19 e20;obtain⟨E,hEe⟩ :∃E,D.pattern (l++D.pat.drop d)=E:=⟨_,rfl⟩
     rw[hEe]at iq WR QO QQ ER;obtain⟨st,D5⟩ :∃k,E.state=k:=⟨_,rfl⟩
     have LM:=WR.out.st;have ze:w6.cell? ⟨b,17,none⟩ =some (.int .i64 (st:Nat)):=by rw[QO];show some (Value.int .i64 (E.state:Nat))=_;rw[D5]
     have AEF:w6.cell? ⟨b,14,none⟩ =some (.bool E.mark):=QQ;rw[D5]at LM;have oK:=γ D5;clear QO QQ hEe D5
     by_cases h0:st=0
     ·have KA:((st:Int)==0)=true:=by simp[h0]
      rw[if_pos (show E.state=0 by rw[oK.out];exact h0)]at ER;clear h0;have hA:=iq.out.plain 14 (by decide) (.bool true) rfl {E with mark:=true} rfl rfl rfl rfl rfl rfl;have HA:=γ hA;have Tf:Hid (Rf (χ b V) (χ b V6) w (w6.setCell ⟨b,14,none⟩ (.bool true))):=oB.out.trans (Rf.DN V6 b 14 _ w6);have ZU:=γ (WR.out.mark true);have zk:w.heap.size≠b:=by omega
      obtain⟨pr,Gz⟩ :∃x,c.sub.Pt=x:=⟨_,rfl⟩
      rw[Gz]at g20 ER;have AEG:(w6.setCell ⟨b,14,none⟩ (.bool true)).cell? ⟨w.heap.size,20,none⟩ =some (.bool pr):=by
       rw[World.cell?_of_block (heap_setCell_other w6 _ _ _ zk)];exact g20
      have lb7:w.heap.size<(w6.setCell ⟨b,14,none⟩ (.bool true)).heap.size:=by simpa using lb6
      clear hA Gz;cases pr with
      |true=>
       rw[if_pos rfl]at ER
       go_wp2_with fail
       refine(GM P b V6 _ _ HA.out ZU.out.pa ZU.out.ou).mono ?_;rintro e w7 ⟨rfl,hp⟩;have HP:Hid (σ P b V (D.subst c.sub) w w7):=by
        show σ _ _ _ _ _ _;rw[ER.out];exact σ.trans Ip.out Tf.out hp.nM
       clear hp;go_wp2
       go_end0
       exact⟨rfl,HP.out⟩
      |false=>
       rw[if_neg (by decide)]at ER;have HP:Hid (σ P b V (D.subst c.sub) w (w6.setCell ⟨b,14,none⟩ (.bool true))):=by
        show σ _ _ _ _ _ _;rw[ER.out];exact⟨V6,Ip.out,HA.out,Tf.out⟩
       go_wp2
       go_end0
       exact⟨rfl,HP.out⟩
     ·have KA:((st:Int)==0)=false:=by simp;omega
      rw[if_neg (show¬E.state=0 by rw[oK.out];exact h0)]at ER;clear h0;have HP:Hid (σ P b V (D.subst c.sub) w w6):=by
       show σ _ _ _ _ _ _;rw[ER.out];exact⟨V6,Ip.out,iq.out,oB.out⟩
      go_wp2
      go_end0
      exact⟨rfl,HP.out⟩
   ·have XT:¬i<(0:Int):=Zs
    obtain⟨ia,jb,rfl,rfl,hai,aG,hjn,ABu,CQ⟩ :=HI.out.some pO.out TJ (by omega);rw[HN.out]at hjn;clear Zs TJ MN;have hY:Hid (I7 c.sub k=true→KU D.pat c.sub (k+1) jb jb (l++τ D.pat d ia++Ai c.sub.rep (τ D.pat ia jb)) jb true):=ABu;have Pz:Hid (I7 c.sub k=false→KU D.pat c.sub (k+1) jb jb l d Dz):=CQ;have ZU:=γ HI.out.hd;have qI:=ZU.out;have pM:Hid (I7 c.sub k=(k==ct || (decide (ct<k) && al))):=by show _=_;unfold I7;rw[HCE.out,HAL.out]
    clear ABu CQ HI
    by_cases Px:k=ct
    ·have n1:((k:Int)==(ct:Int))=true:=by simp[Px]
     have Wi:Hid (KU D.pat c.sub (k+1) jb jb (l++τ D.pat d ia++Ai c.sub.rep (τ D.pat ia jb)) jb true):=hY.out (by rw[pM.out,Px];simp);clear hY Pz pM Px;have oL:Hid ((l++τ D.pat d ia++Ai c.sub.rep (τ D.pat ia jb)).length≤300000):=by
      have h9:=Wi.out.hl;show _≤_;omega
     have QK:Hid ((τ D.pat ia jb).length≤256):=by show _≤_;unfold τ;rw[List.length_take];omega
     go_wp2_with fail
     have q1:(0:Int)≤(ia:Int):=by omega
     have q2:(ia:Int)≤(jb:Int):=by omega
     have q3:(jb:Int)≤(cp:Int):=by omega
     have Kh:ψ _ (.slice (if cp=ia then ap else Option.map (fun x=>x.add (ia*2)) ap) (jb - ia) (cp - ia)) (τ D.pat ia jb):=En ap n cp D.pat ia jb aG (by rw[HN.out];exact hjn) _ s7.drew;have HGV:=P5 am qm m _ (τ D.pat ia jb) _ (iv.out.2.2.2.below L0.drew) iv.out.2.1 iv.out.2.2.1 Kh QK.out;have HKP:Hid (∀w',Below wm.drew.heap.size wm.drew w'→w'.cell? ⟨w.heap.size,17,none⟩ =some (.slice am m.length qm)∧w'.cell? ⟨b,7,none⟩ =some (.slice ap n cp)∧b<w'.heap.size∧w.heap.size<w'.heap.size):=fun w' h9=>⟨(h9.cell (by exact vY)).trans pn,(hU.out w' (L0.drew.trans (h9.mono L0.drew.size))).1,Nat.lt_of_lt_of_le iz h9.size,Nat.lt_of_lt_of_le vY h9.size⟩
     clear Kh
     go_region_held3(fun w'=>w'.cell? ⟨w.heap.size,17,none⟩ =some (.slice am m.length qm)∧w'.cell? ⟨b,7,none⟩ =some (.slice ap n cp)∧b<w'.heap.size∧w.heap.size<w'.heap.size)
      (first
       |go_keep
       |exact⟨zl,kg7,kgl,kgw⟩)
      (first
       | (go_at_call 224
          refine HGV.mono ?_;rintro e w5 ⟨v5,rfl,BT,B5⟩;generalize(if cp=ia then ap else Option.map (fun x=>x.add (ia*2)) ap)=apx;rw[iv.out.1]at BT;obtain⟨zl,kg7,kgl,kgw⟩ :=HKP.out w5 B5))
     all_goals
      have pY:=γ (hB.drew.trans (B5.mono hB.drew.size));obtain⟨k75,s75,bl5,MM⟩ :=hU.out w5 (BC ij pY.out);have oM:=(KW.out.drew).below B5;have HSF:=γ (ψ.JI BT);obtain⟨a5,n5,c5,Nu,hn5⟩ :=(ψ.JI BT).IM;subst Nu;clear hn5;have Qk:=pY.out.size;clear BT k7 s7 iz vX Og vY pn e18 e19 e20 Hi B5
      go_wp2_with(refine vV (i:=d) (j:=ia) s75 (by omega) (by rw[HN.out];omega) rfl _ _ _ rfl rfl rfl rfl ?_
                  intro v6 oN LY;obtain⟨a6,n6,c6,aR,hn6⟩ :=LY.IM;subst aR;clear hn6)
      have HC:=Dn _ _ l (τ D.pat d ia) w5 oM LY (by have:=oL.out;rw[List.length_append,List.length_append]at this;omega);refine HC.mono ?_;clear HC;rintro e w7 ⟨v7,rfl,DU,B7⟩;have HS7:=γ (ψ.JI DU);have zm:=γ (HSF.out.below B7);have HB7:=γ (pY.out.trans (B7.mono Qk));have lX:=HB7.out.size;obtain⟨a7,n7,c7,lY,hn7⟩ :=(ψ.JI DU).IM;subst lY;clear hn7;clear DU LY oN k75 s75 bl5 MM oM;have HC:=Dn _ _ (l++τ D.pat d ia) (Ai c.sub.rep (τ D.pat ia jb)) w7 HS7.out zm.out (by have:=oL.out;rw[List.length_append]at this;omega)
      go_wp2_with fail
      refine HC.mono ?_;clear HC;rintro e w8 ⟨v8,rfl,D9,B8⟩;have HB8:=γ (HB7.out.trans (B8.mono lX));have HO8:=γ (AH D9 lX);obtain⟨a8,n8,c8,xU,hn8⟩ :=(ψ.JI D9).IM;subst xU;clear hn8;clear D9
      go_wp2_with fail
      go_roundw
      case rel=>exact⟨k+1,jb,jb,_,jb,true,by go_num,rfl,rfl,rfl,rfl,by omega,Wi.out,HO8.out,HB8.out⟩
      case measure=>simp[intOf]<;>omega
    ·have n1:((k:Int)==(ct:Int))=false:=by simp;omega
     by_cases L8:ct<k
     ·have n2:(ct:Int)<(k:Int):=by omega
      cases al with
      |true=>
       have Wi:Hid (KU D.pat c.sub (k+1) jb jb (l++τ D.pat d ia++Ai c.sub.rep (τ D.pat ia jb)) jb true):=hY.out (by rw[pM.out];simp[L8]);clear hY Pz pM Px L8;have oL:Hid ((l++τ D.pat d ia++Ai c.sub.rep (τ D.pat ia jb)).length≤300000):=by
        have h9:=Wi.out.hl;show _≤_;omega
       have QK:Hid ((τ D.pat ia jb).length≤256):=by show _≤_;unfold τ;rw[List.length_take];omega
       go_wp2_with fail
       have q1:(0:Int)≤(ia:Int):=by omega
       have q2:(ia:Int)≤(jb:Int):=by omega
       have q3:(jb:Int)≤(cp:Int):=by omega
       have Kh:ψ _ (.slice (if cp=ia then ap else Option.map (fun x=>x.add (ia*2)) ap) (jb - ia) (cp - ia)) (τ D.pat ia jb):=En ap n cp D.pat ia jb aG (by rw[HN.out];exact hjn) _ s7.drew;have HGV:=P5 am qm m _ (τ D.pat ia jb) _ (iv.out.2.2.2.below L0.drew) iv.out.2.1 iv.out.2.2.1 Kh QK.out;have HKP:Hid (∀w',Below wm.drew.heap.size wm.drew w'→w'.cell? ⟨w.heap.size,17,none⟩ =some (.slice am m.length qm)∧w'.cell? ⟨b,7,none⟩ =some (.slice ap n cp)∧b<w'.heap.size∧w.heap.size<w'.heap.size):=fun w' h9=>⟨(h9.cell (by exact vY)).trans pn,(hU.out w' (L0.drew.trans (h9.mono L0.drew.size))).1,Nat.lt_of_lt_of_le iz h9.size,Nat.lt_of_lt_of_le vY h9.size⟩
       clear Kh
       go_region_held3(fun w'=>w'.cell? ⟨w.heap.size,17,none⟩ =some (.slice am m.length qm)∧w'.cell? ⟨b,7,none⟩ =some (.slice ap n cp)∧b<w'.heap.size∧w.heap.size<w'.heap.size)
        (first
         |go_keep
         |exact⟨zl,kg7,kgl,kgw⟩)
        (first
         | (go_at_call 224
            refine HGV.mono ?_;rintro e w5 ⟨v5,rfl,BT,B5⟩;generalize(if cp=ia then ap else Option.map (fun x=>x.add (ia*2)) ap)=apx;rw[iv.out.1]at BT;obtain⟨zl,kg7,kgl,kgw⟩ :=HKP.out w5 B5))
       all_goals
        have pY:=γ (hB.drew.trans (B5.mono hB.drew.size));obtain⟨k75,s75,bl5,MM⟩ :=hU.out w5 (BC ij pY.out);have oM:=(KW.out.drew).below B5;have HSF:=γ (ψ.JI BT);obtain⟨a5,n5,c5,Nu,hn5⟩ :=(ψ.JI BT).IM;subst Nu;clear hn5;have Qk:=pY.out.size;clear BT k7 s7 iz vX Og vY pn e18 e19 e20 Hi B5
        go_wp2_with(refine vV (i:=d) (j:=ia) s75 (by omega) (by rw[HN.out];omega) rfl _ _ _ rfl rfl rfl rfl ?_
                    intro v6 oN LY;obtain⟨a6,n6,c6,aR,hn6⟩ :=LY.IM;subst aR;clear hn6)
        have HC:=Dn _ _ l (τ D.pat d ia) w5 oM LY (by have:=oL.out;rw[List.length_append,List.length_append]at this;omega);refine HC.mono ?_;clear HC;rintro e w7 ⟨v7,rfl,DU,B7⟩;have HS7:=γ (ψ.JI DU);have zm:=γ (HSF.out.below B7);have HB7:=γ (pY.out.trans (B7.mono Qk));have lX:=HB7.out.size;obtain⟨a7,n7,c7,lY,hn7⟩ :=(ψ.JI DU).IM;subst lY;clear hn7;clear DU LY oN k75 s75 bl5 MM oM;have HC:=Dn _ _ (l++τ D.pat d ia) (Ai c.sub.rep (τ D.pat ia jb)) w7 HS7.out zm.out (by have:=oL.out;rw[List.length_append]at this;omega)
        go_wp2_with fail
        refine HC.mono ?_;clear HC;rintro e w8 ⟨v8,rfl,D9,B8⟩;have HB8:=γ (HB7.out.trans (B8.mono lX));have HO8:=γ (AH D9 lX);obtain⟨a8,n8,c8,xU,hn8⟩ :=(ψ.JI D9).IM;subst xU;clear hn8;clear D9
        go_wp2_with fail
        go_roundw
        case rel=>exact⟨k+1,jb,jb,_,jb,true,by go_num,rfl,rfl,rfl,rfl,by omega,Wi.out,HO8.out,HB8.out⟩
        case measure=>simp[intOf]<;>omega
      |false=>
       have Wi:Hid (KU D.pat c.sub (k+1) jb jb l d Dz):=Pz.out (by rw[pM.out];simp[Px]);clear hY Pz pM Px L8
       go_wp2_with fail
       go_roundw
       case rel=>exact⟨k+1,jb,jb,l,d,Dz,by go_num,rfl,rfl,rfl,rfl,by omega,Wi.out,by rw[Ce.out];exact Hi,hB⟩
       case measure=>simp[intOf]<;>omega
     ·have n2:¬(ct:Int)<(k:Int):=by omega
      have Wi:Hid (KU D.pat c.sub (k+1) jb jb l d Dz):=Pz.out (by rw[pM.out];simp[Px,L8]);clear hY Pz pM Px L8
      go_wp2_with fail
      go_roundw
      case rel=>exact⟨k+1,jb,jb,l,d,Dz,by go_num,rfl,rfl,rfl,rfl,by omega,Wi.out,by rw[Ce.out];exact Hi,hB⟩
      case measure=>simp[intOf]<;>omega
  ·have Z1:¬(k:Int)≤((Dr D.pat).size:Int)+1:=by rw[Un.out.1];omega
   have HT:=MN.out (HI.out.over (by rw[HN.out];omega));have Er:Hid _:=HT;clear HT MN HI;cases Dz with
   |false=>
    have HP:Hid (σ P b V (D.subst c.sub) w _):=Er.out.1 rfl;clear Er;go_wp2
    go_end0
    exact⟨rfl,HP.out⟩
   |true=>
    have ER:Hid _:=Er.out.2 rfl;clear Er;have HDL:Hid ((l++D.pat.drop d).length≤900000):=by show _≤_;rw[List.length_append,List.length_drop,Ce.out,HN.out];omega
    go_wp2_with(refine zf (i:=d) s7 (by rw[HN.out];exact fK) rfl _ _ rfl rfl rfl ?_
                intro v3 Sf H4;obtain⟨a3,n3,c3,Ei,cP⟩ :=H4.IM;subst Ei;clear cP)
    have HC:=Dn _ _ l (D.pat.drop d) _ KW.out H4 (by have:=HDL.out;rw[List.length_append]at this;omega);refine HC.mono ?_;clear HC;rintro e w5 ⟨v5,rfl,BT,B5⟩;have Se:=Ll vX BT;have MM:=vX.below B5;have BP:=Og.below B5 Og.lt;have B15:=BC L0 B5;obtain⟨a5,n5,c5,Nu,hn5⟩ :=(ψ.JI BT).IM;subst Nu;clear hn5;clear BT;have HC:=Cu P b V D _ (l++D.pat.drop d) w5 MM Se F7.out.ro (by have:=HDL.out;omega)
    go_wp2_with fail
    refine HC.mono ?_;clear HC;rintro e w6 ⟨rfl,V6,LY,Qq,Qr⟩;have Nd:¬χ b V w.heap.size:=fun hf=>by have:=C9 HH.out _ hf;omega
    have GN:=BP.keep (Qr.block _ BP.lt Nd) Qr.size;have g20:=GN.c 20 _ H20.out;have lb6:=GN.lt;have oB:=γ ((Rf.η B15).trans Qr);have iq:=γ Qq;have WR:Hid (DB n0 (D.pattern (l++D.pat.drop d))):=F7.out.pattern _;have QO:=Qq.cell 17 _ rfl;have QQ:=Qq.cell 14 _ rfl;have f14:=Qq.fz 14 (by decide);have bl6:=Qq.box.lt;have Ip:=γ LY;clear MM Se BP Qq Qr LY H4 Sf k7 s7 iz vX Og vY pn e18 e19 e20;obtain⟨E,hEe⟩ :∃E,D.pattern (l++D.pat.drop d)=E:=⟨_,rfl⟩
    rw[hEe]at iq WR QO QQ ER;obtain⟨st,D5⟩ :∃k,E.state=k:=⟨_,rfl⟩
    have LM:=WR.out.st;have ze:w6.cell? ⟨b,17,none⟩ =some (.int .i64 (st:Nat)):=by rw[QO];show some (Value.int .i64 (E.state:Nat))=_;rw[D5]
    have AEF:w6.cell? ⟨b,14,none⟩ =some (.bool E.mark):=QQ;rw[D5]at LM;have oK:=γ D5;clear QO QQ hEe D5
    by_cases h0:st=0
    ·have KA:((st:Int)==0)=true:=by simp[h0]
     rw[if_pos (show E.state=0 by rw[oK.out];exact h0)]at ER;clear h0;have hA:=iq.out.plain 14 (by decide) (.bool true) rfl {E with mark:=true} rfl rfl rfl rfl rfl rfl;have HA:=γ hA;have Tf:Hid (Rf (χ b V) (χ b V6) w (w6.setCell ⟨b,14,none⟩ (.bool true))):=oB.out.trans (Rf.DN V6 b 14 _ w6);have ZU:=γ (WR.out.mark true);have zk:w.heap.size≠b:=by omega
     obtain⟨pr,Gz⟩ :∃x,c.sub.Pt=x:=⟨_,rfl⟩
     rw[Gz]at g20 ER;have AEG:(w6.setCell ⟨b,14,none⟩ (.bool true)).cell? ⟨w.heap.size,20,none⟩ =some (.bool pr):=by
      rw[World.cell?_of_block (heap_setCell_other w6 _ _ _ zk)];exact g20
     have lb7:w.heap.size<(w6.setCell ⟨b,14,none⟩ (.bool true)).heap.size:=by simpa using lb6
     clear hA Gz;cases pr with
     |true=>
      rw[if_pos rfl]at ER
      go_wp2_with fail
      refine(GM P b V6 _ _ HA.out ZU.out.pa ZU.out.ou).mono ?_;rintro e w7 ⟨rfl,hp⟩;have HP:Hid (σ P b V (D.subst c.sub) w w7):=by
       show σ _ _ _ _ _ _;rw[ER.out];exact σ.trans Ip.out Tf.out hp.nM
      clear hp;go_wp2
      go_end0
      exact⟨rfl,HP.out⟩
     |false=>
      rw[if_neg (by decide)]at ER;have HP:Hid (σ P b V (D.subst c.sub) w (w6.setCell ⟨b,14,none⟩ (.bool true))):=by
       show σ _ _ _ _ _ _;rw[ER.out];exact⟨V6,Ip.out,HA.out,Tf.out⟩
      go_wp2
      go_end0
      exact⟨rfl,HP.out⟩
    ·have KA:((st:Int)==0)=false:=by simp;omega
     rw[if_neg (show¬E.state=0 by rw[oK.out];exact h0)]at ER;clear h0;have HP:Hid (σ P b V (D.subst c.sub) w w6):=by
      show σ _ _ _ _ _ _;rw[ER.out];exact⟨V6,Ip.out,iq.out,oB.out⟩
     go_wp2
     go_end0
     exact⟨rfl,HP.out⟩
theorem Yw(s:ByteArray)(w:World)(hs:s.size≤400):
  Calls prog 55 #[.string s] w fun e w'=>sX s w e w':=by
 have Hc:Hid (s.data.toList.length=s.size):=Δ s;have Mj:CB ((w.alloc (.cells #[.slice none 0 0] 73)).alloc (.cells #[.slice none 0 0] 73)) w.heap.size [.slice none 0 0]:=(CB.new w 73 #[.slice none 0 0] (by simp[Value.oneCell'])).below (B:=w.heap.size+1) (ζ.alloc (by simp) _) (by omega);have cZ:CB ((w.alloc (.cells #[.slice none 0 0] 73)).alloc (.cells #[.slice none 0 0] 73)) (w.heap.size+1) [.slice none 0 0]:=by
  have:=CB.new (w.alloc (.cells #[.slice none 0 0] 73)) 73 #[.slice none 0 0] (by simp[Value.oneCell'])
  simpa using this
 have B0:Below w.heap.size w ((w.alloc (.cells #[.slice none 0 0] 73)).alloc (.cells #[.slice none 0 0] 73)):=(ζ.alloc δ _).alloc (by simp) _;have I0:((w.alloc (.cells #[.slice none 0 0] 73)).alloc (.cells #[.slice none 0 0] 73)).heap.size=w.heap.size+2:=by simp
 go_enter func55,ntmps55
 go_wp2_with fail
 generalize((w.alloc (.cells #[.slice none 0 0] 73)).alloc (.cells #[.slice none 0 0] 73))=W at*
 go_loopw [5] (fun v5 wr=>∃(k:Nat)(L:List Cm)(CS:List (List Value))(v:Value),v5= .int .i64 k∧k≤s.size+1∧2*L.length≤k∧Hid (DX w.heap.size wr v L CS)∧Hid (BF (AR [] s.data.toList)=IG L (s.data.toList.drop k))∧CB wr w.heap.size [.slice none 0 0]∧CB wr (w.heap.size+1) [v]∧wr.ownsRow (w.heap.size+2) 148 25 v L.length CS.flatten∧Below w.heap.size w wr∧w.heap.size+2≤wr.heap.size) (fun v5 _=>s.size+1 - (intOf v5).toNat)
 case atStart=>
  refine⟨0,[],[],.slice none 0 0,rfl,ε,ε,DX.nil _ _ _,?_,Mj,cZ,World.ownsRow_nil _ _ _ _,B0,by omega⟩;show _=_;rw[List.drop_zero,gL]
 case round=>
  clear Mj cZ B0 I0;obtain⟨k,L,CS,v,rfl,hks,hLk,bA,Vq,hr,hx,ν,hB,EV⟩ :=hrel;obtain⟨av,cv,CX⟩ :=κ ν;subst CX;obtain⟨nL,Ej⟩ :∃n,L.length=n:=⟨_,rfl⟩
  have Ce:Hid (L.length=nL):=Ej;rw[Ej]at hLk ν hx bA;clear Ej
  by_cases Ac:k<s.size
  ·have AV:(k:Int)<(s.size:Int):=by omega
   have IW:(0:Int)≤(k:Int):=by omega
   go_wp2_with fail
   refine(Ts s k wr hs (by omega)).mono ?_;rintro e w1 ⟨⟨n,rfl,hle⟩,rfl⟩;have dm:Hid (BF (AR [] s.data.toList)=if n=k then IG L (s.data.toList.drop (n+1))else(Dw (s.extract k n).data.toList).bind (fun c=>IG (L++ [c]) (s.data.toList.drop (n+1)))):=by
    show _=_;rw[Vq.out,nH s k n hle L]
   obtain⟨CQ,hxs⟩ :=nG s k n hle;have Pz:Hid (KN (s.extract k n)):=CQ;have wQ:Hid ((s.extract k n).size≤400):=by show _≤_;rw[hxs];have:=hle.2.1;omega
   have Ez:=hle.1;have TP:=hle.2.1;clear hle Vq CQ hxs
   by_cases hnk:n=k
   ·have HC:Hid (BF (AR [] s.data.toList)=IG L (s.data.toList.drop (k+1))):=by show _=_;rw[dm.out,if_pos hnk,hnk]
    subst hnk;have qa:¬(n:Int)<(n:Int):=by omega
    clear dm;go_wp2
    go_roundw
    case rel=>exact⟨n+1,L,CS,_,by go_num,by omega,by rw[Ce.out];omega,bA,HC,hr,hx,by rw[Ce.out];exact ν,hB,EV⟩
    case measure=>simp[intOf]<;>omega
   ·have qa:(k:Int)<(n:Int):=by omega
    have Z1:(k:Int)≤(n:Int):=by omega
    have AFs:(n:Int)≤(s.size:Int):=by omega
    have HC:Hid (BF (AR [] s.data.toList)=(Dw (s.extract k n).data.toList).bind (fun c=>IG (L++ [c]) (s.data.toList.drop (n+1)))):=by show _=_;rw[dm.out,if_neg hnk]
    clear dm
    go_wp2_with fail
    refine(SC (s.extract k n) _ wQ.out Pz.out).mono ?_;rintro e w2 ⟨B2,cs,DL,PH,EK⟩;have Fw:=B2.size;have LV:=hr.below B2 hr.lt;have zB:=hx.below B2 hx.lt;have Bl:=Ξ ν B2;have TB:Below w.heap.size w w2:=hB.trans (B2.mono (by omega));have Cq:CB (w2.alloc (.cells P1.toArray 148)) w2.heap.size P1:=CB.new w2 _ _ Jx;have BA:Below w2.heap.size w2 (w2.alloc (.cells P1.toArray 148)):=ζ.alloc δ _;have Nf:=LV.below BA LV.lt;have hx3:=zB.below BA zB.lt;have Γ:=Ξ Bl BA;have Hx:=TB.trans (BA.mono (by omega));have qK:(w2.alloc (.cells P1.toArray 148)).heap.size=w2.heap.size+1:=by simp
    have tq:Hid (DX w.heap.size w2 (.slice av nL cv) L CS):=bA.out.below B2;have HLO:Hid (∀k,(Value.slice av nL cv).ownBlock=some k→k<w1.heap.size):=fun k e=>(ν.lt k e).2
    have rI:w.heap.size+2≤w1.heap.size:=EV;have hne:(Value.slice av nL cv).ownBlock≠some w2.heap.size:=fun e=>by have:=(Bl.lt _ e).2;omega
    clear hr hx ν hB B2 LV zB Bl TB BA;rcases EK with⟨CQ,rfl⟩ | ⟨cm,BW,Il,rfl⟩
    ·have HF:Hid (BF (AR [] s.data.toList)=none):=by show _=_;rw[HC.out,CQ];rfl
     clear CQ HC
     go_wp2_with(first
      | (refine θ Hk Cq rfl rfl _ _ rfl rfl rfl DL PH ?_;intro w5 BP O5;have QV:=Nf.keep (O5.block _ (by omega)) (by rw[O5.size];exact δ))
      | (refine θ Dd QV rfl rfl _ _ rfl rfl (vs:= [.slice none 0 0]) rfl rfl (by simp[Value.oneCell']) ?_;intro w8 Nl O8))
     refine bodyPost_ret (Ω rfl _ _ _ _ rfl Dd Nl rfl) rfl ?_;exact⟨(Hx.trans (O5.below (by omega))).trans (O8.below δ),.inl ⟨rfl,fun cs ⟨l,hl,_⟩ =>by rw[HF.out]at hl;cases hl⟩⟩
    ·have bB:Hid (BF (AR [] s.data.toList)=IG (L++ [cm]) (s.data.toList.drop (n+1))):=by show _=_;rw[HC.out,BW];rfl
     have yi:Hid (DX w.heap.size w2 (.slice av nL cv) (L++ [cm]) (CS++ [cs])):=tq.out.snoc DL (YO Il (fun k hk=>by
      rcases hk with e|e
      ·exact HLO.out k e
      ·omega)) (zD _ _ BW)
     clear BW Il HC bA tq
     go_wp2_with(first
      | (refine θ Hk Cq rfl rfl _ _ rfl rfl rfl DL PH ?_
         intro w5 BP O5;have QV:=Nf.keep (O5.block _ (by omega)) (by rw[O5.size];exact δ);have hx5:=hx3.keep (O5.block _ (by omega)) (by rw[O5.size];exact δ);have BT:=Ie Γ O5 hne;have aF:=Hx.trans (O5.below (B:=w.heap.size) (by omega));have Qk:w5.heap.size=w2.heap.size+1:=by rw[O5.size];exact qK
         have AEU:Hid (DX w.heap.size w5 (.slice av nL cv) (L++ [cm]) (CS++ [cs])):=yi.out.boxed O5;have c5:=hx5.c 0 _ rfl;have l5:=hx5.lt)
      |refine ω Hk BP DL rfl _ rfl rfl ?_
      |refine Bz nC rfl _ rfl cs rfl DL ?_
      | (refine LI nC (BT.alloc _) w5.heap.size cs (heap_alloc_new w5 _) DL PH (by omega) (by simp;omega) rfl _ _ rfl rfl rfl ?_
         intro g' JV w6 Aa AK bJ;have AEV:Hid (DX w.heap.size w6 (.slice (some ⟨g',0,none⟩) (nL+1) JV) (L++ [cm]) (CS++ [cs])):=AEU.out.grown AK bJ;have Eg:Below (w.heap.size+2) w5 w6:=(ζ.alloc (by omega) _).grown AK (by simp;omega) (fun k hk=>(BT.lt k hk).1);have rF:=QV.below Eg (by omega);have hx6:=hx5.below Eg (by omega);have fc:=aF.trans (Eg.mono (by omega));have LY:=Eg.size;have f6:=hx6.fz 0 (by simp);have c6:=hx6.c 0 _ rfl;have l6:=hx6.lt;clear AK))
     have hx8:=hx6.set 0 (by simp) (.slice (some ⟨g',0,none⟩) (nL+1) JV) rfl;have hr8:=rF.keep (heap_setCell_other w6 ⟨w.heap.size+1,0,none⟩ w.heap.size (.slice (some ⟨g',0,none⟩) (nL+1) JV) (by simp)) (by simp);have D9:=ownsRow_setCell_below Aa (a:=⟨w.heap.size+1,0,none⟩) (by simp) (.slice (some ⟨g',0,none⟩) (nL+1) JV);have AEW:Hid (DX w.heap.size (w6.setCell ⟨w.heap.size+1,0,none⟩ (.slice (some ⟨g',0,none⟩) (nL+1) JV)) (.slice (some ⟨g',0,none⟩) (nL+1) JV) (L++ [cm]) (CS++ [cs])):=AEV.out.set _;have hB8:=fc.setCell (p:=⟨w.heap.size+1,0,none⟩) (by simp) (.slice (some ⟨g',0,none⟩) (nL+1) JV)
     go_roundw
     case rel=>
      refine⟨n+1,L++ [cm],CS++ [cs],_,by go_num,by omega,by rw[List.length_append,Ce.out];simp;omega,AEW,bB,hr8,hx8,?_,hB8,by simp;omega⟩;rw[List.length_append,Ce.out,List.flatten_append]
      simpa using D9
     case measure=>simp[intOf]<;>omega
  ·have AV:¬(k:Int)<(s.size:Int):=by omega
   have HF:Hid (BF (AR [] s.data.toList)=some L):=by
    show _=_;rw[Vq.out,List.drop_of_length_le (by rw[Hc.out];omega),gK]
   have HLV:Hid (IF L↔(DW (GV L) 0=true∧∀i(h:i<(GV L).length),CZ (GV L) i h)):=Iff.rfl;have oU:(GV L).length=nL:=by rw[←Ce.out];simp[GV]
   have Ip:Hid (Dm wr (w.heap.size+1) av cv CS (GV L) (fun _=>0)):=by
    refine⟨hx.lt,by rw[oU];exact hx.c 0 _ rfl,?_,by rw[oU];omega,bA.out.ADi⟩;rcases nE ν Ce.out bA.out with h| ⟨g,h1,h2,h3⟩
    ·exact .inl h
    ·exact .inr ⟨g,h1,h2,by omega⟩
   have yX:Hid (∀g,av=some ⟨g,0,none⟩→w.heap.size+2≤g):=fun g e=>by
    subst e;exact(ν.lt g rfl).1
   clear Vq oU
   go_wp2_with fail
   refine(Qa (w.heap.size+1) av cv CS (GV L) wr Ip.out).mono ?_;rintro e w2 ⟨rfl,AB5,AEX,tr⟩
   go_wp2_with fail
   refine(show Calls prog 92 #[.pointer (some ⟨w.heap.size+1,0,none⟩)] w2 (fun e w'=>nF (w.heap.size+1) av cv CS (GV L) w2 e w')from ?_).mono ?_
   ·exact YP (w.heap.size+1) av cv CS (GV L) w2 AB5 AEX
   rintro e w3 ⟨r,rfl,Nf,AB6,zu⟩;have tq:Hid (DX w.heap.size w3 (.slice av nL cv) L CS):=(bA.out.led tr).led zu;have fg:Hid (DW (GV L) 0=true→r=true→Dm w3 (w.heap.size+1) av cv CS (GV L) (Hz (GV L))):=AB6;have Hx:Below (w.heap.size+2) wr w3:=(Uh tr EV yX.out).trans (Uh zu (by have:=tr.size;omega) yX.out);have dG:=hr.below Hx (by omega);have hx4:=hx.below Hx (by omega);have hB4:=hB.trans (Hx.mono (by omega));have Tx:Hid (IF L↔DW (GV L) 0=true∧r=true):=by
    show _↔_;rw[HLV.out,Nf]
   clear AB5 AB6 tr zu Nf Ip HLV hr hx hB;generalize hpb:DW (GV L) 0=pb at Tx fg⊢;clear hpb
   by_cases Fx:pb=true∧r=true
   ·obtain⟨rfl,rfl⟩ :=Fx
    have Jv:Hid (IF L):=Tx.out.2 ⟨rfl,rfl⟩;clear Tx
    go_wp2_with(first
     |refine ω Dd hx4 rfl rfl _ rfl rfl ?_
     | (refine θ Dd dG rfl rfl _ _ rfl rfl (vs:= [.slice av nL cv]) rfl rfl (by simp[Value.oneCell']) ?_;intro w8 Nl O8))
    refine bodyPost_ret (Ω rfl _ _ _ _ rfl Dd Nl rfl) rfl ?_;refine⟨hB4.trans (O8.below δ),.inr ⟨av,cv,CD L,CS.mapIdx (fun i vs=>vs.set 14 (.int .i64 (Hz (GV L) i:Nat))),by rw[show(CD L).length=nL by rw[←Ce.out];simp[CD]];rfl,⟨L,HF.out,Jv.out,rfl⟩,?_⟩⟩;rw[show(CD L).length=nL by rw[←Ce.out];simp[CD]];exact(tq.out.ADh O8).ADj ((fg.out (by first|trivial|rfl) (by first|trivial|rfl)).ABa O8 yX.out) Ce.out yX.out
   ·have Jv:Hid (¬IF L):=fun h=>Fx (Tx.out.1 h)
    clear Tx;have Nr:pb=false∨(pb=true∧r=false):=by cases pb<;>cases r<;>simp_all
    clear Fx;rcases Nr with rfl| ⟨rfl,rfl⟩
    ·go_wp2_with(refine θ Dd dG rfl rfl _ _ rfl rfl (vs:= [.slice none 0 0]) rfl rfl (by simp[Value.oneCell']) ?_;intro w8 Nl O8)
     refine bodyPost_ret (Ω rfl _ _ _ _ rfl Dd Nl rfl) rfl ?_;exact⟨hB4.trans (O8.below δ),.inl ⟨rfl,fun cs ⟨l,hl,hk,_⟩ =>by rw[HF.out]at hl;cases hl;exact Jv.out hk⟩⟩
    ·go_wp2_with(refine θ Dd dG rfl rfl _ _ rfl rfl (vs:= [.slice none 0 0]) rfl rfl (by simp[Value.oneCell']) ?_;intro w8 Nl O8)
     refine bodyPost_ret (Ω rfl _ _ _ _ rfl Dd Nl rfl) rfl ?_;exact⟨hB4.trans (O8.below δ),.inl ⟨rfl,fun cs ⟨l,hl,hk,_⟩ =>by rw[HF.out]at hl;cases hl;exact Jv.out hk⟩⟩
end Go.Proofs.YtlppphmnegdhoabGreatDoor
