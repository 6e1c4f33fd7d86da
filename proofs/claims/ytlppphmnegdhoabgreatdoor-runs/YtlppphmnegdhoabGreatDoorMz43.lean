import Derived.BigRegion
import Derived.Test.YtlppphmnegdhoabGreatDoorMz42
set_option linter.unusedVariables false
set_option maxRecDepth 100000
set_option maxHeartbeats 8000000
namespace Go.Proofs.YtlppphmnegdhoabGreatDoor
open Go.Proofs.Tryz
open Go.RowKit
open M
theorem Yr(n0:Nat)(cs:List Cm)(L:List (Nat×List UInt8))(P:Value→World→Prop)(b:Nat)(V:DV)(D:DS)(k:Nat)(c:Cm)(w:World)(h:AD P b V D w)(hP:∀w,P V.AZ w→E5 cs L w V.AZ)(hc:cs[k]? =some c)(hk:DZ c)(GQ:KS L k c)(EU:DB n0 D)(DL:cs.length≤400)(Ks:1≤D.line)(q5:c.name=115→1≤c.sub.count):
  Calls prog 158 #[.pointer (some ⟨b,0,none⟩),.int .i64 (k:Nat)] w fun e w'=>LO P b V (D.does k c) w e w':=by
 by_cases h1:c.name=100∨c.name=68∨c.name=113
 ·exact tN n0 cs L P b V D k c w h hP hc hk GQ EU DL h1
 by_cases h2:c.name=98∨c.name=116
 ·exact tP n0 cs L P b V D k c w h hP hc hk GQ EU DL h2
 by_cases h3:c.name=110∨c.name=78
 ·exact tO n0 cs L P b V D k c w h hP hc hk GQ EU DL Ks h3
 by_cases h4:c.name=115
 ·exact tS n0 cs L P b V D k c w h hP hc hk GQ EU DL (q5 h4) h4
 by_cases h5:c.name=121
 ·exact tV n0 cs L P b V D k c w h hP hc hk GQ EU DL h5
 by_cases h6:c.name=104∨c.name=72∨c.name=103∨c.name=71∨c.name=120
 ·exact tT n0 cs L P b V D k c w h hP hc hk GQ EU DL h6
 ·exact tU n0 cs L P b V D k c w h hP hc hk GQ EU DL Ks (by omega)
def MV(b:Nat)(w:World):Nat:=match w.cell? ⟨b,15,none⟩with
 |some (.int _ i)=>i.toNat
 |_=>0
theorem Hr{P:Value→World→Prop}{b:Nat}{V:DV}{D:DS}{w:World}(h:AD P b V D w):MV b w=D.used:=by
 unfold MV;rw[h.cell 15 _ rfl];simp
structure CsK(cs:List Cm)(L:List (Nat×List UInt8)):Prop where
 ok:∀c∈cs,DZ c
 lk:∀k c,cs[k]? =some c→KS L k c
 nx:∀c∈cs,c.next≤L.length
 ct:∀c∈cs,c.name=115→1≤c.sub.count
 len:cs.length=L.length
 ZI:cs.length≤400
def oP(P:Value→World→Prop)(b:Nat)(V:DV)(r:DS×Bool)(w:World)(e:Ending)(w':World):Prop:=e= .returned (.bool r.2)∧σ P b V r.1 w w'
theorem QC(n0:Nat)(cs:List Cm)(L:List (Nat×List UInt8))(P:Value→World→Prop)(b:Nat)(V:DV)(D:DS)(w:World)(h:AD P b V D w)(hP:∀w,P V.AZ w→E5 cs L w V.AZ)(hcs:CsK cs L)(TZ:n0=cs.length)(EU:DB n0 D)(TV:D.state=0)(Ks:1≤D.line):
  Calls prog 117 #[.pointer (some ⟨b,0,none⟩)] w fun e w'=>oP P b V (D.A6 cs) w e w':=by
 have HH:=γ h;have Vi:Hid (∀w,P V.AZ w→E5 cs L w V.AZ):=hP;have Qb:=γ hcs;have F7:=γ EU;have jC:=γ TV;have Tp:=γ Ks;have ix:=γ TZ;have Bq:=h.box.lt;obtain⟨nL,Ej⟩ :∃n,L.length=n:=⟨_,rfl⟩
 have Ce:Hid (L.length=nL∧cs.length=nL):=⟨Ej,by rw[hcs.len];exact Ej⟩
 have SD:nL≤400:=by rw[←Ej,←hcs.len];exact hcs.ZI
 have dB:=EU.sp;obtain⟨S,hS⟩ :∃s,D.steps=s:=⟨_,rfl⟩
 rw[hS]at dB;have ud:=γ hS;obtain⟨R,hR⟩ :∃R,D.A6 cs=R:=⟨_,rfl⟩
 have Eu:=γ hR;obtain⟨a0,q0,VF,AEJ,_⟩ :=hP w h.AZ.out;rw[Ej]at VF;have HV0:=γ VF;rw[hR];clear h hP hcs EU TV Ks Ej hS hR VF AEJ TZ
 go_enter func117,ntmps117
 go_wp2_with fail
 go_loopw [3] (fun v3 wr=>∃(k:Nat)(V1:DV)(D1:DS)(f:Nat),v3= .int .i64 (k:Nat)∧V1.AZ=V.AZ∧AD P b V1 D1 wr∧Rf (χ b V) (χ b V1) w wr∧DB n0 D1∧D1.state=0∧1≤D1.line∧k≤nL∧f=D1.steps - D1.used∧Hid (DS.Bd cs f D1 k=R)∧D1.steps=S) (fun v3 wr=>S - MV b wr)
 case atStart=>exact⟨0,V,D,_,rfl,rfl,HH.out,Rf.refl _ _,F7.out,jC.out,Tp.out,ε,rfl,Eu.out,ud.out⟩
 case round=>
  obtain⟨k,V1,D1,f,rfl,CE,Bo,vZ,bZ,nn,ck,AFn,hff,HR,bf⟩ :=hrel;have A0:=γ Bo;have Bm:=γ vZ;have Gc:=γ CE;have Ii:=γ bZ;have SJ:=γ ck;have HF:=γ hff;have Jr:=γ bf;have HPV:Hid (∀w,P V1.AZ w→E5 cs L w V1.AZ):=fun w h9=>by rw[CE]at h9⊢;exact Vi.out w h9
  have Dx:=Bo.box.lt;have k5:=Bo.cell 5 _ rfl;have k5':wr.cell? ⟨b,5,none⟩ =some (.slice a0 nL q0):=by rw[k5];show some V1.AZ=_;rw[CE,HV0.out]
  have k15:wr.cell? ⟨b,15,none⟩ =some (.int .i64 (D1.used:Nat)):=Bo.cell 15 _ rfl;have k3:wr.cell? ⟨b,3,none⟩ =some (.int .i64 (D1.steps:Nat)):=Bo.cell 3 _ rfl;have f15:=Bo.fz 15 (by decide);have AFo:D1.used≤D1.steps:=bZ.us;have AFp:D1.steps≤5000:=by rw[bf];exact dB
  clear k5 Bo vZ CE bZ ck hff nn bf
  by_cases Ez:k<nL
  ·have Z1:(k:Int)<(nL:Int):=by omega
   have IW:(0:Int)≤(k:Int):=by omega
   have mK:¬(nL:Int)≤(k:Int):=by omega
   by_cases ZP:D1.used<D1.steps
   ·have AEK:¬(D1.steps:Int)≤(D1.used:Int):=by omega
    obtain⟨c,F6⟩ :∃c,cs[k]? =some c:=⟨_,List.getElem?_eq_getElem (by rw[Ce.out.2];exact Ez)⟩
    have ZV:=γ F6;have Kf:=List.mem_of_getElem? F6;have QT:=γ (Qb.out.ok c Kf);have L5:=γ QT.out.tx;have Tx:=γ (Qb.out.lk k c F6);have G0:Hid (c.next≤nL):=by have h9:=Qb.out.nx c Kf;rw[Ce.out.1]at h9;exact h9
    have HCT:Hid (c.name=115→1≤c.sub.count):=Qb.out.ct c Kf;clear F6 Kf
    go_wp2_with fail
    go_region_held3(fun w'=>w'.cell? ⟨b,15,none⟩ =some (.int .i64 (D1.used:Nat))∧w'.cell? ⟨b,3,none⟩ =some (.int .i64 (D1.steps:Nat))∧b<w'.heap.size)
     (go_keep)
     (fail)
    have hA:=(A0.out.below (ζ.drew)).plain 15 (by decide) (.int .i64 ((D1.used:Int)+1)) rfl {D1 with used:=D1.used+1} rfl rfl rfl rfl rfl rfl;have HA:=γ hA;have Tf:Hid (Rf (χ b V) (χ b V1) w (wr.drew.setCell ⟨b,15,none⟩ (.int .i64 ((D1.used:Int)+1)))):=(Bm.out.trans (.η (ζ.drew))).trans (Rf.DN V1 b 15 _ _);have oQ:=γ ((Ii.out.used ZP).1);clear hA;have HC:=Qd cs L P b V1 {D1 with used:=D1.used+1} k c _ HA.out HPV.out ZV.out QT.out oQ.out.pa (by have h9:=oQ.out.li;have h8:=oQ.out.at';have h7:=oQ.out.tx;show D1.line≤100000;have h9':D1.line≤D1.at':=h9;have h8':D1.at'≤D1.text.size:=h8;have h7':D1.text.size≤4096:=h7;omega) (by show k<D1.AM.length;have h9:=Ii.out.rn;rw[h9,ix.out,Ce.out.2];exact Ez) (by rw[Ce.out.2];exact SD) (by show D1.AM.length≤400;have h9:=Ii.out.rn;rw[h9,ix.out,Ce.out.2];exact SD)
    go_wp2_with fail
    refine HC.mono ?_;clear HC;rintro e w3 ⟨rfl,V3,H4,KP,TD⟩;have Ge:=γ KP;have OT:=γ (Tf.out.trans TD);have dI:=γ (H4.trans Gc.out);have ABv:Hid (∀w,P V3.AZ w→E5 cs L w V3.AZ):=fun w h9=>by rw[dI.out]at h9⊢;exact Vi.out w h9
    have Qe:=γ (oQ.out.AX k c);have HSQ:=SY {D1 with used:=D1.used+1} k c;have AEL:Hid (1≤(DS.AX {D1 with used:=D1.used+1} k c).2.line):=by show _≤_;rw[HSQ.2.2.1];exact SJ.out
    have Tz:Hid (D1.step k c=if(DS.AX {D1 with used:=D1.used+1} k c).1 then(DS.AX {D1 with used:=D1.used+1} k c).2.does k c else if c.name=123 then((DS.AX {D1 with used:=D1.used+1} k c).2,(c.next:Int))else((DS.AX {D1 with used:=D1.used+1} k c).2,(k:Int)+1)):=rfl;clear KP TD H4 HSQ k5' k15 k3 f15 Dx;generalize(DS.AX {D1 with used:=D1.used+1} k c).1=inn at*;generalize(DS.AX {D1 with used:=D1.used+1} k c).2=D3 at*;cases inn with
    |true=>
     rw[if_pos rfl]at Tz;have HC:=Yr n0 cs L P b V3 D3 k c w3 Ge.out ABv.out ZV.out QT.out Tx.out Qe.out (by rw[Ce.out.2];exact SD) AEL.out HCT.out
     go_wp2_with fail
     refine HC.mono ?_;clear HC;rintro e w4 ⟨rfl,V4,Kh,Mr,TK⟩;obtain⟨E,hE⟩ :∃E,(D3.does k c).1=E:=⟨_,rfl⟩
     obtain⟨r,hr⟩ :∃r,(D3.does k c).2=r:=⟨_,rfl⟩
     have CR:Hid (D1.step k c=(E,r)):=by show _=_;rw[Tz.out,←hE,←hr]
     rw[hE]at Mr;rw[hr];have KY:=γ Mr;have Nv:=γ (OT.out.trans TK);have WB:=γ (Kh.trans dI.out);clear Mr TK Kh hE hr Tz;have KT:Hid (DB n0 E):=by have h9:=Ii.out.step ZP k c L5.out;rw[CR.out]at h9;exact h9
     have bj:Hid (1≤E.line):=by have h9:=Pc D1 k c;rw[CR.out]at h9;have h8:=SJ.out;show 1≤E.line;exact Nat.le_trans h8 h9
     have hbd:r≤(nL:Int)∧ -2≤r:=by have h9:=M5 D1 k nL c Ez G0.out;rw[CR.out]at h9;exact h9
     have vd:Hid (E.used=D1.used+1∧E.steps=D1.steps):=by have h9:=Gp D1 k c;rw[CR.out]at h9;exact⟨h9.2,h9.1.steps⟩
     have g17:=KY.out.cell 17 _ rfl;have bl4:=KY.out.box.lt;obtain⟨st,D5⟩ :∃x,E.state=x:=⟨_,rfl⟩
     have TF:=γ D5;have oR:w4.cell? ⟨b,17,none⟩ =some (.int .i64 (st:Nat)):=by rw[g17];show some (Value.int .i64 (E.state:Nat))=_;rw[D5]
     have LM:st≤3:=by rw[←D5];exact KT.out.st
     have KX:Hid (R=if st≠0 then(E,false)else if r<0 then(E.flush,r== -2)else DS.Bd cs (E.steps - E.used) E r.toNat):=by
      show _=_;rw[←HR.out,J4 cs f D1 k c ZV.out HF.out ZP,CR.out,D5]
     clear g17 D5
     by_cases h0:st=0
     ·have KA:((st:Int) !=0)=false:=by simp[h0]
      rw[if_neg (by simp[h0])]at KX;have jC:Hid (E.state=0):=by show _=_;rw[TF.out];exact h0
      clear h0
      by_cases Mj:r<0
      ·rw[if_pos Mj]at KX
       have HC:=Gn P b V4 E w4 KY.out KT.out.dwf
       go_wp2_with fail
       refine HC.mono ?_;clear HC;rintro e w5 ⟨rfl,hp⟩;have HP:Hid (σ P b V R.1 w w5):=by
        show σ _ _ _ _ _ _;rw[KX.out];exact σ.trans WB.out Nv.out hp
       have FO:Hid (R.2=(r== -2)):=by show _=_;rw[KX.out]
       clear hp;go_wp2;go_ret;exact⟨ι (by rw[FO.out]),HP.out⟩
      ·rw[if_neg Mj]at KX
       obtain⟨kk,I2⟩ :∃q:Nat,r=(q:Int):=⟨r.toNat,by omega⟩
       subst I2;have RU:¬(kk:Int)<0:=Mj
       go_wp2_with fail
       go_roundw
       case rel=>exact⟨kk,V4,E,E.steps - E.used,rfl,WB.out,KY.out,Nv.out,KT.out,jC.out,bj.out,by omega,rfl,by show _=_;rw[KX.out];simp,by rw[vd.out.2];exact Jr.out⟩
       case measure=>
        have m1:MV b wr=D1.used:=Hr A0.out;have m2:MV b w4=E.used:=Hr KY.out;have h8:=vd.out;rw[m1,m2];have h7:=Jr.out;omega
     ·have KA:((st:Int) !=0)=true:=by simp;omega
      rw[if_pos h0]at KX;have HP:Hid (σ P b V R.1 w w4):=by
       show σ _ _ _ _ _ _;rw[KX.out];exact⟨V4,WB.out,KY.out,Nv.out⟩
      have FO:Hid (R.2=false):=by show _=_;rw[KX.out]
      clear h0;go_wp2;go_ret;exact⟨ι (by rw[FO.out]),HP.out⟩
    |false=>
     rw[if_neg (by decide)]at Tz;obtain⟨aS,qs,Fb,Ig,hlen,Co⟩ :=ABv.out w3 Ge.out.AZ.out;rw[dI.out,HV0.out,Ce.out.1]at Fb;simp only[Value.slice.injEq]at Fb;obtain⟨rfl,_,rfl⟩ :=Fb;obtain⟨g,vs,rfl,hg,hr,Db⟩ :=Co k (by rw[Ce.out.2];exact Ez);have F6:cs[k]'(by rw[Ce.out.2];exact Ez)=c:=by
      have h9:=ZV.out;rw[List.getElem?_eq_getElem (by rw[Ce.out.2];exact Ez)]at h9;exact Option.some.inj h9
     rw[F6]at Db;have AEM:w3.cell? ⟨g,k*23+11,none⟩ =some (.int .u8 (c.name:Nat)):=hr 11 _ Db.nm;have np:=Ge.out.box.lt;have k5:=Ge.out.cell 5 _ rfl;have k5':w3.cell? ⟨b,5,none⟩ =some (.slice (some ⟨g,0,none⟩) nL q0):=by rw[k5];show some V3.AZ=_;rw[dI.out,HV0.out]
     have HCD:=γ Ig;have H7:=QT.out.nm;clear Co hr Db F6 Ig hlen k5
     by_cases BV:c.name=123
     ·have n1:((c.name:Int)==123)=true:=by simp[BV]
      rw[if_pos BV]at Tz;have HC:=WK (some ⟨g,0,none⟩) q0 k L w3 HCD.out Tx.out.lt (by rw[←Tx.out.nm];exact BV);rw[Ce.out.1,Tx.out.br BV]at HC;clear BV
      go_wp2_with fail
      refine HC.mono ?_;clear HC;rintro e w4 ⟨rfl,hw4⟩;obtain⟨r,hr⟩ :∃r:Int,(c.next:Int)=r:=⟨_,rfl⟩
      have CR:Hid (D1.step k c=(D3,r)):=by show _=_;rw[Tz.out,←hr]
      rw[hr];have AEN:=hw4.symm;subst AEN;clear hw4;have KY:=γ Ge.out;have Nv:=γ OT.out;have WB:=γ dI.out;clear hr Tz AEM k5';have KT:Hid (DB n0 D3):=by have h9:=Ii.out.step ZP k c L5.out;rw[CR.out]at h9;exact h9
      have bj:Hid (1≤D3.line):=by have h9:=Pc D1 k c;rw[CR.out]at h9;have h8:=SJ.out;show 1≤D3.line;exact Nat.le_trans h8 h9
      have hbd:r≤(nL:Int)∧ -2≤r:=by have h9:=M5 D1 k nL c Ez G0.out;rw[CR.out]at h9;exact h9
      have vd:Hid (D3.used=D1.used+1∧D3.steps=D1.steps):=by have h9:=Gp D1 k c;rw[CR.out]at h9;exact⟨h9.2,h9.1.steps⟩
      have g17:=KY.out.cell 17 _ rfl;have bl4:=KY.out.box.lt;obtain⟨st,D5⟩ :∃x,D3.state=x:=⟨_,rfl⟩
      have TF:=γ D5;have oR:w3.cell? ⟨b,17,none⟩ =some (.int .i64 (st:Nat)):=by rw[g17];show some (Value.int .i64 (D3.state:Nat))=_;rw[D5]
      have LM:st≤3:=by rw[←D5];exact KT.out.st
      have KX:Hid (R=if st≠0 then(D3,false)else if r<0 then(D3.flush,r== -2)else DS.Bd cs (D3.steps - D3.used) D3 r.toNat):=by
       show _=_;rw[←HR.out,J4 cs f D1 k c ZV.out HF.out ZP,CR.out,D5]
      clear g17 D5
      by_cases h0:st=0
      ·have KA:((st:Int) !=0)=false:=by simp[h0]
       rw[if_neg (by simp[h0])]at KX;have jC:Hid (D3.state=0):=by show _=_;rw[TF.out];exact h0
       clear h0
       by_cases Mj:r<0
       ·rw[if_pos Mj]at KX
        have HC:=Gn P b V3 D3 w3 KY.out KT.out.dwf
        go_wp2_with fail
        refine HC.mono ?_;clear HC;rintro e w5 ⟨rfl,hp⟩;have HP:Hid (σ P b V R.1 w w5):=by
         show σ _ _ _ _ _ _;rw[KX.out];exact σ.trans WB.out Nv.out hp
        have FO:Hid (R.2=(r== -2)):=by show _=_;rw[KX.out]
        clear hp;go_wp2;go_ret;exact⟨ι (by rw[FO.out]),HP.out⟩
       ·rw[if_neg Mj]at KX
        obtain⟨kk,I2⟩ :∃q:Nat,r=(q:Int):=⟨r.toNat,by omega⟩
        subst I2;have RU:¬(kk:Int)<0:=Mj
        go_wp2_with fail
        go_roundw
        case rel=>exact⟨kk,V3,D3,D3.steps - D3.used,rfl,WB.out,KY.out,Nv.out,KT.out,jC.out,bj.out,by omega,rfl,by show _=_;rw[KX.out];simp,by rw[vd.out.2];exact Jr.out⟩
        case measure=>
         have m1:MV b wr=D1.used:=Hr A0.out;have m2:MV b w3=D3.used:=Hr KY.out;have h8:=vd.out;rw[m1,m2];have h7:=Jr.out;omega
      ·have KA:((st:Int) !=0)=true:=by simp;omega
       rw[if_pos h0]at KX;have HP:Hid (σ P b V R.1 w w3):=by
        show σ _ _ _ _ _ _;rw[KX.out];exact⟨V3,WB.out,KY.out,Nv.out⟩
       have FO:Hid (R.2=false):=by show _=_;rw[KX.out]
       clear h0;go_wp2;go_ret;exact⟨ι (by rw[FO.out]),HP.out⟩
     ·have n1:((c.name:Int)==123)=false:=by simp;omega
      rw[if_neg BV]at Tz;clear BV;obtain⟨r,hr⟩ :∃r:Int,(k:Int)+1=r:=⟨_,rfl⟩
      have CR:Hid (D1.step k c=(D3,r)):=by show _=_;rw[Tz.out,←hr]
      have HRK:=γ hr.symm;have KY:=γ Ge.out;have Nv:=γ OT.out;have WB:=γ dI.out;subst hr;clear Tz;have KT:Hid (DB n0 D3):=by have h9:=Ii.out.step ZP k c L5.out;rw[CR.out]at h9;exact h9
      have bj:Hid (1≤D3.line):=by have h9:=Pc D1 k c;rw[CR.out]at h9;have h8:=SJ.out;show 1≤D3.line;exact Nat.le_trans h8 h9
      have hbd:(k:Int)+1≤(nL:Int)∧ -2≤(k:Int)+1:=by have h9:=M5 D1 k nL c Ez G0.out;rw[CR.out]at h9;exact h9
      have vd:Hid (D3.used=D1.used+1∧D3.steps=D1.steps):=by have h9:=Gp D1 k c;rw[CR.out]at h9;exact⟨h9.2,h9.1.steps⟩
      have g17:=KY.out.cell 17 _ rfl;have bl4:=KY.out.box.lt;obtain⟨st,D5⟩ :∃x,D3.state=x:=⟨_,rfl⟩
      have TF:=γ D5;have oR:w3.cell? ⟨b,17,none⟩ =some (.int .i64 (st:Nat)):=by rw[g17];show some (Value.int .i64 (D3.state:Nat))=_;rw[D5]
      have LM:st≤3:=by rw[←D5];exact KT.out.st
      have KX:Hid (R=if st≠0 then(D3,false)else if(k:Int)+1<0 then(D3.flush,(k:Int)+1== -2)else DS.Bd cs (D3.steps - D3.used) D3 ((k:Int)+1).toNat):=by
       show _=_;rw[←HR.out,J4 cs f D1 k c ZV.out HF.out ZP,CR.out,D5]
      clear g17 D5
      by_cases h0:st=0
      ·have KA:((st:Int) !=0)=false:=by simp[h0]
       rw[if_neg (by simp[h0])]at KX;have jC:Hid (D3.state=0):=by show _=_;rw[TF.out];exact h0
       clear h0
       by_cases Mj:(k:Int)+1<0
       ·exact absurd Mj (by omega)
       ·rw[if_neg Mj]at KX
        obtain⟨kk,I2⟩ :∃q:Nat,k+1=q:=⟨_,rfl⟩
        subst I2;have RU:¬(k:Int)+1<0:=Mj
        go_wp2_with fail
        go_roundw
        case rel=>exact⟨k+1,V3,D3,D3.steps - D3.used,rfl,WB.out,KY.out,Nv.out,KT.out,jC.out,bj.out,by omega,rfl,by show _=_;rw[KX.out];rfl,by rw[vd.out.2];exact Jr.out⟩
        case measure=>
         have m1:MV b wr=D1.used:=Hr A0.out;have m2:MV b w3=D3.used:=Hr KY.out;have h8:=vd.out;rw[m1,m2];have h7:=Jr.out;omega
      ·have KA:((st:Int) !=0)=true:=by simp;omega
       rw[if_pos h0]at KX;have HP:Hid (σ P b V R.1 w w3):=by
        show σ _ _ _ _ _ _;rw[KX.out];exact⟨V3,WB.out,KY.out,Nv.out⟩
       have FO:Hid (R.2=false):=by show _=_;rw[KX.out]
       clear h0;go_wp2;go_ret;exact⟨ι (by rw[FO.out]),HP.out⟩
   ·have AEK:(D1.steps:Int)≤(D1.used:Int):=by omega
    have KX:Hid (R=(D1.die 4,false)):=by
     show _=_;rw[←HR.out];exact Sh cs D1 k f (by rw[Ce.out.2];exact Ez) HF.out ZP
    go_wp2_with fail
    go_region_held3(fun w'=>w'.cell? ⟨b,15,none⟩ =some (.int .i64 (D1.used:Nat))∧w'.cell? ⟨b,3,none⟩ =some (.int .i64 (D1.steps:Nat))∧b<w'.heap.size)
     (go_keep)
     (fail)
    have HC:=J1 P b V1 D1 4 wr.drew (A0.out.below (ζ.drew))
    go_wp2_with fail
    refine HC.mono ?_;clear HC;rintro e w3 ⟨rfl,hp⟩;have HP:Hid (σ P b V R.1 w w3):=by
     show σ _ _ _ _ _ _;rw[KX.out];exact σ.trans Gc.out (Bm.out.trans (.η (ζ.drew))) hp.nM
    have FO:Hid (R.2=false):=by show _=_;rw[KX.out]
    clear hp;go_wp2;go_ret;exact⟨ι (by rw[FO.out]),HP.out⟩
  ·have Z1:¬(k:Int)<(nL:Int):=by omega
   have KX:Hid (R=(D1.ο true,false)):=by
    show _=_;rw[←HR.out];exact iA cs D1 k f (by rw[Ce.out.2];exact Ez)
   have HC:=Ih P b V1 D1 true wr A0.out Ii.out.dwf
   go_wp2_with fail
   refine HC.mono ?_;clear HC;rintro e w3 ⟨rfl,hp⟩;have HP:Hid (σ P b V R.1 w w3):=by
    show σ _ _ _ _ _ _;rw[KX.out];exact σ.trans Gc.out Bm.out hp
   have FO:Hid (R.2=false):=by show _=_;rw[KX.out]
   clear hp;go_wp2;go_ret;exact⟨ι (by rw[FO.out]),HP.out⟩
def mAt(b:Nat)(w:World):Nat:=match w.cell? ⟨b,12,none⟩with
 |some (.int _ i)=>i.toNat
 |_=>0
theorem zn{P:Value→World→Prop}{b:Nat}{V:DV}{D:DS}{w:World}(h:AD P b V D w):mAt b w=D.at':=by
 unfold mAt;rw[h.cell 12 _ rfl];simp
def bV:Value→Nat
 | .bool true=>1
 |_=>0
def Uv(T S b:Nat)(v:Value)(w:World):Nat:=2*(T - mAt b w)+2*(S - MV b w)+bV v
theorem Sj{P:Value→World→Prop}{b:Nat}{V:DV}{D:DS}{w:World}{T S:Nat}(h:AD P b V D w)(hT:D.text.size=T)(hS:D.steps=S)(x:Bool):Uv T S b (.bool x) w=D.left x:=by
 unfold Uv DS.left;rw[zn h,Hr h,hT,hS];cases x<;>rfl
theorem Ys(n0:Nat)(cs:List Cm)(L:List (Nat×List UInt8))(P:Value→World→Prop)(b:Nat)(V:DV)(D:DS)(f0:Nat)(w:World)(h:AD P b V D w)(hP:∀w,P V.AZ w→E5 cs L w V.AZ)(hcs:CsK cs L)(TZ:n0=cs.length)(EU:DB n0 D)(hf0:D.left false<f0):
  Calls prog 76 #[.pointer (some ⟨b,0,none⟩)] w fun e w'=>Hl P b V (DS.By cs f0 D false) w e w':=by
 have HH:=γ h;have Vi:Hid (∀w,P V.AZ w→E5 cs L w V.AZ):=hP;have Qb:=γ hcs;have F7:=γ EU;have ix:=γ TZ;have HL0:=γ hf0;have Bq:=h.box.lt;obtain⟨S,hS⟩ :∃s,D.steps=s:=⟨_,rfl⟩
 obtain⟨T,hT⟩ :∃s,D.text.size=s:=⟨_,rfl⟩
 have CR:Hid (D.steps=S∧D.text.size=T):=⟨hS,hT⟩
 obtain⟨R,hR⟩ :∃R,DS.By cs f0 D false=R:=⟨_,rfl⟩
 have Eu:=γ hR;rw[hR];clear h hP hcs EU hS hT hR TZ hf0
 go_enter func76,ntmps76
 go_wp2_with fail
 go_loopw [2] (fun v2 wr=>∃(x:Bool)(V1:DV)(D1:DS)(f:Nat),v2= .bool x∧V1.AZ=V.AZ∧AD P b V1 D1 wr∧Rf (χ b V) (χ b V1) w wr∧DB n0 D1∧(x=true→1≤D1.line)∧D1.left x<f∧Hid (DS.By cs f D1 x=R)∧D1.steps=S∧D1.text.size=T) (fun v2 wr=>Uv T S b v2 wr)
 case atStart=>exact⟨false,V,D,f0,rfl,rfl,HH.out,Rf.refl _ _,F7.out,fun e=>(by cases e),HL0.out,Eu.out,CR.out.1,CR.out.2⟩
 case round=>
  obtain⟨x,V1,D1,f,rfl,CE,Bo,vZ,bZ,ck,ZJ,HR,bf,zo⟩ :=hrel;have A0:=γ Bo;have Bm:=γ vZ;have Gc:=γ CE;have Ii:=γ bZ;have SJ:Hid (x=true→1≤D1.line):=ck;have Jr:Hid (D1.steps=S∧D1.text.size=T):=⟨bf,zo⟩
  have HPV:Hid (∀w,P V1.AZ w→E5 cs L w V1.AZ):=fun w h9=>by rw[CE]at h9⊢;exact Vi.out w h9
  have Of:=γ (Sj Bo zo bf x);obtain⟨f',rfl⟩ :∃f',f=f'+1:=⟨f - 1,by omega⟩
  have Dx:=Bo.box.lt;have k17:=Bo.cell 17 _ rfl;have f17:=Bo.fz 17 (by decide);obtain⟨st,D5⟩ :∃s,D1.state=s:=⟨_,rfl⟩
  have TF:=γ D5;have AEO:wr.cell? ⟨b,17,none⟩ =some (.int .i64 (st:Nat)):=by rw[k17];show some (Value.int .i64 (D1.state:Nat))=_;rw[D5]
  have LM:st≤3:=by rw[←D5];exact bZ.st
  clear k17 D5 Bo vZ CE bZ ck bf zo
  by_cases h0:st=0
  ·have KA:((st:Int)==0)=true:=by simp[h0]
   have jC:Hid (D1.state=0):=by show _=_;rw[TF.out];exact h0
   clear h0;cases x with
   |true=>
    have Tp:Hid (1≤D1.line):=SJ.out rfl;clear SJ;have KX:Hid (R=DS.By cs f' (D1.A6 cs).1 (D1.A6 cs).2):=by show _=_;rw[←HR.out,LP cs f' D1 jC.out]
    have qG:=γ (Si cs D1 Ii.out.us);have HC:=QC n0 cs L P b V1 D1 wr A0.out HPV.out Qb.out ix.out Ii.out jC.out Tp.out
    go_wp2_with fail
    refine HC.mono ?_;clear HC;rintro e w4 ⟨rfl,V4,Kh,Mr,TK⟩;have KT:Hid (DB n0 (D1.A6 cs).1):=DB.Bd cs (fun c hc=>(Qb.out.ok c hc).tx) _ D1 0 Ii.out rfl;have bj:=γ (Nat.le_trans Tp.out (Uu cs D1));have zp:=Lm cs D1;have KY:=γ Mr;have Nv:=γ (Bm.out.trans TK);have WB:=γ (Kh.trans Gc.out);have HK:Hid ((D1.A6 cs).1.steps=S∧(D1.A6 cs).1.text.size=T):=⟨zp.2.trans Jr.out.1,by rw[zp.1];exact Jr.out.2⟩
    clear Mr TK Kh zp;generalize(D1.A6 cs).1=E at*;generalize(D1.A6 cs).2=y at*;have OS:Hid (E.left y<f'):=by have h9:=qG.out;show _<_;omega
    have um:=γ (Sj KY.out HK.out.2 HK.out.1 y)
    go_wp2_with fail
    go_roundw
    case rel=>exact⟨y,V4,E,f',rfl,WB.out,KY.out,Nv.out,KT.out,fun _=>bj.out,OS.out,KX.out.symm,HK.out.1,HK.out.2⟩
    case measure=>rw[um.out,Of.out];exact qG.out
   |false=>
    have HC:=SS P b V1 D1 wr A0.out Ii.out.tx Ii.out.at'
    go_wp2_with fail
    refine HC.mono ?_;clear HC;rintro e w2 ⟨rfl,v2,Ds,JW⟩;have EA:=γ Ds;have GO:=γ (Bm.out.trans JW);have pP:=Ds.box.lt;have g17:=Ds.cell 17 _ rfl;have AEP:=Ds.fz 17 (by decide);have ZG:Hid (D1.ask.1=true→D1.ask.2=D1∧D1.at'<D1.text.size):=fun e=>⟨(EM D1 e).1,(EM D1 e).2.1⟩
    have pQ:Hid (D1.ask.1=false→R=if D1.ask.2.state=0 then{D1.ask.2 with state:=2}else D1.ask.2):=fun e=>by rw[←HR.out,M6 cs f' D1 jC.out e]
    have pO:Hid (D1.ask.1=true→R=if(D1.take.pattern D1.Θ).state≠0 then D1.take.pattern D1.Θ else DS.By cs f' ((D1.take.pattern D1.Θ).A6 cs).1 ((D1.take.pattern D1.Θ).A6 cs).2):=fun e=>by rw[←HR.out,M7 cs f' D1 jC.out e]
    have ZU:=γ Ii.out.ask;clear Ds JW AEO f17;obtain⟨A,hA⟩ :∃A,D1.ask.2=A:=⟨_,rfl⟩
    obtain⟨th,hth⟩ :∃A,D1.ask.1=A:=⟨_,rfl⟩
    rw[hA]at EA ZG pQ ZU g17;rw[hth]at ZG pQ pO⊢;clear hA hth;obtain⟨sa,uS⟩ :∃s,A.state=s:=⟨_,rfl⟩
    have HSA:=γ uS;have oR:w2.cell? ⟨b,17,none⟩ =some (.int .i64 (sa:Nat)):=by rw[g17];show some (Value.int .i64 (A.state:Nat))=_;rw[uS]
    have AFq:sa≤3:=by rw[←uS];exact ZU.out.st
    clear g17 uS;cases th with
    |false=>
     have ABw:Hid (R=if A.state=0 then{A with state:=2}else A):=pQ.out rfl;clear pQ pO ZG
     by_cases TV:sa=0
     ·have AEQ:((sa:Int)==0)=true:=by simp[TV]
      have tW:Hid (R= {A with state:=2}):=by show _=_;rw[ABw.out,if_pos (by rw[HSA.out];exact TV)]
      have hB:=EA.out.plain 17 (by decide) (.int .i64 2) rfl {A with state:=2} rfl rfl rfl rfl rfl rfl;have HP:Hid (σ P b V R w (w2.setCell ⟨b,17,none⟩ (.int .i64 2))):=by
       show σ _ _ _ _ _ _;rw[tW.out];exact⟨V1.Af v2,Gc.out,hB,GO.out.trans (Rf.DN _ b 17 _ _)⟩
      clear TV hB;go_wp2
      go_end0
      exact⟨rfl,HP.out⟩
     ·have AEQ:((sa:Int)==0)=false:=by simp;omega
      have tW:Hid (R=A):=by show _=_;rw[ABw.out,if_neg (by rw[HSA.out];exact TV)]
      have HP:Hid (σ P b V R w w2):=by
       show σ _ _ _ _ _ _;rw[tW.out];exact⟨V1.Af v2,Gc.out,EA.out,GO.out⟩
      clear TV;go_wp2
      go_end0
      exact⟨rfl,HP.out⟩
    |true=>
     obtain⟨hAD,Cw⟩ :=ZG.out rfl;have hDA:=hAD.symm;have ABx:Hid (R=if(D1.take.pattern D1.Θ).state≠0 then D1.take.pattern D1.Θ else DS.By cs f' ((D1.take.pattern D1.Θ).A6 cs).1 ((D1.take.pattern D1.Θ).A6 cs).2):=pO.out rfl;clear hAD ZG pQ pO;subst hDA;have HC:=QA P b (V1.Af v2) D1 w2 EA.out Ii.out.tx Ii.out.at' (by have h9:=Ii.out.li;have h8:=Ii.out.at';have h7:=Ii.out.tx;omega)
     go_wp2_with fail
     refine HC.mono ?_;clear HC;rintro e w4 ⟨v4,rfl,Kh,Mr,TK⟩;have KY:=γ Mr;have WB:=γ Kh;have Nv:=γ (GO.out.trans TK);have KT:=γ (Ii.out.take Cw);have HTF:=QB D1 D1.Θ Cw;have iy:Hid ((D1.take.pattern D1.Θ).left true<D1.left false∧1≤(D1.take.pattern D1.Θ).line∧(D1.take.pattern D1.Θ).steps=S∧(D1.take.pattern D1.Θ).text.size=T):=⟨HTF.1,HTF.2.1,HTF.2.2.2.trans Jr.out.1,by rw[HTF.2.2.1];exact Jr.out.2⟩
     have hLL:D1.Θ.length≤4096:=by
      unfold DS.Θ;rw[List.length_map,List.length_zipIdx,List.length_take,List.length_drop];have h7:=Ii.out.tx;have h9:D1.text.data.toList.length=D1.text.size:=Δ _;omega
     obtain⟨a4,n4,c4,UJ,uU⟩ :=Kh.out.IM;subst UJ;clear uU Mr TK Kh HTF oR AEP pP;have HC:=Cu P b (V1.Af v2) D1.take _ D1.Θ w4 KY.out WB.out KT.out.ro (by omega)
     go_wp2_with fail
     refine HC.mono ?_;clear HC;rintro e w5 ⟨rfl,V5,Qk,MM,UX⟩;have ue:=γ MM;have HF5:=γ (Nv.out.trans UX);have HS5:=γ (Qk.trans Gc.out);have tX:Hid (DB n0 (D1.take.pattern D1.Θ)):=KT.out.pattern _;have bl5:=MM.box.lt;have g17:=MM.cell 17 _ rfl;clear MM UX Qk;generalize D1.take.pattern D1.Θ=E at*;obtain⟨se,ZW⟩ :∃s,E.state=s:=⟨_,rfl⟩
     have HSX:=γ ZW;have oR:w5.cell? ⟨b,17,none⟩ =some (.int .i64 (se:Nat)):=by rw[g17];show some (Value.int .i64 (E.state:Nat))=_;rw[ZW]
     have AFr:se≤3:=by rw[←ZW];exact tX.out.st
     clear g17 ZW
     by_cases he0:se=0
     ·have AER:((se:Int) !=0)=false:=by simp[he0]
      have HE0:Hid (E.state=0):=by show _=_;rw[HSX.out];exact he0
      have tW:Hid (R=DS.By cs f' (E.A6 cs).1 (E.A6 cs).2):=by show _=_;rw[ABx.out,if_neg (by rw[HE0.out];simp)]
      clear he0;have ABy:∀w,P V5.AZ w→E5 cs L w V5.AZ:=fun w h9=>by rw[HS5.out]at h9⊢;exact Vi.out w h9
      have qG:=γ (Si cs E tX.out.us);have HC:=QC n0 cs L P b V5 E w5 ue.out ABy Qb.out ix.out tX.out HE0.out iy.out.2.1;clear ABy
      go_wp2_with fail
      refine HC.mono ?_;clear HC;rintro e w6 ⟨rfl,V6,LY,Qq,Qr⟩;have WR:Hid (DB n0 (E.A6 cs).1):=DB.Bd cs (fun c hc=>(Qb.out.ok c hc).tx) _ E 0 tX.out rfl;have AES:=γ (Nat.le_trans iy.out.2.1 (Uu cs E));have zp:=Lm cs E;have iq:=γ Qq;have oB:=γ (HF5.out.trans Qr);have HS6:=γ (LY.trans HS5.out);have HK:Hid ((E.A6 cs).1.steps=S∧(E.A6 cs).1.text.size=T):=⟨zp.2.trans iy.out.2.2.1,by rw[zp.1];exact iy.out.2.2.2⟩
      clear Qq Qr LY zp;generalize(E.A6 cs).1=F at*;generalize(E.A6 cs).2=y at*;have OS:Hid (F.left y<f'):=by have h9:=qG.out;have h8:=iy.out.1;show _<_;omega
      have um:=γ (Sj iq.out HK.out.2 HK.out.1 y)
      go_wp2_with fail
      go_roundw
      case rel=>exact⟨y,V6,F,f',rfl,HS6.out,iq.out,oB.out,WR.out,fun _=>AES.out,OS.out,tW.out.symm,HK.out.1,HK.out.2⟩
      case measure=>rw[um.out,Of.out];exact Nat.lt_trans qG.out iy.out.1
     ·have AER:((se:Int) !=0)=true:=by simp;omega
      have tW:Hid (R=E):=by show _=_;rw[ABx.out,if_pos (by rw[HSX.out];exact he0)]
      have HP:Hid (σ P b V R w w5):=by
       show σ _ _ _ _ _ _;rw[tW.out];exact⟨V5,HS5.out,ue.out,HF5.out⟩
      clear he0;go_wp2
      go_end0
      exact⟨rfl,HP.out⟩
  ·have KA:((st:Int)==0)=false:=by simp;omega
   have tW:Hid (R=D1):=by show _=_;rw[←HR.out,Lj cs (f'+1) D1 x (by rw[TF.out];exact h0)]
   have HP:Hid (σ P b V R w wr):=by
    show σ _ _ _ _ _ _;rw[tW.out];exact⟨V1,Gc.out,A0.out,Bm.out⟩
   clear h0;go_wp2
   go_end0
   exact⟨rfl,HP.out⟩
end Go.Proofs.YtlppphmnegdhoabGreatDoor
namespace Go.Proofs.YtlppphmnegdhoabGreatDoor
open Go.RowKit
open M
structure DE where
 script:ByteArray
 quiet:Bool
 steps:Nat
 room:Nat
 input:ByteArray
 told:Nat
 closed:Bool
 err:Nat
def deC(E:DE):List Value:= [.string E.script,.bool E.quiet,.int .i64 (E.steps:Nat),.int .i64 (E.room:Nat),.string E.input,.int .i64 (E.told:Nat),.bool E.closed,.int .i64 (E.err:Nat)]
theorem oT(u:World)(n:Nat)(hn:n≤400):(u.alloc (.cells (madeCells (Value.bool false).cells n) 4)).ownsRow u.heap.size 4 1 (.slice (some ⟨u.heap.size,0,none⟩) n n) n ((List.replicate n false).map .bool):=by
 have hs:=size_madeCells (Value.bool false).cells n;refine⟨by simp,.inr ⟨u.heap.size,n,_,rfl,δ,heap_alloc_new u _,δ,by unfold maxLen;omega,by rw[hs];omega,?_⟩⟩;rw[List.take_of_length_le (by rw[Array.length_toList,hs];omega)];apply List.ext_getElem?;intro i
 by_cases hi:i<n
 ·simp[madeCells,Value.cells,hi,Nat.mod_one]
 ·rw[List.getElem?_eq_none (by rw[Array.length_toList,hs];omega),List.getElem?_eq_none (by simp;omega)]
theorem tY(t:List UInt8)(h:AA 115 t=true):1≤(FH t).count:=by
 match t,h with
 | [],h=>cases h
 |c::r,h=>
  rw[AA]at h;split at h
  ·unfold FH
   show 1≤(match Ψ r with|none=>Ha|some p=>match Ψ p.2 with|none=>Ha|some q=>⟨(Cv p.1).getD Ml,DK q.1,Mm q.2,UP q.2,aA q.2⟩).count;cases hu:Ψ r with
   |none=>rw[hu]at h;cases h
   |some p=>
    rw[hu]at h;have h':Ot 115 p.1 (Ψ p.2)=true:=h;show 1≤(match Ψ p.2 with|none=>Ha|some q=>⟨(Cv p.1).getD Ml,DK q.1,Mm q.2,UP q.2,aA q.2⟩ :Lx).count;cases hv:Ψ p.2 with
    |none=>rw[hv]at h';cases h'
    |some q=>
     show 1≤Mm q.2;unfold Mm;split
     ·omega
     ·exact δ
  ·cases h
theorem tZ(t:List UInt8)(c:Cm)(h:Dw t=some c)(hn:c.name=115):1≤c.sub.count:=by
 unfold Dw at h;cases hr:(CI t).2 with
 |nil=>rw[hr]at h;cases h
 |cons d r=>
  rw[hr,Rj]at h;split at h
  ·rename_i ha
   injection h with h;subst h;have hd:d.toNat=115:=hn;show 1≤(if d.toNat=115 then FH r else Ha).count;rw[if_pos hd];rw[hd]at ha;unfold AF at ha;rw[if_neg (by decide),if_neg (by decide),if_neg (by decide),if_neg (by decide),if_pos (by decide)]at ha;exact tY r ha
  ·cases h
theorem Yt:∀(M:List (List UInt8))(L:List Cm),BF M=some L→∀c∈L,c.name=115→1≤c.sub.count
 | [],L,h=>by
   rw[BF]at h;injection h with h;subst h;intro c hc;cases hc
 |u::M,L,h=>by
  rw[BF]at h;cases hu:Dw u with
  |none=>rw[hu]at h;cases h
  |some d=>
   rw[hu]at h;cases hM:BF M with
   |none=>rw[hM]at h;cases h
   |some K=>
    rw[hM]at h;have h':some (d::K)=some L:=h;injection h' with h';subst h';intro c hc hn;rcases List.mem_cons.1 hc with rfl|hc
    ·exact tZ u _ hu hn
    ·exact Yt M K hM c hc hn
theorem zq{s:ByteArray}(hs:s.size≤400){V0:List Cm}{l:List (Nat×List UInt8)}(h1:BF (AR [] s.data.toList)=some V0)(h2:CW (AR [] s.data.toList)=some l)(hl:Cd l):CsK (CD V0) l∧Ef s.data.toList (CD V0):=by
 have hM:=Vx (AR [] s.data.toList);have h3:GV V0=FZ l∧V0.length=l.length:=by
  rcases hM with⟨g1,_⟩ | ⟨L,X,g1,g2,g3,g4⟩
  ·rw[h1]at g1;cases g1
  ·rw[h1]at g1;rw[h2]at g2
   injection g1 with g1;injection g2 with g2;subst g1;subst g2;exact⟨g3,g4⟩
 have GQ:IF V0:=(Ud h2 h3.1).2 hl;have WS:Ef s.data.toList (CD V0):=⟨V0,h1,GQ,rfl⟩
 obtain⟨k1,k2,k3⟩ :=dX s.data.toList (by rw[Δ];exact hs) _ WS;have hlen:(CD V0).length=l.length:=by simp[CD,h3.2]
 refine⟨⟨k2,fun k c hc=>ABk h1 h2 h3.1 hl k c hc,fun c hc=>by rw[←hlen];exact k3 c hc,fun c hc hn=> ?_,hlen,k1⟩,WS⟩;unfold CD at hc;obtain⟨i,hi,e⟩ :=List.mem_mapIdx.1 hc;have h9:=Yt _ V0 h1 V0[i] (List.getElem_mem _);rw[←e]at hn⊢;exact h9 hn
theorem PQ.link{w:World}{vs:List Value}{c:Cm}(h:PQ w vs c)(n:Nat):PQ w vs {c with next:=n}:=⟨h.len,h.one,h.a1,h.a2,h.no,h.nm,h.tx,h.sb,h.ex⟩
theorem td{w:World}{a:Option Addr}{q:Nat}{l:List (Nat×List UInt8)}{V0:List Cm}(h:YR w a l V0):E5 (CD V0) l w (.slice a l.length q):=by
 have hlen:(CD V0).length=V0.length:=by simp[CD]
 refine⟨a,q,rfl,h.A6,by rw[hlen,h.len],fun k hk=> ?_⟩;obtain⟨g,vs,h1,h2,h3,h4⟩ :=h.cell k (by omega);refine⟨g,vs,h1,h2,h3,?_⟩;have:(CD V0)[k]= {V0[k]'(by omega)with next:=Hz (GV V0) k}:=by simp[CD]
 rw[this];exact h4.link _
def di(cs:List Cm)(E:DE)(w:World)(e:Ending)(w':World):Prop:=
 ∃(P:Value→World→Prop)(r:Nat)(V:DV),e= .returned (.pointer (some ⟨r,0,none⟩))∧AD P r V (Ay cs E.quiet E.steps E.room E.input E.closed) w'∧w.heap.size≤r∧Below w.heap.size w w'∧DB cs.length (Ay cs E.quiet E.steps E.room E.input E.closed)
end Go.Proofs.YtlppphmnegdhoabGreatDoor
