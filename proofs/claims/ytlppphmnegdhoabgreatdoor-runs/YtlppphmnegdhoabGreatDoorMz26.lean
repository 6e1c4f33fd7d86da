import Derived.Test.YtlppphmnegdhoabGreatDoorMz25
set_option linter.unusedVariables false
set_option maxRecDepth 100000
set_option maxHeartbeats 8000000
namespace Go.Proofs.YtlppphmnegdhoabGreatDoor
open Go.Proofs.Tryz
open Go.RowKit
open M
theorem oX(P:Value→World→Prop)(b:Nat)(tl:List Value)(V:RV)(S:St)(vs:List Value)(c:Cm)(w:World)(h:π P b tl V S w)(hw:WF S)(hc:BK w vs c)(hk:DZ c)(Dz:Fu P V.AZ):
  Calls prog 183 #[.pointer (some ⟨b,0,none⟩),.agg vs.toArray] w fun e w'=>Hd P b tl V (S.does c) w e w':=by
 have HC:=γ hc;have Bc:Hid (∀v∈vs,v.oneCell'=true):=hc.one;have Bh:=γ hc.len;obtain⟨CF,OW,ML,_,_,_⟩ :=hc.cells;have Bn:=γ CF;have L5:=γ ML;have HH:=γ h;have Bq:=h.box.lt;have H7:=hk.nm;have htb:=hk.tx
 have HL:Hid (S.does c=if c.name=112∨c.name=80∨c.name=61∨c.name=105∨c.name=97 then S.Bw c
  else if c.name=104∨c.name=72∨c.name=103∨c.name=71∨c.name=120∨c.name=115∨c.name=121 then S.change c
  else if c.name=100∨c.name=68∨c.name=99∨c.name=110∨c.name=78∨c.name=113∨c.name=98∨c.name=116 then S.lead c else S):=rfl
 obtain⟨nm,Wl⟩ :∃k,c.name=k:=⟨_,rfl⟩
 have R8:=γ Wl;rw[Wl]at Bn HL H7;clear h hc CF OW ML Wl
 by_cases LQ:nm=112∨nm=80∨nm=61∨nm=105∨nm=97
 ·have Jv:Hid (S.does c=S.Bw c):=by show _=_;rw[HL.out,if_pos LQ]
  have vk:c.name=112∨c.name=80∨c.name=61∨c.name=105∨c.name=97:=by rw[R8.out];omega
  have HW:=γ vk;clear vk;clear HL;rcases LQ with rfl|rfl|rfl|rfl|rfl
  all_goals
   go_enter func183,ntmps183
   go_wp2_with(first
    | (refine AU rfl _ rfl vs rfl Bc.out ?_
       intro w1 ξ B1 CE;have h1:=HH.out.below B1;have A0:=γ h1;have Bm:Hid (Rf (ρ b V) (ρ b V) w w1):= .η B1;have FU:=γ (HC.out.below B1);have d12:=ξ.c 12 _ Bn.out;have l1:=ξ.lt;have Dx:=h1.box.lt;clear h1)
    |refine ω Gi ξ Bh.out rfl _ rfl rfl ?_)
   refine(Hq P b tl V S vs c w1 A0.out hw FU.out hk Dz HW.out).mono ?_;rintro e w2 ⟨rfl,hr⟩;have HR:Hid (μ P b tl V (S.does c) w w2):=by show μ _ _ _ _ _ _ _;rw[Jv.out];exact μ.trans rfl Bm.out hr
   clear hr;go_wp2
   go_end0
   exact⟨rfl,HR.out⟩
 by_cases JO:nm=104∨nm=72∨nm=103∨nm=71∨nm=120∨nm=115∨nm=121
 ·have Jv:Hid (S.does c=S.change c):=by show _=_;rw[HL.out,if_neg LQ,if_pos JO]
  have vk:c.name=104∨c.name=103∨c.name=120∨c.name=72∨c.name=71∨c.name=115∨c.name=121:=by rw[R8.out];omega
  have HW:=γ vk;clear vk;clear HL LQ;rcases JO with rfl|rfl|rfl|rfl|rfl|rfl|rfl
  all_goals
   go_enter func183,ntmps183
   go_wp2_with(first
    | (refine AU rfl _ rfl vs rfl Bc.out ?_
       intro w1 ξ B1 CE;have h1:=HH.out.below B1;have A0:=γ h1;have Bm:Hid (Rf (ρ b V) (ρ b V) w w1):= .η B1;have FU:=γ (HC.out.below B1);have d12:=ξ.c 12 _ Bn.out;have l1:=ξ.lt;have Dx:=h1.box.lt;clear h1)
    |refine ω Gi ξ Bh.out rfl _ rfl rfl ?_)
   refine(DQ P b tl V S vs c w1 A0.out hw FU.out hk HW.out).mono ?_;rintro e w2 ⟨rfl,hr⟩;have HR:Hid (μ P b tl V (S.does c) w w2):=by show μ _ _ _ _ _ _ _;rw[Jv.out];exact μ.trans rfl Bm.out hr
   clear hr;go_wp2
   go_end0
   exact⟨rfl,HR.out⟩
 by_cases WT:nm=100∨nm=68∨nm=99∨nm=110∨nm=78∨nm=113∨nm=98∨nm=116
 ·have Jv:Hid (S.does c=S.lead c):=by show _=_;rw[HL.out,if_neg LQ,if_neg JO,if_pos WT]
  have vk:c.name=100∨c.name=68∨c.name=99∨c.name=110∨c.name=78∨c.name=113∨c.name=98∨c.name=116:=by rw[R8.out];omega
  have HW:=γ vk;clear vk;clear HL LQ JO;rcases WT with rfl|rfl|rfl|rfl|rfl|rfl|rfl|rfl
  all_goals
   go_enter func183,ntmps183
   go_wp2_with(first
    | (refine AU rfl _ rfl vs rfl Bc.out ?_
       intro w1 ξ B1 CE;have h1:=HH.out.below B1;have A0:=γ h1;have Bm:Hid (Rf (ρ b V) (ρ b V) w w1):= .η B1;have FU:=γ (HC.out.below B1);have d12:=ξ.c 12 _ Bn.out;have l1:=ξ.lt;have Dx:=h1.box.lt;clear h1)
    |refine ω Gi ξ Bh.out rfl _ rfl rfl ?_)
   refine(EF P b tl V S vs c w1 A0.out hw FU.out hk HW.out).mono ?_;rintro e w2 ⟨rfl,hr⟩;have HR:Hid (μ P b tl V (S.does c) w w2):=by show μ _ _ _ _ _ _ _;rw[Jv.out];exact μ.trans rfl Bm.out hr
   clear hr;go_wp2
   go_end0
   exact⟨rfl,HR.out⟩
 have Jv:Hid (S.does c=S):=by show _=_;rw[HL.out,if_neg LQ,if_neg JO,if_neg WT]
 have n0:((nm:Int)==112)=false:=by simp;omega
 have n1:((nm:Int)==80)=false:=by simp;omega
 have n2:((nm:Int)==61)=false:=by simp;omega
 have n3:((nm:Int)==105)=false:=by simp;omega
 have n4:((nm:Int)==97)=false:=by simp;omega
 have n5:((nm:Int)==104)=false:=by simp;omega
 have n6:((nm:Int)==72)=false:=by simp;omega
 have n7:((nm:Int)==103)=false:=by simp;omega
 have n8:((nm:Int)==71)=false:=by simp;omega
 have n9:((nm:Int)==120)=false:=by simp;omega
 have n10:((nm:Int)==115)=false:=by simp;omega
 have n11:((nm:Int)==121)=false:=by simp;omega
 have n12:((nm:Int)==100)=false:=by simp;omega
 have n13:((nm:Int)==68)=false:=by simp;omega
 have n14:((nm:Int)==99)=false:=by simp;omega
 have n15:((nm:Int)==110)=false:=by simp;omega
 have n16:((nm:Int)==78)=false:=by simp;omega
 have n17:((nm:Int)==113)=false:=by simp;omega
 have n18:((nm:Int)==98)=false:=by simp;omega
 have n19:((nm:Int)==116)=false:=by simp;omega
 clear HL LQ JO WT
 go_enter func183,ntmps183
 go_wp2_with(first
  | (refine AU rfl _ rfl vs rfl Bc.out ?_
     intro w1 ξ B1 CE;have h1:=HH.out.below B1;have A0:=γ h1;have Bm:Hid (Rf (ρ b V) (ρ b V) w w1):= .η B1;have FU:=γ (HC.out.below B1);have d12:=ξ.c 12 _ Bn.out;have l1:=ξ.lt;have Dx:=h1.box.lt;clear h1)
  |refine ω Gi ξ Bh.out rfl _ rfl rfl ?_)
 go_end0
 exact⟨rfl,by rw[Jv.out];exact⟨V,rfl,A0.out,Bm.out⟩⟩
def zCm:List Value:= [.int .i64 0,.int .i64 0,.int .i64 0,.bool false,.bool false,.slice none 0 0,.int .i64 0,.int .i64 0,.bool false,.bool false,.slice none 0 0,.bool false,.int .u8 0,.int .u8 0,.int .i64 0,.string ⟨#[]⟩,.bool false,.bool false,.slice none 0 0,.slice none 0 0,.int .i64 0,.bool false,.bool false,.string ⟨#[]⟩,.string ⟨#[]⟩]
theorem tv:∀v∈zCm,v.oneCell'=true:=by decide
theorem bn{S:St}(h:S.cs[S.next]? =none):S.reach=S.Ar.AO:=by unfold St.reach;rw[h]
theorem iD{S:St}{c:Cm}(h:S.cs[S.next]? =some c)(h0:S.steps=0):S.reach=S.die 4:=by unfold St.reach;rw[h];simp only;rw[if_pos h0]
theorem bo{S:St}{c:Cm}(h:S.cs[S.next]? =some c)(h0:S.steps≠0):S.reach=if(({S with steps:=S.steps - 1,next:=S.next+1}:St).AI S.next c).1 then(({S with steps:=S.steps - 1,next:=S.next+1}:St).AI S.next c).2.does c else if c.name=123 then{(({S with steps:=S.steps - 1,next:=S.next+1}:St).AI S.next c).2 with next:=c.next}else(({S with steps:=S.steps - 1,next:=S.next+1}:St).AI S.next c).2:=by unfold St.reach;rw[h];simp only;rw[if_neg h0]
theorem Yx(Ec:List (List Value))(P:Value→World→Prop)(b:Nat)(tl:List Value)(V:RV)(S:St)(w:World)(h:π P b tl V S w)(hw:WF S)(hP:∀w,P V.AZ w→KQ Ec w V.AZ S.cs)(Dz:Fu P V.AZ):
  Calls prog 151 #[.pointer (some ⟨b,0,none⟩)] w fun e w'=>Hd P b tl V S.reach w e w':=by
 have HH:=γ h;have Bq:=h.box.lt;obtain⟨aS,qs,Fb,Co⟩ :=hP w h.AZ.out;have c0:=h.cell 0 _ rfl;have c0':w.cell? ⟨b,0,none⟩ =some (.slice aS S.cs.length qs):=by rw[c0];show some V.AZ=_;rw[Fb]
 have aM:=h.cell 15 _ rfl;have c3:=h.cell 3 _ rfl;have f3:=h.fz 3 (by decide);have f15:=h.fz 15 (by decide);have OW:=hw.nx;have hnc:=hw.nc;have BZ:=hw.st;obtain⟨n,hn⟩ :∃n,S.cs.length=n:=⟨_,rfl⟩
 obtain⟨k,hk⟩ :∃k,S.next=k:=⟨_,rfl⟩
 have G0:=γ hk;rw[hn]at c0' hnc;rw[hk]at aM OW;have EW:¬(k:Int)<0:=by omega
 by_cases Ac:k<n
 ·have Ep:¬(n:Int)≤(k:Int):=by omega
  have Px:(k:Int)<(n:Int):=by omega
  have L8:(0:Int)≤(k:Int):=by omega
  have Ez:k<S.cs.length:=by rw[hn];exact Ac
  obtain⟨c,hc⟩ :∃c,S.cs[k]? =some c:=⟨_,List.getElem?_eq_getElem Ez⟩
  have hcS:S.cs[S.next]? =some c:=by rw[hk];exact hc
  have F6:S.cs[k]=c:=(List.getElem?_eq_some_iff.1 hc).2;have xv:=hw.cm c (List.mem_of_getElem? hc)
  by_cases TV:S.steps=0
  ·have CE:((S.steps:Nat):Int)≤0:=by omega
   have HR:=γ (iD hcS TV);clear h Co TV hcS hc F6 xv c0 hn hk Fb
   go_enter func151,ntmps151
   go_wp2_with fail
   refine(PB P b tl V S 4 w HH.out).mono ?_;rintro e w2 ⟨rfl,hr⟩;have HF:Hid (μ P b tl V S.reach w w2):=by show μ _ _ _ _ _ _ _;rw[HR.out];exact hr.xM
   clear hr;go_wp2;refine bodyPost_ret (results_none rfl _ _ _) rfl ?_;exact⟨rfl,HF.out⟩
  ·have CE:¬((S.steps:Nat):Int)≤0:=by omega
   have pq:=bo hcS TV
   have hA:=h.set 3 (by decide) (.int .i64 ((S.steps:Int) - 1)) rfl {S with steps:=S.steps - 1} (by
    have e9:(((S.steps - 1:Nat)):Int)=(S.steps:Int) - 1:=by omega
    show(GD V S).set 3 _=GD V {S with steps:=S.steps - 1};rw[←e9];rfl) rfl rfl rfl rfl rfl
   have hB:=hA.set 15 (by decide) (.int .i64 ((k:Int)+1)) rfl {S with steps:=S.steps - 1,next:=S.next+1} (by
    have e9:(((S.next+1:Nat)):Int)=(k:Int)+1:=by rw[hk];omega
    show(GD V {S with steps:=S.steps - 1}).set 15 _=GD V {S with steps:=S.steps - 1,next:=S.next+1};rw[←e9];rfl) rfl rfl rfl rfl rfl
   have vZ:Rf (ρ b V) (ρ b V) w ((w.setCell ⟨b,3,none⟩ (.int .i64 ((S.steps:Int) - 1))).setCell ⟨b,15,none⟩ (.int .i64 ((k:Int)+1))):=(Rf.set V b 3 _ w).trans (Rf.set V b 15 _ _);obtain⟨T,hT⟩ :∃T:St,({S with steps:=S.steps - 1,next:=S.next+1}:St)=T:=⟨_,rfl⟩
   have AB7:T.cs=S.cs:=by rw[←hT]
   have fQ:WF T:=by
    rw[←hT];refine{hw with st:= ?_,nx:= ?_,qu:= ?_}
    ·show S.steps - 1≤5000;omega
    ·show S.queue.length+(S.steps - 1)≤5000;have:=hw.qu;omega
    ·show S.next+1≤400;omega
   have hqT:T.queue.length+T.steps<5000:=by rw[←hT];show S.queue.length+(S.steps - 1)<5000;have:=hw.qu;omega
   rw[hT]at pq hB;rw[hk]at pq;have hPT:∀w,P V.AZ w→KQ Ec w V.AZ T.cs:=by rw[AB7];exact hP
   have hcT:T.cs[k]? =some c:=by rw[AB7];exact hc
   obtain⟨aS2,qs2,zv,vn⟩ :=hP _ hB.AZ.out;rw[Fb]at zv;simp only[Value.slice.injEq]at zv;obtain⟨rfl,_,rfl⟩ :=zv;obtain⟨g,rfl,hg,GQ,hr,Oz⟩ :=vn k Ez;rw[F6]at Oz;have HCP:Hid (∀w,P V.AZ w→BK w Ec[k] c):=fun w hw=>by
    obtain⟨_,_,_,h5⟩ :=hP w hw;obtain⟨_,_,_,_,_,h6⟩ :=h5 k Ez;rw[F6]at h6;exact h6
   have uu:=γ Oz.len;have zQ:Hid (∀v∈Ec[k],v.oneCell'=true):=Oz.one;have AEZ:=γ Oz.cells.1;have AEa:=γ Oz.cells.2.1;have d0:((w.setCell ⟨b,3,none⟩ (.int .i64 ((S.steps:Int) - 1))).setCell ⟨b,15,none⟩ (.int .i64 ((k:Int)+1))).cell? ⟨b,0,none⟩ =some (.slice (some ⟨g,0,none⟩) n qs):=by
    have h9:=hB.cell 0 _ rfl;rw[h9];show some V.AZ=_;rw[Fb,hn]
   have HB:=γ hB;have Bm:=γ vZ;have aJ:=hB.box.lt;have Yy:=γ pq;generalize Ec[k]=vs at*;clear hA hB vZ pq Oz h Co vn hcS F6 c0 hT Fb;have tz:((w.setCell ⟨b,3,none⟩ (.int .i64 ((S.steps:Int) - 1))).setCell ⟨b,15,none⟩ (.int .i64 ((k:Int)+1))).heap.size=w.heap.size:=by simp
   have Cq:CB (((w.setCell ⟨b,3,none⟩ (.int .i64 ((S.steps:Int) - 1))).setCell ⟨b,15,none⟩ (.int .i64 ((k:Int)+1))).alloc (.cells zCm.toArray 148)) w.heap.size zCm:=by
    have h9:=CB.new ((w.setCell ⟨b,3,none⟩ (.int .i64 ((S.steps:Int) - 1))).setCell ⟨b,15,none⟩ (.int .i64 ((k:Int)+1))) 148 zCm.toArray tv;rw[tz]at h9;exact h9
   have BA:Below w.heap.size ((w.setCell ⟨b,3,none⟩ (.int .i64 ((S.steps:Int) - 1))).setCell ⟨b,15,none⟩ (.int .i64 ((k:Int)+1))) (((w.setCell ⟨b,3,none⟩ (.int .i64 ((S.steps:Int) - 1))).setCell ⟨b,15,none⟩ (.int .i64 ((k:Int)+1))).alloc (.cells zCm.toArray 148)):=ζ.alloc (by rw[tz];exact δ) _;have HBB:Hid (∀w3,Below w.heap.size ((w.setCell ⟨b,3,none⟩ (.int .i64 ((S.steps:Int) - 1))).setCell ⟨b,15,none⟩ (.int .i64 ((k:Int)+1))) w3→π P b tl V T w3∧Rf (ρ b V) (ρ b V) w w3):=fun w3 hb=>by
    rw[←tz]at hb;exact⟨HB.out.below hb,Bm.out.trans (.η hb)⟩
   have ZF:=(zero_of_info (show(prog.info? 148).map (fun i=>(i.zero,i.size))=some (some (.agg zCm.toArray),25)by kernel_rfl)).1;clear tz
   go_enter func151,ntmps151
   go_wp2_with(first
    |refine BX Gi hr uu.out rfl _ rfl rfl ?_
    | (refine θ Gi Cq rfl rfl _ _ rfl rfl rfl uu.out zQ.out ?_
       intro w3 CM O3;have yB:=HBB.out w3 (BA.trans (O3.below δ));have Ge:=γ yB.1;have OT:=γ yB.2;have lb3:=CM.lt;have np:=yB.1.box.lt;clear yB))
   refine(Tn Ec P b tl V T k c w3 Ge.out fQ hPT hcT).mono ?_;rintro e w4 ⟨rfl,V4,Kh,Mr,TK⟩;have Nd:¬ρ b V w.heap.size:=fun hf=>by have:=FM HH.out _ hf;omega
   have IU:=CM.keep (TK.block _ CM.lt Nd) TK.size;have lb4:=IU.lt;have bl4:=Mr.box.lt;have Nv:=γ (OT.out.trans TK);obtain⟨hw4,hq4,M4,AEb⟩ :=fQ.AI k c;have hqq:(T.AI k c).2.queue.length+(T.AI k c).2.steps<5000:=by rw[hq4,M4];exact hqT
   have AEc:BK w4 vs c:=HCP.out w4 (by rw[←Kh];exact Mr.AZ.out);have AEd:Fu P V4.AZ:=by rw[Kh];exact Dz
   have KY:=γ Mr;obtain⟨ch,hch⟩ :∃x,(T.AI k c).1=x:=⟨_,rfl⟩
   rw[hch]at Yy⊢;clear Mr TK hch hq4 M4 AEb CM;cases ch
   ·rw[if_neg (by decide)]at Yy
    have d12:=IU.c 12 _ AEZ.out;have d14:=IU.c 14 _ AEa.out;have H7:=xv.nm
    by_cases BV:c.name=123
    ·have h1:((c.name:Int)==123)=true:=by simp[BV]
     rw[if_pos BV]at Yy;have AFt:=KY.out.fz 15 (by decide);have e15:=KY.out.cell 15 _ rfl;have hA:=KY.out.set 15 (by decide) (.int .i64 (c.next:Nat)) rfl {(T.AI k c).2 with next:=c.next} rfl rfl rfl rfl rfl rfl;have HF:Hid (μ P b tl V S.reach w (w4.setCell ⟨b,15,none⟩ (.int .i64 (c.next:Nat)))):=by
      show μ _ _ _ _ _ _ _;rw[Yy.out];exact⟨V4,Kh,hA,Nv.out.trans (Rf.set V4 b 15 _ _)⟩
     clear hA BV IU;go_wp2
     go_end0
     exact⟨rfl,HF.out⟩
    ·have h1:((c.name:Int)==123)=false:=by simp;omega
     rw[if_neg BV]at Yy;have HF:Hid (μ P b tl V S.reach w w4):=by
      show μ _ _ _ _ _ _ _;rw[Yy.out];exact⟨V4,Kh,KY.out,Nv.out⟩
     clear BV IU;go_wp2
     go_end0
     exact⟨rfl,HF.out⟩
   ·rw[if_pos rfl]at Yy
    go_wp2_with(refine ω Gi IU uu.out rfl _ rfl rfl ?_)
    refine(oX P b tl V4 (T.AI k c).2 vs c w4 KY.out hw4 AEc xv AEd).mono ?_;rintro e w5 ⟨rfl,QV⟩;have HF:Hid (μ P b tl V S.reach w w5):=by
     show μ _ _ _ _ _ _ _;rw[Yy.out];exact μ.trans Kh Nv.out QV
    clear QV IU;go_wp2
    go_end0
    exact⟨rfl,HF.out⟩
 ·have Ep:(n:Int)≤(k:Int):=by omega
  have HR:Hid (S.reach=S.Ar.AO):=bn (List.getElem?_eq_none (by rw[hk,hn];omega));clear h Co c0 hn hk Fb
  go_enter func151,ntmps151
  go_wp2_with fail
  refine(K2 P b tl V S w HH.out hw).mono ?_;rintro e w2 ⟨rfl,v2,Ds,JW⟩
  go_wp2_with fail
  refine(FL P b tl (V.Af v2) S.Ar w2 Ds hw.Ar).mono ?_;rintro e w3 ⟨rfl,Nf⟩;have HF:Hid (μ P b tl V S.reach w w3):=by
   show μ _ _ _ _ _ _ _;rw[HR.out];exact μ.trans (V1:=V.Af v2) rfl JW Nf
  clear Nf;go_wp2;refine bodyPost_ret (results_none rfl _ _ _) rfl ?_;exact⟨rfl,HF.out⟩
def zw(P:Value→World→Prop)(b:Nat)(tl:List Value)(V:RV)(S:St)(w:World)(e:Ending)(w':World):Prop:=e= .returned (.bool (!S.stuck))∧μ P b tl V S.move w w'
theorem bp(Ec:List (List Value))(P:Value→World→Prop)(b:Nat)(tl:List Value)(V:RV)(S:St)(w:World)(h:π P b tl V S w)(hw:WF S)(hP:∀w,P V.AZ w→KQ Ec w V.AZ S.cs)(Dz:Fu P V.AZ):
  Calls prog 111 #[.pointer (some ⟨b,0,none⟩)] w fun e w'=>zw P b tl V S w e w':=by
 have HH:=γ h;have Bq:=h.box.lt;have Xk:=h.cell 16 _ rfl;have iW:=hw.ak;have HMV:Hid (S.move=if S.asks=0 then S.reach else if S.ask=2 then S else if S.ask=3 then S.AW else S.take):=rfl;have vP:Hid (S.stuck=(decide (S.asks≠0) && S.ask==2)):=rfl
 by_cases ha:S.asks=0
 ·have S9:(((S.asks:Nat):Int)==0)=true:=by simp[ha]
  have HM:Hid (S.move=S.reach):=by show _=_;rw[HMV.out,if_pos ha]
  have HS:Hid (S.stuck=false):=by show _=_;rw[vP.out,ha];rfl
  clear ha h
  go_enter func111,ntmps111
  go_wp2_with fail
  refine(Yx Ec P b tl V S w HH.out hw hP Dz).mono ?_;rintro e w2 ⟨rfl,hr⟩;have HF:Hid (μ P b tl V S.move w w2):=by show μ _ _ _ _ _ _ _;rw[HM.out];exact hr
  clear hr;go_wp2;go_ret;exact⟨by rw[HS.out];rfl,HF.out⟩
 ·have S9:(((S.asks:Nat):Int)==0)=false:=by simp;omega
  have HM:Hid (S.move=if S.ask=2 then S else if S.ask=3 then S.AW else S.take):=by show _=_;rw[HMV.out,if_neg ha]
  have HS:Hid (S.stuck=(S.ask==2)):=by show _=_;rw[vP.out,decide_eq_true ha];rfl
  have xE:S.ask=1∨S.ask=2∨S.ask=3:=by unfold St.ask;split;exact .inr (.inl rfl);split;exact .inr (.inr rfl);exact .inl rfl
  clear ha h
  go_enter func111,ntmps111
  go_wp2_with fail
  refine(aN P b tl V S w HH.out hw).mono ?_;rintro e w1 ⟨rfl,B1⟩;have A0:=γ (HH.out.below B1);generalize hq:S.ask=q at*;clear hq;rcases xE with rfl|rfl|rfl
  ·go_wp2_with fail
   refine(aQ P b tl V S w1 A0.out hw).mono ?_;rintro e w2 ⟨rfl,hr⟩;have HF:Hid (μ P b tl V S.move w w2):=by show μ _ _ _ _ _ _ _;rw[HM.out];exact μ.trans rfl (.η B1) hr
   clear hr;go_wp2;go_ret;exact⟨by rw[HS.out];rfl,HF.out⟩
  ·go_wp2
   go_ret;refine⟨by rw[HS.out];rfl,?_⟩;rw[HM.out];exact⟨V,rfl,A0.out,.η B1⟩
  ·go_wp2_with fail
   refine(QP P b tl V S w1 A0.out hw).mono ?_;rintro e w2 ⟨rfl,hr⟩;have HF:Hid (μ P b tl V S.move w w2):=by show μ _ _ _ _ _ _ _;rw[HM.out];exact μ.trans rfl (.η B1) hr
   clear hr;go_wp2;go_ret;exact⟨by rw[HS.out];rfl,HF.out⟩
def mzW(b:Nat)(x:Value)(w:World):Nat:=
 (match w.cell? ⟨b,3,none⟩,w.cell? ⟨b,5,none⟩,w.cell? ⟨b,7,none⟩,w.cell? ⟨b,16,none⟩,w.cell? ⟨b,17,none⟩with
 |some (.int _ s),some (.string t),some (.int _ h),some (.int _ a),some (.bool o)=>3*s.toNat+2*(t.size - h.toNat)+(if a=0 then 1 else 0)+(if o then 0 else 1)
 |_,_,_,_,_=>0)+(match x with| .bool true=>1|_=>0)
theorem oY{P:Value→World→Prop}{b:Nat}{tl:List Value}{V:RV}{S:St}{w:World}(h:π P b tl V S w)(x:Bool):mzW b (.bool x) w=S.mz+(if x then 1 else 0):=by
 unfold mzW;rw[h.cell 3 _ rfl,h.cell 5 _ rfl,h.cell 7 _ rfl,h.cell 16 _ rfl,h.cell 17 _ rfl];simp only;unfold St.mz;have e:((((S.asks:Nat):Int)=0))↔S.asks=0:=by omega
 simp only[Int.toNat_natCast,e];cases x<;>rfl
theorem M8{S:St}(h:S.stuck=true):S.move=S:=by
 unfold St.stuck at h;rw[Bool.and_eq_true,decide_eq_true_eq,beq_iff_eq]at h;unfold St.move;rw[if_neg h.1,if_pos h.2]
theorem uA(S:St):S.move.cs=S.cs:=by
 unfold St.move;split
 ·exact(St.HU S).cs
 split
 ·rfl
 split
 ·unfold St.AW
  split
  ·rfl
  ·exact(St.IZ S).cs
 ·exact(St.I8 S).2.2.2.1
def Sk(P:Value→World→Prop)(b:Nat)(tl:List Value)(V:RV)(S:St)(n0:Nat)(w:World)(e:Ending)(w':World):Prop:=∃T,Goes S T∧WF T∧e= .returned (.tuple #[.string (Dr (τ T.out n0 T.out.length)),.int .i64 (T.AB:Nat)])∧μ P b tl V T w w'
theorem Sl(Ec:List (List Value))(P:Value→World→Prop)(b:Nat)(tl:List Value)(V:RV)(S:St)(w:World)(h:π P b tl V S w)(hw:WF S)(hP:∀w,P V.AZ w→KQ Ec w V.AZ S.cs)(Dz:Fu P V.AZ):
  Calls prog 75 #[.pointer (some ⟨b,0,none⟩)] w fun e w'=>Sk P b tl V S S.out.length w e w':=by
 have Bq:=h.box.lt;have c9:=h.cell 9 _ rfl;obtain⟨ao,co,TC⟩ :=κ h.out;rw[TC]at c9;have HH:=γ h;have HW:=γ hw;obtain⟨n0,TZ⟩ :∃n,S.out.length=n:=⟨_,rfl⟩
 have ix:=γ TZ;have NC:n0≤4096:=by rw[←TZ];exact hw.ou
 rw[TZ]at c9⊢;clear h hw TC TZ
 go_enter func75,ntmps75
 go_wp2_with fail
 go_loopw [5] (fun v5 wr=>∃(x:Bool)(T:St)(V1:RV),v5= .bool x∧Hid (V1.AZ=V.AZ)∧Hid (π P b tl V1 T wr)∧Hid (Rf (ρ b V) (ρ b V1) w wr)∧Hid (WF T)∧Hid (∀R,Goes T R→Goes S R)∧Hid (x=false→T.stuck=true)∧Hid (T.cs=S.cs)∧Hid (S.out<+:T.out)) (fun v5 wr=>mzW b v5 wr)
 case atStart=>exact⟨true,S,V,rfl,rfl,HH,Rf.refl _ _,HW,fun R h=>h,fun h=>(by cases h),rfl,List.prefix_refl _⟩
 case round=>
  obtain⟨x,T,V1,rfl,Ip,HR,HF,fR,HGO,CR,Qb,HPR⟩ :=hrel;have aJ:=HR.out.box.lt;have QO:=HR.out.cell 17 _ rfl;have HMZ:=oY HR.out x;cases vp:T.over
  all_goals
   rw[vp]at QO
  ·cases x
   ·have pw:=CR.out rfl
    have HG:Hid (Goes S T):=HGO.out T (.stop (by unfold St.still;rw[pw,Bool.or_true]));have Ht:=HPR.out.length_le;rw[ix.out]at Ht;have Nn:=fR.out.ou;obtain⟨a1,q1,EN⟩ :=κ HR.out.out;have DC:=ψ.own HR.out.out;have d9:=HR.out.cell 9 _ rfl;have d18:=HR.out.cell 18 _ rfl;have d9':wr.cell? ⟨b,9,none⟩ =some (.slice a1 T.out.length q1):=by rw[d9];show some V1.out=_;rw[EN]
    rw[EN]at DC;obtain⟨n,hn⟩ :∃n,T.out.length=n:=⟨_,rfl⟩
    have HN:=γ hn;rw[hn]at d9' Ht Nn DC;have ld:=DM _ T.out n0 n wr.drew DC.drew Ht (by rw[hn];exact δ) (by rw[hn];omega);have QK:Hid ((τ T.out n0 n).length=n - n0):=Hg T.out n0 n Ht (by rw[hn];exact δ);clear d9 EN DC hn HMZ vp
    go_wp2_with fail
    go_region_held3(fun w'=>w'.cell? ⟨b,9,none⟩ =some (.slice a1 n q1)∧w'.cell? ⟨b,18,none⟩ =some (.int .i64 (T.AB:Nat))∧b<w'.heap.size)
     (first
      |go_keep
      | (go_split_ands
         refine⟨?_,?_,?_⟩
         ·assumption
         ·assumption
         ·assumption))
     (first
      | (go_at_call 112;refine ld.mono ?_;rintro e wx ⟨Nt,v3,rfl,s3,_⟩;rw[Nt];clear Nt;obtain⟨a3,c3,Ei,_⟩ :=s3.form;rw[QK.out]at Ei;subst Ei))
    have L5:=EJ _ (τ T.out n0 n) wr.drew.drew s3.drew (by rw[QK.out];omega);have AB8:wr.drew.cell? ⟨b,18,none⟩ =some (.int .i64 (T.AB:Nat)):=d18;have AB9:b<wr.drew.heap.size:=aJ;clear ld s3
    go_wp2_with fail
    go_region_held3(fun w'=>w'.cell? ⟨b,18,none⟩ =some (.int .i64 (T.AB:Nat))∧b<w'.heap.size)
     (first
      |go_keep
      | (go_split_ands
         refine⟨?_,?_⟩
         ·(rw[ξ.cell (by assumption)];assumption)
         ·(have:=ξ.size;omega)))
     (first
      | (go_at_call 113;refine L5.mono ?_;rintro e w5 ⟨rfl,ξ⟩;have B5:=ξ))
    have BB:Below wr.heap.size wr w5:=BC (Below.refl wr.heap.size wr).drew (BC (Below.refl wr.drew.heap.size wr.drew).drew B5);have mT:Hid (μ P b tl V T w w5):=⟨V1,Ip.out,HR.out.below BB,HF.out.trans (.η BB)⟩
    go_wp2;go_ret2;exact⟨T,HG.out,fR.out,by rw[HN.out];rfl,mT.out⟩
   ·have hP1:∀w,P V1.AZ w→KQ Ec w V1.AZ T.cs:=by rw[Ip.out,Qb.out];exact hP
    have AEe:Fu P V1.AZ:=by rw[Ip.out];exact Dz
    have xh:=γ vp;have AEf:=γ HMZ;clear vp HMZ
    go_wp2_with fail
    refine(bp Ec P b tl V1 T wr HR.out fR.out hP1 AEe).mono ?_;rintro e w2 ⟨rfl,V2,Fw,Ds,JW⟩;have AEg:=γ (Fw.trans Ip.out);have GO:=γ (HF.out.trans JW);have EA:=γ Ds;have AEh:=γ fR.out.move;have zH:=γ ((uA T).trans Qb.out);have AEi:=γ (HPR.out.trans (St.YU T));have HMS:Hid (mzW b (.bool (!T.stuck)) w2<mzW b (.bool true) wr):=by
     show _<_;rw[AEf.out,oY Ds (!T.stuck)];cases pw:T.stuck
     ·have:=St.gR T fR.out xh.out pw
      simp;omega
     ·rw[M8 pw];simp
    have AEj:Hid (∀R,Goes T.move R→Goes S R):=by
     intro R hR;cases pw:T.stuck
     ·refine HGO.out R (.step ?_ hR)
      unfold St.still;rw[xh.out,pw];rfl
     ·rw[M8 pw]at hR
      exact HGO.out R hR
    have U8:Hid ((!T.stuck)=false→T.move.stuck=true):=fun h9=>by
     have pw:T.stuck=true:=by simpa using h9
     rw[M8 pw];exact pw
    clear Ds JW Fw
    go_wp2_with fail
    go_roundw
    case rel=>exact⟨_,T.move,V2,rfl,AEg,EA,GO,AEh,AEj,U8,zH,AEi⟩
    case measure=>exact HMS.out
  ·have xh:=γ vp
   cases x
   all_goals
    have HG:Hid (Goes S T):=HGO.out T (.stop (by unfold St.still;rw[xh.out];rfl));have Ht:=HPR.out.length_le;rw[ix.out]at Ht;have Nn:=fR.out.ou;obtain⟨a1,q1,EN⟩ :=κ HR.out.out;have DC:=ψ.own HR.out.out;have d9:=HR.out.cell 9 _ rfl;have d18:=HR.out.cell 18 _ rfl;have d9':wr.cell? ⟨b,9,none⟩ =some (.slice a1 T.out.length q1):=by rw[d9];show some V1.out=_;rw[EN]
    rw[EN]at DC;obtain⟨n,hn⟩ :∃n,T.out.length=n:=⟨_,rfl⟩
    have HN:=γ hn;rw[hn]at d9' Ht Nn DC;have ld:=DM _ T.out n0 n wr.drew DC.drew Ht (by rw[hn];exact δ) (by rw[hn];omega);have QK:Hid ((τ T.out n0 n).length=n - n0):=Hg T.out n0 n Ht (by rw[hn];exact δ);clear d9 EN DC hn HMZ vp
    go_wp2_with fail
    go_region_held3(fun w'=>w'.cell? ⟨b,9,none⟩ =some (.slice a1 n q1)∧w'.cell? ⟨b,18,none⟩ =some (.int .i64 (T.AB:Nat))∧b<w'.heap.size)
     (first
      |go_keep
      | (go_split_ands
         refine⟨?_,?_,?_⟩
         ·assumption
         ·assumption
         ·assumption))
     (first
      | (go_at_call 112;refine ld.mono ?_;rintro e wx ⟨Nt,v3,rfl,s3,_⟩;rw[Nt];clear Nt;obtain⟨a3,c3,Ei,_⟩ :=s3.form;rw[QK.out]at Ei;subst Ei))
    have L5:=EJ _ (τ T.out n0 n) wr.drew.drew s3.drew (by rw[QK.out];omega);have AB8:wr.drew.cell? ⟨b,18,none⟩ =some (.int .i64 (T.AB:Nat)):=d18;have AB9:b<wr.drew.heap.size:=aJ;clear ld s3
    go_wp2_with fail
    go_region_held3(fun w'=>w'.cell? ⟨b,18,none⟩ =some (.int .i64 (T.AB:Nat))∧b<w'.heap.size)
     (first
      |go_keep
      | (go_split_ands
         refine⟨?_,?_⟩
         ·(rw[ξ.cell (by assumption)];assumption)
         ·(have:=ξ.size;omega)))
     (first
      | (go_at_call 113;refine L5.mono ?_;rintro e w5 ⟨rfl,ξ⟩;have B5:=ξ))
    have BB:Below wr.heap.size wr w5:=BC (Below.refl wr.heap.size wr).drew (BC (Below.refl wr.drew.heap.size wr.drew).drew B5);have mT:Hid (μ P b tl V T w w5):=⟨V1,Ip.out,HR.out.below BB,HF.out.trans (.η BB)⟩
    go_wp2;go_ret2;exact⟨T,HG.out,fR.out,by rw[HN.out];rfl,mT.out⟩
theorem iE(P:Value→World→Prop)(b:Nat)(tl:List Value)(V:RV)(S:St)(w:World)(h:π P b tl V S w):
  Calls prog 47 #[.pointer (some ⟨b,0,none⟩)] w fun e w'=>e= .returned (.int .i64 (S.text.size:Nat))∧w'=w:=by
 have c5:=h.cell 5 _ rfl;have Bq:=h.box.lt;clear h
 go_enter func47,ntmps47
 go_wp2;go_ret;exact⟨rfl,rfl⟩
theorem Yz(Ec:List (List Value))(P:Value→World→Prop)(b:Nat)(tl:List Value)(V:RV)(S:St)(s:ByteArray)(w:World)(h:π P b tl V S w)(hw:WF S)(hP:∀w,P V.AZ w→KQ Ec w V.AZ S.cs)(Dz:Fu P V.AZ)(hs:S.text.size+s.size≤4096):
  Calls prog 48 #[.pointer (some ⟨b,0,none⟩),.string s] w fun e w'=>Sk P b tl V (S.ext (S.text++s) S.closed) S.out.length w e w':=by
 have c5:=h.cell 5 _ rfl;have f5:=h.fz 5 (by decide);have Bq:=h.box.lt;have Lq:¬9223372036854775807<S.text.size+s.size:=by omega
 have hA:=h.set 5 (by decide) (.string (S.text++s)) rfl (S.ext (S.text++s) S.closed) rfl rfl rfl rfl rfl rfl;have HA:=γ hA;have HF:Hid (Rf (ρ b V) (ρ b V) w (w.setCell ⟨b,5,none⟩ (.string (S.text++s)))):=Rf.set V b 5 _ w;have xQ:WF (S.ext (S.text++s) S.closed):=hw.ext s S.closed (by simp;omega);clear hA h hs
 go_enter func48,ntmps48
 go_wp2_with fail
 refine(Sl Ec P b tl V (S.ext (S.text++s) S.closed) _ HA.out xQ hP Dz).mono ?_;rintro e w2 ⟨T,hg,ZX,rfl,hr⟩;have HP:Hid (Sk P b tl V (S.ext (S.text++s) S.closed) S.out.length w (.returned (.tuple #[.string (Dr (τ T.out S.out.length T.out.length)),.int .i64 (T.AB:Nat)])) w2):=⟨T,hg,ZX,rfl,μ.trans rfl HF.out hr⟩
 clear hg ZX hr;go_wp2;go_ret2;exact HP.out
theorem WU(Ec:List (List Value))(P:Value→World→Prop)(b:Nat)(tl:List Value)(V:RV)(S:St)(w:World)(h:π P b tl V S w)(hw:WF S)(hP:∀w,P V.AZ w→KQ Ec w V.AZ S.cs)(Dz:Fu P V.AZ):
  Calls prog 78 #[.pointer (some ⟨b,0,none⟩)] w fun e w'=>Sk P b tl V (S.ext S.text true) S.out.length w e w':=by
 have c6:=h.cell 6 _ rfl;have f6:=h.fz 6 (by decide);have Bq:=h.box.lt;have hA:=h.set 6 (by decide) (.bool true) rfl (S.ext S.text true) rfl rfl rfl rfl rfl rfl;have HA:=γ hA;have HF:Hid (Rf (ρ b V) (ρ b V) w (w.setCell ⟨b,6,none⟩ (.bool true))):=Rf.set V b 6 _ w;have xQ:WF (S.ext S.text true):= {hw with}
 clear hA h
 go_enter func78,ntmps78
 go_wp2_with fail
 refine(Sl Ec P b tl V (S.ext S.text true) _ HA.out xQ hP Dz).mono ?_;rintro e w2 ⟨T,hg,ZX,rfl,hr⟩;have HP:Hid (Sk P b tl V (S.ext S.text true) S.out.length w (.returned (.tuple #[.string (Dr (τ T.out S.out.length T.out.length)),.int .i64 (T.AB:Nat)])) w2):=⟨T,hg,ZX,rfl,μ.trans rfl HF.out hr⟩
 clear hg ZX hr;go_wp2;go_ret2;exact HP.out
end Go.Proofs.YtlppphmnegdhoabGreatDoor
