import Derived.Test.YtlppphmnegdhoabGreatDoorMz18
set_option linter.unusedVariables false
set_option maxRecDepth 100000
set_option maxHeartbeats 2000000
namespace Go.Proofs.YtlppphmnegdhoabGreatDoor
open Go.Proofs.Tryz
open Go.RowKit
open M
theorem K2(P:Value→World→Prop)(b:Nat)(tl:List Value)(V:RV)(S:St)(w:World)(h:π P b tl V S w)(hw:WF S):
  Calls prog 179 #[.pointer (some ⟨b,0,none⟩)] w fun e w'=>O0 P b tl V S.Ar w e w':=by
 have c2:=h.cell 2 _ rfl;have Bq:=h.box.lt;have HH:=γ h;have HQ:Hid (S.Ar=if S.quiet then S else S.BU):=rfl;clear h;cases hq:S.quiet
 all_goals
  rw[hq]at c2;rw[hq]at HQ;clear hq
  go_enter func179,ntmps179
 ·go_wp2_with fail
  refine(EL P b tl V S w HH.out hw).mono ?_;rintro e w2 ⟨rfl,hr⟩;have HR:Hid (CC P b tl V S.Ar w w2):=by show CC _ _ _ _ _ _ _;rw[HQ.out];exact hr
  clear hr;go_wp2
  go_end0
  exact⟨rfl,HR.out⟩
 ·go_wp2
  go_end0
  refine⟨rfl,?_⟩;rw[HQ.out];exact⟨V.out,HH.out,Rf.refl _ _⟩
theorem Np(l:List Cl):Ad l≤l.length:=by
 induction l with
 |nil=>exact δ
 |cons c l ih=>
  unfold Ad;rw[List.length_cons];split
  ·omega
  ·split<;>omega
theorem Hg(l:List Cl)(i j:Nat)(h:i≤j)(hj:j≤l.length):(τ l i j).length=j - i:=by unfold τ;rw[List.length_take,List.length_drop];omega
theorem Rm(P:Value→World→Prop)(b:Nat)(tl:List Value)(V:RV)(S:St)(w:World)(h:π P b tl V S w)(hw:WF S):
  Calls prog 238 #[.pointer (some ⟨b,0,none⟩)] w fun e w'=>O0 P b tl V S.Ak w e w':=by
 have FJ:=h.cell 10 _ rfl;have Bq:=h.box.lt;have HH:=γ h;have Xj:=hw.pa;have DC:=h.pat.out;obtain⟨ap,cp,EO,_⟩ :=DC.form;rw[EO]at FJ DC;have KW:=γ DC;have HQ:Hid (S.Ak=if Ad S.pat=0 then S.BU else S.put (τ S.pat 0 (Ad S.pat))):=rfl;have Ce:Hid (Ad S.pat≤S.pat.length):=Np _;clear h DC EO
 go_enter func238,ntmps238
 go_wp2_with fail
 refine(Gd _ S.pat w KW.out (by omega)).mono ?_;rintro e w1 ⟨rfl,B1⟩;have h1:=HH.out.below B1;have UR:=γ h1;have s1:=KW.out.below B1;have xN:=(B1.cell (by exact Bq)).trans FJ;have aJ:=h1.box.lt;clear h1;have Im:=Ce.out;obtain⟨k,hk⟩ :∃k,Ad S.pat=k:=⟨_,rfl⟩
 rw[hk]at Im HQ⊢;clear hk
 by_cases h0:k=0
 ·subst h0
  go_wp2_with fail
  refine(EL P b tl V S w1 UR.out hw).mono ?_;rintro e w2 ⟨rfl,hr⟩;have HR:Hid (CC P b tl V S.Ak w w2):=by show CC _ _ _ _ _ _ _;rw[HQ.out];exact CC.pre (.η B1) hr
  clear hr;go_wp2;refine bodyPost_ret (results_none rfl _ _ _) rfl ?_;exact⟨rfl,HR.out⟩
 ·have KA:((k:Int)==0)=false:=by simp;omega
  rw[if_neg h0]at HQ;clear h0
  go_wp2_with fail
  refine(DM _ S.pat 0 k w1 s1 ε Im (by omega)).mono ?_;rintro e w2 ⟨rfl,v3,rfl,s3,_⟩
  go_wp2_with fail
  refine(PC P b tl V S v3 _ _ UR.out hw s3 (by rw[Hg _ _ _ ε Im];omega)).mono ?_;rintro e w4 ⟨rfl,hr⟩;have HR:Hid (CC P b tl V S.Ak w w4):=by show CC _ _ _ _ _ _ _;rw[HQ.out];exact CC.pre (.η B1) hr
  clear hr;go_wp2
  go_end0
  exact⟨rfl,HR.out⟩
section
variable {P : Value → World → Prop} {b : Nat} {tl : List Value} {V : RV} {S : St} {w w' : World}
theorem π.kj(h:π P b tl V S w):μ P b tl V {S with queue:= []} w (w.setCell ⟨b,13,none⟩ (.slice none 0 0)):=by
 refine⟨⟨V.AZ,V.AM,V.out,V.pat,V.hold,.slice none 0 0⟩,rfl,?_⟩;have f1:Rf (ρ b V) (ρ b ⟨V.AZ,V.AM,V.out,V.pat,V.hold,.slice none 0 0⟩) w (w.setCell ⟨b,13,none⟩ (.slice none 0 0)):=by
  refine⟨rfl,rfl,rfl,by simp,fun k _ hk=>heap_setCell_other w _ k _ (fun e=>hk (.inl e)),fun k hF=> .inl ?_⟩;rcases hF with e|e |e |e
  ·exact .inl e
  ·exact .inr (.inl e)
  ·exact .inr (.inr (.inl e))
  ·cases e
 have hk:∀k,k≠b→(w.setCell ⟨b,13,none⟩ (.slice none 0 0)).heap[k]? =w.heap[k]? :=fun k hk=>heap_setCell_other w _ k _ hk
 refine⟨⟨?_,?_,?_,World.ownsRow_nil _ _ _ _,h.so,h.sr,(fun e=>by cases e),h.AZ.fr f1,h.pat.fr f1,h.hold.fr f1,h.one⟩,f1⟩
 ·have h1:=h.box.set 13 (by rw[List.length_append,CY];omega) (.slice none 0 0) rfl
  rw[List.set_append_left _ _ (by rw[CY];omega)]at h1;exact h1
 ·exact Ab (F:=ρ b V) (G:=ρ b V) h.out (fun k e=>hk k (fun e'=>h.so (e'▸e)))
 ·exact Ab (F:=ρ b V) (G:=ρ b V) h.AM (fun k e=>hk k (fun e'=>h.sr (e'▸e)))
end
theorem Rn{α β:Type}(f:β→α→β)(l:List α)(b:β)(i:Nat)(h:i<l.length):(l.take (i+1)).foldl f b=f ((l.take i).foldl f b) l[i]:=by
 rw[List.take_add_one,List.getElem?_eq_getElem h,List.foldl_append];rfl
theorem FK(P:Value→World→Prop)(b:Nat)(tl:List Value)(V:RV)(S:St)(w:World)(h:π P b tl V S w)(hw:WF S):
  Calls prog 186 #[.pointer (some ⟨b,0,none⟩)] w fun e w'=>Hd P b tl V S.φ w e w':=by
 have Ro:=h.cell 13 _ rfl;have Bq:=h.box.lt;have HH:=γ h;have hqu:=hw.qu;obtain⟨aq,cq,fP⟩ :=κ h.D8;obtain⟨n,hn⟩ :∃n,S.queue.length=n:=⟨_,rfl⟩
 have HN:=γ hn;have aK:Hid (V.D8= .slice aq n cq):=by show _=_;rw[fP,hn]
 rw[fP,hn]at Ro;rw[hn]at hqu;clear fP hn h
 go_enter func186,ntmps186
 go_wp2_with fail
 go_loopw [9] (fun v9 wr=>∃i:Nat,v9= .int .i64 i∧i≤n∧CC P b tl V ((S.queue.take i).foldl St.Φ S) w wr) (fun v9 _=>n - (intOf v9).toNat)
 case atStart=>exact⟨0,rfl,ε,V.out,HH.out,Rf.refl _ _⟩
 case round=>
  obtain⟨i,rfl,hi,vo,hR,hF⟩ :=hrel;have HR:=γ hR;have HF:=γ hF;have aL:=hR.box.lt;have f13:=hR.fz 13 (by decide);have fQ:WF ((S.queue.take i).foldl St.Φ S):=WF.fold _ hw;have Oy:((S.queue.take i).foldl St.Φ S).queue=S.queue:=by
   have key:∀(l:List ByteArray)(T:St),(l.foldl St.Φ T).queue=T.queue:=by
    intro l
    induction l with
    |nil=>intro T;rfl
    |cons x l ih=>intro T;rw[List.foldl_cons,ih];exact(St.Kw T _).2.2.2.2.2.2.2.2.2.2.2.2.2.2.1
   exact key _ _
  have ACt:wr.cell? ⟨b,13,none⟩ =some (.slice aq n cq):=by
   have:=hR.cell 13 _ rfl;rw[this];show some V.D8=_;rw[aK.out]
  by_cases Ac:i<n
  ·have AV:(i:Int)<(n:Int):=by omega
   have h0:(0:Int)≤(i:Int):=by omega
   have BN:i<S.queue.length:=by rw[HN.out];exact Ac
   obtain⟨g,hg,Rp,ct⟩ :∃g,aq=some ⟨g,0,none⟩∧g<wr.heap.size∧wr.cell? ⟨g,i,none⟩ =some (.string S.queue[i]):=by
    have hq:=hR.D8;rw[Oy]at hq;have hq:wr.ownsRow 0 9 1 V.D8 S.queue.length (S.queue.map .string):=hq;rw[aK.out]at hq;obtain⟨g,hg⟩ :∃g,aq=some ⟨g,0,none⟩ :=by
     rcases hq.2 with⟨_,hz⟩ | ⟨g,cap,cur,hv,_⟩
     ·omega
     ·simp at hv;exact⟨g,hv.1⟩
    subst hg;have c1:=hq.cells rfl i (.string S.queue[i]) (by simp[BN]);rw[Addr.add_mid,Nat.zero_add]at c1;exact⟨g,rfl,(hq.lt g rfl).2,c1⟩
   subst hg;have EV:=hw.qt S.queue[i] (List.getElem_mem _);have HT:Hid ((S.queue.take (i+1)).foldl St.Φ S=((S.queue.take i).foldl St.Φ S).Φ S.queue[i]):=Rn _ _ _ _ BN;have fR:=γ fQ;clear Oy fQ hR hF;generalize S.queue[i]=tx at*;generalize(S.queue.take i).foldl St.Φ S=T at*
   go_wp2_with fail
   refine(F4 P b tl (V.Af vo) T tx wr HR.out fR.out (by omega)).mono ?_;rintro e w2 ⟨rfl,hr⟩;have EA:Hid (CC P b tl V ((S.queue.take (i+1)).foldl St.Φ S) w w2):=by
    show CC _ _ _ _ _ _ _;rw[HT.out];exact CC.trans HF.out hr
   clear hr
   go_wp2_with fail
   go_roundw
   case rel=>exact⟨i+1,by go_num,by omega,EA.out⟩
   case measure=>simp[intOf]<;>omega
  ·obtain rfl:i=n:=by omega
   have AV:¬(i:Int)<(i:Int):=by omega
   have HP:Hid (μ P b tl V S.φ w (wr.setCell ⟨b,13,none⟩ (.slice none 0 0))):=by
    show μ _ _ _ _ _ _ _;rw[List.take_of_length_le (by rw[HN.out];exact δ)]at hR;exact μ.trans (V1:=V.Af vo) rfl hF hR.kj
   clear Oy fQ hR hF;go_wp2
   go_end0
   exact⟨rfl,HP.out⟩
theorem FL(P:Value→World→Prop)(b:Nat)(tl:List Value)(V:RV)(S:St)(w:World)(h:π P b tl V S w)(hw:WF S):
  Calls prog 180 #[.pointer (some ⟨b,0,none⟩)] w fun e w'=>Hd P b tl V S.AO w e w':=by
 go_enter func180,ntmps180
 go_wp2_with fail
 refine(FK P b tl V S w h hw).mono ?_;rintro e w2 ⟨rfl,V2,Fw,h2,f2⟩;have l2:=h2.box.lt;have f15:=h2.fz 15 (by decide);have f16:=h2.fz 16 (by decide);have aM:=h2.cell 15 _ rfl;have Xk:=h2.cell 16 _ rfl;have hA:=h2.set 15 (by decide) (.int .i64 0) rfl {S.φ with next:=0} rfl rfl rfl rfl rfl rfl;have hB:=hA.set 16 (by decide) (.int .i64 1) rfl {S.φ with next:=0,asks:=1} rfl rfl rfl rfl rfl rfl;have HR:Hid (μ P b tl V S.AO w ((w2.setCell ⟨b,15,none⟩ (.int .i64 0)).setCell ⟨b,16,none⟩ (.int .i64 1))):=⟨V2,Fw,hB,f2.trans ((Rf.set V2 b 15 _ w2).trans (Rf.set V2 b 16 _ _))⟩
 clear hA hB h2 f2 h Fw;go_wp2
 go_end0
 exact⟨rfl,HR.out⟩
theorem K3(P:Value→World→Prop)(b:Nat)(tl:List Value)(V:RV)(S:St)(w:World)(h:π P b tl V S w)(hw:WF S):
  Calls prog 185 #[.pointer (some ⟨b,0,none⟩)] w fun e w'=>Hd P b tl V S.Am w e w':=by
 go_enter func185,ntmps185
 go_wp2_with fail
 refine(K2 P b tl V S w h hw).mono ?_;rintro e w1 ⟨rfl,v1,h1,f1⟩;clear h
 go_wp2_with fail
 refine(FK P b tl (V.Af v1) S.Ar w1 h1 hw.Ar).mono ?_;rintro e w2 ⟨rfl,V2,Fw,h2,f2⟩;have l2:=h2.box.lt;have f17:=h2.fz 17 (by decide);have QO:=h2.cell 17 _ rfl;have hA:=h2.set 17 (by decide) (.bool true) rfl {S.Ar.φ with over:=true} rfl rfl rfl rfl rfl rfl;have HR:Hid (μ P b tl V S.Am w (w2.setCell ⟨b,17,none⟩ (.bool true))):=⟨V2,Fw,hA,f1.trans (f2.trans (Rf.set V2 b 17 _ w2))⟩
 clear hA h2 f2 f1 h1 Fw;go_wp2
 go_end0
 exact⟨rfl,HR.out⟩
theorem QP(P:Value→World→Prop)(b:Nat)(tl:List Value)(V:RV)(S:St)(w:World)(h:π P b tl V S w)(hw:WF S):
  Calls prog 153 #[.pointer (some ⟨b,0,none⟩)] w fun e w'=>Hd P b tl V S.AW w e w':=by
 have Xk:=h.cell 16 _ rfl;have QO:=h.cell 17 _ rfl;have f17:=h.fz 17 (by decide);have Bq:=h.box.lt;have iW:=hw.ak
 by_cases h1:S.asks=1
 ·have Pr:(((S.asks:Nat):Int)==1)=true:=by simp[h1]
  have hA:=h.set 17 (by decide) (.bool true) rfl {S with over:=true} rfl rfl rfl rfl rfl rfl;have HR:Hid (μ P b tl V S.AW w (w.setCell ⟨b,17,none⟩ (.bool true))):=by
   show μ _ _ _ _ _ _ _;unfold St.AW;rw[if_pos h1];exact⟨V,rfl,hA,Rf.set V b 17 _ w⟩
  clear hA h1 h
  go_enter func153,ntmps153
  go_wp2
  go_end0
  exact⟨rfl,HR.out⟩
 ·have Pr:(((S.asks:Nat):Int)==1)=false:=by simp;omega
  have HD:Hid (S.AW=S.Am):=by show _=_;unfold St.AW;rw[if_neg h1]
  clear h1
  go_enter func153,ntmps153
  go_wp2_with fail
  refine(K3 P b tl V S w h hw).mono ?_;rintro e w2 ⟨rfl,hr⟩;have HR:Hid (μ P b tl V S.AW w w2):=by show μ _ _ _ _ _ _ _;rw[HD.out];exact hr
  clear hr h;go_wp2
  go_end0
  exact⟨rfl,HR.out⟩
theorem FM{P:Value→World→Prop}{b:Nat}{tl:List Value}{V:RV}{S:St}{w:World}(h:π P b tl V S w)(k:Nat)(hk:ρ b V k):k<w.heap.size:=by
 rcases hk with rfl|hk|hk|hk
 ·exact h.box.lt
 ·exact(h.out.lt k hk).2
 ·exact(h.AM.lt k hk).2
 ·exact(h.D8.lt k hk).2
def tw(t:List UInt8)(n:Nat):Nat:=((t.drop n).takeWhile (fun c=>c.toNat !=10)).length
theorem qc(s:ByteArray)(n:Nat)(h:n<s.size):tw s.data.toList n=if s[n].toNat=10 then 0 else tw s.data.toList (n+1)+1:=by
 unfold tw;rw[Ap s n h,List.takeWhile_cons]
 by_cases e:s[n].toNat=10
 ·rw[if_pos e];simp[e]
 ·rw[if_neg e]
  have:(s[n].toNat !=10)=true:=by simpa using e
  rw[this];rfl
theorem xO(s:ByteArray)(n:Nat)(h:s.size≤n):tw s.data.toList n=0:=by
 unfold tw;rw[List.drop_of_length_le (by rw[Δ];exact h)];rfl
theorem K4(P:Value→World→Prop)(b:Nat)(tl:List Value)(V:RV)(S:St)(w:World)(h:π P b tl V S w)(hw:WF S):
  Calls prog 184 #[.pointer (some ⟨b,5,none⟩)] w fun e w'=>e= .returned (.int .i64 (S.Bj:Nat))∧w'=w:=by
 have c5:=h.cell 5 _ rfl;have c7:=h.cell 7 _ rfl;have Bq:=h.box.lt;have ML:=hw.tx;have km:=hw.bh;have HL:Hid (S.Bj=S.behind+tw S.text.data.toList S.behind):=rfl;generalize S.Bj=L at*;generalize S.behind=k at*;generalize S.text=s at*;clear h hw
 go_enter func184,ntmps184
 go_wp2_with fail
 go_loop [3] (fun v3=>∃n:Nat,v3= .int .i64 n∧n≤s.size∧Hid (L=n+tw s.data.toList n)) (fun v3=>s.size - (intOf v3).toNat)
 case atStart=>exact⟨k,rfl,km,HL⟩
 case round=>
  obtain⟨n,rfl,TP,HT⟩ :=hrel
  by_cases Ac:n<s.size
  ·have AV:(n:Int)<(s.size:Int):=by omega
   have Er:=qc s n Ac;obtain⟨x,hx⟩ :∃x:Nat,s[n].toNat=x:=⟨_,rfl⟩
   have FT:x<256:=by rw[←hx];exact s[n].toNat_lt
   rw[hx]at Er
   by_cases Ff:x=10
   ·have aD:((x:Int) !=10)=false:=by simp[Ff]
    have HF:Hid (L=n):=by show _=_;rw[HT.out,Er,if_pos Ff];rfl
    clear Ff HT Er;go_wp2;go_ret;exact⟨by rw[HF.out];rfl,rfl⟩
   ·have aD:((x:Int) !=10)=true:=by simp;omega
    have HF:Hid (L=(n+1)+tw s.data.toList (n+1)):=by show _=_;rw[HT.out,Er,if_neg Ff];omega
    clear Ff HT Er;go_wp2
    go_round
    case rel=>exact⟨n+1,by go_num,by omega,HF⟩
    case measure=>simp[intOf]<;>omega
  ·obtain rfl:n=s.size:=by omega
   have AV:¬(s.size:Int)<(s.size:Int):=by omega
   have HF:Hid (L=s.size):=by show _=_;rw[HT.out,xO s s.size δ];rfl
   clear HT;go_wp2;go_ret;exact⟨by rw[HF.out];rfl,rfl⟩
theorem aN(P:Value→World→Prop)(b:Nat)(tl:List Value)(V:RV)(S:St)(w:World)(h:π P b tl V S w)(hw:WF S):
  Calls prog 152 #[.pointer (some ⟨b,5,none⟩)] w fun e w'=>e= .returned (.int .i64 (S.ask:Nat))∧Below w.heap.size w w':=by
 have c5:=h.cell 5 _ rfl;have c6:=h.cell 6 _ rfl;have c7:=h.cell 7 _ rfl;have Bq:=h.box.lt;have ML:=hw.tx;have km:=hw.bh;have OQ:=(St.Nj S km)
 have HA:Hid (S.ask=if S.closed=false∧S.text.size<S.Bj+2 then 2 else if S.text.size≤S.behind then 3 else 1):=rfl;have HC:=K4 P b tl V S w h hw;generalize S.ask=A at*;generalize S.Bj=L at*;generalize S.behind=k at*;generalize S.text=s at*;generalize S.closed=cl at*;clear h hw
 go_enter func152,ntmps152
 go_wp2_with fail
 refine HC.mono ?_;clear HC;rintro e w2 ⟨rfl,rfl⟩
 by_cases h1:cl=false∧s.size<L+2
 ·obtain⟨rfl,h2⟩ :=h1
  have qd:((s.size:Int) - (L:Int))<2:=by omega
  have HF:Hid (A=2):=by show _=_;rw[HA.out,if_pos ⟨rfl,h2⟩]
  clear HA;go_wp2;go_ret;exact⟨by rw[HF.out];rfl,ζ⟩
 ·have Hy:Hid (A=if s.size≤k then 3 else 1):=by show _=_;rw[HA.out,if_neg h1]
  have EK:cl=true∨(cl=false∧¬((s.size:Int) - (L:Int))<2):=by
   cases cl
   ·right;refine⟨rfl,fun h=>h1 ⟨rfl,by omega⟩⟩
   ·exact .inl rfl
  clear HA h1
  by_cases hk:s.size≤k
  ·have EW:(s.size:Int)≤(k:Int):=by omega
   have HF:Hid (A=3):=by show _=_;rw[Hy.out,if_pos hk]
   clear Hy;rcases EK with rfl| ⟨rfl,h3⟩
   ·go_wp2_with fail
    go_region
    go_wp2;go_ret;exact⟨by rw[HF.out];rfl,ζ.drew⟩
   ·exfalso;omega
  ·have EW:¬(s.size:Int)≤(k:Int):=by omega
   have HF:Hid (A=1):=by show _=_;rw[Hy.out,if_neg hk]
   clear Hy;rcases EK with rfl| ⟨rfl,h3⟩
   all_goals
    go_wp2_with fail
    go_region
    go_wp2;go_ret;exact⟨by rw[HF.out];rfl,ζ.drew⟩
theorem Te(P:Value→World→Prop)(b:Nat)(tl:List Value)(V:RV)(S:St)(w:World)(h:π P b tl V S w)(hw:WF S):
  Calls prog 237 #[.pointer (some ⟨b,5,none⟩)] w fun e w'=>e= .returned (.bool S.Ov)∧Below w.heap.size w w':=by
 have c5:=h.cell 5 _ rfl;have c7:=h.cell 7 _ rfl;have Bq:=h.box.lt;have ML:=hw.tx;have km:=hw.bh;have HA:Hid (S.Ov=decide (S.text.size≤S.behind)):=rfl;generalize S.Ov=A at*;generalize S.behind=k at*;generalize S.text=s at*;clear h hw
 by_cases hk:s.size≤k
 ·have EW:(s.size:Int)≤(k:Int):=by omega
  have HF:Hid (A=true):=by show _=_;rw[HA.out,decide_eq_true hk]
  clear HA
  go_enter func237,ntmps237
  go_wp2_with fail
  go_region
  go_wp2;go_ret;exact⟨by rw[HF.out];rfl,ζ.drew⟩
 ·have EW:¬(s.size:Int)≤(k:Int):=by omega
  have HF:Hid (A=false):=by show _=_;rw[HA.out,decide_eq_false hk]
  clear HA
  go_enter func237,ntmps237
  go_wp2_with fail
  go_region
  go_wp2;go_ret;exact⟨by rw[HF.out];rfl,ζ.drew⟩
theorem Xl(s:ByteArray)(k i:Nat)(hk:k≤i)(h:i<s.size):(((s.data.toList.drop k).take (i+1 - k)).zipIdx k).map (fun p=>(p.1,(p.2:Int)))=(((s.data.toList.drop k).take (i - k)).zipIdx k).map (fun p=>(p.1,(p.2:Int)))++ [(s[i],(i:Int))]:=by
 have e:i+1 - k=(i - k)+1:=by omega
 have hl:i - k<(s.data.toList.drop k).length:=by rw[List.length_drop,Δ];omega
 rw[e,List.take_add_one,List.getElem?_eq_getElem hl,List.getElem_drop,List.zipIdx_append,List.map_append]
 congr 1
 have e2:((s.data.toList.drop k).take (i - k)).length=i - k:=by rw[List.length_take];omega
 rw[e2];have e3:k+(i - k)=i:=by omega
 simp only[Option.toList,List.zipIdx_cons,List.zipIdx_nil,List.map_cons,List.map_nil]
 congr 1
 have e4:∀q(hq:q<s.data.toList.length),q=i→(s.data.toList[q],((q:Nat):Int))=(s[i],(i:Int)):=fun q hq e=>by subst e;rfl
 exact e4 _ _ e3
def aO(P:Value→World→Prop)(b:Nat)(tl:List Value)(V:RV)(S:St)(w:World)(e:Ending)(w':World):Prop:=∃v,e= .returned v∧w'.ownsRow w.heap.size 230 2 v S.Θ.length (Cn S.Θ)∧π P b tl V S.took w'∧Rf (ρ b V) (ρ b V) w w'
theorem Xm(P:Value→World→Prop)(b:Nat)(tl:List Value)(V:RV)(S:St)(w:World)(h:π P b tl V S w)(hw:WF S):
  Calls prog 188 #[.pointer (some ⟨b,5,none⟩)] w fun e w'=>aO P b tl V S w e w':=by
 have c5:=h.cell 5 _ rfl;have c7:=h.cell 7 _ rfl;have Bq:=h.box.lt;have ML:=hw.tx;have km:=hw.bh;obtain⟨Ks,iY⟩ :=St.Nj S km;have ZL:Hid (S.Θ=(((S.text.data.toList.drop S.behind).take (S.Bj - S.behind)).zipIdx S.behind).map (fun p=>(p.1,(p.2:Int)))):=rfl;have PD:Hid (S.Θ.length=S.Bj - S.behind):=by
  show _=_;rw[ZL.out,List.length_map,List.length_zipIdx,List.length_take,List.length_drop,Δ];omega
 have HH:=γ h;have HC:=K4 P b tl V S w h hw;obtain⟨L,hL⟩ :∃L,S.Bj=L:=⟨_,rfl⟩
 obtain⟨k,hk⟩ :∃k,S.behind=k:=⟨_,rfl⟩
 obtain⟨s,hs⟩ :∃s,S.text=s:=⟨_,rfl⟩
 have OS:=γ hL;have ud:=γ hs;rw[hL]at HC Ks iY ZL PD;rw[hk]at c7 km Ks ZL PD;rw[hs]at c5 ML km iY ZL;clear hL hk hs h
 go_enter func188,ntmps188
 go_wp2_with fail
 refine HC.mono ?_;clear HC;rintro e w2 ⟨rfl,rfl⟩
 go_wp2_with fail
 go_loopw [4,5] (fun v4 v5 wr=>∃i:Nat,v5= .int .i64 i∧k≤i∧i≤L∧wr.ownsRow w2.heap.size 230 2 v4 (i - k) (Cn ((((s.data.toList.drop k).take (i - k)).zipIdx k).map (fun p=>(p.1,(p.2:Int)))))∧Below w2.heap.size w2 wr) (fun _ v5 _=>L - (intOf v5).toNat)
 case atStart=>
  refine⟨k,rfl,δ,Ks,?_,ζ⟩;rw[Nat.sub_self,List.take_zero];exact World.ownsRow_nil _ _ _ _
 case round=>
  obtain⟨i,rfl,dA,BN,ν,hB⟩ :=hrel;obtain⟨av,cv,CX⟩ :=κ ν;subst CX;have K1:=hB.size;have d5:=(hB.cell (by exact Bq)).trans c5;have aL:b<wr.heap.size:=by omega
  by_cases Ac:i<L
  ·have AV:(i:Int)<(L:Int):=by omega
   have Pn:i<s.size:=by omega
   have AFM:(i:Int)<(s.size:Int):=by omega
   have HT:Hid (Cn ((((s.data.toList.drop k).take (i+1 - k)).zipIdx k).map (fun p=>(p.1,(p.2:Int))))=Cn ((((s.data.toList.drop k).take (i - k)).zipIdx k).map (fun p=>(p.1,(p.2:Int))))++ [.int .u8 (s[i].toNat:Int),.int .i64 (i:Int)]):=by
    show _=_;rw[Xl s k i dA Pn,Cf];rfl
   obtain⟨x,hx⟩ :∃x:Nat,s[i].toNat=x:=⟨_,rfl⟩
   have FT:x<256:=by rw[←hx];exact s[i].toNat_lt
   rw[hx]at HT
   go_wp2_with(first
    |refine Bz Jp rfl _ rfl [.int .u8 x,.int .i64 (i:Int)] rfl rfl ?_
    | (refine A8 Jp (ν.alloc _) wr.heap.size [.int .u8 x,.int .i64 (i:Int)] (heap_alloc_new wr _) rfl (by simp[Value.oneCell']) (by omega) (by simp;omega) rfl _ _ rfl rfl rfl ?_
       intro v' w6 Aa AK;have Eg:Below w2.heap.size w2 w6:=(hB.alloc (by omega) _).grown AK (by simp;omega) (fun k hk=>(ν.lt k hk).1);obtain⟨NF,JV,CX⟩ :=κ Aa;subst CX;clear AK))
   go_roundw
   case rel=>
    refine⟨i+1,by go_num,by omega,by omega,?_,Eg⟩;rw[HT.out];have e9:i+1 - k=i - k+1:=by omega
    rw[e9];exact Aa
   case measure=>simp[intOf]<;>omega
  ·obtain rfl:i=L:=by omega
   have AV:¬(i:Int)<(i:Int):=by omega
   have h1:=HH.out.below hB;have f8:=h1.fz 8 (by decide);have f7:=h1.fz 7 (by decide);have d8:=h1.cell 8 _ rfl;have d7:=h1.cell 7 _ rfl;have kn:wr.ownsRow w2.heap.size 230 2 (.slice av (i - k) cv) S.Θ.length (Cn S.Θ):=by
    rw[PD.out,ZL.out];exact ν
   have hA:=h1.set 8 (by decide) (.int .i64 (-1)) rfl {S with nl:= -1} rfl rfl rfl rfl rfl rfl;have VW:=hA.set 7 (by decide) (.int .i64 (i:Nat)) rfl {S with nl:= -1,behind:=i} rfl rfl rfl rfl rfl rfl;have ie:((wr.setCell ⟨b,8,none⟩ (.int .i64 (-1))).setCell ⟨b,7,none⟩ (.int .i64 (i:Nat))).ownsRow w2.heap.size 230 2 (.slice av (i - k) cv) S.Θ.length (Cn S.Θ):=ownsRow_setCell_below (ownsRow_setCell_below kn (by simp;omega) _) (by simp;omega) _;have F2:Rf (ρ b V) (ρ b V) w2 ((wr.setCell ⟨b,8,none⟩ (.int .i64 (-1))).setCell ⟨b,7,none⟩ (.int .i64 (i:Nat))):=(Rf.η hB).trans ((Rf.set V b 8 _ wr).trans (Rf.set V b 7 _ _))
   by_cases hls:i<s.size
   ·have xP:(i:Int)<(s.size:Int):=by omega
    have aP:=VW.set 8 (by decide) (.int .i64 (i:Nat)) rfl {S with nl:=(i:Nat),behind:=i} rfl rfl rfl rfl rfl rfl;have ko:=aP.set 7 (by decide) (.int .i64 ((i:Int)+1)) rfl {S with nl:=(i:Nat),behind:=i+1} rfl rfl rfl rfl rfl rfl;have HP:Hid (aO P b tl V S w2 (.returned (.slice av (i - k) cv)) ((((wr.setCell ⟨b,8,none⟩ (.int .i64 (-1))).setCell ⟨b,7,none⟩ (.int .i64 (i:Nat))).setCell ⟨b,8,none⟩ (.int .i64 (i:Nat))).setCell ⟨b,7,none⟩ (.int .i64 ((i:Int)+1)))):=by
     refine⟨_,rfl,ownsRow_setCell_below (ownsRow_setCell_below ie (by simp;omega) _) (by simp;omega) _,?_,F2.trans ((Rf.set V b 8 _ _).trans (Rf.set V b 7 _ _))⟩;unfold St.took;rw[if_pos (by rw[OS.out,ud.out];exact hls),OS.out];exact ko
    clear hA VW aP ko h1 ν kn ie F2;go_wp2;go_ret;exact HP.out
   ·have xP:¬(i:Int)<(s.size:Int):=by omega
    have HP:Hid (aO P b tl V S w2 (.returned (.slice av (i - k) cv)) ((wr.setCell ⟨b,8,none⟩ (.int .i64 (-1))).setCell ⟨b,7,none⟩ (.int .i64 (i:Nat)))):=by
     refine⟨_,rfl,ie,?_,F2⟩;unfold St.took;rw[if_neg (by rw[OS.out,ud.out];exact hls),OS.out];exact VW
    clear hA VW h1 ν kn ie F2;go_wp2;go_ret;exact HP.out
section
variable {P : Value → World → Prop} {b : Nat} {tl : List Value} {V : RV} {S : St} {w w' : World}
theorem ψ.one{v:Value}{l:List Cl}(h:ψ w v l):v.oneCell'=true:=by
 obtain⟨a,c,rfl,_⟩ :=h
 rfl
theorem π.GX(h:π P b tl V S w)(v:Value)(l:List Cl)(hs:Av (ρ b V) w (fun w=>ψ w v l)):μ P b tl V {S with pat:=l} w (w.setCell ⟨b,10,none⟩ v):=by
 refine⟨⟨V.AZ,V.AM,V.out,v,V.hold,V.D8⟩,rfl,?_⟩;have f1:Rf (ρ b V) (ρ b ⟨V.AZ,V.AM,V.out,v,V.hold,V.D8⟩) w (w.setCell ⟨b,10,none⟩ v):=Rf.set V b 10 v w;have hk:∀k,k≠b→(w.setCell ⟨b,10,none⟩ v).heap[k]? =w.heap[k]? :=fun k hk=>heap_setCell_other w _ k _ hk
 refine⟨⟨?_,?_,?_,?_,h.so,h.sr,h.sq,h.AZ.fr f1,hs.fr f1,h.hold.fr f1,h.one⟩,f1⟩
 ·have h1:=h.box.set 10 (by rw[List.length_append,CY];omega) v hs.out.one
  rw[List.set_append_left _ _ (by rw[CY];omega)]at h1;exact h1
 ·exact Ab (F:=ρ b V) (G:=ρ b V) h.out (fun k e=>hk k (fun e'=>h.so (e'▸e)))
 ·exact Ab (F:=ρ b V) (G:=ρ b V) h.AM (fun k e=>hk k (fun e'=>h.sr (e'▸e)))
 ·exact Ab (F:=ρ b V) (G:=ρ b V) h.D8 (fun k e=>hk k (fun e'=>h.sq (e'▸e)))
theorem π.Nq(h:π P b tl V S w)(v:Value)(l:List Cl)(hs:Av (ρ b V) w (fun w=>ψ w v l)):μ P b tl V {S with hold:=l} w (w.setCell ⟨b,11,none⟩ v):=by
 refine⟨⟨V.AZ,V.AM,V.out,V.pat,v,V.D8⟩,rfl,?_⟩;have f1:Rf (ρ b V) (ρ b ⟨V.AZ,V.AM,V.out,V.pat,v,V.D8⟩) w (w.setCell ⟨b,11,none⟩ v):=Rf.set V b 11 v w;have hk:∀k,k≠b→(w.setCell ⟨b,11,none⟩ v).heap[k]? =w.heap[k]? :=fun k hk=>heap_setCell_other w _ k _ hk
 refine⟨⟨?_,?_,?_,?_,h.so,h.sr,h.sq,h.AZ.fr f1,h.pat.fr f1,hs.fr f1,h.one⟩,f1⟩
 ·have h1:=h.box.set 11 (by rw[List.length_append,CY];omega) v hs.out.one
  rw[List.set_append_left _ _ (by rw[CY];omega)]at h1;exact h1
 ·exact Ab (F:=ρ b V) (G:=ρ b V) h.out (fun k e=>hk k (fun e'=>h.so (e'▸e)))
 ·exact Ab (F:=ρ b V) (G:=ρ b V) h.AM (fun k e=>hk k (fun e'=>h.sr (e'▸e)))
 ·exact Ab (F:=ρ b V) (G:=ρ b V) h.D8 (fun k e=>hk k (fun e'=>h.sq (e'▸e)))
theorem JB{B:Nat}{v:Value}{l:List Cl}{F:Nat→Prop}(h:w'.ownsRow B 230 2 v l.length (Cn l))(hF:∀k,F k→k<B):Av F w' (fun w=>ψ w v l):=by
 refine Av.AAZ (ψ.own h) (fun g o n c hv hg=> ?_);subst hv;have:=hF g hg;rcases h.2 with⟨h1,_⟩ | ⟨g',cap,cur,h1,h2,_⟩
 ·cases h1
 ·cases h1
  omega
end
def FN(S:St):St:=if S.asks=2 then({S with asks:=0}:St).Ar else{S with asks:=0}
def Xn(S T:St):List Cl:=if S.asks=3 then AJ T.pat (C4 T.nl) T.Θ else T.Θ
def Hh(S T:St):St:= {T.took with line:=T.line+1,mark:=false}
theorem qe(S:St):S.take=if(Hh S (FN S).φ).fits (Xn S (FN S).φ).length then{Hh S (FN S).φ with pat:=Xn S (FN S).φ}else(Hh S (FN S).φ).die 5:=rfl
theorem aQ(P:Value→World→Prop)(b:Nat)(tl:List Value)(V:RV)(S:St)(w:World)(h:π P b tl V S w)(hw:WF S):
  Calls prog 154 #[.pointer (some ⟨b,0,none⟩)] w fun e w'=>Hd P b tl V S.take w e w':=by
 have Xk:=h.cell 16 _ rfl;have f16:=h.fz 16 (by decide);have Bq:=h.box.lt;have iW:=hw.ak;have hA:=h.set 16 (by decide) (.int .i64 0) rfl {S with asks:=0} rfl rfl rfl rfl rfl rfl;have HA:=γ hA;have Tf:Hid (Rf (ρ b V) (ρ b V) w (w.setCell ⟨b,16,none⟩ (.int .i64 0))):=Rf.set V b 16 _ w;have xQ:WF {S with asks:=0}:= {hw with ak:=ε}
 have fQ:WF (FN S):=by
  unfold FN;split
  ·exact xQ.Ar
  ·exact xQ
 have xR:=γ (qe S);have HTA:Hid (FN S=if S.asks=2 then({S with asks:=0}:St).Ar else{S with asks:=0}):=rfl;have Qm:Hid (∀T,Xn S T=if S.asks=3 then AJ T.pat (C4 T.nl) T.Θ else T.Θ):=fun _=>rfl
 obtain⟨q,hq⟩ :∃q,S.asks=q:=⟨_,rfl⟩
 rw[hq]at Xk iW HTA Qm;clear hA h hq
 go_enter func154,ntmps154
 go_upto_if 13 with fail
 go_cut [] (fun wx=>CC P b tl V (FN S) w wx)
 case first=>
  by_cases h2:q=2
  ·have qd:((q:Int)==2)=true:=by simp[h2]
   rw[if_pos h2]at HTA;clear h2
   go_wp2_with fail
   refine(K2 P b tl V _ _ HA.out xQ).mono ?_;rintro e w2 ⟨rfl,hr⟩;have HR:Hid (CC P b tl V (FN S) w w2):=by show CC _ _ _ _ _ _ _;rw[HTA.out];exact CC.pre Tf.out hr
   clear hr;go_wp2
   go_meet
   exact HR.out
  ·have qd:((q:Int)==2)=false:=by simp;omega
   rw[if_neg h2]at HTA;have HR:Hid (CC P b tl V (FN S) w (w.setCell ⟨b,16,none⟩ (.int .i64 0))):=by show CC _ _ _ _ _ _ _;rw[HTA.out];exact⟨V.out,HA.out,Tf.out⟩
   clear h2;go_wp2
   go_meet
   exact HR.out
 case rest=>
  obtain⟨vo,Ds,JW⟩ :=hcut;clear HA Tf HTA
  go_wp2_with fail
  refine(FK P b tl (V.Af vo) (FN S) _ Ds fQ).mono ?_;rintro e w3 ⟨rfl,V3,H4,KP,TD⟩;have OT:=γ (JW.trans TD);have xS:WF (FN S).φ:=fQ.φ;obtain⟨T,hT⟩ :∃T,(FN S).φ=T:=⟨_,rfl⟩
  rw[hT]at KP xR xS;have c8:=KP.cell 8 _ rfl;have CM:=KP.box.lt;have Ge:=γ KP;clear Ds JW TD hT KP
  go_wp2_with fail
  refine(Bb T.nl w3).mono ?_;rintro e w4 ⟨rfl,B4⟩;have B5:Below w3.heap.size w3 (w4.alloc (.cells #[.int .u8 10,.int .i64 T.nl] 230)):=B4.alloc B4.size _;have Io:CB (w4.alloc (.cells #[.int .u8 10,.int .i64 T.nl] 230)) w4.heap.size [.int .u8 10,.int .i64 T.nl]:=CB.new w4 _ #[.int .u8 10,.int .i64 T.nl] (by simp[Value.oneCell']);have h5:=Ge.out.below B5;have ue:=γ h5;have BP:=h5.box.lt;have Kh:=B4.size;clear h5
  go_wp2_with fail
  refine(Xm P b tl V3 T _ ue.out xS).mono ?_;rintro e w6 ⟨v6,rfl,Aa,Qq,Qr⟩;have hfn:¬ρ b V3 w4.heap.size:=fun hf=>by have:=FM Ge.out _ hf;omega
  have AAa:=Io.keep (Qr.block _ Io.lt hfn) Qr.size;have OU:=Qq.cell 12 _ rfl;have f12:=Qq.fz 12 (by decide);have f14:=Qq.fz 14 (by decide);have QQ:=Qq.cell 14 _ rfl;have GN:=Qq.box.lt;have ck:=xS.li;have km:=xS.bh;have ML:=xS.tx;have qJ:T.took.line=T.line:=by unfold St.took;split<;>rfl
  have AFN:w6.cell? ⟨b,12,none⟩ =some (.int .i64 (T.line:Nat)):=by rw[OU,qJ]
  have hA:=Qq.set 12 (by decide) (.int .i64 ((T.line:Int)+1)) rfl {T.took with line:=T.line+1} rfl rfl rfl rfl rfl rfl;have hB:=hA.set 14 (by decide) (.bool false) rfl (Hh S T) rfl rfl rfl rfl rfl rfl;have LY:=Qr.size;have AAb:w4.heap.size≠b:=by omega
  have kq:=(AAa.keep (w':=w6.setCell ⟨b,12,none⟩ (.int .i64 ((T.line:Int)+1))) (heap_setCell_other w6 _ _ _ AAb) (by simp)).keep (w':=(w6.setCell ⟨b,12,none⟩ (.int .i64 ((T.line:Int)+1))).setCell ⟨b,14,none⟩ (.bool false)) (heap_setCell_other _ _ _ _ AAb) (by simp);have DU:((w6.setCell ⟨b,12,none⟩ (.int .i64 ((T.line:Int)+1))).setCell ⟨b,14,none⟩ (.bool false)).ownsRow w3.heap.size 230 2 v6 T.Θ.length (Cn T.Θ):=ownsRow_setCell_below (ownsRow_setCell_below (AH Aa (by simp;omega)) (by exact CM) _) (by exact CM) _;have HF7:Hid (Rf (ρ b V) (ρ b V3) w ((w6.setCell ⟨b,12,none⟩ (.int .i64 ((T.line:Int)+1))).setCell ⟨b,14,none⟩ (.bool false))):=OT.out.trans ((Rf.η B5).trans (Qr.trans ((Rf.set V3 b 12 _ _).trans (Rf.set V3 b 14 _ _))));have HR7:=γ hB;obtain⟨a6,c6,aR⟩ :=κ Aa;subst aR;have PD:Hid (T.Θ.length≤4096):=by
   show _≤_;unfold St.Θ;rw[List.length_map,List.length_zipIdx,List.length_take,List.length_drop,Δ];omega
  clear hA hB Qq Qr OU qJ Io AAa Aa ue;have hzr:(Hh S T).room≤256:=by
   have h9:=xS.rm;have e9:(Hh S T).room=T.room:=by show T.took.room=_;unfold St.took;split<;>rfl
   rw[e9];exact h9
  have qf:V3.AZ=V.AZ:=H4;have HZP:Hid ((Hh S T).pat=T.pat):=by show T.took.pat=_;unfold St.took;split<;>rfl
  have AAc:∀k,ρ b V3 k→k<w3.heap.size:=fun k hk=>FM Ge.out k hk
  have Xj:=xS.pa
  by_cases h3:q=3
  ·have h31:((q:Int)==3)=true:=by simp[h3]
   have dB:=HR7.out.pat.out;rw[HZP.out]at dB;obtain⟨ap,cp,EO,_⟩ :=dB.form;have FJ:=HR7.out.cell 10 _ rfl;rw[EO]at FJ dB;have KH:=HR7.out.box.lt;have d0:=kq.c 0 _ rfl;have d1:=kq.c 1 _ rfl;have l4:=kq.lt;have DC:=ψ.own DU;have xT:=γ h3;clear h3
   go_wp2_with fail
   generalize(w6.setCell ⟨b,12,none⟩ (.int .i64 ((T.line:Int)+1))).setCell ⟨b,14,none⟩ (.bool false)=W7 at*;have B7:Below W7.heap.size W7 W7.drew:=ζ.drew;have AAd:=dB.drew;have AAe:=DC.drew
   go_region_held3(fun w'=>w'.cell? ⟨b,10,none⟩ =some (.slice ap T.pat.length cp)∧w'.cell? ⟨w4.heap.size,0,none⟩ =some (.int .u8 10)∧w'.cell? ⟨w4.heap.size,1,none⟩ =some (.int .i64 T.nl)∧b<w'.heap.size∧w4.heap.size<w'.heap.size)
    (first
     |go_keep
     | (go_split_ands
        refine⟨?_,?_,?_,?_,?_⟩
        ·(rw[ξ.cell (by assumption)];assumption)
        ·(rw[ξ.cell (by assumption)];assumption)
        ·(rw[ξ.cell (by assumption)];assumption)
        ·(have:=ξ.size;omega)
        ·(have:=ξ.size;omega)))
    (first
     | (go_at_call 189;refine(Eb _ _ T.pat T.Θ 10 T.nl 10 _ rfl AAd AAe (by have:=PD.out;omega)).mono ?_;rintro e w8 ⟨v8,rfl,D9,ξ⟩;have B8:=ξ))
   have aT:w8.ownsRow W7.heap.size 230 2 v8 (AJ T.pat (C4 T.nl) T.Θ).length (Cn (AJ T.pat (C4 T.nl) T.Θ)):=D9;obtain⟨a8,c8',xU⟩ :=κ aT;subst xU;have qg:Below W7.heap.size W7 w8:=BC B7 B8;have hR8:=HR7.out.below qg;have Xo:Av (ρ b V3) w8 (fun w=>ψ w (.slice a8 (AJ T.pat (C4 T.nl) T.Θ).length c8') (AJ T.pat (C4 T.nl) T.Θ)):=JB aT (fun k hk=>FM HR7.out k hk);have xV:Hid ((AJ T.pat (C4 T.nl) T.Θ).length≤5000):=by
    show _≤_;unfold AJ;rw[List.length_append,List.length_append];have:=PD.out;simp;omega
   have HF8:Hid (Rf (ρ b V) (ρ b V3) w w8):=HF7.out.trans (.η qg);clear D9 aT dB DC AAd AAe EO kq DU
   go_wp2_with fail
   refine(GG P b tl V3 (Hh S T) (AJ T.pat (C4 T.nl) T.Θ).length _ hR8 hzr (by have:=xV.out;omega)).mono ?_;rintro e w9 ⟨rfl,V9,VX,GY,Mn⟩;have CR:=(Xo).fr Mn;cases KC:(Hh S T).fits (AJ T.pat (C4 T.nl) T.Θ).length
   ·rw[KC,if_neg (by decide)]at GY
    have HF:Hid (μ P b tl V S.take w w9):=by
     show μ _ _ _ _ _ _ _;rw[xR.out,Qm.out,xT.out,if_pos rfl,KC,if_neg (by decide)];exact⟨V9,VX.trans qf,GY,HF8.out.trans Mn⟩
    clear KC GY Mn CR;go_wp2
    go_end0
    exact⟨rfl,HF.out⟩
   ·rw[KC,if_pos rfl]at GY
    have l9:=GY.box.lt;have f10:=GY.fz 10 (by decide);have FJ:=GY.cell 10 _ rfl;have KM:=GY.GX _ _ CR;have HF:Hid (μ P b tl V S.take w (w9.setCell ⟨b,10,none⟩ (.slice a8 (AJ T.pat (C4 T.nl) T.Θ).length c8'))):=by
     show μ _ _ _ _ _ _ _;rw[xR.out,Qm.out,xT.out,if_pos rfl,KC,if_pos rfl];exact μ.trans (VX.trans qf) (HF8.out.trans Mn) KM
    clear KC GY Mn CR KM;go_wp2
    go_end0
    exact⟨rfl,HF.out⟩
  ·have h31:((q:Int)==3)=false:=by simp;omega
   have xT:Hid (¬q=3):=h3;have Xo:Av (ρ b V3) ((w6.setCell ⟨b,12,none⟩ (.int .i64 ((T.line:Int)+1))).setCell ⟨b,14,none⟩ (.bool false)) (fun w=>ψ w (.slice a6 T.Θ.length c6) T.Θ):=JB DU AAc;clear h3 kq DU
   go_wp2_with fail
   generalize(w6.setCell ⟨b,12,none⟩ (.int .i64 ((T.line:Int)+1))).setCell ⟨b,14,none⟩ (.bool false)=W7 at*;refine(GG P b tl V3 (Hh S T) T.Θ.length _ HR7.out hzr (by have:=PD.out;omega)).mono ?_;rintro e w9 ⟨rfl,V9,VX,GY,Mn⟩;have CR:=(Xo).fr Mn;cases KC:(Hh S T).fits T.Θ.length
   ·rw[KC,if_neg (by decide)]at GY
    have HF:Hid (μ P b tl V S.take w w9):=by
     show μ _ _ _ _ _ _ _;rw[xR.out,Qm.out,if_neg xT.out,KC,if_neg (by decide)];exact⟨V9,VX.trans qf,GY,HF7.out.trans Mn⟩
    clear KC GY Mn CR;go_wp2
    go_end0
    exact⟨rfl,HF.out⟩
   ·rw[KC,if_pos rfl]at GY
    have l9:=GY.box.lt;have f10:=GY.fz 10 (by decide);have FJ:=GY.cell 10 _ rfl;have KM:=GY.GX _ _ CR;have HF:Hid (μ P b tl V S.take w (w9.setCell ⟨b,10,none⟩ (.slice a6 T.Θ.length c6))):=by
     show μ _ _ _ _ _ _ _;rw[xR.out,Qm.out,if_neg xT.out,KC,if_pos rfl];exact μ.trans (VX.trans qf) (HF7.out.trans Mn) KM
    clear KC GY Mn CR KM;go_wp2
    go_end0
    exact⟨rfl,HF.out⟩
end Go.Proofs.YtlppphmnegdhoabGreatDoor
