import Derived.Test.YtlppphmnegdhoabGreatDoorMz36
set_option linter.unusedVariables false
set_option maxRecDepth 100000
set_option maxHeartbeats 2000000
namespace Go.Proofs.YtlppphmnegdhoabGreatDoor
open Go.Proofs.Tryz
open Go.RowKit
open M
structure DV where
 AZ:Value
 AM:Value
 pat:Value
 hold:Value
 D8:Value
 out:Value
def pZ(V:DV)(D:DS):List Value:= [.string D.text,.bool D.closed,.bool D.quiet,.int .i64 (D.steps:Nat),.int .i64 (D.room:Nat),V.AZ,V.AM,V.pat,V.hold,.int .i64 (D.line:Nat),.bool D.last,.int .i64 D.nl,.int .i64 (D.at':Nat),V.D8,.bool D.mark,.int .i64 (D.used:Nat),V.out,.int .i64 (D.state:Nat),.int .i64 (D.err:Nat)]
theorem J0(V:DV)(D:DS):(pZ V D).length=19:=rfl
def χ(b:Nat)(V:DV)(k:Nat):Prop:=k=b∨V.AM.ownBlock=some k∨V.D8.ownBlock=some k
structure AD(P:Value→World→Prop)(b:Nat)(V:DV)(D:DS)(w:World):Prop where
 box:CB w b (pZ V D)
 AM:w.ownsRow 0 4 1 V.AM D.AM.length (D.AM.map .bool)
 D8:w.ownsRow 0 9 1 V.D8 D.queue.length (D.queue.map .string)
 sr:V.AM.ownBlock≠some b
 sq:V.D8.ownBlock≠some b
 AZ:Av (χ b V) w (P V.AZ)
 pat:Av (χ b V) w (fun w=>ψ w V.pat D.pat)
 hold:Av (χ b V) w (fun w=>ψ w V.hold D.hold)
 out:Av (χ b V) w (fun w=>ψ w V.out D.out)
 one:V.AZ.oneCell'=true
section
variable {P : Value → World → Prop} {b : Nat} {V : DV} {D : DS} {w w' : World}
theorem AD.below(h:AD P b V D w)(hb:Below w.heap.size w w'):AD P b V D w':=
 ⟨h.box.below hb h.box.lt,Ξ h.AM hb,Ξ h.D8 hb,h.sr,h.sq,h.AZ.fr (.η hb),h.pat.fr (.η hb),h.hold.fr (.η hb),h.out.fr (.η hb),h.one⟩
theorem AD.cell(h:AD P b V D w)(j:Nat)(v:Value)(hv:(pZ V D)[j]? =some v):w.cell? ⟨b,j,none⟩ =some v:=h.box.c j v hv
theorem AD.fz(h:AD P b V D w)(j:Nat)(hj:j<19):w.frozen? ⟨b,j,none⟩ =false:=h.box.fz j (by rw[J0];omega)
theorem Rf.DN(V:DV)(b j:Nat)(u:Value)(w:World):Rf (χ b V) (χ b V) w (w.setCell ⟨b,j,none⟩ u):=
 ⟨rfl,rfl,rfl,by simp,fun k _ hk=>heap_setCell_other w _ k u (fun e=>hk (.inl e)),fun _ h=> .inl h⟩
theorem AD.set(h:AD P b V D w)(j:Nat)(hj:j<19)(u:Value)(hu:u.oneCell'=true)(V':DV)(D':DS)(hC:(pZ V D).set j u=pZ V' D')(hr:D'.AM=D.AM)(hq:D'.queue=D.queue)(vs:V'.AZ=V.AZ)(vr:V'.AM=V.AM)(vq:V'.D8=V.D8)
  (hp:Av (χ b V) w (fun w=>ψ w V'.pat D'.pat)) (hh:Av (χ b V) w (fun w=>ψ w V'.hold D'.hold)) (ho:Av (χ b V) w (fun w=>ψ w V'.out D'.out)):AD P b V' D' (w.setCell ⟨b,j,none⟩ u):=by
 have hF:χ b V'=χ b V:=by unfold χ;rw[vr,vq]
 have hf:=Rf.DN V b j u w;have hk:∀k,k≠b→(w.setCell ⟨b,j,none⟩ u).heap[k]? =w.heap[k]? :=fun k hk=>heap_setCell_other w _ k u hk
 refine⟨?_,?_,?_,by rw[vr];exact h.sr,by rw[vq];exact h.sq,?_,?_,?_,?_,by rw[vs];exact h.one⟩
 ·have h1:=h.box.set j (by rw[J0];omega) u hu
  rw[hC]at h1;exact h1
 ·rw[hr,vr];exact Ab (F:=χ b V) (G:=χ b V) h.AM (fun k e=>hk k (fun e'=>h.sr (by rw[e,e'])))
 ·rw[hq,vq];exact Ab (F:=χ b V) (G:=χ b V) h.D8 (fun k e=>hk k (fun e'=>h.sq (by rw[e,e'])))
 ·rw[hF,vs];exact h.AZ.fr hf
 ·rw[hF];exact hp.fr hf
 ·rw[hF];exact hh.fr hf
 ·rw[hF];exact ho.fr hf
theorem AD.plain(h:AD P b V D w)(j:Nat)(hj:j<19)(u:Value)(hu:u.oneCell'=true)(D':DS)(hC:(pZ V D).set j u=pZ V D')(hr:D'.AM=D.AM)(hq:D'.queue=D.queue)(hp:D'.pat=D.pat)(hh:D'.hold=D.hold)(ho:D'.out=D.out):AD P b V D' (w.setCell ⟨b,j,none⟩ u):=
 h.set j hj u hu V D' hC hr hq rfl rfl rfl (by rw[hp];exact h.pat) (by rw[hh];exact h.hold) (by rw[ho];exact h.out)
end
theorem PT{F:Nat→Prop}{w0 w:World}{v:Value}{l:List Cl}(h:w.ownsRow w0.heap.size 120 2 v l.length (Cn l))(hF:∀k,F k→k<w0.heap.size):Av F w (fun w=>ψ w v l):=
 Av.AAZ (ψ.JI h) (fun g o n c e hg=>by
  subst e;rcases h.2 with⟨e,_⟩ | ⟨q,cap,cur,e,e2,_⟩
  ·simp at e
  ·simp at e
   have:=hF g hg;omega)
theorem C9{P:Value→World→Prop}{b:Nat}{V:DV}{D:DS}{w:World}(h:AD P b V D w)(k:Nat)(hk:χ b V k):k<w.heap.size:=by
 rcases hk with rfl|e |e
 ·exact h.box.lt
 ·exact(h.AM.lt k e).2
 ·exact(h.D8.lt k e).2
def σ(P:Value→World→Prop)(b:Nat)(V:DV)(D':DS)(w w':World):Prop:=∃V',V'.AZ=V.AZ∧AD P b V' D' w'∧Rf (χ b V) (χ b V') w w'
def DV.Af(V:DV)(v:Value):DV:=⟨V.AZ,V.AM,V.pat,V.hold,V.D8,v⟩
def C2(P:Value→World→Prop)(b:Nat)(V:DV)(D':DS)(w w':World):Prop:=∃v,AD P b (V.Af v) D' w'∧Rf (χ b V) (χ b V) w w'
def Qw(P:Value→World→Prop)(b:Nat)(V:DV)(D':DS)(w:World)(e:Ending)(w':World):Prop:=e= .returned (.tuple #[])∧C2 P b V D' w w'
theorem C2.nM{P:Value→World→Prop}{b:Nat}{V:DV}{D':DS}{w w':World}(h:C2 P b V D' w w'):σ P b V D' w w':=by
 obtain⟨v,h1,h2⟩ :=h;exact⟨V.Af v,rfl,h1,h2⟩
theorem C2.pre{P:Value→World→Prop}{b:Nat}{V:DV}{D':DS}{w w1 w':World}(hf:Rf (χ b V) (χ b V) w w1)(h:C2 P b V D' w1 w'):C2 P b V D' w w':=by
 obtain⟨v,h1,h2⟩ :=h;exact⟨v,h1,hf.trans h2⟩
theorem C2.trans{P:Value→World→Prop}{b:Nat}{V:DV}{v:Value}{D':DS}{w w1 w':World}(hf:Rf (χ b V) (χ b V) w w1)(h:C2 P b (V.Af v) D' w1 w'):C2 P b V D' w w':=by
 obtain⟨v2,h1,h2⟩ :=h;exact⟨v2,h1,hf.trans h2⟩
def Hl(P:Value→World→Prop)(b:Nat)(V:DV)(D':DS)(w:World)(e:Ending)(w':World):Prop:=e= .returned (.tuple #[])∧σ P b V D' w w'
theorem σ.trans{P:Value→World→Prop}{b:Nat}{V V1:DV}{D:DS}{w w1 w2:World}(hs:V1.AZ=V.AZ)(hf:Rf (χ b V) (χ b V1) w w1)(h:σ P b V1 D w1 w2):σ P b V D w w2:=by
 obtain⟨V',e,h1,h2⟩ :=h;exact⟨V',e.trans hs,h1,hf.trans h2⟩
theorem J1(P:Value→World→Prop)(b:Nat)(V:DV)(D:DS)(x:Nat)(w:World)(h:AD P b V D w):
  Calls prog 156 #[.pointer (some ⟨b,0,none⟩),.int .i64 (x:Nat)] w fun e w'=>Qw P b V (D.die x) w e w':=by
 have c18:=h.cell 18 _ rfl;have f18:=h.fz 18 (by decide);have f17:=h.fz 17 (by decide);have QO:=h.cell 17 _ rfl;have Ac:=h.box.lt;have hA:=h.plain 17 (by decide) (.int .i64 ((3:Nat):Int)) rfl {D with state:=3} rfl rfl rfl rfl rfl rfl;have hB:=hA.plain 18 (by decide) (.int .i64 (x:Nat)) rfl {D with state:=3,err:=x} rfl rfl rfl rfl rfl rfl;have HR:Hid (C2 P b V (D.die x) w ((w.setCell ⟨b,17,none⟩ (.int .i64 ((3:Nat):Int))).setCell ⟨b,18,none⟩ (.int .i64 (x:Nat)))):=
  ⟨V.out,hB,(Rf.DN V b 17 _ w).trans (Rf.DN V b 18 _ _)⟩
 clear hA hB h
 go_enter func156,ntmps156
 go_wp2
 go_end0
 exact⟨rfl,HR.out⟩
theorem su(D:DS)(l:List Cl):(D.put l).nl=D.nl:=by unfold DS.put;split;rfl;split<;>rfl
theorem SP{w:World}{v:Value}{l:List Cl}(h:ψ w v l):v.oneCell'=true:=by obtain⟨a,c,rfl,_⟩ :=h;rfl
theorem My(P:Value→World→Prop)(b:Nat)(V:DV)(D:DS)(vl:Value)(l:List Cl)(w:World)(h:AD P b V D w)(DC:ψ w vl l)(OQ:l.length≤100000)(Nn:D.out.length≤4096):
  Calls prog 228 #[.pointer (some ⟨b,0,none⟩),vl] w fun e w'=>Qw P b V (D.put l) w e w':=by
 have HH:=γ h;have QO:=h.cell 17 _ rfl;have Xk:=h.cell 16 _ rfl;have f16:=h.fz 16 (by decide);have Bq:=h.box.lt;have KW:=γ DC;have HSO:=γ h.out.out;obtain⟨al,cl,Wn,S8⟩ :=DC.form;obtain⟨ao,co,TC,hoc⟩ :=h.out.out.form;obtain⟨n,hn⟩ :∃n,D.out.length=n:=⟨_,rfl⟩
 obtain⟨m,hm⟩ :∃m,l.length=m:=⟨_,rfl⟩
 have HN:=γ hn;have HM:=γ hm;rw[hm]at Wn OQ;rw[hn]at TC Nn;subst Wn;rw[TC]at Xk;have HVO:=γ TC;clear DC h S8 hoc hn hm TC;obtain⟨st,BZ⟩ :∃s,D.state=s:=⟨_,rfl⟩
 rw[BZ]at QO
 by_cases h0:st=0
 ·have KA:((st:Int) !=0)=false:=by simp[h0]
  by_cases hc:4096<n+m
  ·have PH:(4096:Int)<(n:Int)+(m:Int):=by omega
   have HP:Hid (D.put l=D.die 6):=by
    show _=_;unfold DS.put;rw[if_neg (by rw[BZ];omega),HN.out,HM.out,if_pos hc]
   clear h0 BZ
   go_enter func228,ntmps228
   go_wp2_with fail
   refine(J1 P b V D 6 w HH.out).mono ?_;rintro e w1 ⟨rfl,hp⟩;have Ls:Hid (C2 P b V (D.put l) w w1):=by rw[HP.out];exact hp
   clear hp;go_wp2
   go_end0
   exact⟨rfl,Ls.out⟩
  ·have PH:¬(4096:Int)<(n:Int)+(m:Int):=by omega
   have HP:Hid (D.put l= {D with out:=D.out++l}):=by
    show _=_;unfold DS.put;rw[if_neg (by rw[BZ];omega),HN.out,HM.out,if_neg hc]
   clear h0 BZ;have ADo:Hid (ψ w (.slice ao n co) D.out):=by rw[←HVO.out];exact HSO.out
   have h9:D.out.length+l.length≤1000000:=by rw[HN.out,HM.out];omega
   have HC:=Dn (.slice ao n co) (.slice al m cl) D.out l w ADo.out KW.out h9;clear h9
   go_enter func228,ntmps228
   go_wp2_with fail
   refine HC.mono ?_;clear HC;rintro e w1 ⟨v1,rfl,ν,B1⟩;obtain⟨a1,c1,EN⟩ :=κ ν;subst EN;have Qc:=HH.out.below B1;have d16:=(B1.cell (by exact Bq)).trans Xk;have g16:=Qc.fz 16 (by decide);have Ks:=Qc.box.lt;have Ls:Hid (C2 P b V (D.put l) w (w1.setCell ⟨b,16,none⟩ (.slice a1 (D.out++l).length c1))):=by
    rw[HP.out];refine⟨.slice a1 (D.out++l).length c1,?_,(Rf.η B1).trans (Rf.DN V b 16 _ w1)⟩;exact Qc.set 16 (by decide) _ (SP (ψ.JI ν)) _ _ rfl rfl rfl rfl rfl rfl Qc.pat Qc.hold (PT ν (fun k hk=>C9 HH.out k hk))
   clear ν Qc Xk QO f16;go_wp2
   go_end0
   exact⟨rfl,by rw[←List.length_append];exact Ls.out⟩
 ·have KA:((st:Int) !=0)=true:=by simp;omega
  have Ls:Hid (C2 P b V (D.put l) w w):=by
   have e:D.put l=D:=by unfold DS.put;rw[if_pos (by rw[BZ];exact h0)]
   rw[e];exact⟨V.out,HH.out,Rf.refl _ _⟩
  clear h0 BZ
  go_enter func228,ntmps228
  go_wp2
  go_end0
  exact⟨rfl,Ls.out⟩
theorem GM(P:Value→World→Prop)(b:Nat)(V:DV)(D:DS)(w:World)(h:AD P b V D w)(Ht:D.pat.length≤256)(Nn:D.out.length≤4096):
  Calls prog 201 #[.pointer (some ⟨b,0,none⟩)] w fun e w'=>Qw P b V D.GL w e w':=by
 have HH:=γ h;have c7:=h.cell 7 _ rfl;have E2:=h.cell 11 _ rfl;have Bq:=h.box.lt;obtain⟨ap,cp,EO,_⟩ :=h.pat.out.form;obtain⟨n,hn⟩ :∃n,D.pat.length=n:=⟨_,rfl⟩
 rw[hn]at EO;have HV7:=γ EO;rw[EO]at c7;have HS:Hid (ψ w (.slice ap n cp) D.pat):=by rw[←EO];exact h.pat.out
 have H9:Hid (D.pat.length+([]:List Cl).length≤100000):=by show _≤_;rw[List.length_nil];omega
 have OS:Hid ((AJ D.pat (C4 D.nl) []).length≤100000):=by
  show _≤_;unfold AJ;rw[List.length_append,List.length_append,List.length_singleton,List.length_nil];omega
 clear h hn EO
 go_enter func201,ntmps201
 go_wp2_with fail
 go_region_held3(fun w'=>w'.cell? ⟨b,7,none⟩ =some (.slice ap n cp)∧w'.cell? ⟨b,11,none⟩ =some (.int .i64 D.nl)∧b<w'.heap.size)
  (first
   |go_keep
   |exact⟨k7,k11,kl⟩)
  (first
   | (go_at_call 223;refine(GK _ _ D.pat [] D.nl _ HS.out.drew (ψ.nil _) H9.out).mono ?_;rintro e w1 ⟨v1,rfl,ν,B1⟩;have L0:=(Below.refl w.heap.size w).drew.trans B1;have Qc:=HH.out.below L0;have k7:=Qc.cell 7 _ rfl;have k11:=Qc.cell 11 _ rfl;have kl:=Qc.box.lt;rw[HV7.out]at k7;have s1:=ψ.JI ν)
   | (go_at_call 228;refine(My P b V D _ _ w1 Qc s1 OS.out Nn).mono ?_;rintro e w2 ⟨rfl,v2,h2,f2⟩;have k7:w2.cell? ⟨b,7,none⟩ =some (.slice ap n cp):=(by rw[←HV7.out];exact h2.cell 7 _ rfl);have k11:w2.cell? ⟨b,11,none⟩ =some (.int .i64 D.nl):=(by rw[←su D];exact h2.cell 11 _ rfl);have kl:=h2.box.lt))
 have Ls:Hid (C2 P b V D.GL w w2):=C2.pre (Rf.η L0) ⟨v2,h2,f2⟩;clear ν B1 L0 Qc s1 h2 f2;go_wp2
 go_end0
 exact⟨rfl,Ls.out⟩
theorem IK(P:Value→World→Prop)(b:Nat)(V:DV)(D:DS)(s:ByteArray)(w:World)(h:AD P b V D w)(hs:s.size≤400)(Nn:D.out.length≤4096):
  Calls prog 200 #[.pointer (some ⟨b,0,none⟩),.string s] w fun e w'=>Qw P b V (D.tell s) w e w':=by
 have HH:=γ h;have Bq:=h.box.lt;have zK:Hid ((BJ s.data.toList).length=s.size):=by show _=_;unfold BJ;rw[List.length_map,Δ]
 have WB:Hid (s.size≤100000):=by show _≤_;omega
 have H9:Hid ((BJ s.data.toList).length+([]:List Cl).length≤100000):=by show _≤_;rw[List.length_nil,zK.out];omega
 have OS:Hid ((AJ (BJ s.data.toList) (C4 (-1)) []).length≤100000):=by
  show _≤_;unfold AJ;rw[List.length_append,List.length_append,List.length_singleton,List.length_nil,zK.out];omega
 clear h
 go_enter func200,ntmps200
 go_wp2_with fail
 refine(Vy s w WB.out).mono ?_;rintro e w1 ⟨v1,rfl,ν,B1⟩;have Gc:=γ (ψ.JI ν);have L6:=γ B1;obtain⟨a1,c1,EN⟩ :=κ ν;subst EN;clear ν B1
 go_wp2_with fail
 have HC:=GK _ (.slice none 0 0) (BJ s.data.toList) [] (-1) w1 Gc.out (ψ.nil w1) H9.out;refine HC.mono ?_;clear HC;rintro e w2 ⟨v2,rfl,ν,B2⟩;have GC:=γ (L6.out.trans (B2.mono L6.out.size));have ER:=γ (ψ.JI ν);obtain⟨a2,c2,S7⟩ :=κ ν;subst S7;clear ν B2
 go_wp2_with fail
 have HC:=My P b V D _ _ w2 (HH.out.below GC.out) ER.out OS.out Nn;refine HC.mono ?_;clear HC;rintro e w3 ⟨rfl,hp⟩;have Ls:=γ (C2.pre (Rf.η GC.out) hp);clear hp;go_wp2
 go_end0
 exact⟨rfl,Ls.out⟩
namespace M
structure Uk(D:DS):Prop where
 ou:D.out.length≤4096
 pa:D.pat.length≤256
 ho:D.hold.length≤256
 qt:∀t∈D.queue,t.size≤400
 qu:D.queue.length≤5000
 st:D.state≤3
 er:D.err≤6
theorem Uk.put{D:DS}(h:Uk D)(l:List Cl):Uk (D.put l):=by
 rcases J2 D l with e|e | ⟨e,hl⟩ <;>rw[e]
 ·exact h
 ·exact⟨h.ou,h.pa,h.ho,h.qt,h.qu,by show 3≤3;omega,by show 6≤6;omega⟩
 ·exact⟨by show(D.out++l).length≤4096;rw[List.length_append];exact hl,h.pa,h.ho,h.qt,h.qu,h.st,h.er⟩
theorem Uk.fold(q:List ByteArray):∀{D:DS},Uk D→Uk (q.foldl DS.tell D):=by
 induction q with
 |nil=>intro D h;exact h
 |cons x q ih=>intro D h;exact ih (h.put _)
end M
theorem AD.kj{P:Value→World→Prop}{b:Nat}{V:DV}{D:DS}{w:World}(h:AD P b V D w):σ P b V {D with queue:= []} w (w.setCell ⟨b,13,none⟩ (.slice none 0 0)):=by
 have hf:Rf (χ b V) (χ b ⟨V.AZ,V.AM,V.pat,V.hold,.slice none 0 0,V.out⟩) w (w.setCell ⟨b,13,none⟩ (.slice none 0 0)):=
  ⟨rfl,rfl,rfl,by simp,fun k _ hk=>heap_setCell_other w _ k _ (fun e=>hk (.inl e)),fun k hk=> .inl (by
   rcases hk with e|e |e
   ·exact .inl e
   ·exact .inr (.inl e)
   ·cases e)⟩
 have hk:∀k,k≠b→(w.setCell ⟨b,13,none⟩ (.slice none 0 0)).heap[k]? =w.heap[k]? :=fun k hk=>heap_setCell_other w _ k _ hk
 refine⟨⟨V.AZ,V.AM,V.pat,V.hold,.slice none 0 0,V.out⟩,rfl,⟨?_,?_,World.ownsRow_nil _ _ _ _,h.sr,(by intro e;cases e),h.AZ.fr hf,h.pat.fr hf,h.hold.fr hf,h.out.fr hf,h.one⟩,hf⟩
 ·exact h.box.set 13 (by rw[J0];decide) (.slice none 0 0) rfl
 ·exact Ab (F:=χ b V) (G:=χ b V) h.AM (fun k e=>hk k (fun e'=>h.sr (by rw[e,e'])))
theorem Gn(P:Value→World→Prop)(b:Nat)(V:DV)(D:DS)(w:World)(h:AD P b V D w)(hw:Uk D):
  Calls prog 159 #[.pointer (some ⟨b,0,none⟩)] w fun e w'=>Hl P b V D.flush w e w':=by
 have Ro:=h.cell 13 _ rfl;have Bq:=h.box.lt;have HH:=γ h;have hqu:=hw.qu;obtain⟨aq,cq,fP⟩ :=κ h.D8;obtain⟨n,hn⟩ :∃n,D.queue.length=n:=⟨_,rfl⟩
 have HN:=γ hn;have aK:Hid (V.D8= .slice aq n cq):=by show _=_;rw[fP,hn]
 rw[fP,hn]at Ro;rw[hn]at hqu;clear fP hn h
 go_enter func159,ntmps159
 go_wp2_with fail
 go_loopw [2] (fun v9 wr=>∃i:Nat,v9= .int .i64 i∧i≤n∧C2 P b V ((D.queue.take i).foldl DS.tell D) w wr) (fun v9 _=>n - (intOf v9).toNat)
 case atStart=>exact⟨0,rfl,ε,V.out,HH.out,Rf.refl _ _⟩
 case round=>
  obtain⟨i,rfl,hi,vo,hR,hF⟩ :=hrel;have HR:=γ hR;have HF:=γ hF;have aL:=hR.box.lt;have f13:=hR.fz 13 (by decide);have fQ:Uk ((D.queue.take i).foldl DS.tell D):=Uk.fold _ hw;have Oy:((D.queue.take i).foldl DS.tell D).queue=D.queue:=(SQ _ D).queue;have ACt:wr.cell? ⟨b,13,none⟩ =some (.slice aq n cq):=by
   have:=hR.cell 13 _ rfl;rw[this];show some V.D8=_;rw[aK.out]
  by_cases Ac:i<n
  ·have AV:(i:Int)<(n:Int):=by omega
   have h0:(0:Int)≤(i:Int):=by omega
   have BN:i<D.queue.length:=by rw[HN.out];exact Ac
   obtain⟨g,hg,Rp,ct⟩ :∃g,aq=some ⟨g,0,none⟩∧g<wr.heap.size∧wr.cell? ⟨g,i,none⟩ =some (.string D.queue[i]):=by
    have hq:=hR.D8;rw[Oy]at hq;have hq:wr.ownsRow 0 9 1 V.D8 D.queue.length (D.queue.map .string):=hq;rw[aK.out]at hq;obtain⟨g,hg⟩ :∃g,aq=some ⟨g,0,none⟩ :=by
     rcases hq.2 with⟨_,hz⟩ | ⟨g,cap,cur,hv,_⟩
     ·omega
     ·simp at hv;exact⟨g,hv.1⟩
    subst hg;have c1:=hq.cells rfl i (.string D.queue[i]) (by simp[BN]);rw[Addr.add_mid,Nat.zero_add]at c1;exact⟨g,rfl,(hq.lt g rfl).2,c1⟩
   subst hg;have EV:=hw.qt D.queue[i] (List.getElem_mem _);have HT:Hid ((D.queue.take (i+1)).foldl DS.tell D=((D.queue.take i).foldl DS.tell D).tell D.queue[i]):=Rn _ _ _ _ BN;have fR:=γ fQ;clear Oy fQ hR hF;generalize D.queue[i]=tx at*;generalize(D.queue.take i).foldl DS.tell D=T at*
   go_wp2_with fail
   refine(IK P b (V.Af vo) T tx wr HR.out EV fR.out.ou).mono ?_;rintro e w2 ⟨rfl,hr⟩;have EA:Hid (C2 P b V ((D.queue.take (i+1)).foldl DS.tell D) w w2):=by
    show C2 _ _ _ _ _ _;rw[HT.out];exact C2.trans HF.out hr
   clear hr
   go_wp2_with fail
   go_roundw
   case rel=>exact⟨i+1,by go_num,by omega,EA.out⟩
   case measure=>simp[intOf]<;>omega
  ·obtain rfl:i=n:=by omega
   have AV:¬(i:Int)<(i:Int):=by omega
   have HP:Hid (σ P b V D.flush w (wr.setCell ⟨b,13,none⟩ (.slice none 0 0))):=by
    show σ _ _ _ _ _ _;rw[List.take_of_length_le (by rw[HN.out];exact δ)]at hR;exact σ.trans (V1:=V.Af vo) rfl hF hR.kj
   clear Oy fQ hR hF;go_wp2
   go_end0
   exact⟨rfl,HP.out⟩
theorem Ih(P:Value→World→Prop)(b:Nat)(V:DV)(D:DS)(bb:Bool)(w:World)(h:AD P b V D w)(hw:Uk D):
  Calls prog 160 #[.pointer (some ⟨b,0,none⟩),.bool bb] w fun e w'=>Hl P b V (D.ο bb) w e w':=by
 have c2:=h.cell 2 _ rfl;have Bq:=h.box.lt;have HH:=γ h;have HW:=γ hw;clear h hw;obtain⟨q,hq⟩ :∃q,D.quiet=q:=⟨_,rfl⟩
 rw[hq]at c2;cases hx:(bb && !q)with
 |true=>
  have HE:Hid (D.ο bb=D.GL.flush):=by show _=_;unfold DS.ο;rw[hq,if_pos hx]
  obtain⟨rfl,rfl⟩ :bb=true∧q=false:=by cases bb<;>cases q<;>simp at hx<;>exact⟨rfl,rfl⟩
  clear hx hq
  go_enter func160,ntmps160
  go_wp2_with fail
  refine(GM P b V D w HH.out HW.out.pa HW.out.ou).mono ?_;rintro e w1 ⟨rfl,v1,h1,f1⟩;have UR:=γ h1;have Bm:=γ f1;clear h1 f1
  go_wp2_with fail
  refine(Gn P b (V.Af v1) D.GL w1 UR.out (HW.out.put _)).mono ?_;rintro e w2 ⟨rfl,hp⟩;have Ls:Hid (σ P b V (D.ο true) w w2):=by rw[HE.out];exact σ.trans (V1:=V.Af v1) rfl Bm.out hp
  clear hp;go_wp2
  go_end0
  exact⟨rfl,Ls.out⟩
 |false=>
  have HE:Hid (D.ο bb=D.flush):=by show _=_;unfold DS.ο;rw[hq,if_neg (by rw[hx];decide)]
  have HC:=Gn P b V D w HH.out HW.out;cases bb with
  |false=>
   clear hx hq
   go_enter func160,ntmps160
   go_wp2_with fail
   refine HC.mono ?_;clear HC;rintro e w2 ⟨rfl,hp⟩;have Ls:Hid (σ P b V (D.ο false) w w2):=by rw[HE.out];exact hp
   clear hp;go_wp2
   go_end0
   exact⟨rfl,Ls.out⟩
  |true=>
   obtain rfl:q=true:=by cases q<;>simp at hx;rfl
   clear hx hq
   go_enter func160,ntmps160
   go_wp2_with fail
   refine HC.mono ?_;clear HC;rintro e w2 ⟨rfl,hp⟩;have Ls:Hid (σ P b V (D.ο true) w w2):=by rw[HE.out];exact hp
   clear hp;go_wp2
   go_end0
   exact⟨rfl,Ls.out⟩
theorem OA(P:Value→World→Prop)(b:Nat)(V:DV)(D:DS)(w:World)(h:AD P b V D w)(hw:Uk D):
  Calls prog 194 #[.pointer (some ⟨b,0,none⟩)] w fun e w'=>Hl P b V D.early w e w':=by
 have Bq:=h.box.lt;have HC:=Ih P b V D true w h hw;clear h hw
 go_enter func194,ntmps194
 go_wp2_with fail
 refine HC.mono ?_;clear HC;rintro e w1 ⟨rfl,V1,CE,h1,f1⟩;have QO:=h1.cell 17 _ rfl;have f17:=h1.fz 17 (by decide);have l1:=h1.box.lt;obtain⟨st,BZ⟩ :∃s,(D.ο true).state=s:=⟨_,rfl⟩
 rw[BZ]at QO
 by_cases h0:st=0
 ·have KA:((st:Int)==0)=true:=by simp[h0]
  have hA:=h1.plain 17 (by decide) (.int .i64 2) rfl {D.ο true with state:=2} rfl rfl rfl rfl rfl rfl;have Ls:Hid (σ P b V D.early w (w1.setCell ⟨b,17,none⟩ (.int .i64 2))):=by
   refine⟨V1,CE,?_,f1.trans (Rf.DN V1 b 17 _ w1)⟩;unfold DS.early;rw[if_pos (by rw[BZ];exact h0)];exact hA
  clear hA h1 f1 h0 BZ CE;go_wp2
  go_end0
  exact⟨rfl,Ls.out⟩
 ·have KA:((st:Int)==0)=false:=by simp;omega
  have Ls:Hid (σ P b V D.early w w1):=by
   refine⟨V1,CE,?_,f1⟩;unfold DS.early;rw[if_neg (by rw[BZ];exact h0)];exact h1
  clear h1 f1 h0 BZ CE;go_wp2
  go_end0
  exact⟨rfl,Ls.out⟩
theorem gT(t:List UInt8)(i:Nat)(h:i<t.length)(hn:t[i].toNat≠10):i+((t.drop i).takeWhile (fun c=>c.toNat !=10)).length=(i+1)+((t.drop (i+1)).takeWhile (fun c=>c.toNat !=10)).length:=by
 rw[List.drop_eq_getElem_cons h,List.takeWhile_cons_of_pos (by simpa using hn),List.length_cons];omega
theorem gU(t:List UInt8)(i:Nat)(h:i<t.length)(hn:t[i].toNat=10):i+((t.drop i).takeWhile (fun c=>c.toNat !=10)).length=i:=by
 rw[List.drop_eq_getElem_cons h,List.takeWhile_cons_of_neg (by simp[hn])];rfl
theorem gV(t:List UInt8)(i:Nat)(h:t.length≤i):i+((t.drop i).takeWhile (fun c=>c.toNat !=10)).length=i:=by
 rw[List.drop_of_length_le h];rfl
theorem SR(P:Value→World→Prop)(b:Nat)(V:DV)(D:DS)(w:World)(h:AD P b V D w)(Q7:D.text.size≤4096)(Cw:D.at'≤D.text.size):
  Calls prog 155 #[.pointer (some ⟨b,0,none⟩)] w fun e w'=>(e= .returned (.int .i64 (D.Cx:Nat))∧D.at'≤D.Cx∧D.Cx≤D.text.size)∧Below w.heap.size w w':=by
 have c0:=h.cell 0 _ rfl;have OU:=h.cell 12 _ rfl;have Bq:=h.box.lt;obtain⟨t,ht⟩ :∃t,D.text=t:=⟨_,rfl⟩
 obtain⟨a,ha⟩ :∃a,D.at'=a:=⟨_,rfl⟩
 rw[ht]at c0 Q7 Cw;rw[ha]at OU Cw;have HE:Hid (D.Cx=a+((t.data.toList.drop a).takeWhile (fun c=>c.toNat !=10)).length∧D.at'=a∧D.text=t):=⟨by unfold DS.Cx;rw[ht,ha],ha,ht⟩
 have Hc:=γ (Δ t);clear h ht ha
 go_enter func155,ntmps155
 go_wp2_with fail
 go_loopw [3] (fun v3 wr=>∃i:Nat,v3= .int .i64 i∧a≤i∧i≤t.size∧Hid (a+((t.data.toList.drop a).takeWhile (fun c=>c.toNat !=10)).length=i+((t.data.toList.drop i).takeWhile (fun c=>c.toNat !=10)).length)∧Hid (Below w.heap.size w wr)∧wr.cell? ⟨b,0,none⟩ =some (.string t)∧b<wr.heap.size) (fun v3 _=>t.size - (intOf v3).toNat)
 case atStart=>exact⟨a,rfl,δ,Cw,rfl,ζ,c0,Bq⟩
 case round=>
  clear c0 Bq OU;obtain⟨i,rfl,hai,hi,HP,HB,c0,Bq⟩ :=hrel
  by_cases Ac:i<t.size
  ·have AV:(i:Int)<(t.size:Int):=by omega
   have h0:(0:Int)≤(i:Int):=by omega
   have BN:i<t.data.toList.length:=by rw[Hc.out];exact Ac
   obtain⟨x,hx⟩ :∃x:Nat,t[i].toNat=x:=⟨_,rfl⟩
   have FT:x<256:=by rw[←hx];exact t[i].toNat_lt
   have hxg:(t.data.toList[i]'BN).toNat=x:=hx
   by_cases Ff:x=10
   ·have aD:((x:Int) !=10)=false:=by simp[Ff]
    have NH:Hid (D.Cx=i):=by show _=_;rw[HE.out.1,HP.out,gU _ i BN (by rw[hxg];exact Ff)]
    have HA:Hid (D.at'≤D.Cx∧D.Cx≤D.text.size):=by
     rw[NH.out,HE.out.2.1,HE.out.2.2];exact⟨hai,hi⟩
    clear Ff HP hxg;go_wp2;go_ret;exact⟨⟨H2 (by rw[NH.out]),HA.out.1,HA.out.2⟩,HB.out⟩
   ·have aD:((x:Int) !=10)=true:=by simp;omega
    have NH:Hid (a+((t.data.toList.drop a).takeWhile (fun c=>c.toNat !=10)).length=(i+1)+((t.data.toList.drop (i+1)).takeWhile (fun c=>c.toNat !=10)).length):=by
     show _=_;rw[HP.out,gT _ i BN (by rw[hxg];exact Ff)]
    clear Ff HP hxg;go_wp2
    go_roundw
    case rel=>exact⟨i+1,by go_num,by omega,by omega,NH.out,HB.out,c0,Bq⟩
    case measure=>simp[intOf]<;>omega
  ·obtain rfl:i=t.size:=by omega
   have AV:¬(t.size:Int)<(t.size:Int):=by omega
   have NH:Hid (D.Cx=t.size):=by show _=_;rw[HE.out.1,HP.out,gV _ _ (by rw[Hc.out];exact δ)]
   have HA:Hid (D.at'≤D.Cx∧D.Cx≤D.text.size):=by
    rw[NH.out,HE.out.2.1,HE.out.2.2];exact⟨hai,hi⟩
   clear HP;go_wp2;go_ret;exact⟨⟨H2 (by rw[NH.out]),HA.out.1,HA.out.2⟩,HB.out⟩
theorem SS(P:Value→World→Prop)(b:Nat)(V:DV)(D:DS)(w:World)(h:AD P b V D w)(Q7:D.text.size≤4096)(Cw:D.at'≤D.text.size):
  Calls prog 114 #[.pointer (some ⟨b,0,none⟩)] w fun e w'=>e= .returned (.bool D.ask.1)∧C2 P b V D.ask.2 w w':=by
 have c0:=h.cell 0 _ rfl;have c1:=h.cell 1 _ rfl;have OU:=h.cell 12 _ rfl;have Bq:=h.box.lt;have HH:=γ h;obtain⟨cl,DL⟩ :∃c,D.closed=c:=⟨_,rfl⟩
 rw[DL]at c1;cases cl with
 |true=>
  have HE:Hid (D.ask=(decide (D.at'<D.text.size),D)):=by show _=_;unfold DS.ask;rw[if_pos DL]
  clear DL h
  by_cases Ac:D.at'<D.text.size
  ·have AV:(D.at':Int)<(D.text.size:Int):=by omega
   rw[decide_eq_true Ac]at HE
   go_enter func114,ntmps114
   go_wp2_with fail
   go_region_held3(fun w'=>w'.cell? ⟨b,0,none⟩ =some (.string D.text)∧w'.cell? ⟨b,12,none⟩ =some (.int .i64 (D.at':Nat))∧b<w'.heap.size)
    (go_keep)
    (fail)
   clear c0 OU c1;go_wp2;go_ret;exact⟨ι (by rw[HE.out]),by rw[HE.out];exact⟨V.out,HH.out.below (ζ.drew),Rf.η (ζ.drew)⟩⟩
  ·have AV:¬(D.at':Int)<(D.text.size:Int):=by omega
   rw[decide_eq_false Ac]at HE
   go_enter func114,ntmps114
   go_wp2_with fail
   go_region_held3(fun w'=>w'.cell? ⟨b,0,none⟩ =some (.string D.text)∧w'.cell? ⟨b,12,none⟩ =some (.int .i64 (D.at':Nat))∧b<w'.heap.size)
    (go_keep)
    (fail)
   clear c0 OU c1;go_wp2;go_ret;exact⟨ι (by rw[HE.out]),by rw[HE.out];exact⟨V.out,HH.out.below (ζ.drew),Rf.η (ζ.drew)⟩⟩
 |false=>
  have HE:Hid (D.ask=if D.text.size≤D.Cx+1 then(false,{D with state:=1})else(decide (D.state=0),D)):=by show _=_;unfold DS.ask;rw[if_neg (by rw[DL];decide)]
  have HC:=SR P b V D w h Q7 Cw;clear DL h
  go_enter func114,ntmps114
  go_wp2_with fail
  refine HC.mono ?_;clear HC;rintro e w1 ⟨⟨rfl,S9,sx⟩,B1⟩;have Qc:=HH.out.below B1;have d0:=Qc.cell 0 _ rfl;have d17:=Qc.cell 17 _ rfl;have g17:=Qc.fz 17 (by decide);have l1:=Qc.box.lt;have UR:=γ Qc;have L6:=γ B1;clear Qc B1 c0 c1 OU;generalize D.Cx=el at*
  by_cases hle:D.text.size≤el+1
  ·have eU:(D.text.size:Int)≤(el:Int)+1:=by omega
   rw[if_pos hle]at HE;have HA:Hid (AD P b V {D with state:=1} (w1.setCell ⟨b,17,none⟩ (.int .i64 1))):=UR.out.plain 17 (by decide) (.int .i64 1) rfl {D with state:=1} rfl rfl rfl rfl rfl rfl;go_wp2;go_ret;exact⟨ι (by rw[HE.out]),by rw[HE.out];exact⟨V.out,HA.out,(Rf.η L6.out).trans (Rf.DN V b 17 _ w1)⟩⟩
  ·have eU:¬(D.text.size:Int)≤(el:Int)+1:=by omega
   rw[if_neg hle]at HE
   by_cases h0:D.state=0
   ·have KA:((D.state:Int)==0)=true:=by simp[h0]
    rw[decide_eq_true h0]at HE;clear h0;go_wp2;go_ret;exact⟨ι (by rw[HE.out]),by rw[HE.out];exact⟨V.out,UR.out,Rf.η L6.out⟩⟩
   ·have KA:((D.state:Int)==0)=false:=by simp;omega
    rw[decide_eq_false h0]at HE;clear h0;go_wp2;go_ret;exact⟨ι (by rw[HE.out]),by rw[HE.out];exact⟨V.out,UR.out,Rf.η L6.out⟩⟩
theorem AD.GX{P:Value→World→Prop}{b:Nat}{V:DV}{D:DS}{w:World}(h:AD P b V D w)(v:Value)(l:List Cl)(hs:Av (χ b V) w (fun w=>ψ w v l)):σ P b V {D with pat:=l} w (w.setCell ⟨b,7,none⟩ v):=
 ⟨⟨V.AZ,V.AM,v,V.hold,V.D8,V.out⟩,rfl,h.set 7 (by decide) v (SP hs.out) _ _ rfl rfl rfl rfl rfl rfl hs h.hold h.out,Rf.DN V b 7 v w⟩
theorem AD.Nq{P:Value→World→Prop}{b:Nat}{V:DV}{D:DS}{w:World}(h:AD P b V D w)(v:Value)(l:List Cl)(hs:Av (χ b V) w (fun w=>ψ w v l)):σ P b V {D with hold:=l} w (w.setCell ⟨b,8,none⟩ v):=
 ⟨⟨V.AZ,V.AM,V.pat,v,V.D8,V.out⟩,rfl,h.set 8 (by decide) v (SP hs.out) _ _ rfl rfl rfl rfl rfl rfl h.pat hs h.out,Rf.DN V b 8 v w⟩
theorem Cu(P:Value→World→Prop)(b:Nat)(V:DV)(D:DS)(v:Value)(l:List Cl)(w:World)(h:AD P b V D w)(hs:Av (χ b V) w (fun w=>ψ w v l))(hr:D.room≤256)(hl:l.length≤1000000):
  Calls prog 116 #[.pointer (some ⟨b,0,none⟩),v] w fun e w'=>Hl P b V (D.pattern l) w e w':=by
 have HH:=γ h;have c4:=h.cell 4 _ rfl;have c7:=h.cell 7 _ rfl;have f7:=h.fz 7 (by decide);have Bq:=h.box.lt;have HP:=h.GX v l hs;have Ls:=γ HP;obtain⟨a,c,hv,_⟩ :=hs.out.form;obtain⟨n,hn⟩ :∃n,l.length=n:=⟨_,rfl⟩
 have HN:=γ hn;rw[hn]at hv hl;subst hv;obtain⟨ap,cp,EO,_⟩ :=h.pat.out.form;rw[EO]at c7;obtain⟨rm,ZK⟩ :∃r,D.room=r:=⟨_,rfl⟩
 have HRM:=γ ZK;rw[ZK]at c4 hr;clear HP hs h hn ZK EO
 by_cases hc:rm<n
 ·have PH:(rm:Int)<(n:Int):=by omega
  have HE:Hid (D.pattern l=D.die 5):=by show _=_;unfold DS.pattern;rw[if_pos (by rw[HRM.out,HN.out];exact hc)]
  have HC:=J1 P b V D 5 w HH.out
  go_enter func116,ntmps116
  go_wp2_with fail
  refine HC.mono ?_;clear HC;rintro e w1 ⟨rfl,hp⟩;have HPQ:Hid (σ P b V (D.pattern l) w w1):=by rw[HE.out];exact hp.nM
  clear hp;go_wp2
  go_end0
  exact⟨rfl,HPQ.out⟩
 ·have PH:¬(rm:Int)<(n:Int):=by omega
  have HE:Hid (D.pattern l= {D with pat:=l}):=by show _=_;unfold DS.pattern;rw[if_neg (by rw[HRM.out,HN.out];exact hc)]
  go_enter func116,ntmps116
  go_wp2
  go_end0
  exact⟨rfl,by rw[HE.out];exact Ls.out⟩
theorem P7(P:Value→World→Prop)(b:Nat)(V:DV)(D:DS)(v:Value)(l:List Cl)(w:World)(h:AD P b V D w)(hs:Av (χ b V) w (fun w=>ψ w v l))(hr:D.room≤256)(hl:l.length≤1000000):
  Calls prog 226 #[.pointer (some ⟨b,0,none⟩),v] w fun e w'=>Hl P b V (D.Ca l) w e w':=by
 have HH:=γ h;have c4:=h.cell 4 _ rfl;have c8:=h.cell 8 _ rfl;have f8:=h.fz 8 (by decide);have Bq:=h.box.lt;have HP:=h.Nq v l hs;have Ls:=γ HP;obtain⟨a,c,hv,_⟩ :=hs.out.form;obtain⟨n,hn⟩ :∃n,l.length=n:=⟨_,rfl⟩
 have HN:=γ hn;rw[hn]at hv hl;subst hv;obtain⟨ap,cp,EO,_⟩ :=h.hold.out.form;rw[EO]at c8;obtain⟨rm,ZK⟩ :∃r,D.room=r:=⟨_,rfl⟩
 have HRM:=γ ZK;rw[ZK]at c4 hr;clear HP hs h hn ZK EO
 by_cases hc:rm<n
 ·have PH:(rm:Int)<(n:Int):=by omega
  have HE:Hid (D.Ca l=D.die 5):=by show _=_;unfold DS.Ca;rw[if_pos (by rw[HRM.out,HN.out];exact hc)]
  have HC:=J1 P b V D 5 w HH.out
  go_enter func226,ntmps226
  go_wp2_with fail
  refine HC.mono ?_;clear HC;rintro e w1 ⟨rfl,hp⟩;have HPQ:Hid (σ P b V (D.Ca l) w w1):=by rw[HE.out];exact hp.nM
  clear hp;go_wp2
  go_end0
  exact⟨rfl,HPQ.out⟩
 ·have PH:¬(rm:Int)<(n:Int):=by omega
  have HE:Hid (D.Ca l= {D with hold:=l}):=by show _=_;unfold DS.Ca;rw[if_neg (by rw[HRM.out,HN.out];exact hc)]
  go_enter func226,ntmps226
  go_wp2
  go_end0
  exact⟨rfl,by rw[HE.out];exact Ls.out⟩
theorem J3(P:Value→World→Prop)(b:Nat)(V:DV)(D:DS)(A:Ku)(p:Option Addr)(c:Nat)(w:World)(h:AD P b V D w)(hx:QW w p A.ex.l)(hxl:A.ex.l.length≤8192)(Ht:D.pat.length≤256)(hA:A.line≤100000)(hD:D.line≤100000):
  Calls prog 191 #[.pointer (some ⟨b,0,none⟩),.agg (OZ A p c).toArray] w fun e w'=>e= .returned (.bool (D.holds A))∧Below w.heap.size w w':=by
 have HH:=γ h;have c9:=h.cell 9 _ rfl;have FJ:=h.cell 10 _ rfl;have c7:=h.cell 7 _ rfl;have Bq:=h.box.lt;obtain⟨kd,Nk⟩ :∃k,A.kind=k:=⟨_,rfl⟩
 have hne:OZ A p c= [.int .i64 (kd:Nat),.int .i64 (A.line:Nat),.bool A.ex.head,.bool A.ex.tail,.slice p A.ex.l.length c]:=by unfold OZ;rw[Nk]
 rw[hne];clear hne;have Dg:CB (w.alloc (.cells #[.int .i64 (kd:Nat),.int .i64 (A.line:Nat),.bool A.ex.head,.bool A.ex.tail,.slice p A.ex.l.length c] 177)) w.heap.size [.int .i64 (kd:Nat),.int .i64 (A.line:Nat),.bool A.ex.head,.bool A.ex.tail,.slice p A.ex.l.length c]:=CB.new w _ #[.int .i64 (kd:Nat),.int .i64 (A.line:Nat),.bool A.ex.head,.bool A.ex.tail,.slice p A.ex.l.length c] (by simp[Value.oneCell']);have B0:Below w.heap.size w (w.alloc (.cells #[.int .i64 (kd:Nat),.int .i64 (A.line:Nat),.bool A.ex.head,.bool A.ex.tail,.slice p A.ex.l.length c] 177)):=ζ.alloc δ _;have pd:=h.below B0;have a9:=pd.cell 9 _ rfl;have a10:=pd.cell 10 _ rfl;have a7:=pd.cell 7 _ rfl;have la:=pd.box.lt;have p0:=Dg.c 0 _ rfl;have p1:=Dg.c 1 _ rfl;have lp:=Dg.lt;have HX0:Hid (QW (w.alloc (.cells #[.int .i64 (kd:Nat),.int .i64 (A.line:Nat),.bool A.ex.head,.bool A.ex.tail,.slice p A.ex.l.length c] 177)) p A.ex.l):=by
  obtain⟨Li,e1,e2⟩ :=hx;exact⟨Li,e1,e2.below B0⟩
 have pg:=γ B0;have Eu:=γ pd;clear h hx B0 pd c9 FJ c7
 by_cases h1:kd=1
 ·have k1:((kd:Int)==1)=true:=by simp[h1]
  have HE:Hid (D.holds A=(A.line==D.line)):=by show _=_;unfold DS.holds;rw[if_pos (by rw[Nk];exact h1)]
  have HF:Hid (((A.line:Int)==(D.line:Int))=(A.line==D.line)):=by show _=_;rw[Bool.eq_iff_iff];simp;omega
  clear h1 Nk;obtain⟨eq,heq⟩ :∃q,((A.line:Int)==(D.line:Int))=q:=⟨_,rfl⟩
  have HEQ:Hid (D.holds A=eq):=by show _=_;rw[HE.out,←HF.out,heq]
  go_enter func191,ntmps191
  go_wp2_with fail
  generalize w.alloc (.cells #[.int .i64 (kd:Nat),.int .i64 (A.line:Nat),.bool A.ex.head,.bool A.ex.tail,.slice p A.ex.l.length c] 177)=W0 at*
  go_region_held3(fun w'=>w'.cell? ⟨b,9,none⟩ =some (.int .i64 (D.line:Nat))∧w'.cell? ⟨w.heap.size,1,none⟩ =some (.int .i64 (A.line:Nat))∧b<w'.heap.size∧w.heap.size<w'.heap.size)
   (go_keep)
   (fail)
  clear a9 a10 a7 p0 p1;go_wp2;go_ret;exact⟨ι (by rw[HEQ.out,←heq]),pg.out.drew⟩
 ·have k1:((kd:Int)==1)=false:=by simp;omega
  by_cases h2:kd=2
  ·have k2:((kd:Int)==2)=true:=by simp[h2]
   have HE:Hid (D.holds A=D.last):=by show _=_;unfold DS.holds;rw[if_neg (by rw[Nk];exact h1),if_pos (by rw[Nk];exact h2)]
   clear h1 h2 Nk
   go_enter func191,ntmps191
   go_wp2;go_ret;exact⟨ι (by rw[HE.out]),pg.out⟩
  ·have k2:((kd:Int)==2)=false:=by simp;omega
   have HE:Hid (D.holds A=Ni A.ex (AL D.pat)):=by show _=_;unfold DS.holds;rw[if_neg (by rw[Nk];exact h1),if_neg (by rw[Nk];exact h2)]
   clear h1 h2 Nk
   go_enter func191,ntmps191
   go_wp2_with fail
   have p2:=Dg.c 2 _ rfl;have p3:=Dg.c 3 _ rfl;have p4:=Dg.c 4 _ rfl;obtain⟨ap,cp,EO,_⟩ :=Eu.out.pat.out.form;obtain⟨n,hn⟩ :∃n,D.pat.length=n:=⟨_,rfl⟩
   have Jr:Hid (ψ (w.alloc (.cells #[.int .i64 (kd:Nat),.int .i64 (A.line:Nat),.bool A.ex.head,.bool A.ex.tail,.slice p A.ex.l.length c] 177)) (.slice ap n cp) D.pat):=by rw[←hn,←EO];exact Eu.out.pat.out
   rw[EO,hn]at a7;have HN:Hid (D.pat.length≤100000):=by show _≤_;omega
   have Un:Hid ((Dr D.pat).size≤256):=by show _≤_;rw[←Δ];unfold Dr;simp[AL];omega
   generalize w.alloc (.cells #[.int .i64 (kd:Nat),.int .i64 (A.line:Nat),.bool A.ex.head,.bool A.ex.tail,.slice p A.ex.l.length c] 177)=W0 at*;obtain⟨Li,nI,Dz⟩ :=HX0.out;have SJ:=γ nI;have PD:Hid (A.ex.l.length=Li.length):=by show _=_;rw[←nI];simp
   have HLS:Hid (Li.length≤8192):=by show _≤_;rw[←PD.out];exact hxl
   have qQ:=γ Dz;obtain⟨m,hm⟩ :∃m,A.ex.l.length=m:=⟨_,rfl⟩
   rw[hm]at p4;have HM:Hid (m=Li.length):=by show _=_;rw[←hm];exact PD.out
   clear EO hn nI Dz HX0 Dg a9 a10 p0 p1 hm Eu HH hxl
   go_region_held3(fun w'=>w'.cell? ⟨b,7,none⟩ =some (.slice ap n cp)∧w'.cell? ⟨w.heap.size,2,none⟩ =some (.bool A.ex.head)∧w'.cell? ⟨w.heap.size,3,none⟩ =some (.bool A.ex.tail)∧w'.cell? ⟨w.heap.size,4,none⟩ =some (.slice p m c)∧b<w'.heap.size∧w.heap.size<w'.heap.size)
    (first
     |go_keep
     | (go_split_ands
        refine⟨?_,?_,?_,?_,?_,?_⟩
        ·(rw[ξ.cell (by assumption)];assumption)
        ·(rw[ξ.cell (by assumption)];assumption)
        ·(rw[ξ.cell (by assumption)];assumption)
        ·(rw[ξ.cell (by assumption)];assumption)
        ·(have:=ξ.size;omega)
        ·(have:=ξ.size;omega)))
    (first
     | (go_at_call 77;refine(IH _ D.pat _ Jr.out.drew HN.out).mono ?_;rintro e w1 ⟨rfl,ξ⟩;have g1:=ξ;have it1:=(qQ.out.below (ζ.drew)).below g1)
     | (go_at_call 106;have HC:=P8 A.ex.head A.ex.tail p m c Li (Dr D.pat) w1 HM.out it1 HLS.out Un.out;refine HC.mono ?_;clear HC;rintro e w2 ⟨G,a2,c2,hG,rfl,Bl,PW,ξ⟩;have g2:=ξ))
   have HO2:=γ Bl;have EA:Hid (∀j(h:j<G.length),Cr w2 G[j] ((Dr D.pat).size+1) (fun p=>AP ⟨A.ex.head,A.ex.tail,Li.map IV.it⟩ (Dr D.pat).data.toList p j)):=PW;have GC:Hid (Below w.heap.size w w2):=by
    have b1:=pg.out.drew.trans (g1.mono (by have:=pg.out.size;exact this));exact b1.trans (g2.mono (by have:=b1.size;exact this))
   clear Bl PW g1 g2 ξ it1
   go_wp2_with fail
   refine(YV G a2 c2 _ ⟨A.ex.head,A.ex.tail,Li.map IV.it⟩ (Dr D.pat) 0 w2 Un.out hG HO2.out EA.out ε).mono ?_;rintro e w3 ⟨⟨i,j,rfl,hfa⟩,rfl⟩;have ik:Hid (D.holds A=decide (0≤i)):=by
    show _=_;rw[HE.out,find_eq hfa,SJ.out];unfold Dr;simp
   clear hfa
   by_cases hi:0≤i
   ·rw[decide_eq_true hi]at ik
    go_wp2;go_ret;exact⟨ι (by rw[ik.out];first|done|rfl|exact decide_eq_true (by omega) |exact decide_eq_false (by omega)),GC.out⟩
   ·rw[decide_eq_false hi]at ik
    go_wp2;go_ret;exact⟨ι (by rw[ik.out];first|done|rfl|exact decide_eq_true (by omega) |exact decide_eq_false (by omega)),GC.out⟩
end Go.Proofs.YtlppphmnegdhoabGreatDoor
