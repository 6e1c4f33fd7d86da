import Derived.Test.YtlppphmnegdhoabGreatDoorMz17
set_option linter.unusedVariables false
set_option maxRecDepth 100000
set_option maxHeartbeats 2000000
namespace Go.Proofs.YtlppphmnegdhoabGreatDoor
open Go.Proofs.Tryz
open Go.RowKit
open M
theorem Ci{w w':World}{v:Value}{B:Nat}(hg:w.grownBy w' v.ownBlock)(hB:B≤w.heap.size)(ν:∀k,v.ownBlock=some k→B≤k):Below B w w':=
 (Below.refl B w).grown hg hB ν
theorem Bb(o:Int)(w:World):
  Calls prog 187 #[.int .i64 o] w fun e w'=>e= .returned (.agg #[.int .u8 10,.int .i64 o])∧Below w.heap.size w w':=by
 have Cq:CB (w.alloc (.cells #[.int .u8 0,.int .i64 0] 230)) w.heap.size [.int .u8 0,.int .i64 0]:=CB.new w _ #[.int .u8 0,.int .i64 0] (by simp[Value.oneCell']);have B0:Below w.heap.size w (w.alloc (.cells #[.int .u8 0,.int .i64 0] 230)):=ζ.alloc δ _
 go_enter func187,ntmps187
 go_wp2_with(refine θ Lz Cq rfl rfl _ _ rfl rfl (vs:= [.int .u8 10,.int .i64 o]) rfl rfl (by simp[Value.oneCell']) ?_;intro w8 Nl O8)
 refine bodyPost_ret (Kz rfl _ _ _ _ rfl Lz Nl rfl) rfl ?_;exact⟨rfl,B0.trans (O8.below δ)⟩
theorem Eb(va vb:Value)(a b:List Cl)(x:Nat)(o:Int)(c:UInt8)(w:World)(hc:c.toNat=x)(ha:ψ w va a)(hb:ψ w vb b)(hl:a.length+b.length≤100000):
  Calls prog 189 #[va,.agg #[.int .u8 x,.int .i64 o],vb] w fun e w'=>Rl (AJ a (c,o) b) w e w':=by
 have HC:Hid (Cn [(c,o)]= [.int .u8 x,.int .i64 o]):=by show _=_;rw[←hc];rfl
 have FT:x<256:=by rw[←hc];exact c.toNat_lt
 clear hc;have Dg:CB (w.alloc (.cells #[.int .u8 x,.int .i64 o] 230)) w.heap.size [.int .u8 x,.int .i64 o]:=CB.new w _ #[.int .u8 x,.int .i64 o] (by simp[Value.oneCell']);have B0:Below w.heap.size w (w.alloc (.cells #[.int .u8 x,.int .i64 o] 230)):=ζ.alloc δ _;have ha0:=ha.below B0;have I0:(w.alloc (.cells #[.int .u8 x,.int .i64 o] 230)).heap.size=w.heap.size+1:=by simp
 have TZ:(w.alloc (.cells #[.int .u8 x,.int .i64 o] 230)).ownsRow (w.heap.size+1) 230 2 (.slice none 0 0) 0 []:=World.ownsRow_nil _ _ _ _;obtain⟨aa,ac,rfl,hac⟩ :=ha.form;obtain⟨ba,bc,rfl,ua⟩ :=hb.form;obtain⟨na,kh⟩ :∃n,a.length=n:=⟨_,rfl⟩
 obtain⟨nb,H7⟩ :∃n,b.length=n:=⟨_,rfl⟩
 have Pu:=γ kh;have ic:=γ H7;rw[kh]at ha0 hl⊢;rw[H7]at hb hl⊢;have HBO:=γ hb;clear ha hb hac ua kh H7
 go_enter func189,ntmps189
 go_wp2_with(first
  | (refine Le TZ ha0 (by rw[Pu.out];omega) (by omega) rfl (.tmp 8) (.tmp 9) rfl rfl rfl ?_
     intro v1 w1 Bp Td;rw[Pu.out,Nat.zero_add,List.nil_append]at Bp;have L0:=Ci (B:=w.heap.size+1) Td (by omega) (fun k hk=>by cases hk);have ACr:=Dg.below L0 (by omega);have BB1:=B0.trans (L0.mono (by omega));have CE:=Td.size;obtain⟨a1,c1,EN⟩ :=κ Bp;subst EN)
  |refine ω Lz ACr rfl rfl _ rfl rfl ?_
  |refine Bz Jp rfl _ rfl [.int .u8 x,.int .i64 o] rfl rfl ?_
  | (refine A8 Jp (Bp.alloc _) w1.heap.size [.int .u8 x,.int .i64 o] (heap_alloc_new w1 _) rfl (by simp[Value.oneCell']) (by omega) (by simp;omega) rfl (.tmp 11) (.tmp 13) rfl rfl rfl ?_
     intro v2 w2 Bl eI;have TB:Below (w.heap.size+1) w1 w2:=(ζ.alloc (by omega) _).grown eI (by simp;omega) (fun k hk=>(Bp.lt k hk).1);have Fw:=eI.size;have QI:=BB1.trans (TB.mono (by omega));have ACs:=HBO.out.below QI;obtain⟨a2,c2,S7⟩ :=κ Bl;subst S7)
  | (refine Le Bl ACs (by rw[ic.out];omega) (by simp at Fw;omega) rfl (.tmp 15) (.tmp 16) rfl rfl rfl ?_
     intro v3 w3 Γ VK;rw[ic.out]at Γ;have Hx:=Ci (B:=w.heap.size+1) VK (by simp at Fw;omega) (fun k hk=>(Bl.lt k hk).1);have fN:=QI.trans (Hx.mono (by omega));obtain⟨a3,c3,Ei⟩ :=κ Γ;subst Ei))
 go_ret;refine⟨_,rfl,?_,fN⟩;have hlen:(AJ a (c,o) b).length=na+1+nb:=by unfold AJ;rw[List.length_append,List.length_append,Pu.out,ic.out];rfl
 have DL:Cn (AJ a (c,o) b)=Cn a++ [.int .u8 x,.int .i64 o]++Cn b:=by unfold AJ;rw[Cf,Cf,HC.out]
 rw[hlen,DL];exact AH Γ (by omega)
theorem Gd(v:Value)(l:List Cl)(w:World)(h:ψ w v l)(hl:l.length≤100000):
  Calls prog 245 #[v] w fun e w'=>e= .returned (.int .i64 (Ad l:Nat))∧Below w.heap.size w w':=by
 obtain⟨a,c,rfl,S8⟩ :=h.form;obtain⟨n,hn⟩ :∃n,l.length=n:=⟨_,rfl⟩
 have HN:=γ hn;rw[hn]at h hl⊢;have HS:=γ h;clear h hn S8
 go_enter func245,ntmps245
 go_wp2_with fail
 go_loopw [7] (fun v7 wr=>∃i:Nat,v7= .int .i64 i∧i≤n∧Hid (Ad l=if Ad (l.drop i)=0 then 0 else i+Ad (l.drop i))∧Below w.heap.size w wr) (fun v7 _=>n - (intOf v7).toNat)
 case atStart=>
  refine⟨0,rfl,ε,?_,ζ⟩;show _=_;rw[List.drop_zero];split<;>omega
 case round=>
  obtain⟨i,rfl,hi,HB,hB⟩ :=hrel;have K1:=hB.size
  by_cases Ac:i<n
  ·have AV:(i:Int)<(n:Int):=by omega
   have h0:(0:Int)≤(i:Int):=by omega
   have BN:i<l.length:=by rw[HN.out];exact Ac
   obtain⟨-,g,o,rfl,hg,hr⟩ :=(HS.out.below hB).at' i BN;have GC:Hid (Ad l=if l[i].1.toNat=10 then i+1 else if Ad (l.drop (i+1))=0 then 0 else(i+1)+Ad (l.drop (i+1))):=by
    show _=_;rw[HB.out,List.drop_eq_getElem_cons BN,Ad];split
    ·simp
    ·split<;>simp<;>omega
   obtain⟨x,hx⟩ :∃x:Nat,l[i].1.toNat=x:=⟨_,rfl⟩
   have FT:x<256:=by rw[←hx];exact l[i].1.toNat_lt
   rw[hx]at hr GC;generalize l[i].2=y at*;clear hx HB
   by_cases Ff:x=10
   ·have aD:((x:Int)==10)=true:=by simp[Ff]
    have HF:Hid (Ad l=i+1):=by show _=_;rw[GC.out,if_pos Ff]
    clear Ff GC;have aF:=hB.alloc K1 (.cells #[.int .u8 x,.int .i64 y] 230)
    go_wp2_with(refine BX Lz hr rfl rfl _ rfl rfl ?_)
    go_ret;exact⟨by rw[HF.out];rfl,aF⟩
   ·have aD:((x:Int)==10)=false:=by simp;omega
    have HF:Hid (Ad l=if Ad (l.drop (i+1))=0 then 0 else(i+1)+Ad (l.drop (i+1))):=by show _=_;rw[GC.out,if_neg Ff]
    clear Ff GC;have aF:=hB.alloc K1 (.cells #[.int .u8 x,.int .i64 y] 230)
    go_wp2_with(refine BX Lz hr rfl rfl _ rfl rfl ?_)
    go_roundw
    case rel=>exact⟨i+1,by go_num,by omega,HF,aF⟩
    case measure=>simp[intOf]<;>omega
  ·obtain rfl:i=n:=by omega
   have AV:¬(i:Int)<(i:Int):=by omega
   have HF:Hid (Ad l=0):=by
    show _=_;rw[HB.out,List.drop_of_length_le (by rw[HN.out];exact δ)];rfl
   clear HB;go_wp2;go_ret;exact⟨by rw[HF.out];rfl,hB⟩
theorem ψ.sub{w:World}{g o n c:Nat}{l:List Cl}{i j:Nat}(h:ψ w (.slice (some ⟨g,o,none⟩) n c) l)(aG:i≤j)(hj:j≤l.length):ψ w (.slice (some ⟨g,o+i*2,none⟩) (j - i) (c - i)) (τ l i j):=by
 have pL:(τ l i j).length=j - i:=by unfold τ;rw[List.length_take,List.length_drop];omega
 obtain⟨a',c',e,h1,h2,h3⟩ :=h;simp only[Value.slice.injEq]at e;obtain⟨e1,rfl,rfl⟩ :=e;refine⟨some ⟨g,o+i*2,none⟩,c - i,by rw[pL],by rw[pL];omega,by omega,?_⟩;rcases h3 with⟨h3,_⟩ | ⟨g',o',h3,hg,hr⟩
 ·left
  refine⟨?_,fun h=>by cases h⟩;subst h3;simp[τ]
 ·rw[←e1]at h3
  simp only[Option.some.injEq,Addr.mk.injEq]at h3;obtain⟨rfl,rfl,_⟩ :=h3;refine .inr ⟨g,o+i*2,rfl,hg,fun q u hu=> ?_⟩;unfold τ at hu;rw[←kf,←kb,List.getElem?_take]at hu;split at hu
  ·rw[List.getElem?_drop]at hu
   have:=hr _ u hu
   rwa [←Nat.add_assoc]at this
  ·cases hu
theorem ψ.zero(w:World)(ad:Addr)(c:Nat)(hc:c≤maxLen):ψ w (.slice (some ad) 0 c) []:=⟨_,c,rfl,ε,hc,.inl ⟨rfl,fun h=>by cases h⟩⟩
def xL(v:Value)(l0 l:List Cl)(w:World)(e:Ending)(w':World):Prop:=w'=w∧∃v',e= .returned v'∧ψ w v' l∧∀w2,ψ w2 v l0→ψ w2 v' l
theorem DM(v:Value)(l:List Cl)(i j:Nat)(w:World)(h:ψ w v l)(aG:i≤j)(hj:j≤l.length)(hl:l.length≤100000):
  Calls prog 112 #[v,.int .i64 i,.int .i64 j] w fun e w'=>xL v l (τ l i j) w e w':=by
 have HSA:=γ h;obtain⟨a,c,rfl,S8,Oz,EK⟩ :=h;have pL:(τ l i j).length=j - i:=by unfold τ;rw[List.length_take,List.length_drop];omega
 have HJ:=γ hj;obtain⟨n,hn⟩ :∃n,l.length=n:=⟨_,rfl⟩
 have HN:=γ hn;rw[hn]at hj hl S8 HSA⊢;have h1:¬(i:Int)<0:=by omega
 have h2:¬(j:Int)<(i:Int):=by omega
 have h3:¬(n:Int)<(j:Int):=by omega
 have h4:(0:Int)≤(i:Int):=by omega
 have h5:(i:Int)≤(j:Int):=by omega
 have h6:(j:Int)≤(c:Int):=by omega
 clear hn;rcases EK with⟨rfl,ha⟩ | ⟨g,o,rfl,hg,hr⟩
 ·obtain rfl:n=0:=HN.out.symm
  obtain⟨rfl,rfl⟩ :i=0∧j=0:=by omega
  cases a with
  |none=>
   obtain rfl:=ha rfl
   go_enter func112,ntmps112
   go_wp2;go_ret;exact⟨rfl,_,rfl,ψ.nil w,fun w2 _=>ψ.nil w2⟩
  |some ad=>
   go_enter func112,ntmps112
   go_wp2;go_ret;exact⟨rfl,_,rfl,ψ.zero w ad c Oz,fun w2 _=>ψ.zero w2 ad c Oz⟩
 ·have Xi:Hid ((τ l i j).length=j - i):=pL
  clear hr pL
  go_enter func112,ntmps112
  go_wp2
  ·go_ret
   have hz:j - i=0:=by omega
   have hp:τ l i j= []:=List.eq_nil_of_length_eq_zero (by rw[Xi.out,hz]);have Co:∀w2,ψ w2 (.slice (some ⟨g,o,none⟩) (j - i) 0) (τ l i j):=fun w2=>by
    rw[hp,hz];exact ψ.zero w2 _ 0 (by unfold maxLen;omega)
   exact⟨rfl,_,rfl,Co w,fun w2 _=>Co w2⟩
  ·go_ret
   exact⟨rfl,_,rfl,HSA.out.sub aG HJ.out,fun w2 h2=>h2.sub aG HJ.out⟩
structure RV where
 AZ:Value
 AM:Value
 out:Value
 pat:Value
 hold:Value
 D8:Value
def GD(V:RV)(S:St):List Value:= [V.AZ,V.AM,.bool S.quiet,.int .i64 (S.steps:Nat),.int .i64 (S.room:Nat),.string S.text,.bool S.closed,.int .i64 (S.behind:Nat),.int .i64 S.nl,V.out,V.pat,V.hold,.int .i64 (S.line:Nat),V.D8,.bool S.mark,.int .i64 (S.next:Nat),.int .i64 (S.asks:Nat),.bool S.over,.int .i64 (S.AB:Nat)]
theorem CY(V:RV)(S:St):(GD V S).length=19:=rfl
def ρ(b:Nat)(V:RV)(k:Nat):Prop:=k=b∨V.out.ownBlock=some k∨V.AM.ownBlock=some k∨V.D8.ownBlock=some k
def Av(F:Nat→Prop)(w:World)(P:World→Prop):Prop:=∀w',w.heap.size≤w'.heap.size→(∀k,k<w.heap.size→¬F k→w'.heap[k]? =w.heap[k]?)→P w'
theorem Av.out{F:Nat→Prop}{w:World}{P:World→Prop}(h:Av F w P):P w:=h w δ (fun _ _ _=>rfl)
structure Rf(F F':Nat→Prop)(w w':World):Prop where
 os:w'.os=w.os
 tape:w'.tape=w.tape
 output:w'.output=w.output
 size:w.heap.size≤w'.heap.size
 block:∀k,k<w.heap.size→¬F k→w'.heap[k]? =w.heap[k]?
 new:∀k,F' k→F k∨w.heap.size≤k
theorem Rf.refl(F:Nat→Prop)(w:World):Rf F F w w:=⟨rfl,rfl,rfl,δ,fun _ _ _=>rfl,fun _ h=> .inl h⟩
theorem Rf.trans{F G H:Nat→Prop}{x y z:World}(h:Rf F G x y)(k:Rf G H y z):Rf F H x z:=by
 refine⟨k.os.trans h.os,k.tape.trans h.tape,k.output.trans h.output,Nat.le_trans h.size k.size,fun i hi hF=> ?_,fun i hi=> ?_⟩
 ·refine(k.block i (Nat.lt_of_lt_of_le hi h.size) (fun hG=> ?_)).trans (h.block i hi hF)
  rcases h.new i hG with h1|h1
  ·exact hF h1
  ·omega
 ·rcases k.new i hi with h1|h1
  ·exact h.new i h1
  ·exact .inr (Nat.le_trans h.size h1)
theorem Rf.η{F:Nat→Prop}{w w':World}(h:Below w.heap.size w w'):Rf F F w w':=⟨h.os,h.tape,h.output,h.size,fun k hk _=>h.block k hk,fun _ h=> .inl h⟩
theorem Av.fr{F G:Nat→Prop}{w w':World}{P:World→Prop}(h:Av F w P)(hf:Rf F G w w'):Av G w' P:=fun w'' h1 h2=>by
 refine h w'' (Nat.le_trans hf.size h1) (fun k hk hF=> ?_);refine(h2 k (Nat.lt_of_lt_of_le hk hf.size) (fun hG=> ?_)).trans (hf.block k hk hF);rcases hf.new k hG with h3|h3
 ·exact hF h3
 ·omega
theorem Av.AAZ{F:Nat→Prop}{w:World}{v:Value}{l:List Cl}(h:ψ w v l)(hF:∀g o n c,v= .slice (some ⟨g,o,none⟩) n c→¬F g):Av F w (fun w=>ψ w v l):=fun w' h1 h2=>h.keep h1 (fun g o n c hv hg=>h2 g hg (hF g o n c hv))
structure π(P:Value→World→Prop)(b:Nat)(tl:List Value)(V:RV)(S:St)(w:World):Prop where
 box:CB w b (GD V S++tl)
 out:w.ownsRow 0 230 2 V.out S.out.length (Cn S.out)
 AM:w.ownsRow 0 4 1 V.AM S.AM.length (S.AM.map .bool)
 D8:w.ownsRow 0 9 1 V.D8 S.queue.length (S.queue.map .string)
 so:V.out.ownBlock≠some b
 sr:V.AM.ownBlock≠some b
 sq:V.D8.ownBlock≠some b
 AZ:Av (ρ b V) w (P V.AZ)
 pat:Av (ρ b V) w (fun w=>ψ w V.pat S.pat)
 hold:Av (ρ b V) w (fun w=>ψ w V.hold S.hold)
 one:V.AZ.oneCell'=true
theorem Ab{F G:Nat→Prop}{w w':World}{base:Nat}{e:TypeId}{size:Nat}{v:Value}{n:Nat}{xs:List Value}(h:w.ownsRow base e size v n xs)(hk:∀k,v.ownBlock=some k→w'.heap[k]? =w.heap[k]?):w'.ownsRow base e size v n xs:=by
 obtain⟨h1,h2⟩ :=h;refine⟨h1,?_⟩;rcases h2 with h2| ⟨q,cap,cur,e1,e2,e3,e4⟩
 ·exact .inl h2
 ·exact .inr ⟨q,cap,cur,e1,e2,by rw[hk q (by rw[e1];rfl)];exact e3,e4⟩
section
variable {P : Value → World → Prop} {b : Nat} {tl : List Value} {V : RV} {S : St} {w w' : World}
theorem π.below(h:π P b tl V S w)(hb:Below w.heap.size w w'):π P b tl V S w':=
 ⟨h.box.below hb h.box.lt,Ξ h.out hb,Ξ h.AM hb,Ξ h.D8 hb,h.so,h.sr,h.sq,h.AZ.fr (.η hb),h.pat.fr (.η hb),h.hold.fr (.η hb),h.one⟩
theorem π.cell(h:π P b tl V S w)(j:Nat)(v:Value)(hv:(GD V S)[j]? =some v):w.cell? ⟨b,j,none⟩ =some v:=
 h.box.c j v (by rw[List.getElem?_append_left (by have:=(List.getElem?_eq_some_iff.1 hv).1;exact this)];exact hv)
theorem π.fz(h:π P b tl V S w)(j:Nat)(hj:j<19):w.frozen? ⟨b,j,none⟩ =false:=h.box.fz j (by rw[List.length_append,CY];omega)
theorem Rf.set(V:RV)(b j:Nat)(u:Value)(w:World):Rf (ρ b V) (ρ b V) w (w.setCell ⟨b,j,none⟩ u):=
 ⟨rfl,rfl,rfl,by simp,fun k _ hk=>heap_setCell_other w _ k u (fun e=>hk (.inl e)),fun _ h=> .inl h⟩
theorem π.set(h:π P b tl V S w)(j:Nat)(hj:j<19)(u:Value)(hu:u.oneCell'=true)(S':St)(hC:(GD V S).set j u=GD V S')(ho:S'.out=S.out)(hr:S'.AM=S.AM)(hq:S'.queue=S.queue)(hp:S'.pat=S.pat)(hh:S'.hold=S.hold):π P b tl V S' (w.setCell ⟨b,j,none⟩ u):=by
 have hf:=Rf.set V b j u w;have hk:∀k,k≠b→(w.setCell ⟨b,j,none⟩ u).heap[k]? =w.heap[k]? :=fun k hk=>heap_setCell_other w _ k u hk
 refine⟨?_,?_,?_,?_,h.so,h.sr,h.sq,h.AZ.fr hf,?_,?_,h.one⟩
 ·have h1:=h.box.set j (by rw[List.length_append,CY];omega) u hu
  rw[List.set_append_left _ _ (by rw[CY];omega),hC]at h1;exact h1
 ·rw[ho];exact Ab (F:=ρ b V) (G:=ρ b V) h.out (fun k e=>hk k (fun e'=>h.so (by rw[e,e'])))
 ·rw[hr];exact Ab (F:=ρ b V) (G:=ρ b V) h.AM (fun k e=>hk k (fun e'=>h.sr (by rw[e,e'])))
 ·rw[hq];exact Ab (F:=ρ b V) (G:=ρ b V) h.D8 (fun k e=>hk k (fun e'=>h.sq (by rw[e,e'])))
 ·rw[hp];exact h.pat.fr hf
 ·rw[hh];exact h.hold.fr hf
end
def μ(P:Value→World→Prop)(b:Nat)(tl:List Value)(V:RV)(S':St)(w w':World):Prop:=∃V',V'.AZ=V.AZ∧π P b tl V' S' w'∧Rf (ρ b V) (ρ b V') w w'
def RV.Af(V:RV)(v:Value):RV:=⟨V.AZ,V.AM,v,V.pat,V.hold,V.D8⟩
def CC(P:Value→World→Prop)(b:Nat)(tl:List Value)(V:RV)(S':St)(w w':World):Prop:=∃v,π P b tl (V.Af v) S' w'∧Rf (ρ b V) (ρ b (V.Af v)) w w'
theorem CC.xM{P:Value→World→Prop}{b:Nat}{tl:List Value}{V:RV}{S':St}{w w':World}(h:CC P b tl V S' w w'):μ P b tl V S' w w':=by
 obtain⟨v,h1,h2⟩ :=h;exact⟨V.Af v,rfl,h1,h2⟩
theorem CC.pre{P:Value→World→Prop}{b:Nat}{tl:List Value}{V:RV}{S':St}{w w1 w':World}(hf:Rf (ρ b V) (ρ b V) w w1)(h:CC P b tl V S' w1 w'):CC P b tl V S' w w':=by
 obtain⟨v,h1,h2⟩ :=h;exact⟨v,h1,hf.trans h2⟩
theorem CC.trans{P:Value→World→Prop}{b:Nat}{tl:List Value}{V:RV}{v:Value}{S':St}{w w1 w':World}(hf:Rf (ρ b V) (ρ b (V.Af v)) w w1)(h:CC P b tl (V.Af v) S' w1 w'):CC P b tl V S' w w':=by
 obtain⟨v2,h1,h2⟩ :=h;exact⟨v2,h1,hf.trans h2⟩
def O0(P:Value→World→Prop)(b:Nat)(tl:List Value)(V:RV)(S':St)(w:World)(e:Ending)(w':World):Prop:=e= .returned (.tuple #[])∧CC P b tl V S' w w'
def Hd(P:Value→World→Prop)(b:Nat)(tl:List Value)(V:RV)(S':St)(w:World)(e:Ending)(w':World):Prop:=e= .returned (.tuple #[])∧μ P b tl V S' w w'
theorem PB(P:Value→World→Prop)(b:Nat)(tl:List Value)(V:RV)(S:St)(x:Nat)(w:World)(h:π P b tl V S w):
  Calls prog 181 #[.pointer (some ⟨b,0,none⟩),.int .i64 (x:Nat)] w fun e w'=>O0 P b tl V (S.die x) w e w':=by
 have c18:=h.cell 18 _ rfl;have f18:=h.fz 18 (by decide);have f17:=h.fz 17 (by decide);have QO:=h.cell 17 _ rfl;have Ac:=h.box.lt
 by_cases hd:S.AB=0
 ·have h1:(((S.AB:Nat):Int)==0)=true:=by simp[hd]
  have hA:=h.set 18 (by decide) (.int .i64 (x:Nat)) rfl {S with AB:=x} rfl rfl rfl rfl rfl rfl;have hB:=hA.set 17 (by decide) (.bool true) rfl {S with AB:=x,over:=true} rfl rfl rfl rfl rfl rfl;have HR:Hid (CC P b tl V (S.die x) w ((w.setCell ⟨b,18,none⟩ (.int .i64 (x:Nat))).setCell ⟨b,17,none⟩ (.bool true))):=by
   refine⟨V.out,?_,(Rf.set V b 18 _ w).trans (Rf.set V b 17 _ _)⟩;unfold St.die;rw[if_pos hd];exact hB
  clear hA hB h hd
  go_enter func181,ntmps181
  go_wp2
  go_end0
  exact⟨rfl,HR.out⟩
 ·have h1:(((S.AB:Nat):Int)==0)=false:=by simp;omega
  have hB:=h.set 17 (by decide) (.bool true) rfl {S with over:=true} rfl rfl rfl rfl rfl rfl;have HR:Hid (CC P b tl V (S.die x) w (w.setCell ⟨b,17,none⟩ (.bool true))):=by
   refine⟨V.out,?_,Rf.set V b 17 _ w⟩;unfold St.die;rw[if_neg hd];exact hB
  clear hB h hd
  go_enter func181,ntmps181
  go_wp2
  go_end0
  exact⟨rfl,HR.out⟩
theorem GF{w:World}{B B':Nat}{e e':TypeId}{s s':Nat}{v v':Value}{n n':Nat}{xs xs':List Value}(h:w.ownsRow B e s v n xs)(h':w.ownsRow B' e' s' v' n' xs')(hne:e≠e')(k:Nat)(hk:v.ownBlock=some k):v'.ownBlock≠some k:=fun aH=>by
 rcases h.2 with⟨rfl,_⟩ | ⟨g,cap,cur,rfl,_,hg,_⟩
 ·cases hk
 rcases h'.2 with⟨rfl,_⟩ | ⟨g',eW,AAU,rfl,_,XU,_⟩
 ·cases aH
 have e1:g=k:=by simpa[Value.ownBlock]using hk
 have e2:g'=k:=by simpa[Value.ownBlock]using aH
 subst e1 e2;rw[hg]at XU;simp only[Option.some.injEq,Obj.cells.injEq]at XU;exact hne XU.2.1
theorem Qp{w:World}{B:Nat}{e:TypeId}{s:Nat}{v:Value}{n:Nat}{xs:List Value}(h:w.ownsRow B e s v n xs):v.oneCell'=true:=by
 rcases h.2 with⟨rfl,_⟩ | ⟨g,cap,cur,rfl,_⟩ <;>rfl
theorem FI{ops:Array Oper}{rest:List Oper}{o:Oper}{a:Act}{w:World}{Q:Exit→Act→World→Prop}{B:Nat}{v v2:Value}{n:Nat}{xs:List Value}{l:List Cl}(ν:w.ownsRow B 230 2 v n xs)(DC:ψ w v2 l)(hn:n+l.length≤1000000000)(hB:B≤w.heap.size)(Fv:o.guard=none)(s x:Operand)
  (ho:o.op= .call {callee:= .builtin .append,args:= #[s,x],argTypes:= #[82,82]}) (hs:a.eval s=v) (hx:a.eval x=v2)
  (h:∀v' w',w'.ownsRow B 230 2 v' (n+l.length) (xs++Cn l)→w.grownBy w' v.ownBlock→(v'.ownBlock=v.ownBlock∨v'.ownBlock=some w.heap.size)→wpList prog ops Q rest (a.put o.dst v') w'):wpList prog ops Q (o::rest) a w:=by
 obtain⟨i0,hi,DF,CN,Dq⟩ :=info_parts Jp.info;obtain⟨ad,c,rfl,h1,h2,h3⟩ :=DC;cases ad with
 |none=>
  have hl:l= []∧c=0:=by
   rcases h3 with⟨h3,h4⟩ | ⟨g,o,h3,_⟩
   ·exact⟨h3,h4 rfl⟩
   ·cases h3
  obtain⟨rfl,rfl⟩ :=hl;refine wpList_append_own_none Fv s x _ ho B _ i0 2 Jp.und hi v n xs hs ν hx ?_;refine h v w ?_ ⟨rfl,rfl,rfl,δ,fun _ _ _=>rfl⟩ (.inl rfl);rw[VT,List.append_nil];exact ν
 |some ad=>
  have hc:∀j u,(Cn l)[j]? =some u→w.cell? (ad.add j)=some u:=by
   rcases h3 with⟨h3,_⟩ | ⟨g,o,h3,hg,hr⟩
   ·subst h3;intro j u hu;simp[Cn]at hu
   ·simp only[Option.some.injEq]at h3
    subst h3;intro j u hu;rw[Addr.add_mid];exact hr j u hu
  exact wpList_append_own_at w Fv s x _ ho B _ i0 _ 2 16 Jp.und hi DF CN Dq rfl (by decide) v n xs hs ν ad l.length c (Cn l) hx (by rw[VU]) hc (VV l) (by unfold maxLen;omega) (by omega) hB (fun v' w' h1 h2 _ h4=>h v' w' h1 h2 h4)
section
variable {P : Value → World → Prop} {b : Nat} {tl : List Value} {V : RV} {S : St} {w w' : World}
theorem π.grow(h:π P b tl V S w){v':Value}{l:List Cl}(ν:w'.ownsRow 0 230 2 v' (S.out.length+l.length) (Cn S.out++Cn l))(hg:w.grownBy w' V.out.ownBlock)(Cw:v'.ownBlock=V.out.ownBlock∨v'.ownBlock=some w.heap.size):
  CB w' b (GD V S++tl)∧CC P b tl V {S with out:=S.out++l} w (w'.setCell ⟨b,9,none⟩ v'):=by
 have Bq:=h.box.lt;have hk:∀k,k<w.heap.size→V.out.ownBlock≠some k→w'.heap[k]? =w.heap[k]? :=fun k hk hne=>hg.block k hk (fun e=>hne e.symm)
 have Eo:=h.box.keep (hk b Bq h.so) hg.size;refine⟨Eo,v',?_⟩;have S6:v'.ownBlock≠some b:=by
  rcases Cw with e|e<;>rw[e]
  ·exact h.so
  ·intro e';simp at e';omega
 have f1:Rf (ρ b V) (ρ b ⟨V.AZ,V.AM,v',V.pat,V.hold,V.D8⟩) w w':=by
  refine⟨hg.os,hg.tape,hg.output,hg.size,fun k aH hF=>hk k aH (fun e=>hF (.inr (.inl e))),fun k hF=> ?_⟩;rcases hF with e|e |e |e
  ·exact .inl (.inl e)
  ·rcases Cw with e'|e'
   ·exact .inl (.inr (.inl (by rw[←e'];exact e)))
   ·have e:v'.ownBlock=some k:=e
    rw[e']at e;simp at e;exact .inr (by omega)
  ·exact .inl (.inr (.inr (.inl e)))
  ·exact .inl (.inr (.inr (.inr e)))
 have f2:=f1.trans (Rf.set ⟨V.AZ,V.AM,v',V.pat,V.hold,V.D8⟩ b 9 v' w');have Ep:∀k,k≠b→(w'.setCell ⟨b,9,none⟩ v').heap[k]? =w'.heap[k]? :=fun k hk=>heap_setCell_other w' _ k v' hk
 refine⟨⟨?_,?_,?_,?_,S6,h.sr,h.sq,h.AZ.fr f2,h.pat.fr f2,h.hold.fr f2,h.one⟩,f2⟩
 ·have h1:=Eo.set 9 (by rw[List.length_append,CY];omega) v' (Qp ν)
  rw[List.set_append_left _ _ (by rw[CY];omega)]at h1;exact h1
 ·show World.ownsRow _ 0 _ 2 v' (S.out++l).length (Cn (S.out++l))
  rw[List.length_append,Cf];exact Ab (F:=ρ b V) (G:=ρ b V) ν (fun k e=>Ep k (fun e'=>S6 (by rw[e,e'])))
 ·refine Ab (F:=ρ b V) (G:=ρ b V) h.AM (fun k e=> ?_)
  have e:V.AM.ownBlock=some k:=e;have Ac:=(h.AM.lt k e).2;rw[Ep k (fun e'=>h.sr (by rw[e,e'])),hk k Ac (GF h.AM h.out (by decide) k e)]
 ·refine Ab (F:=ρ b V) (G:=ρ b V) h.D8 (fun k e=> ?_)
  have e:V.D8.ownBlock=some k:=e;have Ac:=(h.D8.lt k e).2;rw[Ep k (fun e'=>h.sq (by rw[e,e'])),hk k Ac (GF h.D8 h.out (by decide) k e)]
end
theorem μ.trans{P:Value→World→Prop}{b:Nat}{tl:List Value}{V V1:RV}{S:St}{w w1 w2:World}(hs:V1.AZ=V.AZ)(hf:Rf (ρ b V) (ρ b V1) w w1)(h:μ P b tl V1 S w1 w2):μ P b tl V S w w2:=by
 obtain⟨V',e,h1,h2⟩ :=h;exact⟨V',e.trans hs,h1,hf.trans h2⟩
theorem put_eq{S:St}{l:List Cl}:S.put l=if S.AB≠0 then S else if 4096 - S.out.length<l.length then S.die 6 else{S with out:=S.out++l}:=rfl
theorem PC(P:Value→World→Prop)(b:Nat)(tl:List Value)(V:RV)(S:St)(vl:Value)(l:List Cl)(w:World)(h:π P b tl V S w)(hw:WF S)(DC:ψ w vl l)(OQ:l.length≤100000):
  Calls prog 236 #[.pointer (some ⟨b,0,none⟩),vl] w fun e w'=>O0 P b tl V (S.put l) w e w':=by
 have c18:=h.cell 18 _ rfl;have c9:=h.cell 9 _ rfl;have Bq:=h.box.lt;have Nn:=hw.ou;obtain⟨al,cl,rfl,S8⟩ :=DC.form;obtain⟨ao,co,TC⟩ :=κ h.out;rw[TC]at c9;obtain⟨n,hn⟩ :∃n,S.out.length=n:=⟨_,rfl⟩
 obtain⟨m,hm⟩ :∃m,l.length=m:=⟨_,rfl⟩
 have HN:=γ hn;have HM:=γ hm;have HH:=γ h;have KW:Hid (ψ w (.slice al m cl) l):=by show ψ _ _ _;rw[←hm];exact DC
 have HOW:Hid (w.ownsRow 0 230 2 (.slice ao n co) n (Cn S.out)):=by
  have h9:=h.out;rw[TC,hn]at h9;exact h9
 rw[hn]at c9 Nn;have HVO:Hid (V.out= .slice ao n co):=by show _=_;rw[TC,hn]
 rw[hm]at OQ⊢;clear TC hn hm DC S8 h
 by_cases hd:S.AB=0
 ·have h1:(((S.AB:Nat):Int) !=0)=false:=by simp[hd]
  by_cases hf:4096 - n<m
  ·have hf1:(4096:Int) - (n:Int)<(m:Int):=by omega
   have HS:Hid (S.put l=S.die 6):=by show _=_;rw[put_eq,if_neg (by omega),HN.out,HM.out,if_pos hf]
   clear hd hf
   go_enter func236,ntmps236
   go_wp2_with fail
   refine(PB P b tl V S 6 w HH.out).mono ?_;rintro e w2 ⟨rfl,hr⟩;have HR:=γ hr;clear hr;go_wp2;refine bodyPost_ret (results_none rfl _ _ _) rfl ?_;exact⟨rfl,by rw[HS.out];exact HR.out⟩
  ·have hf1:¬(4096:Int) - (n:Int)<(m:Int):=by omega
   have HS:Hid (S.put l= {S with out:=S.out++l}):=by show _=_;rw[put_eq,if_neg (by omega),HN.out,HM.out,if_neg hf]
   clear hd hf;have ν:=HOW.out;have DC:=KW.out;have HG:Hid (∀v' w1,w1.ownsRow 0 230 2 v' (n+l.length) (Cn S.out++Cn l)→w.grownBy w1 (Value.slice ao n co).ownBlock→(v'.ownBlock=(Value.slice ao n co).ownBlock∨v'.ownBlock=some w.heap.size)→CB w1 b (GD V S++tl)∧CC P b tl V {S with out:=S.out++l} w (w1.setCell ⟨b,9,none⟩ v')):=fun v' w1 h1 h2 h3=>by
    refine HH.out.grow ?_ ?_ ?_
    ·rw[HN.out];exact h1
    ·rw[HVO.out];exact h2
    ·rw[HVO.out];exact h3
   go_enter func236,ntmps236
   go_wp2_with(refine FI ν DC (by rw[HM.out];omega) ε rfl _ _ rfl rfl rfl ?_
               intro v' w1 Bp Td eV;have ub:=HG.out v' w1 Bp Td eV;obtain⟨He,Wj⟩ :=ub;have HGR:=γ Wj;have f9:=He.fz 9 (by simp[GD]);have c9':=He.c 9 V.out (by simp[GD]);have l9:=He.lt;clear Wj eV Td He;obtain⟨a',c',CX⟩ :=κ Bp;subst CX;clear Bp)
   go_end0
   exact⟨rfl,by rw[HS.out];exact HGR.out⟩
 ·have h1:(((S.AB:Nat):Int) !=0)=true:=by simp;omega
  have HS:Hid (S.put l=S):=by show _=_;rw[put_eq,if_pos hd]
  clear hd
  go_enter func236,ntmps236
  go_wp2;refine bodyPost_ret (results_none rfl _ _ _) rfl ?_;exact⟨rfl,by rw[HS.out];exact⟨V.out,HH.out,Rf.refl _ _⟩⟩
theorem ki{a b c d:World}(h1:Below a.heap.size a b)(h2:Below b.heap.size b c)(h3:Below c.heap.size c d):Below a.heap.size a d:=
 (h1.trans (h2.mono h1.size)).trans (h3.mono (Nat.le_trans h1.size h2.size))
theorem BC{a b c:World}(h1:Below a.heap.size a b)(h2:Below b.heap.size b c):Below a.heap.size a c:=h1.trans (h2.mono h1.size)
theorem fO(s:ByteArray):(BJ s.data.toList).length=s.size:=by rw[←Δ];simp[BJ]
theorem F4(P:Value→World→Prop)(b:Nat)(tl:List Value)(V:RV)(S:St)(s:ByteArray)(w:World)(h:π P b tl V S w)(hw:WF S)(hs:s.size≤90000):
  Calls prog 221 #[.pointer (some ⟨b,0,none⟩),.string s] w fun e w'=>O0 P b tl V (S.Φ s) w e w':=by
 have HH:=γ h;have HL:=γ (fO s);have HJ:Hid ((AJ (BJ s.data.toList) (C4 (-1)) []).length=s.size+1):=by show _=_;unfold AJ;rw[List.length_append,List.length_append,HL.out];rfl
 clear h
 go_enter func221,ntmps221
 go_wp2_with fail
 refine(Xh s w (by omega)).mono ?_;rintro e w1 ⟨v1,rfl,Bp,B1⟩;have s1:=ψ.own Bp;obtain⟨a1,c1,EN⟩ :=κ Bp;subst EN;rw[HL.out]at s1⊢;clear Bp
 go_wp2_with fail
 refine(Bb (-1) w1).mono ?_;rintro e w2 ⟨rfl,B2⟩;have s2:=s1.below B2;clear s1
 go_wp2_with fail
 refine(Eb _ _ _ [] 10 (-1) 10 w2 rfl s2 (ψ.nil _) (by rw[HL.out];simp;omega)).mono ?_;rintro e w3 ⟨v3,rfl,Γ,B3⟩;have Hf:w3.ownsRow w2.heap.size 230 2 v3 (AJ (BJ s.data.toList) (C4 (-1)) []).length (Cn (AJ (BJ s.data.toList) (C4 (-1)) [])):=Γ;have s3:=ψ.own Hf;obtain⟨a3,c3,Ei⟩ :=κ Hf;subst Ei;rw[HJ.out]at s3⊢;have BB:=ki B1 B2 B3;clear Γ Hf s2
 go_wp2_with fail
 refine(PC P b tl V S _ _ w3 (HH.out.below BB) hw s3 (by rw[HJ.out];omega)).mono ?_;rintro e w4 ⟨rfl,hr⟩;have HR:Hid (CC P b tl V (S.Φ s) w w4):=CC.pre (.η BB) hr;clear hr;go_wp2
 go_end0
 exact⟨rfl,HR.out⟩
def aI(P:Value→World→Prop)(b:Nat)(tl:List Value)(V:RV)(S:St)(n:Nat)(w:World)(e:Ending)(w':World):Prop:=e= .returned (.bool (S.fits n))∧μ P b tl V (if S.fits n then S else S.die 5) w w'
theorem GG(P:Value→World→Prop)(b:Nat)(tl:List Value)(V:RV)(S:St)(n:Nat)(w:World)(h:π P b tl V S w)(ZK:S.room≤256)(hn:n≤1000000000):
  Calls prog 190 #[.pointer (some ⟨b,0,none⟩),.int .i64 (n:Nat)] w fun e w'=>aI P b tl V S n w e w':=by
 have c4:=h.cell 4 _ rfl;have Bq:=h.box.lt;have HH:=γ h;clear h
 by_cases hf:n≤S.room
 ·have hf1:¬((S.room:Nat):Int)<(n:Int):=by omega
  have HF:Hid (S.fits n=true):=decide_eq_true hf;clear hf
  go_enter func190,ntmps190
  go_wp2;go_ret;unfold aI;rw[HF.out,if_pos rfl];exact⟨rfl,V,rfl,HH.out,Rf.refl _ _⟩
 ·have hf1:((S.room:Nat):Int)<(n:Int):=by omega
  have HF:Hid (S.fits n=false):=decide_eq_false hf;clear hf
  go_enter func190,ntmps190
  go_wp2_with fail
  refine(PB P b tl V S 5 w HH.out).mono ?_;rintro e w2 ⟨rfl,hr⟩;have HR:=γ hr.xM;clear hr;go_wp2;go_ret;unfold aI;rw[HF.out,if_neg (by decide)];exact⟨rfl,HR.out⟩
theorem ψ.drew{w:World}{v:Value}{l:List Cl}(h:ψ w v l):ψ w.drew v l:=h.below (ζ.drew)
theorem EL(P:Value→World→Prop)(b:Nat)(tl:List Value)(V:RV)(S:St)(w:World)(h:π P b tl V S w)(hw:WF S):
  Calls prog 215 #[.pointer (some ⟨b,0,none⟩)] w fun e w'=>O0 P b tl V S.BU w e w':=by
 have FJ:=h.cell 10 _ rfl;have c8:=h.cell 8 _ rfl;have Bq:=h.box.lt;have HH:=γ h;have Xj:=hw.pa;have DC:=h.pat.out;obtain⟨ap,cp,EO,_⟩ :=DC.form;rw[EO]at FJ DC;have KW:=γ DC;have HJ:Hid ((AJ S.pat (C4 S.nl) []).length=S.pat.length+1):=by show _=_;unfold AJ;rw[List.length_append,List.length_append];rfl
 obtain⟨n,hn⟩ :∃n,S.pat.length=n:=⟨_,rfl⟩
 rw[hn]at FJ Xj KW HJ;have HN:=γ hn;clear hn DC EO h
 go_enter func215,ntmps215
 go_wp2_with fail
 go_region_held3(fun w'=>w'.cell? ⟨b,10,none⟩ =some (.slice ap n cp)∧w'.cell? ⟨b,8,none⟩ =some (.int .i64 S.nl)∧b<w'.heap.size)
  (first
   |go_keep
   | (go_split_ands
      refine⟨?_,?_,?_⟩
      ·(rw[ξ.cell (by assumption)];assumption)
      ·(rw[ξ.cell (by assumption)];assumption)
      ·(have:=ξ.size;omega)))
  (first
   | (go_at_call 187;refine(Bb _ _).mono ?_;rintro e w1 ⟨rfl,ξ⟩;have g1:=ξ;have s1:=KW.out.drew.below g1)
   | (go_at_call 189;refine(Eb _ _ S.pat [] 10 S.nl 10 _ rfl s1 (ψ.nil _) (by rw[HN.out];simp;omega)).mono ?_;rintro e w3 ⟨v3,rfl,Γ,ξ⟩;have g3:=ξ))
 have Hf:w3.ownsRow w1.heap.size 230 2 v3 (AJ S.pat (C4 S.nl) []).length (Cn (AJ S.pat (C4 S.nl) [])):=Γ;have s3:=ψ.own Hf;obtain⟨a3,c3,Ei⟩ :=κ Hf;subst Ei;rw[HJ.out]at s3⊢;have BB:Below w.heap.size w w3:=ki (Below.refl w.heap.size w).drew g1 g3;clear Γ Hf s1 ξ
 go_wp2_with fail
 refine(PC P b tl V S _ _ w3 (HH.out.below BB) hw s3 (by rw[HJ.out];omega)).mono ?_;rintro e w4 ⟨rfl,hr⟩;have HR:Hid (CC P b tl V S.BU w w4):=CC.pre (.η BB) hr;clear hr;go_wp2
 go_end0
 exact⟨rfl,HR.out⟩
end Go.Proofs.YtlppphmnegdhoabGreatDoor
