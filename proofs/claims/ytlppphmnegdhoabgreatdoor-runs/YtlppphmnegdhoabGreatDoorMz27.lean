import Derived.Test.YtlppphmnegdhoabGreatDoorMz26
set_option linter.unusedVariables false
set_option maxRecDepth 100000
set_option maxHeartbeats 4000000
namespace Go.Proofs.YtlppphmnegdhoabGreatDoor
open Go.Proofs.Tryz
open Go.RowKit
open M
theorem vt:EE 69 3:=⟨⟨_,underlying69,rfl⟩,by kernel_rfl⟩
theorem QE:ZH 46 69 3 32 (.agg #[.int .i64 0,.int .i64 0,.string ⟨#[]⟩]):=⟨by kernel_rfl,by kernel_rfl,rfl,by decide,by decide,by decide⟩
theorem WY{w:World}{B:Nat}{e e':TypeId}{s:Nat}{v:Value}{n:Nat}{xs:List Value}{g:Nat}{C:Array Value}(h:w.ownsRow B e s v n xs)(hg:w.heap[g]? =some (.cells C e'))(hne:e≠e'):v.ownBlock≠some g:=fun hk=>by
 rcases h.2 with⟨rfl,_⟩ | ⟨g',cap,cur,rfl,_,XU,_⟩
 ·cases hk
 have e1:g'=g:=by simpa[Value.ownBlock]using hk
 subst e1;rw[XU]at hg;simp only[Option.some.injEq,Obj.cells.injEq]at hg;exact hne hg.2.1
theorem JQ(l m:List M.Rec):C6 (l++m)=C6 l++C6 m:=by simp[C6]
theorem LR(s:ByteArray)(w:World)(hs:s.size≤4096):
  Calls prog 161 #[.string s] w fun e w'=>e= .returned (.agg #[.int .i64 2,.int .i64 (s.size:Nat),.string s])∧Below w.heap.size w w':=by
 have Cq:CB (w.alloc (.cells #[.int .i64 0,.int .i64 0,.string ⟨#[]⟩] 69)) w.heap.size [.int .i64 0,.int .i64 0,.string ⟨#[]⟩]:=CB.new w _ #[.int .i64 0,.int .i64 0,.string ⟨#[]⟩] (by simp[Value.oneCell']);have B0:Below w.heap.size w (w.alloc (.cells #[.int .i64 0,.int .i64 0,.string ⟨#[]⟩] 69)):=ζ.alloc δ _
 go_enter func161,ntmps161
 go_wp2_with(refine θ vt Cq rfl rfl _ _ rfl rfl (vs:= [.int .i64 2,.int .i64 (s.size:Nat),.string s]) rfl rfl (by simp[Value.oneCell']) ?_;intro w8 Nl O8)
 refine bodyPost_ret (Kz rfl _ _ _ _ rfl vt Nl rfl) rfl ?_;exact⟨rfl,B0.trans (O8.below δ)⟩
def uC(t:ByteArray)(l:List Cl)(w:World)(e:Ending)(w':World):Prop:=∃v,e= .returned v∧w'.ownsRow w.heap.size 69 3 v (Ck t l).length (C6 (Ck t l))∧Below w.heap.size w w'
theorem T4(t:ByteArray)(vl:Value)(l:List Cl)(w:World)(DC:ψ w vl l)(hl:l.length≤4096)(ht:t.size≤4096)(ho:EI l):
  Calls prog 118 #[.string t,vl] w fun e w'=>uC t l w e w':=by
 obtain⟨a,c,rfl,_⟩ :=DC.form;have HO:=γ ho;obtain⟨n,hn⟩ :∃n,l.length=n:=⟨_,rfl⟩
 have HN:=γ hn;have HS:Hid (ψ w (.slice a n c) l):=by show ψ _ _ _;rw[←hn];exact DC
 have HA:Hid (Ck t l=(Be t 0 l).1++(if(Be t 0 l).2<t.size then [M1 t (Be t 0 l).2 t.size]else [])):=rfl;rw[hn]at hl⊢;clear DC ho hn
 go_enter func118,ntmps118
 go_wp2_with fail
 go_loopw [5,6,11] (fun v5 v6 v11 wr=>∃(i p q:Nat),v11= .int .i64 i∧v6= .int .i64 p∧i≤n∧p≤t.size∧Hid ((Be t 0 (l.take i)).2=p)∧Hid ((Be t 0 (l.take i)).1.length=q)∧q≤2*i∧wr.ownsRow w.heap.size 69 3 v5 q (C6 (Be t 0 (l.take i)).1)∧Below w.heap.size w wr) (fun _ _ v11 _=>n - (intOf v11).toNat)
 case atStart=>exact⟨0,0,0,rfl,rfl,ε,ε,rfl,rfl,ε,World.ownsRow_nil _ _ _ _,ζ⟩
 case round=>
  obtain⟨i,p,q,rfl,rfl,hi,hpt,HP,HQ,hq,ν,hB⟩ :=hrel;obtain⟨av,cv,CX⟩ :=κ ν;subst CX;have K1:=hB.size
  by_cases Ac:i<n
  ·have AV:(i:Int)<(n:Int):=by omega
   have h0:(0:Int)≤(i:Int):=by omega
   have BN:i<l.length:=by rw[HN.out];exact Ac
   obtain⟨-,g,o,rfl,hg,hr⟩ :=(HS.out.below hB).at' i BN;have hT:l.take (i+1)=l.take i++ [l[i]]:=by rw[List.take_add_one,List.getElem?_eq_getElem BN];rfl
   have hSN:=Sb t (l.take i) l[i] 0;rw[←hT,HP.out]at hSN;obtain⟨x,hx⟩ :∃x:Nat,l[i].1.toNat=x:=⟨_,rfl⟩
   have FT:x<256:=by rw[←hx];exact l[i].1.toNat_lt
   rw[hx]at hr;have A0:CL t p l[i]=if l[i].2<(p:Int)∨(t.size:Int)≤l[i].2 then([Sa],p)else((if(p:Int)<l[i].2 then [M1 t p l[i].2.toNat]else [])++ [LL],l[i].2.toNat+1):=rfl;rw[A0]at hSN;have hyb: -1≤l[i].2∧l[i].2<4096:=by
    exact HO.out l[i] (List.getElem_mem _)
   obtain⟨y,hy⟩ :∃y:Int,l[i].2=y:=⟨_,rfl⟩
   rw[hy]at hr hSN hyb;have Wp:=γ hSN;clear hx hy A0 hSN hT;generalize(Be t 0 (l.take i)).1=R at*;have cz:∀(r:M.Rec),((wr.alloc (.cells #[.int .u8 x,.int .i64 y] 230)).alloc (.cells (recC r).toArray 69)).heap[wr.heap.size+1]? =some (.cells (recC r).toArray 69):=fun r=>by
    have:=heap_alloc_new (wr.alloc (.cells #[.int .u8 x,.int .i64 y] 230)) (.cells (recC r).toArray 69)
    simpa using this
   by_cases hdr:y<(p:Int)∨(t.size:Int)≤y
   ·rw[if_pos hdr]at Wp
    have EK:y<(p:Int)∨(¬y<(p:Int)∧(t.size:Int)≤y):=by omega
    clear hdr;have Td:=cz Sa;have AEk:((wr.alloc (.cells #[.int .u8 x,.int .i64 y] 230)).alloc (.cells #[.int .i64 1,.int .i64 1,.string ⟨#[]⟩] 69)).heap[wr.heap.size+1]? =some (.cells [.int .i64 1,.int .i64 1,.string ⟨#[]⟩].toArray 69):=Td;clear Td cz;rcases EK with h1| ⟨h1,h2⟩
    all_goals
     go_wp2_with(first
      |refine BX Lz hr rfl rfl _ rfl rfl ?_
      | (refine A8 QE ((ν.alloc _).alloc _) (wr.heap.size+1) [.int .i64 1,.int .i64 1,.string ⟨#[]⟩] AEk rfl (by simp[Value.oneCell']) (by omega) (by simp;omega) rfl (.tmp 26) (.tmp 28) rfl rfl rfl ?_
         intro v' w6 Aa AK;have Eg:Below w.heap.size w w6:=((hB.alloc (by omega) _).alloc (by simp;omega) _).grown AK (by simp;omega) (fun k hk=>(ν.lt k hk).1);obtain⟨NF,JV,CX⟩ :=κ Aa;subst CX;clear AK))
     go_roundw
     case rel=>
      refine⟨i+1,p,q+1,by go_num,rfl,by omega,hpt,?_,?_,by omega,?_,Eg⟩
      ·show _=_;rw[Wp.out]
      ·show _=_;rw[Wp.out,List.length_append,HQ.out];rfl
      ·rw[Wp.out,JQ];exact Aa
     case measure=>simp[intOf]<;>omega
   ·rw[if_neg hdr]at Wp
    obtain⟨k,hk⟩ :∃k:Nat,y=(k:Int):=⟨y.toNat,by omega⟩
    subst hk;have EW:¬(k:Int)<(p:Int):=by omega
    have Ep:¬(t.size:Int)≤(k:Int):=by omega
    have hkt:k<t.size:=by omega
    have ekk:((k:Int)).toNat=k:=by simp
    rw[ekk]at Wp;clear hdr ekk;have hh1:(wr.alloc (.cells #[.int .u8 x,.int .i64 (k:Int)] 230)).heap[wr.heap.size]? =some (.cells #[.int .u8 x,.int .i64 (k:Int)] 230):=heap_alloc_new wr _;have BA:Below wr.heap.size wr (wr.alloc (.cells #[.int .u8 x,.int .i64 (k:Int)] 230)):=ζ.alloc δ _;have Uw:=Ξ ν BA;have hBA:=hB.trans (BA.mono K1);have AFu:wr.heap.size+1≤(wr.alloc (.cells #[.int .u8 x,.int .i64 (k:Int)] 230)).heap.size:=by simp
    by_cases hpk:p<k
    ·have z7:(p:Int)<(k:Int):=by omega
     have AFv:(p:Int)≤(k:Int):=by omega
     have AFw:(k:Int)≤(t.size:Int):=by omega
     have dQ:(0:Int)≤(p:Int):=by omega
     rw[if_pos z7]at Wp;have HX:Hid ((t.extract p k).size=k - p):=by show _=_;rw[ByteArray.size_extract,Nat.min_eq_left (by omega)]
     clear cz
     go_wp2_with(refine BX Lz hr rfl rfl _ rfl rfl ?_)
     generalize wr.alloc (.cells #[.int .u8 x,.int .i64 (k:Int)] 230)=W1 at*;refine(LR (t.extract p k) W1 (by rw[HX.out];omega)).mono ?_;rintro e w2 ⟨rfl,B2⟩;rw[HX.out];have Bl:=Ξ Uw B2;have TB:=hBA.trans (B2.mono (by omega));have hh2:w2.heap[wr.heap.size]? =some (.cells #[.int .u8 x,.int .i64 (k:Int)] 230):=by rw[B2.block _ (by omega)];exact hh1
     have Fw:=B2.size;have NN:=WY Bl hh2 (by decide)
     go_wp2_with(first
      |refine Bz QE rfl _ rfl [.int .i64 2,.int .i64 ((k - p:Nat):Int),.string (t.extract p k)] rfl rfl ?_
      | (refine A8 QE (Bl.alloc _) w2.heap.size [.int .i64 2,.int .i64 ((k - p:Nat):Int),.string (t.extract p k)] (heap_alloc_new w2 _) rfl (by simp[Value.oneCell']) (by omega) (by simp;omega) rfl (.tmp 34) (.tmp 41) rfl rfl rfl ?_
         intro v6 w6 Aa OV;have Eg:Below w.heap.size w w6:=(TB.alloc (by omega) _).grown OV (by simp;omega) (fun k hk=>(Bl.lt k hk).1);have LY:w2.heap.size+1≤w6.heap.size:=by have:=OV.size;simp at this;exact this
         have hh6:w6.heap[wr.heap.size]? =some (.cells #[.int .u8 x,.int .i64 (k:Int)] 230):=by rw[OV.block _ (by simp;omega) (fun e=>NN e.symm),Below.heap_alloc _ _ _ (by omega)];exact hh2
         have hn6:=WY Aa hh6 (by decide);obtain⟨a6,c6,aR⟩ :=κ Aa;subst aR;clear OV)
      |refine Bz QE rfl _ rfl [.int .i64 0,.int .i64 1,.string ⟨#[]⟩] rfl rfl ?_
      | (refine A8 QE (Aa.alloc _) w6.heap.size [.int .i64 0,.int .i64 1,.string ⟨#[]⟩] (heap_alloc_new w6 _) rfl (by simp[Value.oneCell']) (by omega) (by simp;omega) rfl (.tmp 43) (.tmp 45) rfl rfl rfl ?_
         intro v7 w7 DU TE;have fc:Below w.heap.size w w7:=(Eg.alloc (by omega) _).grown TE (by simp;omega) (fun k hk=>(Aa.lt k hk).1);have lX:w6.heap.size+1≤w7.heap.size:=by have:=TE.size;simp at this;exact this
         have hh7:w7.heap[wr.heap.size]? =some (.cells #[.int .u8 x,.int .i64 (k:Int)] 230):=by rw[TE.block _ (by simp;omega) (fun e=>hn6 e.symm),Below.heap_alloc _ _ _ (by omega)];exact hh6
         have e7:w7.cell? ⟨wr.heap.size,1,none⟩ =some (.int .i64 (k:Int)):=by rw[cell_of_row _ _ _ _ _ _ hh7];rfl
         have l7:wr.heap.size<w7.heap.size:=by omega
         obtain⟨a7,c7,lY⟩ :=κ DU;subst lY;clear TE))
     go_roundw
     case rel=>
      refine⟨i+1,k+1,q+1+1,by go_num,by go_num,by omega,by omega,?_,?_,by omega,?_,fc⟩
      ·show _=_;rw[Wp.out]
      ·show _=_;rw[Wp.out,List.length_append,HQ.out];rfl
      ·rw[Wp.out,JQ,JQ,←List.append_assoc];exact DU
     case measure=>simp[intOf]<;>omega
    ·have z7:¬(p:Int)<(k:Int):=by omega
     rw[if_neg z7]at Wp;clear cz;have cz:((wr.alloc (.cells #[.int .u8 x,.int .i64 (k:Int)] 230)).alloc (.cells #[.int .i64 0,.int .i64 1,.string ⟨#[]⟩] 69)).heap[wr.heap.size+1]? =some (.cells [.int .i64 0,.int .i64 1,.string ⟨#[]⟩].toArray 69):=by
      have:=heap_alloc_new (wr.alloc (.cells #[.int .u8 x,.int .i64 (k:Int)] 230)) (.cells #[.int .i64 0,.int .i64 1,.string ⟨#[]⟩] 69)
      simpa using this
     have vK:=WY Uw hh1 (by decide)
     go_wp2_with(first
      |refine BX Lz hr rfl rfl _ rfl rfl ?_
      | (refine A8 QE (Uw.alloc _) (wr.heap.size+1) [.int .i64 0,.int .i64 1,.string ⟨#[]⟩] cz rfl (by simp[Value.oneCell']) (by omega) (by simp;omega) rfl (.tmp 43) (.tmp 45) rfl rfl rfl ?_
         intro v7 w7 DU TE;have fc:Below w.heap.size w w7:=(hBA.alloc (by omega) _).grown TE (by simp;omega) (fun k hk=>(Uw.lt k hk).1);have lX:wr.heap.size+2≤w7.heap.size:=by have:=TE.size;simp at this;exact this
         have hh7:w7.heap[wr.heap.size]? =some (.cells #[.int .u8 x,.int .i64 (k:Int)] 230):=by rw[TE.block _ (by simp;omega) (fun e=>vK e.symm),Below.heap_alloc _ _ _ (by omega)];exact hh1
         have e7:w7.cell? ⟨wr.heap.size,1,none⟩ =some (.int .i64 (k:Int)):=by rw[cell_of_row _ _ _ _ _ _ hh7];rfl
         have l7:wr.heap.size<w7.heap.size:=by omega
         obtain⟨a7,c7,lY⟩ :=κ DU;subst lY;clear TE))
     go_roundw
     case rel=>
      refine⟨i+1,k+1,q+1,by go_num,by go_num,by omega,by omega,?_,?_,by omega,?_,fc⟩
      ·show _=_;rw[Wp.out]
      ·show _=_;rw[Wp.out,List.length_append,HQ.out];rfl
      ·rw[Wp.out,JQ];exact DU
     case measure=>simp[intOf]<;>omega
  ·obtain rfl:i=n:=by omega
   have AV:¬(i:Int)<(i:Int):=by omega
   rw[List.take_of_length_le (by rw[HN.out];exact δ)]at HP HQ ν;rw[HP.out]at HA;generalize(Be t 0 l).1=R at*
   by_cases iV:p<t.size
   ·have AEl:(p:Int)<(t.size:Int):=by omega
    have AFx:(p:Int)≤(t.size:Int):=by omega
    have dQ:(0:Int)≤(p:Int):=by omega
    rw[if_pos iV]at HA;have HX:Hid ((t.extract p t.size).size=t.size - p):=by show _=_;rw[ByteArray.size_extract,Nat.min_eq_left δ]
    go_wp2_with fail
    refine(LR (t.extract p t.size) wr (by rw[HX.out];omega)).mono ?_;rintro e w2 ⟨rfl,B2⟩;rw[HX.out];have Bl:=Ξ ν B2;have TB:=hB.trans (B2.mono K1);have Fw:=B2.size
    go_wp2_with(first
     |refine Bz QE rfl _ rfl [.int .i64 2,.int .i64 ((t.size - p:Nat):Int),.string (t.extract p t.size)] rfl rfl ?_
     | (refine A8 QE (Bl.alloc _) w2.heap.size [.int .i64 2,.int .i64 ((t.size - p:Nat):Int),.string (t.extract p t.size)] (heap_alloc_new w2 _) rfl (by simp[Value.oneCell']) (by omega) (by simp;omega) rfl (.tmp 55) (.tmp 60) rfl rfl rfl ?_
        intro v6 w6 Aa OV;have Eg:Below w.heap.size w w6:=(TB.alloc (by omega) _).grown OV (by simp;omega) (fun k hk=>(Bl.lt k hk).1);obtain⟨a6,c6,aR⟩ :=κ Aa;subst aR;clear OV))
    go_ret;refine⟨_,rfl,?_,Eg⟩;rw[HA.out,List.length_append,HQ.out,JQ];exact Aa
   ·have AEl:¬(p:Int)<(t.size:Int):=by omega
    rw[if_neg iV,List.append_nil]at HA;go_wp2;go_ret;refine⟨_,rfl,?_,hB⟩;rw[HA.out,HQ.out];exact ν
theorem bw(es:List Ev):∀a b,Fq es a b→Jg es=a.length∧KJ es=b.length:=by
 induction es with
 |nil=>rintro a b ⟨rfl,rfl⟩;exact⟨rfl,rfl⟩
 |cons e es ih=>
  intro a b h;cases e with
  |k=>
   obtain⟨c,a',b',rfl,rfl,h⟩ :=h;obtain⟨h1,h2⟩ :=ih _ _ h;exact⟨by simp[Jg,h1],by simp[KJ,h2]⟩
  |d=>
   obtain⟨c,b',rfl,h⟩ :=h;obtain⟨h1,h2⟩ :=ih _ _ h;exact⟨by simp[Jg,h1],by simp[KJ,h2]⟩
  |r c=>
   obtain⟨a',rfl,h⟩ :=h;obtain⟨h1,h2⟩ :=ih _ _ h;exact⟨by simp[Jg,h1],by simp[KJ,h2]⟩
def QF(S:St):List UInt8:=Pk ⟨S.text.size,S.out.length,sum S.text.data.toList,sum (AL S.out),norm (BH (Ck S.text S.out))⟩
def AAB(S:St)(w:World)(e:Ending)(w':World):Prop:=∃t:ByteArray,e= .returned (.string t)∧t.data.toList=QF S∧Below w.heap.size w w'
theorem T5(P:Value→World→Prop)(b:Nat)(tl:List Value)(V:RV)(S:St)(w:World)(h:π P b tl V S w)(hw:WF S)(jD:Ax S.text.data.toList S.out):
  Calls prog 79 #[.pointer (some ⟨b,0,none⟩)] w fun e w'=>AAB S w e w':=by
 have HH:=γ h;have HJS:Hid (QF S=Pk ⟨S.text.size,S.out.length,sum S.text.data.toList,sum (AL S.out),norm (BH (Ck S.text S.out))⟩):=rfl;have Bq:=h.box.lt;have Nn:=hw.ou;have ML:=hw.tx;have c9:=h.cell 9 _ rfl;have c5:=h.cell 5 _ rfl;obtain⟨ao,co,TC⟩ :=κ h.out;have DC:=ψ.own h.out;rw[TC]at c9 DC;have KW:=γ DC;have HOR:=γ hw.oo;have HBS:Hid ((Dr S.out).size=S.out.length):=K7 _;have hle:=bw _ _ _ (Yi S.text S.out jD);have hel:=RF _ (Yg S.text S.out);have mH:Hid (DG (Ck S.text S.out)=(S.text.size:Int)∧DH (Ck S.text S.out)=(S.out.length:Int)):=by
  have e1:(AL S.out).length=S.out.length:=by simp[AL]
  have e2:=Δ S.text
  constructor<;>omega
 have Ce:Hid (DG (norm (BH (Ck S.text S.out)))=(S.text.size:Int)∧DH (norm (BH (Ck S.text S.out)))=(S.out.length:Int)):=by
  have e1:(AL S.out).length=S.out.length:=by simp[AL]
  have e2:=Δ S.text;have e3:=NZ (BH (Ck S.text S.out))
  constructor<;>omega
 have QT:Hid (C5 (Ck S.text S.out)):=Yg _ _;obtain⟨n,hn⟩ :∃n,S.out.length=n:=⟨_,rfl⟩
 have HN:=γ hn;rw[hn]at c9 Nn KW HBS mH Ce HJS;clear h hle hel TC DC hn jD
 go_enter func79,ntmps79
 go_wp2_with fail
 refine(EJ _ S.out w KW.out (by rw[HN.out];omega)).mono ?_;rintro e w1 ⟨rfl,B1⟩;have h1:=HH.out.below B1;have Dx:=h1.box.lt;have d9:=(B1.cell (by exact Bq)).trans c9;have d5:=(B1.cell (by exact Bq)).trans c5;have NI:=T4 S.text _ S.out w1.drew (KW.out.below B1).drew (by rw[HN.out];exact Nn) ML HOR.out;clear c9 c5 h1
 go_wp2_with fail
 go_region_held3(fun w'=>w'.cell? ⟨b,9,none⟩ =some (.slice ao n co)∧w'.cell? ⟨b,5,none⟩ =some (.string S.text)∧b<w'.heap.size)
  (first
   |go_keep
   | (go_split_ands
      refine⟨?_,?_,?_⟩
      ·(rw[ξ.cell (by assumption)];assumption)
      ·(rw[ξ.cell (by assumption)];assumption)
      ·(have:=ξ.size;omega)))
  (first
   | (go_at_call 118;refine NI.mono ?_;rintro e w2 ⟨v2,rfl,Bl,ξ⟩;have B2:=ξ;have g5:=(ξ.cell (by exact Dx)).trans d5;have g9:=(ξ.cell (by exact Dx)).trans d9;have gl:b<w2.heap.size:=by have:=ξ.size;(have h9:b<w1.heap.size:=Dx);(have h8:w1.heap.size≤w2.heap.size:=this);omega))
 have QI:Below w.heap.size w w2:=BC B1 (BC (Below.refl w1.heap.size w1).drew B2);obtain⟨a2,c2,S7⟩ :=κ Bl;subst S7;have ACD:=M9 Bl;have pF:=mH.out;have Im:=Ce.out;have Fx:=QT.out;generalize Ck S.text S.out=RS at*;clear NI d9 d5 ξ
 go_wp2_with fail
 refine(Sq _ c2 a2 RS w2 ACD Fx (by omega) (by omega)).mono ?_;rintro e w3 ⟨v3,rfl,Γ,B3⟩;obtain⟨a3,c3,Ei⟩ :=κ Γ;subst Ei;have ACE:=M9 Γ;have fN:=BC QI B3;have e5:=(B3.cell (by exact gl)).trans g5;have gl3:b<w3.heap.size:=by have:=B3.size;omega
 have yO:=NY (BH RS);generalize norm (BH RS)=NR at*
 go_wp2_with fail
 refine(WV S.text (Dr S.out) w3 ML (by rw[HBS.out];exact Nn)).mono ?_;rintro e w4 ⟨rfl,B4⟩;have ACF:=ACE.below B4;have BB4:=BC fN B4;rw[HBS.out];have CE:=KZ S.text.data.toList;have Fw:=KZ (Dr S.out).data.toList;have BA:Below w4.heap.size w4 (w4.alloc (.cells #[.int .i64 (S.text.size:Nat),.int .i64 (n:Nat),.int .i64 (sum S.text.data.toList:Nat),.int .i64 (sum (Dr S.out).data.toList:Nat)] 126)):=ζ.alloc δ _;have ACG:=ACF.below BA
 go_wp2_with fail
 refine(WW _ _ _ _ _ c3 a3 NR _ ML Nn CE Fw ACG yO (by omega) (by omega)).mono ?_;rintro e w6 ⟨⟨tj,rfl,vu⟩,B6⟩;have HTJ:Hid (tj.data.toList=QF S):=by show _=_;rw[vu,HJS.out];rfl
 have BB6:=BC (BC BB4 BA) B6;clear vu;go_wp2;go_ret;exact⟨tj,rfl,HTJ.out,BB6⟩
def zE(d:Nat)(c:Bool):List Value:= [.slice none 0 0,.slice none 0 0,.bool false,.int .i64 0,.int .i64 0,.string ⟨#[]⟩,.bool false,.int .i64 0,.int .i64 0,.slice none 0 0,.slice none 0 0,.slice none 0 0,.int .i64 0,.slice none 0 0,.bool false,.int .i64 0,.int .i64 0,.bool false,.int .i64 0,.int .i64 (d:Nat),.bool c]
theorem Wa(d:Nat)(c:Bool):∀v∈zE d c,v.oneCell'=true:=by simp[zE,Value.oneCell']
theorem uG:EE 87 21:=⟨⟨_,underlying87,rfl⟩,by kernel_rfl⟩
def Y3(d:Nat)(c:Bool):List Value:= [.int .i64 (d:Nat),.bool c]
theorem π.tail{P:Value→World→Prop}{b:Nat}{d:Nat}{c:Bool}{V:RV}{S:St}{w:World}(h:π P b (Y3 d c) V S w):w.cell? ⟨b,19,none⟩ =some (.int .i64 (d:Nat))∧w.cell? ⟨b,20,none⟩ =some (.bool c):=⟨h.box.c 19 _ rfl,h.box.c 20 _ rfl⟩
theorem iH(b:Nat)(s:ByteArray)(w:World)(h:CB w b (zE 0 true)):
  Calls prog 26 #[.pointer (some ⟨b,0,none⟩),.string s] w fun e w'=>e= .returned (.tuple #[.string ⟨#[]⟩,.int .i64 7])∧Below w.heap.size w w':=by
 have c20:=h.c 20 _ rfl;have Bq:=h.lt;clear h
 go_enter func26,ntmps26
 go_wp2;go_ret2;exact⟨rfl,ζ⟩
theorem iI(b d:Nat)(s:ByteArray)(w:World)(h:CB w b (zE d false))(hd:d≠0):
  Calls prog 26 #[.pointer (some ⟨b,0,none⟩),.string s] w fun e w'=>e= .returned (.tuple #[.string ⟨#[]⟩,.int .i64 (d:Nat)])∧Below w.heap.size w w':=by
 have c20:=h.c 20 _ rfl;have c19:=h.c 19 _ rfl;have Bq:=h.lt;have OX:((d:Int) !=0)=true:=by simp;omega
 clear h hd
 go_enter func26,ntmps26
 go_wp2_with fail
 go_region
 go_wp2;go_ret2;exact⟨rfl,ζ.drew⟩
def ob(P:Value→World→Prop)(b:Nat)(V:RV)(S:St)(s:ByteArray)(w:World)(e:Ending)(w':World):Prop:=
 (4096<S.text.size+s.size∧e= .returned (.tuple #[.string ⟨#[]⟩,.int .i64 1])∧w'=w)∨
 (S.text.size+s.size≤4096∧∃T,Goes (S.ext (S.text++s) S.closed) T∧WF T∧e= .returned (.tuple #[.string (Dr (τ T.out S.out.length T.out.length)),.int .i64 (T.AB:Nat)])∧
  ((T.AB=0∧μ P b (Y3 0 false) V T w w')∨(T.AB≠0∧CB w' b (zE T.AB false)∧Rf (ρ b V) (fun k=>k=b) w w')))
theorem bz(Ec:List (List Value))(P:Value→World→Prop)(b:Nat)(V:RV)(S:St)(s:ByteArray)(w:World)(h:π P b (Y3 0 false) V S w)(hw:WF S)(hP:∀w,P V.AZ w→KQ Ec w V.AZ S.cs)(Dz:Fu P V.AZ)(FV:s.size≤maxLen):
  Calls prog 26 #[.pointer (some ⟨b,0,none⟩),.string s] w fun e w'=>ob P b V S s w e w':=by
 obtain⟨c19,c20⟩ :=h.tail;have Bq:=h.box.lt;have ML:=hw.tx;unfold maxLen at FV;have HH:=γ h;clear h
 go_enter func26,ntmps26
 go_wp2_with fail
 refine(iE P b (Y3 0 false) V S w HH.out).mono ?_;rintro e wx ⟨rfl,Nt⟩;rw[Nt];clear Nt
 by_cases vw:4096<S.text.size+s.size
 ·have Ks:(4096:Int) - (S.text.size:Int)<(s.size:Int):=by omega
  go_wp2;go_ret2;exact .inl ⟨vw,rfl,rfl⟩
 ·have Ks:¬(4096:Int) - (S.text.size:Int)<(s.size:Int):=by omega
  have iY:S.text.size+s.size≤4096:=by omega
  clear vw
  go_wp2_with fail
  refine(Yz Ec P b (Y3 0 false) V S s w HH.out hw hP Dz iY).mono ?_;rintro e w2 ⟨T,hg,ZX,rfl,hr⟩;have HG:Hid (Goes (S.ext (S.text++s) S.closed) T∧WF T):=⟨hg,ZX⟩
  have hde:=ZX.de;clear hg ZX
  by_cases h0:T.AB=0
  ·have KA:(((T.AB:Nat):Int) !=0)=false:=by simp[h0]
   have HP:Hid (ob P b V S s w (.returned (.tuple #[.string (Dr (τ T.out S.out.length T.out.length)),.int .i64 (T.AB:Nat)])) w2):= .inr ⟨iY,T,HG.out.1,HG.out.2,rfl,.inl ⟨h0,hr⟩⟩;clear h0 hr;go_wp2;go_ret2;exact HP.out
  ·have KA:(((T.AB:Nat):Int) !=0)=true:=by simp;omega
   obtain⟨V2,Fw,Ds,JW⟩ :=hr;have Eo:=Ds.box;have aL:=Eo.lt;have hlen:(GD V2 T++Y3 0 false).length=21:=rfl;have H0:=γ h0;clear h0 Fw
   go_wp2_with(refine θ uG Eo hlen rfl _ _ rfl rfl (vs:=zE T.AB false) rfl rfl (Wa _ _) ?_
               intro w5 BP O5;have UX:Rf (ρ b V) (fun k=>k=b) w w5:=JW.trans ⟨O5.os,O5.tape,O5.output,by rw[O5.size];exact δ,fun k _ hk=>O5.block k (fun e=>hk (.inl e)),fun k hk=> .inl (.inl hk)⟩)
   go_ret2;exact .inr ⟨iY,T,HG.out.1,HG.out.2,rfl,.inr ⟨H0.out,BP,UX⟩⟩
theorem b7(b:Nat)(w:World)(h:CB w b (zE 0 true)):
  Calls prog 28 #[.pointer (some ⟨b,0,none⟩)] w fun e w'=>e= .returned (.tuple #[.string ⟨#[]⟩,.string ⟨#[]⟩,.int .i64 7])∧Below w.heap.size w w':=by
 have c20:=h.c 20 _ rfl;have Bq:=h.lt;clear h
 go_enter func28,ntmps28
 go_wp2;go_ret3;exact⟨rfl,ζ⟩
def b9(P:Value→World→Prop)(b:Nat)(V:RV)(S:St)(w:World)(e:Ending)(w':World):Prop:=
 ∃T,Goes (S.ext S.text true) T∧WF T∧μ P b (Y3 0 false) V T w w'∧((T.AB≠0∧e= .returned (.tuple #[.string (Dr (τ T.out S.out.length T.out.length)),.string ⟨#[]⟩,.int .i64 (T.AB:Nat)]))∨(T.AB=0∧∃t:ByteArray,t.data.toList=QF T∧e= .returned (.tuple #[.string (Dr (τ T.out S.out.length T.out.length)),.string t,.int .i64 0])))
theorem Wb(Ec:List (List Value))(P:Value→World→Prop)(b:Nat)(V:RV)(S:St)(w:World)(h:π P b (Y3 0 false) V S w)(hw:WF S)(hP:∀w,P V.AZ w→KQ Ec w V.AZ S.cs)(Dz:Fu P V.AZ)(jD:∀T,Goes (S.ext S.text true) T→Ax T.text.data.toList T.out):
  Calls prog 51 #[.pointer (some ⟨b,0,none⟩)] w fun e w'=>b9 P b V S w e w':=by
 obtain⟨c19,c20⟩ :=h.tail;have Bq:=h.box.lt;have HH:=γ h;clear h
 go_enter func51,ntmps51
 go_wp2_with fail
 refine(WU Ec P b (Y3 0 false) V S w HH.out hw hP Dz).mono ?_;rintro e w2 ⟨T,hg,ZX,rfl,hr⟩;have HG:Hid (Goes (S.ext S.text true) T∧WF T):=⟨hg,ZX⟩
 have HR:=γ hr;have hde:=ZX.de;clear hg ZX hr
 by_cases h0:T.AB=0
 ·have KA:(((T.AB:Nat):Int) !=0)=false:=by simp[h0]
  have H0:=γ h0;clear h0;obtain⟨V2,Fw,Ds,JW⟩ :=HR.out;have aL:=Ds.box.lt
  go_wp2_with fail
  refine(T5 P b (Y3 0 false) V2 T w2 Ds HG.out.2 (jD T HG.out.1)).mono ?_;rintro e w3 ⟨t,rfl,vu,B3⟩;have HP:Hid (b9 P b V S w (.returned (.tuple #[.string (Dr (τ T.out S.out.length T.out.length)),.string t,.int .i64 0])) w3):=⟨T,HG.out.1,HG.out.2,⟨V2,Fw,Ds.below B3,JW.trans (.η B3)⟩,.inr ⟨H0.out,t,vu,rfl⟩⟩
  clear vu Ds JW Fw;go_wp2;go_ret3;exact HP.out
 ·have KA:(((T.AB:Nat):Int) !=0)=true:=by simp;omega
  have HP:Hid (b9 P b V S w (.returned (.tuple #[.string (Dr (τ T.out S.out.length T.out.length)),.string ⟨#[]⟩,.int .i64 (T.AB:Nat)])) w2):=⟨T,HG.out.1,HG.out.2,HR.out,.inl ⟨h0,rfl⟩⟩
  clear h0;go_wp2;go_ret3;exact HP.out
theorem Y4(b d:Nat)(w:World)(h:CB w b (zE d false))(hd:d≠0):
  Calls prog 51 #[.pointer (some ⟨b,0,none⟩)] w fun e w'=>e= .returned (.tuple #[.string ⟨#[]⟩,.string ⟨#[]⟩,.int .i64 (d:Nat)])∧Below w.heap.size w w':=by
 have c19:=h.c 19 _ rfl;have Bq:=h.lt;have OX:((d:Int) !=0)=true:=by simp;omega
 clear h hd
 go_enter func51,ntmps51
 go_wp2_with fail
 go_region
 go_wp2;go_ret3;exact⟨rfl,ζ.drew⟩
def uH(b:Nat)(V:RV)(S:St)(w:World)(e:Ending)(w':World):Prop:=
 ∃T,Goes (S.ext S.text true) T∧WF T∧CB w' b (zE 0 true)∧Rf (ρ b V) (fun k=>k=b) w w'∧((T.AB≠0∧e= .returned (.tuple #[.string (Dr (τ T.out S.out.length T.out.length)),.string ⟨#[]⟩,.int .i64 (T.AB:Nat)]))∨(T.AB=0∧∃t:ByteArray,t.data.toList=QF T∧e= .returned (.tuple #[.string (Dr (τ T.out S.out.length T.out.length)),.string t,.int .i64 0])))
theorem Y5(Ec:List (List Value))(P:Value→World→Prop)(b:Nat)(V:RV)(S:St)(w:World)(h:π P b (Y3 0 false) V S w)(hw:WF S)(hP:∀w,P V.AZ w→KQ Ec w V.AZ S.cs)(Dz:Fu P V.AZ)(jD:∀T,Goes (S.ext S.text true) T→Ax T.text.data.toList T.out):
  Calls prog 28 #[.pointer (some ⟨b,0,none⟩)] w fun e w'=>uH b V S w e w':=by
 obtain⟨c19,c20⟩ :=h.tail;have Bq:=h.box.lt;have HH:=γ h;clear h
 go_enter func28,ntmps28
 go_wp2_with fail
 refine(Wb Ec P b V S w HH.out hw hP Dz jD).mono ?_;rintro e w2 ⟨T,hg,ZX,⟨V2,Fw,Ds,JW⟩,EK⟩;have HG:Hid (Goes (S.ext S.text true) T∧WF T):=⟨hg,ZX⟩
 have Eo:=Ds.box;have aL:=Eo.lt;have hlen:(GD V2 T++Y3 0 false).length=21:=rfl;clear hg ZX Fw;rcases EK with⟨h0,rfl⟩ | ⟨h0,t,vu,rfl⟩
 ·have H0:Hid (T.AB≠0):=h0
  clear h0
  go_wp2_with(refine θ uG Eo hlen rfl _ _ rfl rfl (vs:=zE 0 true) rfl rfl (Wa _ _) ?_
              intro w5 BP O5;have UX:Rf (ρ b V) (fun k=>k=b) w w5:=JW.trans ⟨O5.os,O5.tape,O5.output,by rw[O5.size];exact δ,fun k _ hk=>O5.block k (fun e=>hk (.inl e)),fun k hk=> .inl (.inl hk)⟩)
  go_ret3;exact⟨T,HG.out.1,HG.out.2,BP,UX,.inl ⟨H0.out,rfl⟩⟩
 ·have H0:Hid (T.AB=0∧t.data.toList=QF T):=⟨h0,vu⟩
  clear h0 vu
  go_wp2_with(refine θ uG Eo hlen rfl _ _ rfl rfl (vs:=zE 0 true) rfl rfl (Wa _ _) ?_
              intro w5 BP O5;have UX:Rf (ρ b V) (fun k=>k=b) w w5:=JW.trans ⟨O5.os,O5.tape,O5.output,by rw[O5.size];exact δ,fun k _ hk=>O5.block k (fun e=>hk (.inl e)),fun k hk=> .inl (.inl hk)⟩)
  go_ret3;exact⟨T,HG.out.1,HG.out.2,BP,UX,.inr ⟨H0.out.1,t,H0.out.2,rfl⟩⟩
theorem cA(b d:Nat)(w:World)(h:CB w b (zE d false))(hd:d≠0):
  Calls prog 28 #[.pointer (some ⟨b,0,none⟩)] w fun e w'=>e= .returned (.tuple #[.string ⟨#[]⟩,.string ⟨#[]⟩,.int .i64 (d:Nat)])∧CB w' b (zE 0 true)∧Rf (fun k=>k=b) (fun k=>k=b) w w':=by
 have HB:=γ h;have c20:=h.c 20 _ rfl;have Bq:=h.lt;clear h
 go_enter func28,ntmps28
 go_wp2_with fail
 refine(Y4 b d w HB.out hd).mono ?_;rintro e w2 ⟨rfl,B2⟩;have Eo:=HB.out.below B2 Bq;have aL:=Eo.lt
 go_wp2_with(refine θ uG Eo rfl rfl _ _ rfl rfl (vs:=zE 0 true) rfl rfl (Wa _ _) ?_
             intro w5 BP O5;have UX:Rf (fun k=>k=b) (fun k=>k=b) w w5:=(Rf.η B2).trans ⟨O5.os,O5.tape,O5.output,by rw[O5.size];exact δ,fun k _ hk=>O5.block k (fun e=>hk e),fun k hk=> .inl hk⟩)
 go_ret3;exact⟨rfl,BP,UX⟩
end Go.Proofs.YtlppphmnegdhoabGreatDoor
namespace Go.Proofs.YtlppphmnegdhoabGreatDoor
open Go.RowKit
open M
theorem mE(s:ByteArray):s.data.toList.isEmpty=s.toList.isEmpty:=by rw[ByteArray.toList_eq]
def Sp(cs cs':List Value):Prop:=cs'.length=25∧cs'[0]? =cs[0]? ∧cs'[12]? =cs[12]? ∧cs'[13]? =cs[13]?
theorem Sp.part{cs:List Value}(h:cs.length=25)(o:Nat)(vs:List Value)(ho:14≤o)(hn:o+vs.length≤25):Sp cs (cs.take o++vs++cs.drop (o+vs.length)):=by
 have e:∀j,j<14→(cs.take o++vs++cs.drop (o+vs.length))[j]? =cs[j]? :=fun j hj=>by
  rw[List.append_assoc,List.getElem?_append_left (by rw[List.length_take];omega),List.getElem?_take,if_pos (by omega)]
 exact⟨by simp;omega,e 0 (by omega),e 12 (by omega),e 13 (by omega)⟩
def E4(w:World)(b:Nat)(cs:List Value):Prop:=CB w b cs∧cs.length=25
theorem E4.keep{w w':World}{b:Nat}{cs:List Value}(h:E4 w b cs)(hb:Below w.heap.size w w'):E4 w' b cs:=⟨h.1.below hb h.1.lt,h.2⟩
theorem r7(t:List UInt8):Dk CG t=if 0<Du t then t.drop 1 else t:=by
 match t with
 | []=>simp[Dk,Du]
 |c::r=>
  show(if CG c.toNat then r else c::r)=_;cases hd:DJ c.toNat
  ·have:CG c.toNat=false:=by
    simp[DJ]at hd;simp[CG];omega
   rw[this];simp[Du,hd]
  ·have h1:48≤c.toNat∧c.toNat≤57:=by simpa[DJ]using hd
   by_cases h2:c.toNat=48
   ·have:CG c.toNat=false:=by rw[h2];rfl
    rw[this];simp[Du,h2];decide
   ·have:CG c.toNat=true:=by simp[CG];omega
    rw[this];have h3:0<Du (c::r):=by simp[Du,hd];omega
    rw[if_pos h3];rfl
theorem Vt(t:List UInt8)(c:Nat):Dk (· ==c) t=if CH t c then t.drop 1 else t:=by
 match t with
 | []=>rfl
 |d::r=>rfl
def QZ(S:List Nat):List Value:=S.map (fun(k:Nat)=> .int .i64 (k:Int))
theorem bE{w:World}{B:Nat}{e:TypeId}{a:Option Addr}{n c:Nat}{S:List Nat}{x:Nat}(h:w.ownsRow B e 1 (.slice a (S.length+1) c) (S.length+1) (QZ (S++ [x]))):w.ownsRow B e 1 (.slice a S.length c) S.length (QZ S):=by
 obtain⟨h1,⟨h2,h3⟩ | ⟨g,cap,cur,e1,e2,e3,e4,e5,e6,e7⟩⟩ :=h
 ·omega
 ·simp at e1
  obtain⟨rfl,rfl⟩ :=e1;refine⟨by simp[QZ],.inr ⟨g,c,cur,rfl,e2,e3,by omega,e5,e6,?_⟩⟩;have h9:=congrArg (List.take S.length) e7;rw[List.take_take]at h9;rw[show S.length*1=min S.length ((S.length+1)*1)by omega,h9];simp[QZ]
theorem ma{w:World}{B:Nat}{e:TypeId}{a:Option Addr}{c:Nat}{S:List Nat}{x:Nat}(h:w.ownsRow B e 1 (.slice a (S.length+1) c) (S.length+1) (QZ (S++ [x]))):∃g,a=some ⟨g,0,none⟩∧B≤g∧g<w.heap.size∧w.cell? ⟨g,S.length,none⟩ =some (.int .i64 x)∧S.length+1≤c:=by
 have hh:=h;obtain⟨h1,⟨h2,h3⟩ | ⟨g,cap,cur,e1,e2,e3,e4,e5,e6,e7⟩⟩ :=h
 ·omega
 ·simp at e1
  obtain⟨rfl,rfl⟩ :=e1;have c1:=hh.cells rfl S.length (.int .i64 x) (by simp[QZ]);rw[Addr.add_mid,Nat.zero_add]at c1;exact⟨g,rfl,e2,(hh.lt g rfl).2,c1,e4⟩
namespace M
def rsE(t:ByteArray)(p q:Nat):List Ev:=((t.data.toList.drop p).take (q - p)).map .r
theorem OL(t:ByteArray)(p:Nat):rsE t p p= []:=by unfold rsE;simp
theorem Y9(t:ByteArray)(p q:Nat)(h:p≤q)(hq:q<t.size):rsE t p (q+1)=rsE t p q++ [.r t[q]]:=by
 unfold rsE;have hl:t.data.toList.length=t.size:=by simp
 rw[show q+1 - p=(q - p)+1 by omega,List.take_add_one,List.getElem?_drop,show p+(q - p)=q by omega,List.getElem?_eq_getElem (by omega),List.map_append]
 congr 1
theorem om(t:ByteArray)(p q:Nat)(h:p≤q)(hq:q≤t.size):Jg (rsE t p q)=q - p:=by
 unfold rsE;rw[(NV _).1,List.length_take,List.length_drop];have hl:t.data.toList.length=t.size:=by simp
 omega
theorem cC:KI LL= [.k]:=rfl
theorem JR(t:ByteArray)(p:Nat)(c:Cl):(c.2<(p:Int)∨(t.size:Int)≤c.2→BH (CL t p c).1= [.d]∧(CL t p c).2=p)∧(¬(c.2<(p:Int)∨(t.size:Int)≤c.2)→BH (CL t p c).1=rsE t p c.2.toNat++ [.k]∧(CL t p c).2=c.2.toNat+1):=by
 refine⟨fun h=> ?_,fun h=> ?_⟩
 ·unfold CL
  rw[if_pos h];exact⟨rfl,rfl⟩
 ·unfold CL
  rw[if_neg h];refine⟨?_,rfl⟩;show BH ((if(p:Int)<c.2 then [M1 t p c.2.toNat]else [])++ [LL])=_;rw[CK]
  by_cases h2:(p:Int)<c.2
  ·rw[if_pos h2]
   show(KI (M1 t p c.2.toNat)++BH [])++BH [LL]=_;rw[Qy];show(_++ [])++(KI LL++ [])=_;rw[cC];simp[rsE]
  ·rw[if_neg h2]
   have:c.2.toNat=p:=by omega
   rw[this,OL]
   rfl
def Sw(t:ByteArray)(l:List Cl):List Ev:=BH (Be t 0 l).1
def Uy(t:ByteArray)(l:List Cl):Nat:=(Be t 0 l).2
theorem oq(t:ByteArray)(l:List Cl)(c:Cl):Sw t (l++ [c])=Sw t l++BH (CL t (Uy t l) c).1∧Uy t (l++ [c])=(CL t (Uy t l) c).2:=by
 unfold Sw Uy;rw[Sb];exact⟨CK _ _,rfl⟩
theorem ot(t:ByteArray)(l:List Cl):Uy t l≤t.size:=nv t l 0 ε
theorem jA(t:ByteArray):∀(l:List Cl),Jg (Sw t l)=Uy t l:=by
 have key:∀(l:List Cl)(p:Nat),p≤t.size→p+Jg (BH (Be t p l).1)=(Be t p l).2:=by
  intro l
  induction l with
  |nil=>intro p _;rfl
  |cons c l ih=>
   intro p hp;rw[Be];show p+Jg (BH ((CL t p c).1++(Be t (CL t p c).2 l).1))=(Be t (CL t p c).2 l).2;have h1:=(OC t p c hp).1;rw[←ih _ h1,CK,Fg]
   by_cases h:c.2<(p:Int)∨(t.size:Int)≤c.2
   ·obtain⟨e1,e2⟩ :=(JR t p c).1 h
    rw[e1,e2];simp[Jg]
   ·obtain⟨e1,e2⟩ :=(JR t p c).2 h
    rw[e1,e2,Fg,om t p c.2.toNat (by omega) (by omega)];simp[Jg];omega
 intro l;have:=key l 0 ε;unfold Sw Uy;omega
theorem jB(t:ByteArray):∀(l:List Cl),KJ (Sw t l)=l.length:=by
 have key:∀(l:List Cl)(p:Nat),KJ (BH (Be t p l).1)=l.length:=by
  intro l
  induction l with
  |nil=>intro p;rfl
  |cons c l ih=>
   intro p;rw[Be];show KJ (BH ((CL t p c).1++(Be t (CL t p c).2 l).1))=_;rw[CK,Fh,ih,List.length_cons]
   by_cases h:c.2<(p:Int)∨(t.size:Int)≤c.2
   ·rw[((JR t p c).1 h).1]
    simp[KJ];omega
   ·rw[((JR t p c).2 h).1,Fh]
    unfold rsE;rw[(NV _).2];simp[KJ];omega
 exact fun l=>key l 0
theorem iL(t:ByteArray)(l:List Cl):BH (Ck t l)=Sw t l++rsE t (Uy t l) t.size:=by
 unfold Ck;rw[CK];show Sw t l++_=_
 congr 1
 by_cases h:(Be t 0 l).2<t.size
 ·rw[if_pos h]
  show KI (M1 t (Uy t l) t.size)++BH []=_;rw[Qy];simp[rsE,BH]
 ·rw[if_neg h]
  have h2:=ot t l;have:Uy t l=t.size:=by unfold Uy at h2⊢;omega
  rw[this,OL]
  rfl
theorem rsF(E:List Ev)(t:ByteArray)(p q:Nat):Dj 0 (E++rsE t p q)=Dj 0 E:=by
 unfold rsE;rw[Jh];have:∀(s:List UInt8)(a:Nat),Dj a (s.map .r)= []:=by
  intro s
  induction s with
  |nil=>intro a;rfl
  |cons c s ih=>intro a;show Dj (a+1) (s.map .r)= [];exact ih _
 rw[this,List.append_nil]
end M
structure Pf(b:Nat)(w wr:World)(vf vb:Value)(F K:List Int):Prop where
 x0:wr.cell? ⟨b,0,none⟩ =some vf
 x1:wr.cell? ⟨b,1,none⟩ =some vb
 g0:wr.frozen? ⟨b,0,none⟩ =false
 g1:wr.frozen? ⟨b,1,none⟩ =false
 twin:Twin (b+1) wr vf vb F K
 below:Below b w wr
 size:b+1≤wr.heap.size
theorem Pf.XK{b:Nat}{w wr w3:World}{vf vb:Value}{F K:List Int}{o:Obj}{g cap:Nat}{x:Int}(h:Pf b w wr vf vb F K)
  (ν:w3.ownsRow (b+1) 3 1 (.slice (some ⟨g,0,none⟩) (F.length+1) cap) (F.length+1) (Ki F++ [.int .i64 x])) (hg:(wr.alloc o).grownBy w3 vf.ownBlock) (Cw:vf.ownBlock=some g∨g=wr.heap.size+1):
  (w3.cell? ⟨b,0,none⟩ =some vf∧w3.cell? ⟨b,1,none⟩ =some vb∧w3.frozen? ⟨b,0,none⟩ =false∧w3.frozen? ⟨b,1,none⟩ =false∧b<w3.heap.size)∧Pf b w (w3.setCell ⟨b,0,none⟩ (.slice (some ⟨g,0,none⟩) (F.length+1) cap)) (.slice (some ⟨g,0,none⟩) (F.length+1) cap) vb (F++ [x]) K:=by
 have hs:=h.size;have hk:w3.heap[b]? =wr.heap[b]? :=by
  rw[hg.block b (by simp;omega) (fun e=>by have:=(h.twin.f.lt b e.symm).1;omega),Below.heap_alloc _ _ _ (by omega)]
 have c0:w3.cell? ⟨b,0,none⟩ =some vf:=(World.cell?_of_block hk).trans h.x0;have c1:w3.cell? ⟨b,1,none⟩ =some vb:=(World.cell?_of_block hk).trans h.x1;have f0:w3.frozen? ⟨b,0,none⟩ =false:=(World.frozen?_of_block hk).trans h.g0;have f1:w3.frozen? ⟨b,1,none⟩ =false:=(World.frozen?_of_block hk).trans h.g1;have hz:=hg.size;refine⟨⟨c0,c1,f0,f1,by simp at hz;omega⟩,?_,?_,?_,?_,(h.twin.grow ν hg Cw).set (by simp) _,?_,?_⟩
 ·simp[go_sem,c0]
 ·simp[go_sem,c1]
 ·simp[go_sem,f0]
 ·simp[go_sem,f1]
 ·exact((h.below.alloc (by omega) _).grown hg (by simp;omega) (fun k hk=>by have:=(h.twin.f.lt k hk).1;omega)).setCell (by simp) _
 ·simp at hz⊢;omega
theorem Pf.UI{b:Nat}{w wr w3:World}{vf vb:Value}{F K:List Int}{o:Obj}{g cap:Nat}{x:Int}(h:Pf b w wr vf vb F K)
  (ν:w3.ownsRow (b+1) 3 1 (.slice (some ⟨g,0,none⟩) (K.length+1) cap) (K.length+1) (Ki K++ [.int .i64 x])) (hg:(wr.alloc o).grownBy w3 vb.ownBlock) (Cw:vb.ownBlock=some g∨g=wr.heap.size+1):
  (w3.cell? ⟨b,0,none⟩ =some vf∧w3.cell? ⟨b,1,none⟩ =some vb∧w3.frozen? ⟨b,0,none⟩ =false∧w3.frozen? ⟨b,1,none⟩ =false∧b<w3.heap.size)∧Pf b w (w3.setCell ⟨b,1,none⟩ (.slice (some ⟨g,0,none⟩) (K.length+1) cap)) vf (.slice (some ⟨g,0,none⟩) (K.length+1) cap) F (K++ [x]):=by
 have hs:=h.size;have hk:w3.heap[b]? =wr.heap[b]? :=by
  rw[hg.block b (by simp;omega) (fun e=>by have:=(h.twin.k.lt b e.symm).1;omega),Below.heap_alloc _ _ _ (by omega)]
 have c0:w3.cell? ⟨b,0,none⟩ =some vf:=(World.cell?_of_block hk).trans h.x0;have c1:w3.cell? ⟨b,1,none⟩ =some vb:=(World.cell?_of_block hk).trans h.x1;have f0:w3.frozen? ⟨b,0,none⟩ =false:=(World.frozen?_of_block hk).trans h.g0;have f1:w3.frozen? ⟨b,1,none⟩ =false:=(World.frozen?_of_block hk).trans h.g1;have hz:=hg.size;refine⟨⟨c0,c1,f0,f1,by simp at hz;omega⟩,?_,?_,?_,?_,(h.twin.swap.grow ν hg Cw).swap.set (by simp) _,?_,?_⟩
 ·simp[go_sem,c0]
 ·simp[go_sem,c1]
 ·simp[go_sem,f0]
 ·simp[go_sem,f1]
 ·exact((h.below.alloc (by omega) _).grown hg (by simp;omega) (fun k hk=>by have:=(h.twin.k.lt k hk).1;omega)).setCell (by simp) _
 ·simp at hz⊢;omega
end Go.Proofs.YtlppphmnegdhoabGreatDoor
