import Derived.Test.YtlppphmnegdhoabGreatDoorMz40
set_option linter.unusedVariables false
set_option maxRecDepth 100000
set_option maxHeartbeats 8000000
namespace Go.Proofs.YtlppphmnegdhoabGreatDoor
open Go.Proofs.Tryz
open Go.RowKit
open M
def tu(s:ByteArray)(w:World)(e:Ending)(w':World):Prop:=
 Below w.heap.size w w'∧∃(a:Option Addr)(n c:Nat)(x:Int),e= .returned (.tuple #[.agg #[.slice a n c],.int .i64 x])∧
  ((400<s.size∧x=1)∨(s.size≤400∧((x=2∧∀cs,¬Ef s.data.toList cs)∨∃(cs:List Cm)(Ec:List (List Value)),x=0∧n=cs.length∧Ef s.data.toList cs∧Cj w.heap.size w' (fun w=>KQ Ec w (.slice a n c) cs))))
theorem T2(s:ByteArray)(w:World)(hs:s.size≤maxLen):
  Calls prog 34 #[.string s] w fun e w'=>tu s w e w':=by
 unfold maxLen at hs;have Mj:CB (w.alloc (.cells #[.slice none 0 0] 73)) w.heap.size [.slice none 0 0]:=CB.new w 73 #[.slice none 0 0] (by simp[Value.oneCell']);have B0:Below w.heap.size w (w.alloc (.cells #[.slice none 0 0] 73)):=ζ.alloc δ _
 by_cases h1:400<s.size
 ·have Pr:(400:Int)<(s.size:Int):=by omega
  go_enter func34,ntmps34
  go_wp2_with(refine θ Dd Mj rfl rfl _ _ rfl rfl (vs:= [.slice none 0 0]) rfl rfl (by simp[Value.oneCell']) ?_;intro w8 Nl O8)
  refine bodyPost_ret (Ω rfl _ _ _ _ rfl Dd Nl rfl) rfl ?_;exact⟨B0.trans (O8.below δ),none,0,0,1,rfl,.inl ⟨h1,rfl⟩⟩
 ·have Pr:¬(400:Int)<(s.size:Int):=by omega
  have Z3:s.size≤400:=by omega
  have I0:(w.alloc (.cells #[.slice none 0 0] 73)).heap.size=w.heap.size+1:=by simp
  go_enter func34,ntmps34
  go_wp2_with fail
  generalize w.alloc (.cells #[.slice none 0 0] 73)=W at*;refine(Yw s W Z3).mono ?_;rintro e w2 ⟨B2,EK⟩;have Fw:=B2.size;have LV:=Mj.below B2 Mj.lt;have TB:=B0.trans (B2.mono (by omega));have Cq:CB (w2.alloc (.cells #[.slice none 0 0] 73)) w2.heap.size [.slice none 0 0]:=CB.new w2 73 #[.slice none 0 0] (by simp[Value.oneCell']);have Nf:=LV.below ((Below.refl w2.heap.size w2).alloc δ (.cells #[.slice none 0 0] 73)) LV.lt;have Hx:=TB.alloc (o:= .cells #[.slice none 0 0] 73) (by omega);rcases EK with⟨rfl,CQ⟩ | ⟨a,c,l,Ec,rfl,BW,hcs⟩
  ·have Pz:Hid (∀cs,¬Ef s.data.toList cs):=CQ
   clear CQ
   go_wp2_with(first
    | (refine θ Dd Cq rfl rfl _ _ rfl rfl (vs:= [.slice none 0 0]) rfl rfl (by simp[Value.oneCell']) ?_;intro w5 BP O5;have QV:=Nf.keep (O5.block _ (by omega)) (by rw[O5.size];exact δ))
    | (refine θ Dd QV rfl rfl _ _ rfl rfl (vs:= [.slice none 0 0]) rfl rfl (by simp[Value.oneCell']) ?_;intro w8 Nl O8))
   refine bodyPost_ret (Ω rfl _ _ _ _ rfl Dd Nl rfl) rfl ?_;exact⟨(Hx.trans (O5.below (by omega))).trans (O8.below δ),none,0,0,2,rfl,.inr ⟨Z3,.inl ⟨rfl,Pz.out⟩⟩⟩
  ·have HS:Hid (Ef s.data.toList l):=BW
   have Qb:=γ hcs;have ZN:=Mj.lt;clear BW hcs
   go_wp2_with(first
    | (refine θ Dd Cq rfl rfl _ _ rfl rfl (vs:= [.slice a l.length c]) rfl rfl (by simp[Value.oneCell']) ?_;intro w5 BP O5;have QV:=Nf.keep (O5.block _ (by omega)) (by rw[O5.size];exact δ))
    |refine ω Dd BP rfl rfl _ rfl rfl ?_
    | (refine θ Dd QV rfl rfl _ _ rfl rfl (vs:= [.slice a l.length c]) rfl rfl (by simp[Value.oneCell']) ?_;intro w8 Nl O8))
   refine bodyPost_ret (Ω rfl _ _ _ _ rfl Dd Nl rfl) rfl ?_;exact⟨(Hx.trans (O5.below (by omega))).trans (O8.below δ),a,l.length,c,0,rfl,.inr ⟨Z3,.inr ⟨l,Ec,rfl,rfl,HS.out,((Qb.out.boxed O5).only O8 ZN).mono (Nat.le_of_lt ZN)⟩⟩⟩
def iB(s:ByteArray)(n x:Int):Prop:=(400<s.size∧n=0∧x=1)∨(s.size≤400∧((n=0∧x=2∧∀cs,¬Ef s.data.toList cs)∨∃cs:List Cm,n=cs.length∧x=0∧Ef s.data.toList cs))
theorem iB.same{s:ByteArray}{n x n' x':Int}(h:iB s n x)(g:iB s n' x'):n=n'∧x=x':=by
 rcases h with⟨h1,rfl,rfl⟩ | ⟨h1,⟨rfl,rfl,h2⟩ | ⟨cs,rfl,rfl,h2⟩⟩ <;>rcases g with⟨g1,rfl,rfl⟩ | ⟨g1,⟨rfl,rfl,g2⟩ | ⟨ds,rfl,rfl,g2⟩⟩
 ·exact⟨rfl,rfl⟩
 ·omega
 ·omega
 ·omega
 ·exact⟨rfl,rfl⟩
 ·exact absurd g2 (h2 ds)
 ·omega
 ·exact absurd h2 (g2 cs)
 ·exact⟨by rw[h2.unique g2],rfl⟩
theorem iB.x{s:ByteArray}{n x:Int}(h:iB s n x):x=1∨x=2∨x=0:=by
 rcases h with⟨_,_,h⟩ | ⟨_,⟨_,h,_⟩ | ⟨cs,_,h,_⟩⟩
 ·exact .inl h
 ·exact .inr (.inl h)
 ·exact .inr (.inr h)
def ow(D:DS)(w:World)(e:Ending)(w':World):Prop:=(∃j:ByteArray,e= .returned (.string j)∧j.data.toList=Pk ⟨D.text.size,D.out.length,sum D.text.data.toList,sum (AL D.out),norm (BH (Ck D.text D.out))⟩)∧Below w.heap.size w w'
theorem Sy(b:Nat)(D:DS)(vo:Value)(w:World)(bm:w.cell? ⟨b,16,none⟩ =some vo)(cD:ψ w vo D.out)(k0:w.cell? ⟨b,0,none⟩ =some (.string D.text))(Bq:b<w.heap.size)(Q7:D.text.size≤4096)(Nn:D.out.length≤4096)(jD:Ax D.text.data.toList D.out):
  Calls prog 52 #[.pointer (some ⟨b,0,none⟩)] w fun e w'=>ow D w e w':=by
 obtain⟨i0,hi,DF,CN,Dq⟩ :=info_parts Qj;have HOG:=γ jD;obtain⟨ao,co,TC,_⟩ :=cD.form;obtain⟨n,hn⟩ :∃n,D.out.length=n:=⟨_,rfl⟩
 have HN:=γ hn;rw[hn]at TC Nn;subst TC;obtain⟨t,ht⟩ :∃t,D.text=t:=⟨_,rfl⟩
 have HT:=γ ht;rw[ht]at Q7 HOG k0;have HRD:Hid (∀w',Below w.heap.size w w'→w'.cell? ⟨b,16,none⟩ =some (.slice ao n co)∧ψ w' (.slice ao n co) D.out∧w'.cell? ⟨b,0,none⟩ =some (.string t)∧b<w'.heap.size):=fun w' hb=>
  ⟨(hb.cell (by exact Bq)).trans bm,cD.below hb,(hb.cell (by exact Bq)).trans k0,Nat.lt_of_lt_of_le Bq hb.size⟩
 have Hc:=γ (Δ t);clear jD hn ht bm cD k0
 go_enter func52,ntmps52
 go_wp2_with fail
 go_loopw [4,5] (fun v4 v5 wr=>∃(i:Nat)(vf vb:Value),v5= .int .i64 i∧v4= .int .i64 ((Uy t (D.out.take i):Nat):Int)∧i≤n∧Pf w.heap.size w wr vf vb (Dj 0 (Sw t (D.out.take i))) (EC (Sw t (D.out.take i)))) (fun _ v5 _=>n - (intOf v5).toNat)
 case atStart=>
  refine⟨0,.slice none 0 0,.slice none 0 0,rfl,rfl,ε,?_,?_,?_,?_,⟨World.ownsRow_nil _ _ _ _,World.ownsRow_nil _ _ _ _,fun g h=>by cases h⟩,ζ.alloc δ _,by simp⟩
  all_goals simp[go_sem]
 case round=>
  obtain⟨i,vf,vb,rfl,rfl,S5,hinv⟩ :=hrel;obtain⟨bm,cD,k0,iz⟩ :=HRD.out wr hinv.below;have Ht:=ot t (D.out.take i);have HA:=jA t (D.out.take i);have HB:=jB t (D.out.take i);have ZJ:(Dj 0 (Sw t (D.out.take i))).length≤4096:=by rw[NU,HB,List.length_take];omega
  have GQ:(EC (Sw t (D.out.take i))).length≤4096:=by rw[FA,HA];omega
  have HKL:Hid ((EC (Sw t (D.out.take i))).length=Uy t (D.out.take i)):=by show _=_;rw[FA,HA]
  have hz:=hinv.size
  by_cases Ac:i<n
  ·have AV:(i:Int)<(n:Int):=by omega
   have h0:(0:Int)≤(i:Int):=by omega
   have BN:i<D.out.length:=by rw[HN.out];exact Ac
   obtain⟨-,g,o,rfl,hg,hr⟩ :=cD.at' i BN;have iy:Hid (D.out.take (i+1)=D.out.take i++ [D.out[i]]):=by show _=_;rw[List.take_add_one,List.getElem?_eq_getElem BN];rfl
   have EK:=HOG.out D.out[i] (List.getElem_mem _);obtain⟨c,hc⟩ :∃c,D.out[i]=c:=⟨_,rfl⟩
   rw[hc]at hr EK iy;obtain⟨og,ox⟩ :∃x,c.2=x:=⟨_,rfl⟩
   have HOE:=γ ox;have hco:wr.cell? ⟨g,o+i*2+1,none⟩ =some (.int .i64 og):=by have h9:=hr 1 _ rfl;rw[←ox];exact h9
   have hob: -1≤og∧og<(t.size:Int):=by
    rw[←ox];rcases EK with e| ⟨k,hk,e,_⟩
    ·rw[e];omega
    ·rw[e];have h9:=Hc.out;omega
   have Wp:=oq t (D.out.take i) c;have HX:=JR t (Uy t (D.out.take i)) c;rw[ox]at HX;obtain⟨p,hp⟩ :∃p,Uy t (D.out.take i)=p:=⟨_,rfl⟩
   obtain⟨E0,RY⟩ :∃E,Sw t (D.out.take i)=E:=⟨_,rfl⟩
   rw[hp,RY]at Wp;rw[hp]at HX HKL Ht;rw[RY]at hinv ZJ GQ HKL;have HE0:Hid (Sw t (D.out.take i)=E0∧Uy t (D.out.take i)=p):=⟨RY,hp⟩
   have iP:Hid (Sw t (D.out.take (i+1))=E0++BH (CL t p c).1∧Uy t (D.out.take (i+1))=(CL t p c).2):=by rw[iy.out];exact Wp
   have ya:=γ HX;rw[hp];clear Wp HX hp RY hr EK hc ox iy HA HB
   by_cases ur:og<(p:Int)
   ·have X5:Hid (Sw t (D.out.take (i+1))=E0++ [.d]∧Uy t (D.out.take (i+1))=p):=by
     have h9:=ya.out.1 (.inl ur);show _∧_;rw[iP.out.1,iP.out.2,h9.1,h9.2];exact⟨rfl,rfl⟩
    have Qo:Hid (Dj 0 (Sw t (D.out.take (i+1)))=Dj 0 E0++ [-1]∧EC (Sw t (D.out.take (i+1)))=EC E0):=by
     show _∧_;rw[X5.out.1];exact⟨Zn _,Zo _⟩
    clear ya iP;obtain⟨af,cf,jw⟩ :=κ hinv.twin.f;obtain⟨x0,x1,g0,g1,tw,ND,EV⟩ :=hinv;have hinv:Pf w.heap.size w wr vf vb (Dj 0 E0) (EC E0):=⟨x0,x1,g0,g1,tw,ND,EV⟩
    generalize Dj 0 E0=F at*;generalize EC E0=K at*;subst jw
    go_wp2_with(first
     | (at_builtin;refine wpList_append_lies _ rfl _ _ 116 rfl (w.heap.size+1) 3 i0 (.int .i64 0) 1 8 Ji hi DF CN Dq rfl (by decide) _ _ _ rfl (hinv.twin.f.alloc _) ⟨wr.heap.size,0,none⟩ 1 1 [.int .i64 (-1)] rfl rfl ?k1 ?k2 (by decide) ?k3 ?k4 ?k5 (wr.heap.size+1) ?k6 ?_)
     |go_in)
    try case k1=>(exact Fy _ _ _)
    try case k2=>(first|exact FC _|rfl)
    try case k3=>(unfold maxLen;omega)
    try case k4=>(omega)
    try case k5=>(first|omega| (simp;omega))
    try case k6=>(first|rfl|simp)
    intro g' cap w3 Γ AE Ea _;obtain⟨⟨y0,y1,y2,y3,y4⟩,Gv⟩ :=hinv.XK Γ AE Ea;clear Γ AE Ea x0 x1 g0 g1 tw ND EV hinv;go_wp2
    go_roundw
    case rel=>exact⟨i+1,_,_,by go_num,by rw[X5.out.2],by omega,by rw[Qo.out.1,Qo.out.2];exact Gv⟩
    case measure=>simp[intOf]<;>omega
   ·obtain⟨q,hq⟩ :∃q:Nat,og=(q:Int):=⟨og.toNat,by omega⟩
    subst hq;have hpq:p≤q:=by omega
    have Oy:q<t.size:=by omega
    have X5:Hid (Sw t (D.out.take (i+1))=(E0++rsE t p q)++ [.k]∧Uy t (D.out.take (i+1))=q+1):=by
     have h9:=ya.out.2 (by omega);show _∧_;rw[iP.out.1,iP.out.2,h9.1,h9.2,List.append_assoc];simp
    have zA:¬(q:Int)<(p:Int):=by omega
    clear ya iP ur
    go_wp2_with fail
    go_loopw [4] (fun v4 wr=>∃(j:Nat)(vf vb:Value),v4= .int .i64 (j:Nat)∧p≤j∧j≤q∧Pf w.heap.size w wr vf vb (Dj 0 (E0++rsE t p j)) (EC (E0++rsE t p j))) (fun v4 _=>q - (intOf v4).toNat)
    case atStart=>exact⟨p,vf,vb,rfl,δ,hpq,by rw[OL,List.append_nil];exact hinv⟩
    case round=>
     obtain⟨j,vf,vb,rfl,hpj,hjq,hinv⟩ :=hrel;obtain⟨bm,cD,k0,iz⟩ :=HRD.out wr hinv.below;have hz:=hinv.size;have pk:=rsF E0 t p j;have hrA:=om t p j hpj (by omega);have oy:(EC (E0++rsE t p j)).length=j:=by rw[FA,Fg,hrA];have h9:=HKL.out;rw[FA]at h9;omega
     have ACL:(Dj 0 (E0++rsE t p j)).length≤4096:=by rw[pk];exact ZJ
     have HK2:=γ oy;have AEn:(EC (E0++rsE t p j)).length≤4096:=by omega
     clear pk hrA oy
     by_cases ACN:j<q
     ·have hj1:(j:Int)<(q:Int):=by omega
      have hj0:(0:Int)≤(j:Int):=by omega
      have nS:j<t.size:=by omega
      have ABc:(j:Int)<(t.size:Int):=by omega
      have HW:Hid (IntKind.i64.wrap (t[j].toNat:Int)=(t[j].toNat:Int)):=by
       have:=t[j].toNat_lt;show _=_;rw[IntKind.wrap_i64];omega
      have uO:Hid (Dj 0 (E0++rsE t p (j+1))=Dj 0 (E0++rsE t p j)∧EC (E0++rsE t p (j+1))=EC (E0++rsE t p j)++ [(t[j].toNat:Int)]):=by
       show _∧_;rw[Y9 t p j hpj nS,←List.append_assoc];exact⟨RG _ _,RH _ _⟩
      obtain⟨ab,cb,S6⟩ :=κ hinv.twin.k;obtain⟨x0,x1,g0,g1,tw,ND,EV⟩ :=hinv;have hinv:Pf w.heap.size w wr vf vb (Dj 0 (E0++rsE t p j)) (EC (E0++rsE t p j)):=⟨x0,x1,g0,g1,tw,ND,EV⟩
      generalize Dj 0 (E0++rsE t p j)=F at*;generalize EC (E0++rsE t p j)=K at*;subst S6;have Eo:w.heap.size<wr.heap.size:=by omega
      go_wp2_with fail
      go_region_law(first
       | (refine step_append_lies _ rfl (.tmp 38) (.tmp 46) 116 rfl (w.heap.size+1) 3 i0 (.int .i64 0) 1 8 Ji hi DF CN Dq rfl (by decide) (.slice ab K.length cb) K.length (Ki K) (by simp[Act.eval]) (World.ownsRow.drew (World.ownsRow.alloc hinv.twin.k _)) ⟨wr.heap.size,0,none⟩ 1 1 [.int .i64 (IntKind.i64.wrap (t[j].toNat:Int))] (by simp[Act.eval]) rfl (fun j u h=>Fy wr _ _ j u h) (FC _) (by decide) (by unfold maxLen;omega) (by omega) (by simp;omega) (wr.heap.size+1) (by simp) ?_
          intro g' cap w3 Γ AE Ea _;have FR:(wr.alloc (.cells #[.int .i64 (IntKind.i64.wrap (t[j].toNat:Int))] 3)).grownBy w3 (Value.slice ab K.length cb).ownBlock:=⟨AE.os,AE.tape,AE.output,AE.size,AE.block⟩
          obtain⟨⟨y0,y1,y2,y3,y4⟩,Gv⟩ :=hinv.UI Γ FR Ea;clear Γ AE FR Ea x0 x1 g0 g1 tw ND EV hinv))
      all_goals(go_wp2;go_roundw)
      all_goals first
       |exact⟨j+1,_,_,by go_num,by omega,by omega,by rw[uO.out.1,uO.out.2,←HW.out];exact Gv⟩
       |exact⟨_,_,_,_,_,_,_,_,_,_,_,_,_,_,_,_,_,_,⟨j+1,_,_,by go_num,by omega,by omega,by rw[uO.out.1,uO.out.2,←HW.out];exact Gv⟩,rfl⟩
       | (show q - (intOf (.int .i64 ((j:Int)+1))).toNat<q - (intOf (.int .i64 (j:Int))).toNat;simp[intOf];omega)
       | (simp[intOf];omega)
     ·obtain rfl:j=q:=by omega
      have hj1:¬(j:Int)<(j:Int):=by omega
      have Qo:Hid (Dj 0 (Sw t (D.out.take (i+1)))=Dj 0 (E0++rsE t p j)++ [(j:Int)]∧EC (Sw t (D.out.take (i+1)))=EC (E0++rsE t p j)++ [-1]):=by
       show _∧_;rw[X5.out.1];have h9:=Zl (E0++rsE t p j);rw[HK2.out]at h9;exact⟨h9,Zm _⟩
      obtain⟨af,cf,jw⟩ :=κ hinv.twin.f;obtain⟨ab,cb,S6⟩ :=κ hinv.twin.k;obtain⟨x0,x1,g0,g1,tw,ND,EV⟩ :=hinv;have hinv:Pf w.heap.size w wr vf vb (Dj 0 (E0++rsE t p j)) (EC (E0++rsE t p j)):=⟨x0,x1,g0,g1,tw,ND,EV⟩
      generalize Dj 0 (E0++rsE t p j)=F at*;generalize EC (E0++rsE t p j)=K at*;subst jw S6
      go_wp2_with(first
       | (at_builtin;refine wpList_append_lies _ rfl _ _ 116 rfl (w.heap.size+1) 3 i0 (.int .i64 0) 1 8 Ji hi DF CN Dq rfl (by decide) _ _ _ rfl (hinv.twin.f.alloc _) ⟨wr.heap.size,0,none⟩ 1 1 [.int .i64 (j:Int)] rfl rfl ?n1 ?n2 (by decide) ?n3 ?n4 ?n5 (wr.heap.size+1) ?n6 ?_)
       |go_in)
      try case n1=>(exact Fy _ _ _)
      try case n2=>(first|exact FC _|rfl)
      try case n3=>(unfold maxLen;omega)
      try case n4=>(omega)
      try case n5=>(first|omega| (simp;omega))
      try case n6=>(first|rfl|simp)
      intro g' cap w3 Γ AE Ea _;obtain⟨⟨y0,y1,y2,y3,y4⟩,Gv⟩ :=hinv.XK Γ AE Ea;have XO:=Gv.size;clear Γ AE Ea x0 x1 g0 g1 tw ND EV hinv
      go_wp2_with(first
       | (at_builtin;have Ff:=Gv.twin.k.alloc (.cells #[.int .i64 (-1)] 3);refine wpList_append_lies _ rfl _ _ 116 rfl (w.heap.size+1) 3 i0 (.int .i64 0) 1 8 Ji hi DF CN Dq rfl (by decide) (.slice ab K.length cb) K.length (Ki K) rfl Ff ⟨w3.heap.size,0,none⟩ 1 1 [.int .i64 (-1)] rfl rfl ?m1 ?m2 (by decide) ?m3 ?m4 ?m5 (w3.heap.size+1) ?m6 ?_)
       |go_in)
      try case m1=>(first|exact Fy _ _ _|simpa using Fy (w3.setCell ⟨w.heap.size,0,none⟩ (.slice (some ⟨g',0,none⟩) (F.length+1) cap)) (-1) _)
      try case m2=>(first|exact FC _|rfl)
      try case m3=>(unfold maxLen;omega)
      try case m4=>(omega)
      try case m5=>(first| (simp at XO⊢;omega) | (simp at XO;omega) |omega)
      try case m6=>(first|rfl|simp)
      intro g2 eW w4 GA Km XP _;obtain⟨⟨t0,t1,p0,p1,s0⟩,iX⟩ :=Gv.UI GA Km (by simpa using XP);clear GA Km XP y0 y1 y2 y3 y4 Gv;go_wp2
      go_roundw
      case rel=>exact⟨i+1,_,_,by go_num,by rw[X5.out.2];go_num,by omega,by rw[Qo.out.1,Qo.out.2];exact iX⟩
      case measure=>simp[intOf]<;>omega
  ·obtain rfl:i=n:=by omega
   have AV:¬(i:Int)<(i:Int):=by omega
   rw[show D.out.take i=D.out from List.take_of_length_le (by rw[HN.out];exact δ)]at hinv Ht ZJ GQ HKL⊢;obtain⟨p,hp⟩ :∃p,Uy t D.out=p:=⟨_,rfl⟩
   obtain⟨E0,RY⟩ :∃E,Sw t D.out=E:=⟨_,rfl⟩
   have TA:Hid (BH (Ck t D.out)=E0++rsE t p t.size):=by show _=_;rw[iL,RY,hp]
   have HEB:Hid (KJ E0=i):=by show _=_;rw[←RY,jB,HN.out]
   rw[hp]at HKL Ht⊢;rw[RY]at hinv ZJ GQ HKL;clear hp RY
   go_wp2_with fail
   clear bm cD k0 iz
   go_loopw [4] (fun v4 wr=>∃(j:Nat)(vf vb:Value),v4= .int .i64 (j:Nat)∧p≤j∧j≤t.size∧Pf w.heap.size w wr vf vb (Dj 0 (E0++rsE t p j)) (EC (E0++rsE t p j))) (fun v4 _=>t.size - (intOf v4).toNat)
   case atStart=>exact⟨p,vf,vb,rfl,δ,Ht,by rw[OL,List.append_nil];exact hinv⟩
   case round=>
    obtain⟨j,vf,vb,rfl,hpj,hjq,hinv⟩ :=hrel;obtain⟨bm,cD,k0,iz⟩ :=HRD.out wr hinv.below;have hz:=hinv.size;have pk:=rsF E0 t p j;have hrA:=om t p j hpj hjq;have oy:(EC (E0++rsE t p j)).length=j:=by rw[FA,Fg,hrA];have h9:=HKL.out;rw[FA]at h9;omega
    have ACL:(Dj 0 (E0++rsE t p j)).length≤4096:=by rw[pk];exact ZJ
    have HK2:=γ oy;have AEn:(EC (E0++rsE t p j)).length≤4096:=by omega
    clear pk hrA oy
    by_cases ACN:j<t.size
    ·have nS:=ACN
     have hj1:(j:Int)<(t.size:Int):=by omega
     have hj0:(0:Int)≤(j:Int):=by omega
     have HW:Hid (IntKind.i64.wrap (t[j].toNat:Int)=(t[j].toNat:Int)):=by
      have:=t[j].toNat_lt;show _=_;rw[IntKind.wrap_i64];omega
     have uO:Hid (Dj 0 (E0++rsE t p (j+1))=Dj 0 (E0++rsE t p j)∧EC (E0++rsE t p (j+1))=EC (E0++rsE t p j)++ [(t[j].toNat:Int)]):=by
      show _∧_;rw[Y9 t p j hpj nS,←List.append_assoc];exact⟨RG _ _,RH _ _⟩
     obtain⟨ab,cb,S6⟩ :=κ hinv.twin.k;obtain⟨x0,x1,g0,g1,tw,ND,EV⟩ :=hinv;have hinv:Pf w.heap.size w wr vf vb (Dj 0 (E0++rsE t p j)) (EC (E0++rsE t p j)):=⟨x0,x1,g0,g1,tw,ND,EV⟩
     generalize Dj 0 (E0++rsE t p j)=F at*;generalize EC (E0++rsE t p j)=K at*;subst S6;have Eo:w.heap.size<wr.heap.size:=by omega
     go_wp2_with fail
     go_region_law(first
      | (refine step_append_lies _ rfl (.tmp 72) (.tmp 80) 116 rfl (w.heap.size+1) 3 i0 (.int .i64 0) 1 8 Ji hi DF CN Dq rfl (by decide) (.slice ab K.length cb) K.length (Ki K) (by simp[Act.eval]) (World.ownsRow.drew (World.ownsRow.alloc hinv.twin.k _)) ⟨wr.heap.size,0,none⟩ 1 1 [.int .i64 (IntKind.i64.wrap (t[j].toNat:Int))] (by simp[Act.eval]) rfl (fun j u h=>Fy wr _ _ j u h) (FC _) (by decide) (by unfold maxLen;omega) (by omega) (by simp;omega) (wr.heap.size+1) (by simp) ?_
         intro g' cap w3 Γ AE Ea _;have FR:(wr.alloc (.cells #[.int .i64 (IntKind.i64.wrap (t[j].toNat:Int))] 3)).grownBy w3 (Value.slice ab K.length cb).ownBlock:=⟨AE.os,AE.tape,AE.output,AE.size,AE.block⟩
         obtain⟨⟨y0,y1,y2,y3,y4⟩,Gv⟩ :=hinv.UI Γ FR Ea;clear Γ AE FR Ea x0 x1 g0 g1 tw ND EV hinv))
     all_goals(go_wp2;go_roundw)
     all_goals first
      |exact⟨j+1,_,_,by go_num,by omega,by omega,by rw[uO.out.1,uO.out.2,←HW.out];exact Gv⟩
      |exact⟨_,_,_,_,_,_,_,_,_,_,_,_,_,_,_,_,_,_,_,_,_,_,⟨j+1,_,_,by go_num,by omega,by omega,by rw[uO.out.1,uO.out.2,←HW.out];exact Gv⟩,rfl⟩
      | (show t.size - (intOf (.int .i64 ((j:Int)+1))).toNat<t.size - (intOf (.int .i64 (j:Int))).toNat;simp[intOf];omega)
      | (simp[intOf];omega)
    ·obtain rfl:j=t.size:=by omega
     have hj1:¬(t.size:Int)<(t.size:Int):=by omega
     have yS:Hid (Twin (w.heap.size+1) wr vf vb (Dj 0 (BH (Ck t D.out))) (EC (BH (Ck t D.out)))):=by rw[TA.out];exact hinv.twin
     have pg:=γ hinv.below;have x0:=hinv.x0;have x1:=hinv.x1;have EV:w.heap.size<wr.heap.size:=by omega
     have HEA:Hid (Jg (BH (Ck t D.out))≤4096∧KJ (BH (Ck t D.out))≤4096):=by
      rw[TA.out];refine⟨by have h9:=HK2.out;rw[FA]at h9;omega,?_⟩;rw[Fh];have h8:KJ (rsE t p t.size)=0:=(NV _).2;have h9:=HEB.out;omega
     have HC:=ZA (w.heap.size+1) vf vb (BH (Ck t D.out)) wr yS.out HEA.out.1 HEA.out.2;clear hinv
     go_wp2_with fail
     refine HC.mono ?_;clear HC;rintro e w3 ⟨v3,rfl,T3,B3⟩;obtain⟨a3,c3,Ei⟩ :=κ T3;subst Ei;have ACO:=M9 T3;have Lg:=γ (pg.out.trans (B3.mono pg.out.size));obtain⟨bm,cD,k0,iz⟩ :=HRD.out w3 Lg.out;obtain⟨n3,cP⟩ :∃k,(norm (BH (Ck t D.out))).length=k:=⟨_,rfl⟩
     have AEo:Hid (Jf w3 a3 n3 (norm (BH (Ck t D.out)))):=by rw[←cP];exact ACO
     rw[cP];clear T3 ACO cP x0 x1;have HC:=IH _ D.out w3 cD (by rw[HN.out];omega)
     go_wp2_with fail
     refine HC.mono ?_;clear HC;rintro e w4 ⟨rfl,B4⟩;have ZQ:=γ (Lg.out.trans (B4.mono Lg.out.size));obtain⟨bm,cD,k0,iz⟩ :=HRD.out w4 ZQ.out;have ACP:=γ (AEo.out.below (B4.drew));have oJ:(Dr D.out).size=i:=by rw[←Δ,←HN.out];unfold Dr;simp[AL]
     have Io:(Dr D.out).data.toList=AL D.out:=by unfold Dr;simp
     have Un:Hid ((Dr D.out).size=i∧(Dr D.out).data.toList=AL D.out):=⟨oJ,Io⟩
     have Ce:Hid (DG (norm (BH (Ck t D.out)))≤4096∧DH (norm (BH (Ck t D.out)))≤4096):=by
      have h9:=NZ (BH (Ck t D.out));have h8:=HEA.out
      constructor
      ·rw[h9.1];omega
      ·rw[h9.2];omega
     clear bm cD oJ Io;generalize hSB:Dr D.out=sb at*;have AEp:sb.size≤4096:=by rw[Un.out.1];exact Nn
     have HSU:Hid (∀(x:ByteArray)(w':World),x=t∨x=sb→Calls prog 61 #[.string x] w' fun e w2=>e= .returned (.int .i64 (M.sum x.data.toList:Nat))∧w2=w'):=fun x w' hx=>Q1 x w' (by rcases hx with rfl|rfl<;>unfold maxLen<;>omega)
     have HC:=TQ t.size sb.size (M.sum t.data.toList) (M.sum sb.data.toList) n3 c3 a3 (norm (BH (Ck t D.out))) w4.drew Q7 AEp (KZ _) (KZ _) ACP.out (NY _) Ce.out.1 Ce.out.2;clear hSB
     go_wp2_with fail
     go_region_held3(fun w'=>w'.cell? ⟨b,0,none⟩ =some (.string t)∧b<w'.heap.size)
      (first
       |go_keep
       |exact⟨kk0,kkl⟩)
      (first
       | (go_at_call 61;refine(HSU.out _ _ (by first|exact .inl rfl|exact .inr rfl)).mono ?_;rintro e w5 ⟨rfl,rfl⟩)
       | (go_at_call 81;refine HC.mono ?_;rintro e w7 ⟨⟨jj,rfl,hjj⟩,B7⟩;obtain⟨_,_,kk0,kkl⟩ :=HRD.out w7 (ZQ.out.drew.trans (B7.mono ZQ.out.drew.size))))
     have HP:Hid (ow D w (.returned (.string jj)) w7):=by
      refine⟨⟨jj,rfl,?_⟩,ZQ.out.drew.trans (B7.mono ZQ.out.drew.size)⟩;rw[hjj,HT.out,HN.out,Un.out.2,Un.out.1]
     clear hjj HC;go_wp2;go_ret;exact HP.out
end Go.Proofs.YtlppphmnegdhoabGreatDoor
namespace Go.Proofs.YtlppphmnegdhoabGreatDoor
namespace M
open St
def JM(cs:List Cm)(quiet:Bool)(steps room:Nat):St:=
 {cs:=cs,AM:=List.replicate cs.length false,quiet:=quiet,steps:=steps,room:=room,text:=⟨#[]⟩,closed:=false,behind:=0,nl:=0,out:= [],pat:= [],hold:= [],line:=0,queue:= [],mark:=false,next:=0,asks:=1,over:=false,AB:=0}
theorem JM.wf(cs:List Cm)(quiet:Bool)(steps room:Nat)(h1:cs.length≤400)(h2:∀c∈cs,DZ c)(h3:steps≤5000)(h4:room≤256):WF (JM cs quiet steps room):=by
 refine⟨h1,h2,by simp[JM],h3,h4,ε,ε,⟨?_,?_⟩,ε,ε,ε,δ,?_,fun t h=>(List.not_mem_nil h).elim,fun c h=>(List.not_mem_nil h).elim,fun c h=>(List.not_mem_nil h).elim,fun c h=>(List.not_mem_nil h).elim,by show 1≤3;decide,ε,ε⟩
 ·show(-1:Int)≤0;decide
 ·show(0:Int)<4096;decide
 ·show 0+steps≤5000;omega
theorem JM.opn(cs:List Cm)(quiet:Bool)(steps room:Nat):uY (JM cs quiet steps room):=⟨rfl,ε,fun h=>by cases h⟩
theorem JM.org(cs:List Cm)(quiet:Bool)(steps room:Nat):OD (JM cs quiet steps room):= .inr ⟨rfl,rfl,rfl,rfl,rfl⟩
theorem Sc(t:ByteArray):t++(⟨#[]⟩ :ByteArray)=t:=by
 apply ByteArray.ext;simp
theorem bT(t:ByteArray):(⟨#[]⟩ :ByteArray)++t=t:=by
 apply ByteArray.ext;simp
structure Ob(S0:St)(t:ByteArray)(T:St):Prop where
 go:Goes (S0.ext t false) T
 op:uY (S0.ext t false)
theorem Ob.text{S0 T:St}{t:ByteArray}(h:Ob S0 t T):T.text=t∧T.closed=false:=by
 obtain⟨h1,h2,_⟩ :=Xf h.go h.op;exact⟨h2,h1.closed⟩
theorem Ob.on{S0 T:St}{t:ByteArray}(h:Ob S0 t T)(u:ByteArray)(c:Bool)(R:St):Goes (S0.ext (t++u) c) R↔Goes (T.ext (t++u) c) R:=by
 obtain⟨h1,h2,h3⟩ :=Xf h.go h.op;exact h3 u c R
theorem Ob.opn{S0 T:St}{t:ByteArray}(h:Ob S0 t T)(u:ByteArray):uY (S0.ext (t++u) false):=by
 obtain⟨h1,h2,h3⟩ :=h.op;refine⟨rfl,?_,fun ha=> ?_⟩
 ·show S0.behind≤(t++u).size
  have:S0.behind≤t.size:=h2;simp;omega
 ·show S0.behind<(t++u).size
  have:S0.behind<t.size:=h3 ha;simp;omega
theorem Ob.feed{S0 T R:St}{t:ByteArray}(h:Ob S0 t T)(u:ByteArray)(hg:Goes (T.ext (T.text++u) T.closed) R):Ob S0 (t++u) R:=by
 rw[h.text.1,h.text.2]at hg;exact⟨(h.on u false R).2 hg,h.opn u⟩
theorem Ob.close{S0 T R:St}{t:ByteArray}(h:Ob S0 t T)(hg:Goes (T.ext T.text true) R):Goes (S0.ext t true) R:=by
 have:=(h.on ⟨#[]⟩ true R).2 (by rw[Sc];rw[h.text.1]at hg;exact hg);rw[Sc]at this;exact this
theorem Ob.start(cs:List Cm)(quiet:Bool)(steps room:Nat):Ob (JM cs quiet steps room) ⟨#[]⟩ (JM cs quiet steps room):=by
 refine⟨.stop ?_,JM.opn cs quiet steps room⟩;show(false || (decide ((1:Nat)≠0) && St.ask ((JM cs quiet steps room).ext ⟨#[]⟩ false)==2))=true;have:St.ask ((JM cs quiet steps room).ext ⟨#[]⟩ false)=2:=by
  unfold St.ask;rw[if_pos ⟨rfl,by show(0:Nat)<_+2;omega⟩]
 rw[this];rfl
def oA(cs:List Cm)(quiet:Bool)(steps room:Nat)(t:ByteArray)(R:St):Prop:=Goes ((JM cs quiet steps room).ext t true) R
theorem oA.ABj{cs:List Cm}{quiet:Bool}{steps room:Nat}{t:ByteArray}{R:St}(h:oA cs quiet steps room t R):Ax R.text.data.toList R.out:=by
 have h0:OD ((JM cs quiet steps room).ext t true):=by
  have:=(JM.org cs quiet steps room).ext t true;rw[show(JM cs quiet steps room).text=⟨#[]⟩from rfl,bT]at this;exact this
 exact(OD.goes h h0).out
theorem gx{S T:St}(h:Goes S T):T.text=S.text:=by
 induction h with
 |stop _=>rfl
 | @step S T h hg ih=>
   rw[ih];unfold St.move;split
   ·exact(HU S).text
   ·split
    ·rfl
    ·split
     ·unfold St.AW
      split
      ·rfl
      ·unfold St.Am
       exact((El S).trans (Ch _)).text
     ·exact(I8 S).1
theorem oA.text{cs:List Cm}{quiet:Bool}{steps room:Nat}{t:ByteArray}{R:St}(h:oA cs quiet steps room t R):R.text=t:=gx h
end M
end Go.Proofs.YtlppphmnegdhoabGreatDoor
namespace Go.Proofs.YtlppphmnegdhoabGreatDoor
namespace M
theorem M3(cs:List Cm)(hcs:∀c∈cs,YW c)(quiet:Bool)(steps room:Nat)(t:ByteArray)(closed:Bool):
  ∃R,Goes ((JM cs quiet steps room).ext t closed) R∧R.out=(Ay cs quiet steps room t closed).out∧R.AB=(Ay cs quiet steps room t closed).err∧(Ay cs quiet steps room t closed).state≠0:=by
 obtain⟨R,h1,h2,h3,h4⟩ :=Yf cs hcs _ (ZT cs.length quiet steps room t closed) false (ZT.bg ..) rfl (Nat.lt_succ_self _);obtain⟨R',g1,g2,g3⟩ :=tB (S:=(JM cs quiet steps room).ext t closed) (-1) rfl rfl (R:=R) h1;exact⟨R',g1,g2.trans h2,g3.trans h3,h4⟩
theorem tH{cs:List Cm}(hcs:∀c∈cs,YW c){quiet:Bool}{steps room:Nat}{t:ByteArray}{T:St}(h:Ob (JM cs quiet steps room) t T):T.out=(Ay cs quiet steps room t false).out∧T.AB=(Ay cs quiet steps room t false).err:=by
 obtain⟨R,h1,h2,h3,_⟩ :=M3 cs hcs quiet steps room t false;have:=h.go.unique h1;subst this;exact⟨h2,h3⟩
theorem tI{cs:List Cm}(hcs:∀c∈cs,YW c){quiet:Bool}{steps room:Nat}{t:ByteArray}{R:St}(h:oA cs quiet steps room t R):R.out=(Ay cs quiet steps room t true).out∧R.AB=(Ay cs quiet steps room t true).err:=by
 obtain⟨R',h1,h2,h3,_⟩ :=M3 cs hcs quiet steps room t true;have:R=R':=Goes.unique h h1;subst this;exact⟨h2,h3⟩
end M
end Go.Proofs.YtlppphmnegdhoabGreatDoor
namespace Go.Proofs.YtlppphmnegdhoabGreatDoor
open Go.RowKit
open M
theorem Sd(t:List UInt8)(A:Ku)(r:List UInt8)(h:BM t=some (A,r)):A.kind≠0∧A.kind≤3:=by
 unfold BM at h;split at h
 ·injection h with h;injection h with h1 h2;subst h1;exact⟨by decide,by decide⟩
 ·split at h
  ·rw[Option.map_eq_some_iff]at h
   obtain⟨p,_,h2⟩ :=h;injection h2 with h1 h2;subst h1;exact⟨by show 3≠0;decide,by show 3≤3;decide⟩
  ·split at h
   ·injection h with h;injection h with h1 h2;subst h1;exact⟨by show 1≠0;decide,by show 1≤3;decide⟩
   ·cases h
structure za(A:QN):Prop where
 c0:A.cnt=0↔A.a1.kind=0
 c1:A.cnt≠0→(A.cnt=1↔A.a2.kind=0)
 k1:A.a1.kind≤3
 k2:A.a2.kind≤3
theorem zb(t:List UInt8):za (CI t).1:=by
 unfold CI;cases ha:BM t with
 |none=>exact⟨⟨fun _=>rfl,fun _=>rfl⟩,fun h=>absurd rfl h,by show 0≤3;decide,by show 0≤3;decide⟩
 |some p=>
  obtain⟨A,r⟩ :=p;have hA:=Sd t A r ha;show za (GB (Hb A r)).1;have hs:za (Hb A r).1:=by
   unfold Hb;split
   ·cases hb:BM (r.drop 1)with
    |none=>exact⟨⟨fun e=>(by cases e),fun e=>absurd e hA.1⟩,fun _=>⟨fun _=>rfl,fun _=>rfl⟩,hA.2,by show 0≤3;decide⟩
    |some q=>
     obtain⟨B,r2⟩ :=q;have hB:=Sd _ B r2 hb;exact⟨⟨fun e=>(by cases e),fun e=>absurd e hA.1⟩,fun _=>⟨fun e=>(by cases e),fun e=>absurd e hB.1⟩,hA.2,hB.2⟩
   ·exact⟨⟨fun e=>(by cases e),fun e=>absurd e hA.1⟩,fun _=>⟨fun _=>rfl,fun _=>rfl⟩,hA.2,by show 0≤3;decide⟩
  unfold GB;split
  ·exact⟨hs.c0,hs.c1,hs.k1,hs.k2⟩
  ·exact hs
theorem zd(t:List UInt8)(c:Cm)(h:Dw t=some c):YW c:=by
 unfold Dw at h;have hk:=zb t;cases hr:(CI t).2 with
 |nil=>rw[hr]at h;cases h
 |cons d r=>
  rw[hr,Rj]at h;split at h
  ·injection h with h;subst h
   exact⟨hk.c0,hk.c1,hk.k1,hk.k2⟩
  ·cases h
theorem dh:∀(M:List (List UInt8))(L:List Cm),BF M=some L→∀c∈L,YW c
 | [],L,h=>by
   rw[BF]at h;injection h with h;subst h;intro c hc;cases hc
 |u::M,L,h=>by
  rw[BF]at h;cases hu:Dw u with
  |none=>rw[hu]at h;cases h
  |some d=>
   rw[hu]at h;cases hM:BF M with
   |none=>rw[hM]at h;cases h
   |some K=>
    rw[hM]at h;have h':some (d::K)=some L:=h;injection h' with h';subst h';intro c hc;rcases List.mem_cons.1 hc with rfl|hc
    ·exact zd u _ hu
    ·exact dh M K hM c hc
theorem tJ{L:List Cm}(h:∀c∈L,YW c):∀c∈CD L,YW c:=by
 intro c hc;unfold CD at hc;obtain⟨i,hi,e⟩ :=List.mem_mapIdx.1 hc;have:=h L[i] (List.getElem_mem _);rw[←e];exact⟨this.c0,this.c1,this.k1,this.k2⟩
theorem bU{t:List UInt8}{cs:List Cm}(h:Ef t cs):∀c∈cs,YW c:=by
 obtain⟨L,h1,_,rfl⟩ :=h;exact tJ (dh _ L h1)
theorem OE:∀(t:List (Nat×Nat))(d d' p:Nat),DW t d=true→1≤d'→d'≤d→GZ t d' p≠0
 | [],d,d',p,h,h1,h2=>by
   rw[DW]at h;have:d=0:=by simpa using h
   omega
 |q::t,d,d',p,h,h1,h2=>by
  rw[JG]at h;rw[GZ];split at h
  ·rename_i e
   rw[if_pos e];exact OE t (d+1) (d'+1) (p+1) h (by omega) (by omega)
  ·rename_i e
   rw[if_neg e];split at h
   all_goals
    rename_i e2
   ·rw[if_pos e2]
    split
    ·omega
    ·split at h
     ·cases h
     ·exact OE t (d - 1) (d' - 1) (p+1) h (by omega) (by omega)
   ·rw[if_neg e2]
    exact OE t d d' (p+1) h h1 h2
theorem Lk:∀(k:Nat)(t:List (Nat×Nat))(d:Nat),DW t d=true→∃d',DW (t.drop k) d'=true
 |0,t,d,h=>⟨d,h⟩
 |k+1,[],d,h=>⟨d,h⟩
 |k+1,q::t,d,h=>by
  rw[List.drop_succ_cons];rw[JG]at h;split at h
  ·exact Lk k t _ h
  ·split at h
   ·split at h
    ·cases h
    ·exact Lk k t _ h
   ·exact Lk k t _ h
theorem tL(P:List (Nat×Nat))(k:Nat)(h:DW P 0=true)(hk:k<P.length)(hn:P[k].1=123):N6 P k≠0:=by
 obtain⟨d,hd⟩ :=Lk k P 0 h;rw[List.drop_eq_getElem_cons hk,JG,if_pos hn]at hd;exact OE _ (d+1) 1 _ hd δ (by omega)
structure KS(L:List (Nat×List UInt8))(k:Nat)(c:Cm):Prop where
 lt:k<L.length
 nm:c.name=(L[k]).1
 em:c.name=98∨c.name=116→(L[k]).2= []→c.next=L.length
 lb:c.name=98∨c.name=116→(L[k]).2≠ []→L9 (BD L (L[k]).2)=(c.next:Int)
 br:c.name=123→tK (N6 (FZ L) k)=(c.next:Int)
theorem ABk{M:List (List UInt8)}{V0:List Cm}{L:List (Nat×List UInt8)}(h1:BF M=some V0)(h2:CW M=some L)(h3:GV V0=FZ L)(hl:Cd L)(k:Nat)(c:Cm)(hc:(CD V0)[k]? =some c):KS L k c:=by
 have hlen:V0.length=L.length:=by have:=congrArg List.length h3;simpa[GV,FZ]using this
 obtain⟨hk,F6⟩ :=List.getElem?_eq_some_iff.1 hc;have hkV:k<V0.length:=by simpa[CD]using hk
 have QR:k<L.length:=by omega
 have hv:=PM M L h2;have hkP:k<(FZ L).length:=by simp[FZ];exact QR
 have ec:c= {V0[k]with next:=Hz (GV V0) k}:=by rw[←F6];simp[CD]
 have hp:(FZ L)[k]=((L[k]).1,Bv (L[k]).2):=by simp[FZ]
 have hpv:(V0[k].name,V0[k].label)=((L[k]).1,Bv (L[k]).2):=by
  rw[←hp];have:(GV V0)[k]'(by simp[GV];exact hkV)=(V0[k].name,V0[k].label):=by simp[GV]
  rw[←this];simp only[h3]
 have CF:c.name=(L[k]).1:=by rw[ec];exact congrArg Prod.fst hpv
 have OW:c.next=Hz (FZ L) k:=by rw[ec];show Hz (GV V0) k=_;rw[h3]
 have ha:P3 (FZ L) k=(L[k]).1:=by rw[PN _ _ hkP,hp]
 have hb:lbA (FZ L) k=Bv (L[k]).2:=by rw[mi _ _ hkP,hp]
 have hlP:(FZ L).length=L.length:=by simp[FZ]
 refine⟨QR,CF,fun Io he=> ?_,fun Io he=> ?_,fun BV=> ?_⟩
 ·have hi:MD (FZ L) k=true:=by unfold MD;rw[ha,←CF];rcases Io with e|e<;>simp[e]
  rw[OW,Hz,if_pos hi,tgt,hb,he,if_pos (by decide),hlP]
 ·have hi:MD (FZ L) k=true:=by unfold MD;rw[ha,←CF];rcases Io with e|e<;>simp[e]
  have ABl:Cc (L[k]).2=true:=((hv (L[k]) (List.getElem_mem _)).2 (by rw[←CF];exact Io)).resolve_left he;have hne:Bv (L[k]).2≠0:=(Qv _).2 ABl;rw[OW,Hz,if_pos hi,tgt,hb,if_neg hne,SF L hv _ ABl];have h9:=(((Ju L).1 hl).2 k QR).2 (by rw[←CF];exact Io) he;cases pF:BD L (L[k]).2 with
  |none=>exact absurd pF h9
  |some r=>rfl
 ·have hi:MD (FZ L) k=false:=by unfold MD;rw[ha,←CF,BV];rfl
  have h9:=((P2 L hv).1 hl).1;have hne:=tL (FZ L) k h9 hkP (by rw[hp];show(L[k]).1=123;rw[←CF];exact BV);rw[OW,Hz,if_neg (by rw[hi];decide),if_pos (by rw[ha,←CF];exact BV),tK,if_neg hne]
end Go.Proofs.YtlppphmnegdhoabGreatDoor
