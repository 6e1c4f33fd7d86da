import Derived.Test.YtlppphmnegdhoabGreatDoorMz27
set_option linter.unusedVariables false
set_option maxRecDepth 100000
set_option maxHeartbeats 1000000
namespace Go.Proofs.YtlppphmnegdhoabGreatDoor
open Go.Proofs.Tryz
open Go.RowKit
open M
theorem Ao:EE 179 23:=⟨⟨_,underlying179,rfl⟩,by kernel_rfl⟩
def A9:List Value:= [.int .i64 0,.int .i64 0,.bool false,.bool false,.slice none 0 0,.int .i64 0,.int .i64 0,.bool false,.bool false,.slice none 0 0,.bool false,.int .u8 0,.string ⟨#[]⟩,.string ⟨#[]⟩,.bool false,.bool false,.slice none 0 0,.slice none 0 0,.int .i64 0,.bool false,.bool false,.slice none 0 0,.slice none 0 0]
theorem rK:(prog.info? 179).map (fun i=>(i.zero,i.size,i.bytes))=some (some (.agg A9.toArray),23,256):=by kernel_rfl
theorem C8:∀v∈A9,v.oneCell'=true:=by decide
def ae(cs:List Value)(c:Nat×List UInt8):Prop:=cs.length=23∧(∀v∈cs,v.oneCell'=true)∧cs[11]? =some (.int .u8 c.1)∧c.1<256∧∃t:ByteArray,cs[13]? =some (.string t)∧t.data.toList=c.2
structure X9(h0 g5 k:Nat)(w wx:World)(vs cs:List Value):Prop where
 res:CB wx h0 A9
 c:CB wx (h0+1) cs
 a:CB wx g5 vs
 len:cs.length=23
 below:Below h0 w wx
 TX:h0+2≤g5
 k0:cs[0]? =some (.int .i64 k)
 v0:vs[0]? =some (.int .i64 k)
 l13:cs[13]? =some (.string ⟨#[]⟩)
theorem X9.set{h0 g5 k:Nat}{w wx:World}{vs cs:List Value}(h:X9 h0 g5 k w wx vs cs)(j:Nat)(hj:j<23)(u:Value)(hu:u.oneCell'=true)(j0:j≠0)(j13:j≠13):X9 h0 g5 k w (wx.setCell ⟨h0+1,j,none⟩ u) vs (cs.set j u):=by
 have hf:=h.TX;refine⟨h.res.keep (heap_setCell_other _ _ _ _ (by simp)) (by simp),h.c.set j (by rw[h.len];exact hj) u hu,h.a.keep (heap_setCell_other _ _ _ _ (by simp;omega)) (by simp),by rw[List.length_set];exact h.len,h.below.setCell (by simp) _,h.TX,by rw[List.getElem?_set_ne (by omega)];exact h.k0,h.v0,by rw[List.getElem?_set_ne (by omega)];exact h.l13⟩
theorem X9.keep{h0 g5 k:Nat}{w wx w':World}{vs cs:List Value}(h:X9 h0 g5 k w wx vs cs)(hb:Below wx.heap.size wx w'):X9 h0 g5 k w w' vs cs:=by
 have h1:=h.a.lt;have hf:=h.TX;exact⟨h.res.below hb h.res.lt,h.c.below hb h.c.lt,h.a.below hb h1,h.len,h.below.trans (hb.mono (by omega)),h.TX,h.k0,h.v0,h.l13⟩
theorem Vf(s:ByteArray)(q c:Nat)(h:q<s.size):CH (s.data.toList.drop q) c=(s[q].toNat==c):=by rw[Ap s q h];rfl
theorem dM(s:ByteArray)(q c:Nat)(h:s.size≤q):CH (s.data.toList.drop q) c=false:=by rw[List.drop_of_length_le (by rw[Δ];omega)];rfl
theorem Vu(cs:List Value)(j:Nat)(v:Value)(h:cs[j]? =some v):cs.set j v=cs:=by
 obtain⟨h1,h2⟩ :=List.getElem?_eq_some_iff.1 h;rw[←h2,List.set_getElem_self]
def vF(cs:List Value)(t:List UInt8):List Value:=((cs.set 20 (.int .i64 (Mm t:Nat))).set 21 (.bool (UP t))).set 22 (.bool (aA t))
def yk(b:Nat)(cs:List Value)(t:List UInt8)(w:World)(e:Ending)(w':World):Prop:=e= .returned (.bool (ES t))∧E4 w' b (vF cs t)∧AQ b w w'
theorem Vv(b:Nat)(cs:List Value)(s:ByteArray)(k:Nat)(w:World)(hs:s.size≤400)(hk:k≤s.size)(hb:E4 w b cs)(z20:cs[20]? =some (.int .i64 1))(z21:cs[21]? =some (.bool false))(z22:cs[22]? =some (.bool false)):
  Calls prog 206 #[.pointer (some ⟨b,16,none⟩),.string s,.int .i64 k] w fun e w'=>yk b cs (s.data.toList.drop k) w e w':=by
 have FV:s.size≤maxLen:=by unfold maxLen;omega
 have HZ:Hid (cs[20]? =some (.int .i64 1)∧cs[21]? =some (.bool false)∧cs[22]? =some (.bool false)):=⟨z20,z21,z22⟩
 have Xw:Hid (E4 w b cs∧cs=cs∧AQ b w w):=⟨hb,rfl,AQ.refl _ _⟩
 have HFC:Hid (Mm (s.data.toList.drop k)=if 0<Du (s.data.toList.drop k)then(Du (s.data.toList.drop k)).toNat else 1):=rfl;clear z20 z21 z22;have HF:Hid (ES (s.data.toList.drop k)=(Dk (· ==112) (Dk (· ==103) (Dk CG (s.data.toList.drop k)))).isEmpty):=rfl;obtain⟨cs0,ABO⟩ :∃c,c=cs:=⟨_,rfl⟩
 have HA:Hid (E4 w b cs0∧cs0=cs∧AQ b w w):=by rw[ABO];exact Xw.out
 clear Xw;clear hb ABO
 go_enter func206,ntmps206
 go_wp2_with fail
 refine(Fz s k _ hs hk).mono ?_;rintro e wq ⟨rfl,JE⟩;rw[JE];clear JE;have hle:=VL (s.data.toList.drop k);have HO:=r7 (s.data.toList.drop k);have HOH:=γ HO;have HSZ:Hid (0<Du (s.data.toList.drop k)→k+1≤s.size):=fun h=>by
  refine Nat.lt_of_not_le fun h9=> ?_
  rw[List.drop_of_length_le (by rw[Δ];omega)]at h;simp[Du]at h
 clear HO;generalize Du (s.data.toList.drop k)=dg at*
 go_upto_if 12 with fail
 go_cut [2] (fun v wx=>∃(q:Nat)(cs':List Value),v= .int .i64 q∧q≤s.size∧Hid (s.data.toList.drop q=Dk CG (s.data.toList.drop k))∧Hid (E4 wx b cs'∧cs'=cs.set 20 (.int .i64 (Mm (s.data.toList.drop k):Nat))∧AQ b w wx))
 case first=>
  by_cases hd:0<dg
  ·have EW:=HSZ.out hd
   have HQ:Hid (s.data.toList.drop (k+1)=Dk CG (s.data.toList.drop k)):=by show _=_;rw[HOH.out,if_pos hd,List.drop_drop]
   obtain⟨v9,c9⟩ :=HA.out.1.1.get 20 (by have:=HA.out.1.2;omega);have f9:=HA.out.1.1.fz 20 (by have:=HA.out.1.2;omega);have HN:Hid (E4 (w.setCell ⟨b,20,none⟩ (.int .i64 dg)) b (cs0.set 20 (.int .i64 dg))∧cs0.set 20 (.int .i64 dg)=cs.set 20 (.int .i64 (Mm (s.data.toList.drop k):Nat))∧AQ b w (w.setCell ⟨b,20,none⟩ (.int .i64 dg))):=
    ⟨⟨HA.out.1.1.set 20 (by have:=HA.out.1.2;omega) _ rfl,by rw[List.length_set];exact HA.out.1.2⟩,by rw[HA.out.2.1,HFC.out,if_pos hd,Int.toNat_of_nonneg (Int.le_of_lt hd)],HA.out.2.2.trans (AQ.set _ _ _ _)⟩
   go_wp2
   go_meet
   exact⟨k+1,_,by go_num,EW,HQ.out,HN.out⟩
  ·have HQ:Hid (s.data.toList.drop k=Dk CG (s.data.toList.drop k)):=by show _=_;rw[HOH.out,if_neg hd]
   go_wp2
   go_meet
   exact⟨k,_,rfl,hk,HQ.out,HA.out.1,by rw[HA.out.2.1,HFC.out,if_neg (by omega)];exact(Vu _ _ _ HZ.out.1).symm,HA.out.2.2⟩
 case rest=>
 clear HA HOH HSZ hle;obtain⟨q,cs1,rfl,hq,HQ,HA⟩ :=hcut;rw[←HQ.out]at HF;have Tf:Hid (UP (s.data.toList.drop k)=CH (s.data.toList.drop q) 103):=by show _=_;rw[HQ.out];rfl
 have HFP:Hid (aA (s.data.toList.drop k)=CH (Dk (· ==103) (s.data.toList.drop q)) 112):=by show _=_;rw[HQ.out];rfl
 clear HQ HFC
 go_wp2_with fail
 refine(AY s q 103 _ FV hq (by decide)).mono ?_;rintro e wq ⟨rfl,JE⟩;rw[JE];clear JE
 go_upto_if 21 with fail
 go_cut [2] (fun v wx=>∃(q1:Nat)(cs':List Value),v= .int .i64 q1∧q1≤s.size∧Hid (s.data.toList.drop q1=Dk (· ==103) (s.data.toList.drop q))∧Hid (E4 wx b cs'∧cs'=(cs.set 20 (.int .i64 (Mm (s.data.toList.drop k):Nat))).set 21 (.bool (UP (s.data.toList.drop k)))∧AQ b w wx))
 case first=>
  cases hd:CH (s.data.toList.drop q) 103
  ·have HQ:Hid (s.data.toList.drop q=Dk (· ==103) (s.data.toList.drop q)):=by show _=_;rw[Vt,hd];rfl
   have HS:Hid (cs1=(cs.set 20 (.int .i64 (Mm (s.data.toList.drop k):Nat))).set 21 (.bool (UP (s.data.toList.drop k)))):=by
    show _=_;rw[Tf.out,hd,Vu _ 21 (.bool false) (by rw[List.getElem?_set_ne (by decide)];exact HZ.out.2.1)];exact HA.out.2.1
   clear hd;go_wp2
   go_meet
   exact⟨q,_,rfl,hq,HQ.out,HA.out.1,HS.out,HA.out.2.2⟩
  ·have EW:=BG s q 103 hd
   have HQ:Hid (s.data.toList.drop (q+1)=Dk (· ==103) (s.data.toList.drop q)):=by show _=_;rw[Vt,hd,List.drop_drop];rfl
   obtain⟨v9,c9⟩ :=HA.out.1.1.get 21 (by have:=HA.out.1.2;omega);have f9:=HA.out.1.1.fz 21 (by have:=HA.out.1.2;omega);have HN:Hid (E4 (wc.setCell ⟨b,21,none⟩ (.bool true)) b (cs1.set 21 (.bool true))∧cs1.set 21 (.bool true)=(cs.set 20 (.int .i64 (Mm (s.data.toList.drop k):Nat))).set 21 (.bool (UP (s.data.toList.drop k)))∧AQ b w (wc.setCell ⟨b,21,none⟩ (.bool true))):=
    ⟨⟨HA.out.1.1.set 21 (by have:=HA.out.1.2;omega) _ rfl,by rw[List.length_set];exact HA.out.1.2⟩,by rw[Tf.out,hd,HA.out.2.1],HA.out.2.2.trans (AQ.set _ _ _ _)⟩
   clear hd;go_wp2
   go_meet
   exact⟨q+1,_,by go_num,EW,HQ.out,HN.out⟩
 case rest=>
 clear HA;obtain⟨q1,cs2,rfl,Lq,HQ,HA⟩ :=hcut;rw[←HQ.out]at HF;rw[←HQ.out]at HFP;clear HQ
 go_wp2_with fail
 refine(AY s q1 112 _ FV Lq (by decide)).mono ?_;rintro e wq ⟨rfl,JE⟩;rw[JE];clear JE
 go_upto_if 29 with fail
 go_cut [2] (fun v wx=>∃(q2:Nat)(cs':List Value),v= .int .i64 q2∧q2≤s.size∧Hid (s.data.toList.drop q2=Dk (· ==112) (s.data.toList.drop q1))∧Hid (E4 wx b cs'∧cs'=vF cs (s.data.toList.drop k)∧AQ b w wx))
 case first=>
  cases hd:CH (s.data.toList.drop q1) 112
  ·have HQ:Hid (s.data.toList.drop q1=Dk (· ==112) (s.data.toList.drop q1)):=by show _=_;rw[Vt,hd];rfl
   have HS:Hid (cs2=vF cs (s.data.toList.drop k)):=by
    show _=_;unfold vF;rw[HFP.out,hd,Vu _ 22 (.bool false) (by rw[List.getElem?_set_ne (by decide),List.getElem?_set_ne (by decide)];exact HZ.out.2.2)];exact HA.out.2.1
   clear hd;go_wp2
   go_meet
   exact⟨q1,_,rfl,Lq,HQ.out,HA.out.1,HS.out,HA.out.2.2⟩
  ·have EW:=BG s q1 112 hd
   have HQ:Hid (s.data.toList.drop (q1+1)=Dk (· ==112) (s.data.toList.drop q1)):=by show _=_;rw[Vt,hd,List.drop_drop];rfl
   obtain⟨v9,c9⟩ :=HA.out.1.1.get 22 (by have:=HA.out.1.2;omega);have f9:=HA.out.1.1.fz 22 (by have:=HA.out.1.2;omega);have HN:Hid (E4 (wc.setCell ⟨b,22,none⟩ (.bool true)) b (cs2.set 22 (.bool true))∧cs2.set 22 (.bool true)=vF cs (s.data.toList.drop k)∧AQ b w (wc.setCell ⟨b,22,none⟩ (.bool true))):=
    ⟨⟨HA.out.1.1.set 22 (by have:=HA.out.1.2;omega) _ rfl,by rw[List.length_set];exact HA.out.1.2⟩,by unfold vF;rw[HFP.out,hd,HA.out.2.1],HA.out.2.2.trans (AQ.set _ _ _ _)⟩
   clear hd;go_wp2
   go_meet
   exact⟨q1+1,_,by go_num,EW,HQ.out,HN.out⟩
 case rest=>
 clear HA;obtain⟨q2,cs3,rfl,NP,HQ,HA⟩ :=hcut;rw[←HQ.out]at HF;clear HQ;have HE:Hid (ES (s.data.toList.drop k)=decide (q2=s.size)):=by
  show _=_;rw[HF.out,Bool.eq_iff_iff,List.isEmpty_iff,decide_eq_true_iff,List.drop_eq_nil_iff,Δ];omega
 by_cases he:q2=s.size
 ·have yR:((q2:Int)==(s.size:Int))=true:=by simp[he]
  have Vc:Hid (ES (s.data.toList.drop k)=true):=by show _=_;rw[HE.out,decide_eq_true he]
  clear he HE HF;go_wp2;go_ret;exact⟨ι (by rw[Vc.out]),by rw[←HA.out.2.1];exact HA.out.1,HA.out.2.2⟩
 ·have yR:((q2:Int)==(s.size:Int))=false:=by simp;omega
  have Vc:Hid (ES (s.data.toList.drop k)=false):=by show _=_;rw[HE.out,decide_eq_false he]
  clear he HE HF;go_wp2;go_ret;exact⟨ι (by rw[Vc.out]),by rw[←HA.out.2.1];exact HA.out.1,HA.out.2.2⟩
theorem ABP:EE 144 7:=⟨⟨_,underlying144,rfl⟩,by kernel_rfl⟩
theorem mU(o:Option (List Mk×List UInt8))(h:I5 o=none):Zy 115 o=false:=by
 cases o with
 |none=>rfl
 |some p=>
  rw[I5]at h;split at h
  ·cases h
  ·rename_i hx
   show Ot 115 p.1 (Ψ p.2)=false;cases Ψ p.2 with
   |none=>rfl
   |some q=>
    rw[Ot,if_pos rfl];simp at hx;simp[hx]
theorem Uc(nm:Nat)(t:List UInt8):AA nm t=if CH t 47 then Zy nm (Ψ (t.drop 1))else false:=by
 match t with
 | []=>rfl
 |c::r=>
  show(if c.toNat=47 then _ else false)=if(c.toNat==47)=true then _ else false
  by_cases h:c.toNat=47
  ·rw[if_pos h,if_pos (by simpa using h)];rfl
  ·rw[if_neg h,if_neg (by simpa using h)]
theorem gC(o:Option (List Mk×List UInt8))(x:Ex)(t:List UInt8)(h:Ly o=some (x,t)):∃m,o=some (m,t)∧Cv m=some x:=by
 cases o with
 |none=>cases h
 |some p=>
  rw[Ly]at h;cases hx:Cv p.1 with
  |none=>rw[hx]at h;cases h
  |some y=>
   rw[hx]at h;simp at h;exact⟨p.1,by rw[←h.2],by rw[hx,h.1]⟩
theorem gD(o:Option (List Mk×List UInt8))(h:Ly o=none):Zy 115 o=false:=mU o (by rw[lv,h];rfl)
def sbL(S:Lx)(p3:Option Addr)(q3:Nat)(p4:Option Addr)(q4:Nat):List Value:= [.bool S.ex.head,.bool S.ex.tail,.slice p3 S.ex.l.length q3,.slice p4 S.rep.length q4,.int .i64 (S.count:Nat),.bool S.all,.bool S.Pt]
def yl(lo:Nat)(w:World)(cs cs':List Value)(S:Lx):Prop:=∃p3 q3 p4 q4,cs'=cs.take 16++sbL S p3 q3 p4 q4++cs.drop 23∧Cj lo w (fun w=>EB w p3 S.ex.l)∧Cj lo w (fun w=>Ia w p4 S.rep)
def ym(b:Nat)(cs:List Value)(s:ByteArray)(w:World)(e:Ending)(w':World):Prop:=e= .returned (.bool (AA 115 s.data.toList))∧∃cs',E4 w' b cs'∧(AA 115 s.data.toList=true→yl w.heap.size w' cs cs' (FH s.data.toList))∧Bi b w w'
theorem ABQ(cs:List Value)(h:cs.length=25)(v0 v1 v2 v3:Value)(t:List UInt8):vF (cs.take 16++ [v0,v1,v2,v3,.int .i64 1,.bool false,.bool false]++cs.drop 23) t=cs.take 16++ [v0,v1,v2,v3,.int .i64 (Mm t:Nat),.bool (UP t),.bool (aA t)]++cs.drop 23:=by
 have vG:(cs.take 16).length=16:=by rw[List.length_take];omega
 obtain⟨l,hl⟩ :∃l,cs.take 16=l:=⟨_,rfl⟩
 rw[hl]at vG⊢
 match l,vG with
 | [a0,a1,a2,a3,a4,a5,a6,a7,a8,a9,b0,b1,b2,b3,b4,b5],_=>rfl
theorem ABR(cs:List Value)(h:cs.length=25)(v0 v1 v2 v3 v4 v5 v6:Value):(cs.take 16++ [v0,v1,v2,v3,v4,v5,v6]++cs.drop 23)[20]? =some v4∧(cs.take 16++ [v0,v1,v2,v3,v4,v5,v6]++cs.drop 23)[21]? =some v5∧(cs.take 16++ [v0,v1,v2,v3,v4,v5,v6]++cs.drop 23)[22]? =some v6:=by
 have vG:(cs.take 16).length=16:=by rw[List.length_take];omega
 obtain⟨l,hl⟩ :∃l,cs.take 16=l:=⟨_,rfl⟩
 rw[hl]at vG⊢
 match l,vG with
 | [a0,a1,a2,a3,a4,a5,a6,a7,a8,a9,b0,b1,b2,b3,b4,b5],_=>exact⟨rfl,rfl,rfl⟩
theorem MC(b:Nat)(cs:List Value)(s:ByteArray)(w:World)(hs:s.size≤400)(Im:KN s)(hb:E4 w b cs):
  Calls prog 167 #[.pointer (some ⟨b,0,none⟩),.string s] w fun e w'=>ym b cs s w e w':=by
 have FV:s.size≤maxLen:=by unfold maxLen;omega
 have ND:∀k,w.heap.size≤k→k≠b:=fun k h=>by have:=hb.1.lt;omega
 have Ce:=γ Im;have ZR:Hid (AA 115 s.data.toList=if CH s.data.toList 47 then Zy 115 (Ψ (s.data.toList.drop 1))else false):=Uc 115 _;clear Im
 go_enter func167,ntmps167
 go_wp2_with fail
 have HC:=LC s 0 w hs ε Ce.out;rw[show((0:Nat):Int)=0 from rfl]at HC;refine HC.mono ?_;clear HC;rintro e w1 ⟨B1,vs,hE,EK⟩;have Wn:=hE.len;have EN:=hE.one;rw[List.drop_zero]at EK;have ξ:=hb.keep B1;have A1:Bi b w w1:=Bi.η B1;have Cq:CB (w1.alloc (.cells #[.bool false,.bool false,.slice none 0 0] 137)) w1.heap.size [.bool false,.bool false,.slice none 0 0]:=CB.new w1 _ _ (by simp[Value.oneCell']);have CJ:=ξ.keep ((Below.refl w1.heap.size w1).alloc δ (.cells #[.bool false,.bool false,.slice none 0 0] 137));have A2:Bi b w (w1.alloc (.cells #[.bool false,.bool false,.slice none 0 0] 137)):=A1.trans (Bi.η (ζ.alloc δ _));have AV:=ξ.1.lt;have hww:=B1.size;obtain⟨g1,Td⟩ :∃g,w1.heap.size=g:=⟨_,rfl⟩
 rw[Td]at Cq AV hww;rcases EK with⟨Fa,q,x,Io,h0q,Oy,⟨p3,q3,uv,OW⟩,rfl⟩ | ⟨CQ,rfl⟩
 ·obtain⟨m,uX,yn⟩ :=gC _ _ _ Io
  have hex:(Cv m).isSome=true:=by rw[yn];rfl
  have G0:=γ OW;obtain⟨m2,r2,Q3⟩ :∃m2 r2,Ah (s.data.toList.drop q)=(m2,r2):=⟨_,_,rfl⟩
  obtain⟨p1,p2⟩ :=Ql _ m2 r2 (Ce.out.drop q) Q3;have Kb:=γ Q3;have HY:Hid (∀r',r2=47::r'→AA 115 s.data.toList=ES r'):=fun r' e=>by
   rw[ZR.out,Fa,if_pos rfl,uX];show Ot 115 m (Ψ (s.data.toList.drop q))=_;rw[p1 r' e];rw[Ot,if_pos rfl,hex];rfl
  have vH:Hid (∀r',r2=47::r'→FH s.data.toList=⟨x,DK m2,Mm r',UP r',aA r'⟩):=fun r' e=>by
   unfold FH;rw[uX];simp only[p1 r' e,yn];rfl
  have HN:Hid ((∀r',r2≠47::r')→AA 115 s.data.toList=false):=fun e=>by
   rw[ZR.out,Fa,if_pos rfl,uX];show Ot 115 m (Ψ (s.data.toList.drop q))=_;rw[p2 e];rfl
  clear uX hex yn Q3 p1 p2 Io Fa ZR OW;obtain⟨v0,v1,v2,Fb⟩ :∃a b c,vs= [a,b,c]:=by
   match vs,Wn with
   | [a,b,c],_=>exact⟨a,b,c,rfl⟩
  subst Fb;have rD:=γ uv;clear uv
  go_wp2_with(refine θ D4 Cq rfl rfl _ _ rfl rfl rfl rfl EN ?_
              intro w3 CM O3;have pT:E4 w3 b cs:=⟨CJ.1.keep (O3.block _ (by omega)) (by rw[O3.size];exact δ),CJ.2⟩
              have ADS:Hid (Cj w.heap.size w3 (fun w=>EB w p3 x.l)):=by
               have O3':=O3;rw[←Td]at O3';exact G0.out.boxed O3'
              have A3:=A2.Rb O3 hww)
  refine(Mu s q m2 r2 w3 hs Oy Kb.out).mono ?_;rintro e w4 ⟨B4,a4,c4,n,rfl,hqn,TP,yo,Wj⟩;have ADT:=γ (ADS.out.below B4);have ADU:=γ Wj;have ABS:=pT.1.lt;have ADV:w.heap.size≤w3.heap.size:=A3.size;obtain⟨l4,hl4⟩ :∃l,(DK m2).length=l:=⟨_,rfl⟩
  have HL4:=γ hl4;rw[hl4];clear Wj hl4;have uT:=pT.keep B4;have IU:=CM.below B4 CM.lt;have A4:=A3.trans (Bi.η B4);have CR:Hid (CH (s.data.toList.drop n) 47=true↔(([]:List Mk)= []∧∃r',r2=47::r'∧s.data.toList.drop n=47::r')):=Ix _ _ _ yo;have EA:Hid (r2=s.data.toList.drop n):=Lb _ _ yo;clear yo pT CM A3 B4
  go_wp2_with fail
  refine(AY s n 47 _ FV TP (by decide)).mono ?_;rintro e wq ⟨rfl,JE⟩;rw[JE];clear JE;cases BZ:CH (s.data.toList.drop n) 47
  ·have HF:Hid (AA 115 s.data.toList=false):=HN.out (fun r' e=>by
    rw[EA.out]at e;rw[e]at BZ;cases BZ)
   clear BZ HY HN CR;go_wp2;go_ret;exact⟨ι (by rw[HF.out]),cs,uT,fun h=>by(rw[HF.out]at h;cases h),A4⟩
  ·have NC:=BG s n 47 BZ
   obtain⟨_,r',R1,fK⟩ :=CR.out.1 BZ;have HF:Hid (AA 115 s.data.toList=ES (s.data.toList.drop (n+1))):=by
    show _=_;rw[HY.out r' R1,←List.drop_drop,fK];rfl
   have ADW:Hid (FH s.data.toList=⟨x,DK m2,Mm (s.data.toList.drop (n+1)),UP (s.data.toList.drop (n+1)),aA (s.data.toList.drop (n+1))⟩):=by
    show _=_;rw[vH.out r' R1,←List.drop_drop,fK];rfl
   have ADX:=uT.1;have yp:=uT.2;clear BZ HY HN CR R1 fK vH
   go_wp2_with(first
    |refine ω D4 IU rfl rfl _ rfl rfl ?_
    | (refine Ek ABP ADX 16 rfl _ _ rfl rfl rfl rfl (by omega) (I6 EN (m:= [.slice a4 l4 c4,.int .i64 1,.bool false,.bool false]) (by simp[Value.oneCell'])) ?_
       intro w5 BP O5))
   have hAT:=ABR cs yp v0 v1 v2 (.slice a4 l4 c4) (.int .i64 1) (.bool false) (.bool false);have HFS:Hid (vF (cs.take 16++ [v0,v1,v2,.slice a4 l4 c4,.int .i64 1,.bool false,.bool false]++cs.drop (16+7)) (s.data.toList.drop (n+1))=cs.take 16++sbL ⟨x,DK m2,Mm (s.data.toList.drop (n+1)),UP (s.data.toList.drop (n+1)),aA (s.data.toList.drop (n+1))⟩ p3 q3 a4 c4++cs.drop 23):=by
    show _=_;have h9:=rD.out;simp only[List.cons.injEq,and_true]at h9;rw[show(16+7:Nat)=23 from rfl,ABQ cs yp,h9.1,h9.2.1,h9.2.2,←HL4.out];rfl
   have hS5:Sp cs (cs.take 16++ [v0,v1,v2,.slice a4 l4 c4,.int .i64 1,.bool false,.bool false]++cs.drop (16+7)):=Sp.part yp 16 [v0,v1,v2,.slice a4 l4 c4,.int .i64 1,.bool false,.bool false] (by omega) (by simp);have ABT:CB w5 b (cs.take 16++ [v0,v1,v2,.slice a4 l4 c4,.int .i64 1,.bool false,.bool false]++cs.drop (16+7)):=BP;generalize cs.take 16++ [v0,v1,v2,.slice a4 l4 c4,.int .i64 1,.bool false,.bool false]++cs.drop (16+7)=cs5 at hS5 ABT hAT HFS;have HC:=Vv b cs5 s (n+1) w5 hs NC ⟨ABT,hS5.1⟩ hAT.1 hAT.2.1 hAT.2.2;rw[show((n+1:Nat):Int)=(n:Int)+1 from rfl]at HC;refine HC.mono ?_;clear HC BP;rintro e w6 ⟨rfl,vI,O6⟩;have HN6:Hid (Cj w.heap.size w6 (fun w=>EB w p3 x.l)):=ADT.out.Kv (by rw[O6.size,O5.size];exact δ) (fun k h1 h2=>(O6.block k (ND k h1)).trans (O5.block k (ND k h1)));have iq:=γ (((ADU.out.only O5 ABS).only O6 ABS).mono ADV);generalize ES (s.data.toList.drop (n+1))=fl at*;go_wp2;go_ret;exact⟨ι (by rw[HF.out]),_,vI,fun _=>by rw[ADW.out];exact⟨p3,q3,a4,c4,HFS.out,HN6.out,iq.out⟩,A4.trans ((Bi.Aw O5).trans (Bi.Aw O6))⟩
 ·have HF:Hid (AA 115 s.data.toList=false):=by
   show _=_;rw[ZR.out];rcases CQ with h|h
   ·rw[h];rfl
   ·rw[gD _ h];split<;>rfl
  clear CQ ZR
  go_wp2_with(refine θ D4 Cq rfl rfl _ _ rfl rfl rfl Wn EN ?_
              intro w3 CM O3;have pT:E4 w3 b cs:=⟨CJ.1.keep (O3.block _ (by omega)) (by rw[O3.size];exact δ),CJ.2⟩
              have A3:=A2.Rb O3 hww)
  go_ret;exact⟨ι (by rw[HF.out]),cs,pT,fun h=>by(rw[HF.out]at h;cases h),A3⟩
theorem yq:ZH 151 5 1 1 (.int .u8 0):=⟨by kernel_rfl,by kernel_rfl,rfl,by decide,by decide,by decide⟩
theorem gF{w:World}{base:Nat}{v:Value}{n:Nat}{A:List UInt8}(h:w.ownsRow base 5 1 v n (A.map fun b=> .int .u8 (b.toNat:Int))):∃t:ByteArray,t.data.toList=A∧(convert 151 9 v).run prog w= .ok (.string t) w:=by
 obtain⟨h1,⟨rfl,rfl⟩ | ⟨g,cap,cur,rfl,kg⟩⟩ :=id h
 ·refine⟨ByteArray.empty,?_,?_⟩
  ·simp at h1
   rw[h1];rfl
  ·exact run_convert_bytes_nil w 151 5 underlying151 underlying5 0 0 9 underlying9
 ·have hl:n=A.length:=by simpa using h1.symm
  subst hl;refine⟨⟨A.toArray⟩,by simp,?_⟩;refine run_convert_bytes_back w 151 9 5 ⟨g,0,none⟩ cap A underlying151 underlying5 underlying9 (fun j hj=> ?_);exact h.cells rfl j _ (by simp[List.getElem?_eq_getElem hj])
def ZS(m:List Mk):List UInt8:=m.map (fun q=>UInt8.ofNat q.b)
def r8(s:ByteArray)(k:Nat)(m:List Mk)(r:List UInt8)(v1 v2 v3:Value):Prop:=
 (∃(q:Mk)(m':List Mk)(n:Nat),m=q::m'∧q.b<256∧k<n∧n≤s.size∧Ah (s.data.toList.drop n)=(m',r)∧v1= .int .u8 q.b∧v2= .int .i64 n∧v3= .bool true)∨(m= []∧v1= .int .u8 0∧∃n:Nat,v2= .int .i64 n∧v3= .bool false)
theorem vJ{s:ByteArray}{k:Nat}{m:List Mk}{r:List UInt8}{e:Ending}(hm:Ah (s.data.toList.drop k)=(m,r))(h:G3 s k [47] m r e):∃v1 v2 v3,e= .returned (.tuple #[v1,v2,v3])∧r8 s k m r v1 v2 v3:=by
 rcases h with⟨q,m',n,h1,h2,h3,h4,h5,h6,rfl⟩ | ⟨CQ,n,rfl,_,_⟩
 ·exact⟨_,_,_,rfl,.inl ⟨q,m',n,h1,h3,h4,h5,h6,rfl,rfl,rfl⟩⟩
 ·refine⟨_,_,_,rfl,.inr ⟨?_,rfl,n,rfl,rfl⟩⟩
  rcases CQ with h| ⟨q,v,h,h2⟩
  ·exact h
  ·rw[Ub q (eD (s.data.toList.drop k) q (by rw[hm,h];simp))]at h2
   exact Bool.noConfusion h2
def yr(s:ByteArray)(k:Nat)(m:List Mk)(r:List UInt8)(w:World)(e:Ending)(w':World):Prop:=
 Below w.heap.size w w'∧∃(t:ByteArray)(n:Nat),e= .returned (.tuple #[.string t,.int .i64 n])∧t.data.toList=ZS m∧k≤n∧n≤s.size∧Ah (s.data.toList.drop n)=([],r)∧t.size≤n
theorem MR(s:ByteArray)(k:Nat)(m:List Mk)(r:List UInt8)(w:World)(hs:s.size≤400)(hk:k≤s.size)(hm:Ah (s.data.toList.drop k)=(m,r)):
  Calls prog 207 #[.string s,.int .i64 k] w fun e w'=>yr s k m r w e w':=by
 have FV:s.size≤maxLen:=by unfold maxLen;omega
 have HM:=γ hm;clear hm
 go_enter func207,ntmps207
 go_wp2_with fail
 refine(G4 s k _ m r _ FV hk (by unfold maxLen;decide) (by decide) HM.out).mono ?_;rintro e w1 ⟨Dt,rfl⟩;obtain⟨v1,v2,v3,rfl,Cw⟩ :=vJ HM.out (show G3 s k [47] m r e from Dt);have ZG:=γ Cw;clear Dt Cw
 go_wp2_with fail
 go_loopw [1,6,7,8,9] (fun x1 x6 x7 x8 x9 wr=>∃(n:Nat)(m1:List Mk)(A:List UInt8),x1= .int .i64 n∧k≤n∧n≤s.size∧A.length≤n∧Hid (Ah (s.data.toList.drop n)=(m1,r))∧Hid (ZS m=A++ZS m1)∧Hid (r8 s n m1 r x7 x8 x9)∧wr.ownsRow w1.heap.size 5 1 x6 A.length (A.map fun b=> .int .u8 (b.toNat:Int))∧Below w1.heap.size w1 wr) (fun x1 _ _ _ _ _=>s.size - (intOf x1).toNat)
 case atStart=>exact⟨k,m,[],rfl,δ,hk,ε,HM,rfl,ZG,World.ownsRow_nil _ _ _ _,ζ⟩
 case round=>
  obtain⟨n,m1,A,rfl,Ez,TP,hAn,Of,HA,L6,ν,hB⟩ :=hrel;obtain⟨av,cv,CX⟩ :=κ ν;subst CX;obtain⟨nA,vK⟩ :∃n,A.length=n:=⟨_,rfl⟩
  have Pu:=γ vK;rw[vK]at ν hAn⊢;clear vK;have K1:=hB.size;rcases L6.out with⟨q,m',n',rfl,hq,Wl,mS,RB,rfl,rfl,rfl⟩ | ⟨rfl,rfl,n',rfl,rfl⟩
  ·have Kb:Hid (Ah (s.data.toList.drop n')=(m',r)):=RB
   have Hy:Hid (ZS m=(A++ [UInt8.ofNat q.b])++ZS m'):=by show _=_;rw[HA.out,List.append_assoc];rfl
   have hqn:((UInt8.ofNat q.b).toNat:Int)=(q.b:Int):=by
    have:(UInt8.ofNat q.b).toNat=q.b:=by simp;omega
    omega
   have HQN:=γ hqn;obtain⟨y,hy⟩ :∃y,q.b=y:=⟨_,rfl⟩
   have HY:=γ hy;rw[hy]at hq⊢;clear RB L6 Of HA hqn hy
   go_wp2_with(refine Gx yq (ν.alloc _) wr.heap.size [.int .u8 y] (heap_alloc_new wr _) rfl (by simp[Value.oneCell']) (by omega) (by simp;omega) rfl _ _ rfl rfl rfl ?_
               intro v' w6 Aa AK;have Eg:Below w1.heap.size w1 w6:=(hB.alloc (by omega) _).grown AK (by simp;omega) (fun k hk=>(ν.lt k hk).1);obtain⟨NF,JV,CX⟩ :=κ Aa;subst CX;clear AK)
   refine(G4 s n' _ m' r _ FV mS (by unfold maxLen;decide) (by decide) Kb.out).mono ?_;rintro e w7 ⟨Dt,rfl⟩;obtain⟨u1,u2,u3,rfl,Cw⟩ :=vJ Kb.out (show G3 s n' [47] m' r e from Dt);have Zi:=γ Cw;clear Dt Cw
   go_wp2_with fail
   go_roundw
   case rel=>
    refine⟨n',m',A++ [UInt8.ofNat q.b],rfl,by omega,mS,by rw[List.length_append,Pu.out];simp;omega,Kb,Hy.out,Zi,?_,Eg⟩;rw[List.length_append,Pu.out,List.map_append];show w7.ownsRow _ _ _ _ (nA+1) (_++ [.int .u8 ((UInt8.ofNat q.b).toNat:Int)]);rw[HQN.out,HY.out];exact Aa
   case measure=>simp[intOf]<;>omega
  ·obtain⟨t,ht,hcv⟩ :=gF ν
   have HT:Hid (t.data.toList=ZS m):=by show _=_;rw[ht,HA.out];simp[ZS]
   have Q7:t.size≤n:=by rw[←Δ,ht,Pu.out];exact hAn
   clear L6 HA ht;go_wp2;go_ret2;exact⟨hB,t,n,rfl,HT.out,Ez,TP,Of.out,Q7⟩
theorem mV:(prog.info? 209).map (fun i=>(i.zero,i.size))=some (some (.agg (Array.replicate 256 (.bool false))),256):=by kernel_rfl
def r9(l:List UInt8)(i c:Nat):Bool:=(l.take i).any (fun d=>d.toNat==c)
theorem mW(l:List UInt8)(i c:Nat)(h:i<l.length):r9 l (i+1) c=(r9 l i c || l[i].toNat==c):=by
 unfold r9;rw[List.take_add_one,List.getElem?_eq_getElem h,List.any_append];simp only[Option.toList,List.any_cons,List.any_nil,Bool.or_false]
def yt(s:ByteArray)(w:World)(e:Ending)(w':World):Prop:=
 Below w.heap.size w w'∧∃r:Bool,e= .returned (.bool r)∧(r=true↔∃i k,∃(h:i<s.data.toList.length)(h':k<i),s.data.toList[i]=(s.data.toList[k]'(by omega)))
theorem sA(l:List UInt8)(i c:Nat)(hi:i≤l.length):r9 l i c=true↔∃k,∃(h:k<i),(l[k]'(by omega)).toNat=c:=by
 unfold r9;rw[List.any_eq_true]
 constructor
 ·rintro⟨d,hd,e⟩
  obtain⟨k,hk,rfl⟩ :=List.getElem_of_mem hd;rw[List.length_take]at hk;exact⟨k,by omega,by simpa using e⟩
 ·rintro⟨k,hk,e⟩
  refine⟨l[k]'(by omega),?_,by simpa using e⟩;have:(l.take i)[k]'(by rw[List.length_take];omega)=l[k]'(by omega):=List.getElem_take;rw[←this];exact List.getElem_mem _
theorem SB(s:ByteArray)(w:World)(hs:s.size≤8192):
  Calls prog 208 #[.string s] w fun e w'=>yt s w e w':=by
 have HL:Hid (s.data.toList.length=s.size):=Δ s;have ZF:=(zero_of_info mV).1;have Dg:BR (w.alloc (.cells (Array.replicate 256 (.bool false)) 209)) w.heap.size 256 (fun _=>false):=BR.new w _ 256;have B0:Below w.heap.size w (w.alloc (.cells (Array.replicate 256 (.bool false)) 209)):=ζ.alloc δ _
 go_enter func208,ntmps208
 go_wp2_with fail
 go_loopw [4] (fun v4 wr=>∃i:Nat,i≤s.size∧v4= .int .i64 i∧BR wr w.heap.size 256 (r9 s.data.toList i)∧Below w.heap.size w wr∧Hid (∀i' k'(h:i'<s.data.toList.length)(h2:k'<i'),i'<i→s.data.toList[i']≠(s.data.toList[k']'(by omega)))) (fun v4 _=>s.size - (intOf v4).toNat)
 case atStart=>exact⟨0,ε,rfl,Dg.congr (fun i _=>rfl),B0,fun _ _ _ _ h=>by omega⟩
 case round=>
  clear Dg B0;obtain⟨i,hi,rfl,Og,hB,HP⟩ :=hrel
  by_cases Ac:i<s.size
  ·have AV:(i:Int)<(s.size:Int):=by omega
   obtain⟨x,hx⟩ :∃x:Nat,s[i].toNat=x:=⟨_,rfl⟩
   have FT:x<256:=by rw[←hx];exact s[i].toNat_lt
   have AAf:(x:Int)<256:=by omega
   have BN:i<s.data.toList.length:=by rw[HL.out];exact Ac
   have HGI:Hid (s.data.toList[i].toNat=x):=hx;have z0:=Og.c x FT;have z1:=Og.fz x FT;have hII:=sA s.data.toList i x (by omega);cases S5:r9 s.data.toList i x
   ·rw[S5]at z0
    have NH:Hid (∀i' k'(h:i'<s.data.toList.length)(h2:k'<i'),i'<i+1→s.data.toList[i']≠(s.data.toList[k']'(by omega))):=fun i' k' h h2 h3 e=>by
     by_cases e1:i'=i
     ·subst e1
      have:r9 s.data.toList i' x=true:=hII.2 ⟨k',h2,by rw[←e];exact HGI.out⟩;rw[S5]at this;cases this
     ·exact HP.out i' k' h h2 (by omega) e
    have CJ:BR (wr.setCell ⟨w.heap.size,x,none⟩ (.bool true)) w.heap.size 256 (r9 s.data.toList (i+1)):=(Og.set x FT true).congr (fun c _=>by
     rw[mW _ _ _ BN,HGI.out]
     by_cases e:c=x
     ·rw[if_pos e,e];simp
     ·rw[if_neg e]
      have:(x==c)=false:=by simp;omega
      rw[this,Bool.or_false])
    have TB:=hB.setCell (p:=⟨w.heap.size,x,none⟩) δ (.bool true);clear S5 hII HP;go_wp2
    go_roundw
    case rel=>exact⟨i+1,by omega,by go_num,CJ,TB,NH.out⟩
    case measure=>simp[intOf]<;>omega
   ·rw[S5]at z0
    have HF:Hid (∃i k,∃(h:i<s.data.toList.length)(h':k<i),s.data.toList[i]=(s.data.toList[k]'(by omega))):=by
     obtain⟨k,hk,e⟩ :=hII.1 S5;exact⟨i,k,BN,hk,UInt8.toNat_inj.1 (by rw[HGI.out];exact e.symm)⟩
    clear S5 hII HP;go_wp2;go_ret;exact⟨hB,true,rfl,⟨fun _=>HF.out,fun _=>rfl⟩⟩
  ·obtain rfl:i=s.size:=by omega
   have AV:¬(s.size:Int)<(s.size:Int):=by omega
   go_wp2;go_ret;exact⟨hB,false,rfl,⟨fun h=>Bool.noConfusion h,fun⟨i,k,h,h',e⟩ =>absurd e (HP.out i k h h' (by rw[HL.out]at h;exact h))⟩⟩
theorem YH(m:List Mk)(t:ByteArray)(hm:∀q∈m,q.b<256)(ht:t.data.toList=ZS m):FD m=true↔∃i k,∃(h:i<t.data.toList.length)(h':k<i),t.data.toList[i]=(t.data.toList[k]'(by omega)):=by
 have hlen:(ZS m).length=m.length:=by simp[ZS]
 have N3:∀i(h:i<m.length),(ZS m)[i]'(by rw[hlen];exact h)=UInt8.ofNat m[i].b:=fun i h=>by simp[ZS]
 have ABU:∀i k(h:i<m.length)(h':k<m.length),UInt8.ofNat m[i].b=UInt8.ofNat m[k].b↔m[i].b=m[k].b:=fun i k h h'=>by
  have h1:=hm m[i] (List.getElem_mem _);have h2:=hm m[k] (List.getElem_mem _)
  constructor
  ·intro e
   have:=congrArg UInt8.toNat e;simp at this;omega
  ·intro e;rw[e]
 rw[Ou];simp only[ht]
 constructor
 all_goals
  rintro⟨i,k,h,h',e⟩
 ·exact⟨i,k,by rw[hlen];exact h,h',by rw[N3 i h,N3 k (by omega)];exact(ABU i k h (by omega)).2 e⟩
 ·have h9:i<m.length:=by rw[hlen]at h;exact h
  exact⟨i,k,h9,h',by rw[N3 i h9,N3 k (by omega)]at e;exact(ABU i k h9 (by omega)).1 e⟩
theorem mX:EE 146 2:=⟨⟨_,underlying146,rfl⟩,by kernel_rfl⟩
end Go.Proofs.YtlppphmnegdhoabGreatDoor
