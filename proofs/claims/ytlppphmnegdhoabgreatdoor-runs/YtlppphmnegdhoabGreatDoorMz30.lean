import Derived.Test.YtlppphmnegdhoabGreatDoorMz29
set_option linter.unusedVariables false
set_option maxRecDepth 100000
set_option maxHeartbeats 1000000
namespace Go.Proofs.YtlppphmnegdhoabGreatDoor
open Go.Proofs.Tryz
open Go.RowKit
open M
structure Fl(cs cs':List Value)(n:Nat)(a p:Bool):Prop where
 len:cs'.length=23
 n:cs'[18]? =some (.int .i64 (n:Nat))
 a:cs'[19]? =some (.bool a)
 p:cs'[20]? =some (.bool p)
 o:∀j,j≠18→j≠19→j≠20→cs'[j]? =cs[j]?
theorem Fl.first{cs:List Value}(h:cs.length=23)(h1:cs[19]? =some (.bool false))(h2:cs[20]? =some (.bool false)):Fl cs (cs.set 18 (.int .i64 1)) 1 false false:=
 ⟨by rw[List.length_set];exact h,by rw[List.getElem?_set_self (by omega)];rfl,by rw[List.getElem?_set_ne (by decide)];exact h1,by rw[List.getElem?_set_ne (by decide)];exact h2,fun j h3 _ _=>List.getElem?_set_ne (fun e=>h3 e.symm)⟩
theorem Fl.ABC{cs cs':List Value}{n:Nat}{a p:Bool}(h:Fl cs cs' n a p)(m:Nat)(z:Int)(hz:z=(m:Nat)):Fl cs (cs'.set 18 (.int .i64 z)) m a p:=
 ⟨by rw[List.length_set];exact h.len,by rw[List.getElem?_set_self (by have:=h.len;omega),hz],by rw[List.getElem?_set_ne (by decide)];exact h.a,by rw[List.getElem?_set_ne (by decide)];exact h.p,fun j h3 h4 h5=>(List.getElem?_set_ne (fun e=>h3 e.symm)).trans (h.o j h3 h4 h5)⟩
theorem Fl.ABD{cs cs':List Value}{n:Nat}{a p:Bool}(h:Fl cs cs' n a p):Fl cs (cs'.set 19 (.bool true)) n true p:=
 ⟨by rw[List.length_set];exact h.len,by rw[List.getElem?_set_ne (by decide)];exact h.n,by rw[List.getElem?_set_self (by have:=h.len;omega)],by rw[List.getElem?_set_ne (by decide)];exact h.p,fun j h3 h4 h5=>(List.getElem?_set_ne (fun e=>h4 e.symm)).trans (h.o j h3 h4 h5)⟩
theorem Fl.ABE{cs cs':List Value}{n:Nat}{a p:Bool}(h:Fl cs cs' n a p):Fl cs (cs'.set 20 (.bool true)) n a true:=
 ⟨by rw[List.length_set];exact h.len,by rw[List.getElem?_set_ne (by decide)];exact h.n,by rw[List.getElem?_set_ne (by decide)];exact h.a,by rw[List.getElem?_set_self (by have:=h.len;omega)],fun j h3 h4 h5=>(List.getElem?_set_ne (fun e=>h5 e.symm)).trans (h.o j h3 h4 h5)⟩
theorem yN(t:List UInt8)(h:UN CG t=false):Mm t=1:=by
 unfold Mm
 match t with
 | []=>rfl
 |c::r=>
  have h1:CG c.toNat=false:=h;rw[if_neg];show¬(0:Int)<if DJ c.toNat then((c.toNat - 48:Nat):Int)else -1
  by_cases hd:DJ c.toNat=true
  ·rw[if_pos hd]
   simp only[DJ,Bool.and_eq_true,decide_eq_true_eq]at hd;simp only[CG,Bool.and_eq_false_iff,decide_eq_false_iff_not]at h1;omega
  ·rw[if_neg hd];omega
theorem rU(t:List UInt8)(x:Nat)(r:List UInt8)(c:UInt8)(ht:t=c::r)(hx:c.toNat=x)(h:49≤x∧x≤57):Mm t=x - 48:=by
 subst ht;unfold Mm;have e:Du (c::r)=((x - 48:Nat):Int):=by
  show(if DJ c.toNat then((c.toNat - 48:Nat):Int)else -1)=_;rw[hx,if_pos (by simp[DJ];omega)]
 rw[e,if_pos (by omega),Int.toNat_natCast]
theorem AF3(t:List UInt8)(k:Nat):CH t k=UN (· ==k) t:=by cases t<;>rfl
theorem Vl(b:Nat)(cs:List Value)(s:ByteArray)(w:World)(hs:s.size≤400)(hb:C0 w b cs)(pU:cs[19]? =some (.bool false))(pV:cs[20]? =some (.bool false)):
  Calls prog 214 #[.pointer (some ⟨b,0,none⟩),.string s] w fun e w'=>e= .returned (.bool (ES s.data.toList))∧∃cs',C0 w' b cs'∧Fl cs cs' (Mm s.data.toList) (UP s.data.toList) (aA s.data.toList)∧AQ b w w':=by
 obtain⟨He,hlen⟩ :=hb;obtain⟨q6,c18⟩ :=He.get 18 (by omega);have f18:=He.fz 18 (by omega);have hA:C0 (w.setCell ⟨b,18,none⟩ (.int .i64 1)) b (cs.set 18 (.int .i64 1)):=⟨He.set 18 (by omega) _ rfl,by rw[List.length_set];exact hlen⟩
 have hS:Fl cs (cs.set 18 (.int .i64 1)) 1 false false:=Fl.first hlen pU pV
 clear pU pV;have hO:AQ b w (w.setCell ⟨b,18,none⟩ (.int .i64 1)):=AQ.set _ _ _ _
 go_enter func214,ntmps214
 go_upto_region 2 with fail
 generalize w.setCell ⟨b,18,none⟩ (.int .i64 1)=W0 at*;obtain⟨cs1,ABF⟩ :∃c,cs.set 18 (.int .i64 1)=c:=⟨_,rfl⟩
 rw[ABF]at hA hS;have HA:Hid (C0 W0 b cs1∧Fl cs cs1 1 false false∧AQ b w W0):=⟨hA,hS,hO⟩
 have Tf:Hid (UP s.data.toList=UN (· ==103) (Dk CG s.data.toList)):=AF3 _ _;have HFP:Hid (aA s.data.toList=UN (· ==112) (Dk (· ==103) (Dk CG s.data.toList))):=AF3 _ _;have HF:Hid (ES s.data.toList=(Dk (· ==112) (Dk (· ==103) (Dk CG s.data.toList))).isEmpty):=rfl;clear hA hS hO ABF c18 f18 He hlen q6
 go_cut [19] (fun t wx=>t= .bool (UN CG s.data.toList)∧wx=W0)
 case first=>
  by_cases h0:s.size=0
  ·have he:s.toList.isEmpty=true:=by rw[Dy];exact decide_eq_true h0
   have HT:Hid (UN CG s.data.toList=false):=Ra s _ h0;clear h0;go_wp2
   go_meet
   exact⟨by rw[HT.out],rfl⟩
  ·have he:s.toList.isEmpty=false:=by rw[Dy];exact decide_eq_false h0
   have dQ:0<s.size:=by omega
   have fL:(0:Int)<(s.size:Int):=by omega
   obtain⟨x,hx⟩ :∃x:Nat,s[0].toNat=x:=⟨_,rfl⟩
   have FT:x<256:=by rw[←hx];exact s[0].toNat_lt
   have HT:Hid (UN CG s.data.toList=(CG) x):=by show _=_;rw[Ng s _ dQ,hx]
   clear h0
   by_cases ha:49≤x
   ·have S9:(49:Int)≤(x:Int):=by omega
    by_cases hb:x≤57
    ·have ξ:(x:Int)≤57:=by omega
     have Er:Hid (CG x=true):=by show _=_;unfold CG;rw[decide_eq_true ha,decide_eq_true hb];rfl
     go_wp2
     go_meet
     exact⟨by rw[HT.out,Er.out],rfl⟩
    ·have ξ:¬(x:Int)≤57:=by omega
     have Er:Hid (CG x=false):=by show _=_;unfold CG;rw[decide_eq_false hb];simp
     go_wp2
     go_meet
     exact⟨by rw[HT.out,Er.out],rfl⟩
   ·have S9:¬(49:Int)≤(x:Int):=by omega
    have Er:Hid (CG x=false):=by show _=_;unfold CG;rw[decide_eq_false ha];rfl
    go_wp2
    go_meet
    exact⟨by rw[HT.out,Er.out],rfl⟩
 case rest=>
 obtain⟨rfl,rfl⟩ :=hcut
 go_upto_if 19 with fail
 go_cut [1] (fun v wx=>∃s1:ByteArray,∃cs',v= .string s1∧s1.size≤400∧Hid (s1.data.toList=Dk CG s.data.toList)∧Hid (C0 wx b cs'∧Fl cs cs' (Mm s.data.toList) false false∧AQ b w wx))
 case first=>
  cases ht:UN CG s.data.toList
  ·have HO:Hid (s.data.toList=Dk CG s.data.toList):=by show _=_;rw[Lc,ht];rfl
   have HFC:Hid (Mm s.data.toList=1):=yN _ ht;clear ht;go_wp2
   go_meet
   exact⟨s,_,rfl,by omega,HO.out,by rw[HFC.out];exact HA.out⟩
  ·have dQ:=RZ s _ ht
   have fL:(0:Int)<(s.size:Int):=by omega
   have R0:(1:Int)≤(s.size:Int):=by omega
   have HO:Hid ((s.extract 1 s.size).data.toList=Dk CG s.data.toList):=by show _=_;rw[Lc,ht,MK];rfl
   have HZ:Hid ((s.extract 1 s.size).size≤400):=by show _≤_;rw[ByteArray.size_extract];omega
   obtain⟨v9,c9⟩ :=HA.out.1.1.get 18 (by have:=HA.out.1.2;omega);have f9:=HA.out.1.1.fz 18 (by have:=HA.out.1.2;omega);obtain⟨x,hx⟩ :∃x:Nat,s[0].toNat=x:=⟨_,rfl⟩
   have hxr:CG x=true:=by rw[←hx,←Ng s CG dQ];exact ht
   have ADG:49≤x∧x≤57:=by simpa[CG]using hxr
   have FT:x<256:=by omega
   have hx3:(48:Int)≤(x:Int):=by omega
   have HN:Hid (C0 (wc.setCell ⟨b,18,none⟩ (.int .i64 ((x:Int) - 48))) b (cs1.set 18 (.int .i64 ((x:Int) - 48)))∧Fl cs (cs1.set 18 (.int .i64 ((x:Int) - 48))) (Mm s.data.toList) false false∧AQ b w (wc.setCell ⟨b,18,none⟩ (.int .i64 ((x:Int) - 48)))):=
    ⟨⟨HA.out.1.1.set 18 (by have:=HA.out.1.2;omega) _ rfl,by rw[List.length_set];exact HA.out.1.2⟩,HA.out.2.1.ABC _ _ (by rw[rU s.data.toList x _ _ (Ap s 0 dQ|> (List.drop_zero (l:=s.data.toList)).symm.trans) hx ADG];omega),HA.out.2.2.trans (AQ.set _ _ _ _)⟩
   clear hxr;clear ht;go_wp2
   go_meet
   exact⟨_,_,rfl,HZ.out,HO.out,HN.out⟩
 case rest=>
 clear HA;obtain⟨s1,cs2,rfl,CE,Hs1,HA⟩ :=hcut;rw[←Hs1.out]at HF Tf HFP;clear Hs1
 go_upto_region 5 with fail
 go_cut [35] (fun t wx=>t= .bool (UN (· ==103) s1.data.toList)∧wx=wc)
 case first=>
  by_cases h0:s1.size=0
  ·have he:s1.toList.isEmpty=true:=by rw[Dy];exact decide_eq_true h0
   have HT:Hid (UN (· ==103) s1.data.toList=false):=Ra s1 _ h0;clear h0;go_wp2
   go_meet
   exact⟨by rw[HT.out],rfl⟩
  ·have he:s1.toList.isEmpty=false:=by rw[Dy];exact decide_eq_false h0
   have dQ:0<s1.size:=by omega
   have fL:(0:Int)<(s1.size:Int):=by omega
   obtain⟨x,hx⟩ :∃x:Nat,s1[0].toNat=x:=⟨_,rfl⟩
   have FT:x<256:=by rw[←hx];exact s1[0].toNat_lt
   have HT:Hid (UN (· ==103) s1.data.toList=((· ==103)) x):=by show _=_;rw[Ng s1 _ dQ,hx]
   clear h0
   by_cases ha:x=103
   ·have S9:((x:Int)==103)=true:=by simp[ha]
    have Er:Hid ((x==103)=true):=by show _=_;simp[ha]
    clear ha;go_wp2
    go_meet
    exact⟨by rw[HT.out,Er.out],rfl⟩
   ·have S9:((x:Int)==103)=false:=by simp;omega
    have Er:Hid ((x==103)=false):=by show _=_;simp[ha]
    clear ha;go_wp2
    go_meet
    exact⟨by rw[HT.out,Er.out],rfl⟩
 case rest=>
 obtain⟨rfl,rfl⟩ :=hcut
 go_upto_if 35 with fail
 go_cut [1] (fun v wx=>∃N1:ByteArray,∃cs',v= .string N1∧N1.size≤400∧Hid (N1.data.toList=Dk (· ==103) s1.data.toList)∧Hid (C0 wx b cs'∧Fl cs cs' (Mm s.data.toList) (UP s.data.toList) false∧AQ b w wx))
 case first=>
  cases ht:UN (· ==103) s1.data.toList
  ·have HO:Hid (s1.data.toList=Dk (· ==103) s1.data.toList):=by show _=_;rw[Lc,ht];rfl
   have ik:Hid (UP s.data.toList=false):=by show _=_;rw[Tf.out,ht]
   clear ht;go_wp2
   go_meet
   exact⟨s1,_,rfl,by omega,HO.out,by rw[ik.out];exact HA.out⟩
  ·have dQ:=RZ s1 _ ht
   have fL:(0:Int)<(s1.size:Int):=by omega
   have R0:(1:Int)≤(s1.size:Int):=by omega
   have HO:Hid ((s1.extract 1 s1.size).data.toList=Dk (· ==103) s1.data.toList):=by show _=_;rw[Lc,ht,MK];rfl
   have HZ:Hid ((s1.extract 1 s1.size).size≤400):=by show _≤_;rw[ByteArray.size_extract];omega
   obtain⟨v9,c9⟩ :=HA.out.1.1.get 19 (by have:=HA.out.1.2;omega);have f9:=HA.out.1.1.fz 19 (by have:=HA.out.1.2;omega);have HN:Hid (C0 (wc.setCell ⟨b,19,none⟩ (.bool true)) b (cs2.set 19 (.bool true))∧Fl cs (cs2.set 19 (.bool true)) (Mm s.data.toList) (UP s.data.toList) false∧AQ b w (wc.setCell ⟨b,19,none⟩ (.bool true))):=
    ⟨⟨HA.out.1.1.set 19 (by have:=HA.out.1.2;omega) _ rfl,by rw[List.length_set];exact HA.out.1.2⟩,(by rw[Tf.out,ht];exact HA.out.2.1.ABD),HA.out.2.2.trans (AQ.set _ _ _ _)⟩
   clear ht;go_wp2
   go_meet
   exact⟨_,_,rfl,HZ.out,HO.out,HN.out⟩
 case rest=>
 clear HA;obtain⟨N1,cs3,rfl,AFT,ABG,HA⟩ :=hcut;rw[←ABG.out]at HF HFP;clear ABG
 go_upto_region 8 with fail
 go_cut [47] (fun t wx=>t= .bool (UN (· ==112) N1.data.toList)∧wx=wc)
 case first=>
  by_cases h0:N1.size=0
  ·have he:N1.toList.isEmpty=true:=by rw[Dy];exact decide_eq_true h0
   have HT:Hid (UN (· ==112) N1.data.toList=false):=Ra N1 _ h0;clear h0;go_wp2
   go_meet
   exact⟨by rw[HT.out],rfl⟩
  ·have he:N1.toList.isEmpty=false:=by rw[Dy];exact decide_eq_false h0
   have dQ:0<N1.size:=by omega
   have fL:(0:Int)<(N1.size:Int):=by omega
   obtain⟨x,hx⟩ :∃x:Nat,N1[0].toNat=x:=⟨_,rfl⟩
   have FT:x<256:=by rw[←hx];exact N1[0].toNat_lt
   have HT:Hid (UN (· ==112) N1.data.toList=((· ==112)) x):=by show _=_;rw[Ng N1 _ dQ,hx]
   clear h0
   by_cases ha:x=112
   ·have S9:((x:Int)==112)=true:=by simp[ha]
    have Er:Hid ((x==112)=true):=by show _=_;simp[ha]
    clear ha;go_wp2
    go_meet
    exact⟨by rw[HT.out,Er.out],rfl⟩
   ·have S9:((x:Int)==112)=false:=by simp;omega
    have Er:Hid ((x==112)=false):=by show _=_;simp[ha]
    clear ha;go_wp2
    go_meet
    exact⟨by rw[HT.out,Er.out],rfl⟩
 case rest=>
 obtain⟨rfl,rfl⟩ :=hcut
 go_upto_if 47 with fail
 go_cut [1] (fun v wx=>∃fw:ByteArray,∃cs',v= .string fw∧fw.size≤400∧Hid (fw.data.toList=Dk (· ==112) N1.data.toList)∧Hid (C0 wx b cs'∧Fl cs cs' (Mm s.data.toList) (UP s.data.toList) (aA s.data.toList)∧AQ b w wx))
 case first=>
  cases ht:UN (· ==112) N1.data.toList
  ·have HO:Hid (N1.data.toList=Dk (· ==112) N1.data.toList):=by show _=_;rw[Lc,ht];rfl
   have ik:Hid (aA s.data.toList=false):=by show _=_;rw[HFP.out,ht]
   clear ht;go_wp2
   go_meet
   exact⟨N1,_,rfl,by omega,HO.out,by rw[ik.out];exact HA.out⟩
  ·have dQ:=RZ N1 _ ht
   have fL:(0:Int)<(N1.size:Int):=by omega
   have R0:(1:Int)≤(N1.size:Int):=by omega
   have HO:Hid ((N1.extract 1 N1.size).data.toList=Dk (· ==112) N1.data.toList):=by show _=_;rw[Lc,ht,MK];rfl
   have HZ:Hid ((N1.extract 1 N1.size).size≤400):=by show _≤_;rw[ByteArray.size_extract];omega
   obtain⟨v9,c9⟩ :=HA.out.1.1.get 20 (by have:=HA.out.1.2;omega);have f9:=HA.out.1.1.fz 20 (by have:=HA.out.1.2;omega);have HN:Hid (C0 (wc.setCell ⟨b,20,none⟩ (.bool true)) b (cs3.set 20 (.bool true))∧Fl cs (cs3.set 20 (.bool true)) (Mm s.data.toList) (UP s.data.toList) (aA s.data.toList)∧AQ b w (wc.setCell ⟨b,20,none⟩ (.bool true))):=
    ⟨⟨HA.out.1.1.set 20 (by have:=HA.out.1.2;omega) _ rfl,by rw[List.length_set];exact HA.out.1.2⟩,(by rw[HFP.out,ht];exact HA.out.2.1.ABE),HA.out.2.2.trans (AQ.set _ _ _ _)⟩
   clear ht;go_wp2
   go_meet
   exact⟨_,_,rfl,HZ.out,HO.out,HN.out⟩
 case rest=>
 clear HA;obtain⟨fw,cs4,rfl,AEy,vA,HA⟩ :=hcut;rw[←vA.out]at HF;clear vA;have HE:Hid (ES s.data.toList=fw.toList.isEmpty):=by
  show _=_;rw[HF.out,ByteArray.toList_eq]
 cases he:fw.toList.isEmpty
 all_goals
  rw[he]at HE;go_wp2;go_ret;exact⟨ι (by rw[HE.out]),_,HA.out⟩
def Kc(cs cs':List Value):Prop:=cs'.length=23∧∀j,j<14→cs'[j]? =cs[j]?
theorem Kc.refl{cs:List Value}(h:cs.length=23):Kc cs cs:=⟨h,fun _ _=>rfl⟩
theorem Kc.trans{a b c:List Value}(h:Kc a b)(g:Kc b c):Kc a c:=⟨g.1,fun j hj=>(g.2 j hj).trans (h.2 j hj)⟩
theorem Kc.set{cs:List Value}(h:cs.length=23)(j:Nat)(u:Value)(hj:14≤j):Kc cs (cs.set j u):=⟨by rw[List.length_set];exact h,fun k hk=>List.getElem?_set_ne (by omega)⟩
theorem Kc.part{cs:List Value}(h:cs.length=23)(o:Nat)(vs:List Value)(ho:14≤o)(hn:o+vs.length≤23):Kc cs (cs.take o++vs++cs.drop (o+vs.length)):=
 ⟨by simp;omega,fun j hj=>by rw[List.append_assoc,List.getElem?_append_left (by rw[List.length_take];omega),List.getElem?_take,if_pos (by omega)]⟩
theorem Fl.kc{cs cs':List Value}{n:Nat}{a p:Bool}(h:Fl cs cs' n a p):Kc cs cs':=⟨h.len,fun j hj=>h.o j (by omega) (by omega) (by omega)⟩
theorem rV(cs vs:List Value)(o:Nat)(h:cs.length=23)(hn:o+vs.length≤23)(j:Nat):(cs.take o++vs++cs.drop (o+vs.length))[j]? =if o≤j∧j<o+vs.length then vs[j - o]? else cs[j]? :=by
 have hl:(cs.take o).length=o:=by rw[List.length_take];omega
 by_cases h1:j<o
 ·rw[if_neg (by omega),List.append_assoc,List.getElem?_append_left (by omega),List.getElem?_take,if_pos h1]
 ·by_cases h2:j<o+vs.length
  ·rw[if_pos ⟨by omega,h2⟩,List.getElem?_append_left (by rw[List.length_append];omega),List.getElem?_append_right (by omega),hl]
  ·rw[if_neg (by omega),List.getElem?_append_right (by rw[List.length_append];omega),List.getElem?_drop]
   congr 1
   rw[List.length_append];omega
theorem Vm:∀(t:List UInt8)(m:List Mk)(r:List UInt8),Ψ t=some (m,r)→∀k∈m,k.b<256:=by
 have key:∀n(t:List UInt8),t.length≤n→∀m r,Ψ t=some (m,r)→∀k∈m,k.b<256:=by
  intro n
  induction n with
  |zero=>
   intro t ht m r h
   match t,ht with
   | [],_=>rw[Ψ]at h;cases h
  |succ n ih=>
   intro t ht m r h
   match t with
   | []=>rw[Ψ]at h;cases h
   | [c]=>
     rw[Ψ]at h;split at h
     ·injection h with h;injection h with h1 h2;subst h1;intro k hk;cases hk
     ·cases h
   |c::d::t=>
    rw[Ψ]at h;split at h
    ·injection h with h;injection h with h1 h2;subst h1;intro k hk;cases hk
    ·split at h
     ·cases hu:Ψ t with
      |none=>rw[hu]at h;cases h
      |some p=>
       rw[hu]at h;injection h with h;injection h with h1 h2;have:=ih t (by simp at ht;omega) p.1 p.2 hu;subst h1;intro k hk;rcases List.mem_cons.1 hk with rfl|hk
       ·show Iu d<256
        unfold Iu;have:=d.toNat_lt;split<;>omega
       ·exact this k hk
     ·cases hu:Ψ (d::t)with
      |none=>rw[hu]at h;cases h
      |some p=>
       rw[hu]at h;injection h with h;injection h with h1 h2;have:=ih (d::t) (by simp at ht⊢;omega) p.1 p.2 hu;subst h1;intro k hk;rcases List.mem_cons.1 hk with rfl|hk
       ·exact c.toNat_lt
       ·exact this k hk
 exact fun t=>key t.length t δ
structure vB(lo:Nat)(w:World)(nm:Nat)(t:List UInt8)(cs cs':List Value):Prop where
 s:nm=115→∃(a:Option Addr)(c:Nat)(m:List Mk)(a2:Option Addr)(c2:Nat),cs'[14]? =some (.bool (FH t).ex.head)∧cs'[15]? =some (.bool (FH t).ex.tail)∧cs'[16]? =some (.slice a (FH t).ex.l.length c)∧cs'[17]? =some (.slice a2 m.length c2)∧cs'[18]? =some (.int .i64 ((FH t).count:Nat))∧cs'[19]? =some (.bool (FH t).all)∧cs'[20]? =some (.bool (FH t).Pt)∧cs'[21]? =cs[21]? ∧cs'[22]? =cs[22]? ∧
  DK m=(FH t).rep∧(m.length≤400∧∀q∈m,q.b<256)∧Cj lo w (fun w=>QW w a (FH t).ex.l)∧Cj lo w (fun w=>A7 w a2 m.length m)
 y:nm≠115→∃(a:Option Addr)(c:Nat)(a2:Option Addr)(c2:Nat),(∀j,14≤j→j<21→cs'[j]? =cs[j]?)∧cs'[21]? =some (.slice a (CA t).1.length c)∧cs'[22]? =some (.slice a2 (CA t).2.length c2)∧(CA t).1.length≤400∧(CA t).2.length=(CA t).1.length∧
  Cj lo w (fun w=>A7 w a (CA t).1.length (CA t).1)∧Cj lo w (fun w=>A7 w a2 (CA t).2.length (CA t).2)
def rW(b nm:Nat)(cs:List Value)(s:ByteArray)(w:World)(e:Ending)(w':World):Prop:=
 e= .returned (.bool (AA nm s.data.toList))∧∃cs',C0 w' b cs'∧Kc cs cs'∧Bi b w w'∧(AA nm s.data.toList=true→vB w.heap.size w' nm s.data.toList cs cs')
theorem Vn{f:Bool}{P:Prop}(h:Hid (f=false)):f=true→P:=fun e=>by rw[h.out]at e;cases e
theorem rX{t:List UInt8}{l l2:List Mk}{r1 r2:List UInt8}{x:Ex}(h1:Ψ (t.drop 1)=some (l,r1))(h2:Ψ r1=some (l2,r2))(hx:Cv l=some x):FH t=⟨x,DK l2,Mm r2,UP r2,aA r2⟩ :=by
 unfold FH;rw[h1];simp only[h2,hx]
 rfl
theorem mL{t:List UInt8}{l l2:List Mk}{r1 r2:List UInt8}(h1:Ψ (t.drop 1)=some (l,r1))(h2:Ψ r1=some (l2,r2)):CA t=(l,l2):=by
 unfold CA;rw[h1];simp only[h2]
theorem MO(b nm:Nat)(cs:List Value)(s:ByteArray)(w:World)(hs:s.size≤400)(hb:C0 w b cs)(CF:cs[11]? =some (.int .u8 nm))(NN:nm<256)(pU:cs[19]? =some (.bool false))(pV:cs[20]? =some (.bool false)):
  Calls prog 177 #[.pointer (some ⟨b,0,none⟩),.string s] w fun e w'=>rW b nm cs s w e w':=by
 by_cases h0:s.size=0
 ·have he:s.toList.isEmpty=true:=by rw[Dy];exact decide_eq_true h0
  have HF:Hid (AA nm s.data.toList=false):=by
   have hl:=Δ s;show _=_;rw[List.length_eq_zero_iff.1 (hl.trans h0)];rfl
  clear h0
  go_enter func177,ntmps177
  go_wp2;go_ret;exact⟨ι (by rw[HF.out]),cs,hb,Kc.refl hb.2,Bi.refl _ _,Vn HF⟩
 have he:s.toList.isEmpty=false:=by rw[Dy];exact decide_eq_false h0
 have dQ:0<s.size:=by omega
 have fL:(0:Int)<(s.size:Int):=by omega
 obtain⟨x,hx⟩ :∃x:Nat,s[0].toNat=x:=⟨_,rfl⟩
 have FT:x<256:=by rw[←hx];exact s[0].toNat_lt
 have HG:Hid (s.data.toList=s[0]::s.data.toList.drop 1):=by
  have e:=Ap s 0 dQ;rw[List.drop_zero]at e;exact e
 by_cases Fa:x=47
 ·have ZR:Hid (AA nm s.data.toList=Zy nm (Ψ (s.data.toList.drop 1))):=by
   show _=_;rw[HG.out,AA,if_pos (by rw[hx];exact Fa),←HG.out]
  have hne:((x:Int) !=47)=false:=by simp[Fa]
  clear Fa h0
  go_enter func177,ntmps177
  go_wp2_with fail
  have HC:=Md s 1 w (by omega) (by omega);rw[show((1:Nat):Int)=1 from rfl]at HC;refine HC.mono ?_;clear HC;rintro e w1 ⟨b1,⟨CQ,rfl⟩ | ⟨l,p,a,c,BW,VI,Lq,uf,rfl,ν⟩⟩
  ·have HF:Hid (AA nm s.data.toList=false):=by show _=_;rw[ZR.out,CQ];rfl
   clear CQ ZR;go_wp2;go_ret;exact⟨ι (by rw[HF.out]),cs,hb.keep b1,Kc.refl hb.2,Bi.η b1,Vn HF⟩
  ·have rY:Hid (AA nm s.data.toList=Ot nm l (Ψ (s.data.toList.drop p))):=by show _=_;rw[ZR.out,BW];rfl
   have HU1:=γ BW;clear BW ZR;have R0:¬(p:Int)<0:=by omega
   go_wp2_with fail
   refine(Md s p w1 (by omega) Lq).mono ?_;rintro e w2 ⟨b2,⟨CQ,rfl⟩ | ⟨l2,q,a2,c2,BW,Mj,RU,hlr,rfl,Bl⟩⟩
   ·have HF:Hid (AA nm s.data.toList=false):=by show _=_;rw[rY.out,CQ];rfl
    clear CQ rY;go_wp2;go_ret;exact⟨ι (by rw[HF.out]),cs,(hb.keep b1).keep b2,Kc.refl hb.2,(Bi.η b1).trans (Bi.η b2),Vn HF⟩
   ·have rZ:Hid (AA nm s.data.toList=if nm=115 then(Cv l).isSome && ES (s.data.toList.drop q)else !FD l && (!l.isEmpty && (l.length==l2.length && (s.data.toList.drop q).isEmpty))):=by show _=_;rw[rY.out,BW];rfl
    have HU2:=γ BW;have hw1:=b1.size;have hw2:=b2.size;have ND:=hb.1.lt;have Of:=γ ((Ua ν).below b2);have Kb:=γ (Ua Bl);clear BW rY;have NP:¬(q:Int)<0:=by omega
    have hA:=(hb.keep b1).keep b2;have HA:Hid (C0 w2 b cs∧Bi b w w2):=⟨hA,(Bi.η b1).trans (Bi.η b2)⟩
    have Z4:=XZ ν;have Hi:=Ξ ν b2;have Tl:=Kl Hi;have E2:=hA.1.c 11 _ CF;clear ν Hi Bl hA b1 b2
    by_cases LG:nm=115
    ·have aj:Hid (AA nm s.data.toList=((Cv l).isSome && ES (s.data.toList.drop q))):=by show _=_;rw[rZ.out,if_pos LG]
     have h1:((nm:Int)==115)=true:=by simp[LG]
     have Bn:=γ LG;clear LG rZ
     go_wp2_with fail
     refine(Fj _ _ _ l w2 Tl (by omega) Z4).mono ?_;rintro e w3 ⟨hd,tl,a3,n3,c3,b3,EK⟩;have rT:Hid (C0 w3 b cs∧Bi b w w3):=⟨HA.out.1.keep b3,HA.out.2.trans (Bi.η b3)⟩
     have Cq:CB (w3.alloc (.cells #[.bool false,.bool false,.slice none 0 0] 169)) w3.heap.size [.bool false,.bool false,.slice none 0 0]:=CB.new w3 _ _ (by simp[Value.oneCell']);have ra:Hid (C0 (w3.alloc (.cells #[.bool false,.bool false,.slice none 0 0] 169)) b cs∧Bi b w (w3.alloc (.cells #[.bool false,.bool false,.slice none 0 0] 169))):=
      ⟨rT.out.1.keep (ζ.alloc δ _),rT.out.2.trans (Bi.η (ζ.alloc δ _))⟩
     have AFU:=rT.out.1.1.lt;have AFV:=rT.out.2.size;obtain⟨ok,Fx⟩ :∃ok,(Cv l).isSome=ok:=⟨_,rfl⟩
     rw[Fx]at aj;have ADH:e= .returned (.tuple #[.agg #[.bool hd,.bool tl,.slice a3 n3 c3],.bool ok]):=by
      rcases EK with⟨hex,rfl⟩ | ⟨L,hex,rfl,rfl,-⟩
      all_goals
       rw[hex]at Fx;rw[←Fx];rfl
     have TA:Hid (ok=true→∃L:List IV,Cv l=some ⟨hd,tl,L.map IV.it⟩∧n3=L.length∧Cj w2.heap.size w3 (fun w=>QW w a3 (L.map IV.it))):=fun h9=>by
      rcases EK with⟨hex,_⟩ | ⟨L,hex,h8,_,Γ,yO,_⟩
      ·rw[hex]at Fx;rw[←Fx]at h9;cases h9
      ·exact⟨L,hex,h8,dP (by rw[h8]at Γ;exact Γ) yO⟩
     have wF:=γ (Kb.out.below b3);clear EK Fx HA rT E2 Tl Of Kb;subst ADH;generalize hW:w3.alloc (.cells #[.bool false,.bool false,.slice none 0 0] 169)=W3 at*;have hlen:=ra.out.1.2;have VK:w3.heap.size≠b:=by omega
     obtain⟨g3,ABH⟩ :∃g,w3.heap.size=g:=⟨_,rfl⟩
     rw[ABH]at Cq VK;have ua:=ra.out.1.1;have hq3:(q:Int)≤(s.size:Int):=by omega
     have HZ:Hid ((s.extract q s.size).size≤400):=by show _≤_;rw[ByteArray.size_extract];omega
     have Wo:=γ (MK s q)
     go_wp2_with(first
      | (refine θ Ps Cq rfl rfl _ _ rfl rfl rfl rfl (by simp[Value.oneCell']) ?_;intro w5 BP O5;have ABI:=ua.keep (O5.block _ (Ne.symm VK)) (by rw[O5.size];exact δ))
      |refine ω Ps BP rfl rfl _ rfl rfl ?_
      | (refine Ek Ps ABI 14 rfl _ _ rfl rfl rfl rfl (by omega) (by simp[Value.oneCell']) ?_
         intro w6 GN O6;obtain⟨v17,QO⟩ :=GN.get 17 (by simp;omega);have f17:=GN.fz 17 (by simp;omega)))
     have il:Kc cs (cs.take 14++ [.bool hd,.bool tl,.slice a3 n3 c3]++cs.drop (14+3)):=Kc.part hlen 14 [.bool hd,.bool tl,.slice a3 n3 c3] (by omega) (by simp);have HP6:Hid (∀j,(cs.take 14++ [.bool hd,.bool tl,.slice a3 n3 c3]++cs.drop (14+3))[j]? =if 14≤j∧j<17 then([.bool hd,.bool tl,.slice a3 n3 c3]:List Value)[j - 14]? else cs[j]?):=rV cs [.bool hd,.bool tl,.slice a3 n3 c3] 14 hlen (by simp);have HM6:Hid (Cj w1.heap.size w6 (fun w=>A7 w a2 l2.length l2)∧(ok=true→∃L:List IV,Cv l=some ⟨hd,tl,L.map IV.it⟩∧n3=L.length∧Cj w2.heap.size w6 (fun w=>QW w a3 (L.map IV.it)))):=by
      rw[←hW,←ABH]at O5;refine⟨(wF.out.boxed O5).only O6 (by omega),fun h9=> ?_⟩;obtain⟨L,e1,e2,e3⟩ :=TA.out h9;exact⟨L,e1,e2,(e3.boxed O5).only O6 (by omega)⟩
     generalize cs.take 14++ [.bool hd,.bool tl,.slice a3 n3 c3]++cs.drop (14+3)=cs6 at*;have KH:C0 (w6.setCell ⟨b,17,none⟩ (.slice a2 l2.length c2)) b (cs6.set 17 (.slice a2 l2.length c2)):=⟨GN.set 17 (by rw[il.1];omega) _ rfl,by rw[List.length_set];exact il.1⟩
     have ADI:(cs6.set 17 (.slice a2 l2.length c2))[19]? =some (.bool false):=by rw[List.getElem?_set_ne (by decide),HP6.out 19,if_neg (by decide)];exact pU
     have ADJ:(cs6.set 17 (.slice a2 l2.length c2))[20]? =some (.bool false):=by rw[List.getElem?_set_ne (by decide),HP6.out 20,if_neg (by decide)];exact pV
     have hl6:cs6.length=23:=il.1;have HP7:Hid (Kc cs (cs6.set 17 (.slice a2 l2.length c2))∧Bi b w (w6.setCell ⟨b,17,none⟩ (.slice a2 l2.length c2))):=
      ⟨il.trans (Kc.set il.1 17 _ (by decide)),by
       exact(ra.out.2.Rb O5 (by omega)).trans ((Bi.Aw O6).trans (Bi.Aw (AQ.set _ _ _ _)))⟩
     clear BP O5 ABI O6 QO f17 GN il ua Cq ra TA wF;refine(Vl b _ _ _ HZ.out KH ADI ADJ).mono ?_;rintro e w8 ⟨rfl,cs8,hc8,pK,O8⟩;rw[Wo.out]at pK⊢;have yP:Hid (ok=true→vB w.heap.size w8 nm s.data.toList cs cs8):=fun h9=>by
      obtain⟨L,e1,e2,e3⟩ :=HM6.out.2 h9;have ADK:=rX HU1.out HU2.out e1;refine⟨fun _=> ?_,fun h=>absurd Bn.out h⟩;rw[ADK];have g:∀j,j≠17→j≠18→j≠19→j≠20→cs8[j]? =if 14≤j∧j<17 then([.bool hd,.bool tl,.slice a3 n3 c3]:List Value)[j - 14]? else cs[j]? :=fun j j1 j2 j3 j4=>by
       rw[pK.o j j2 j3 j4,List.getElem?_set_ne (Ne.symm j1),HP6.out j]
      refine⟨a3,c3,l2,a2,c2,?_,?_,?_,?_,pK.n,pK.a,pK.p,?_,?_,rfl,⟨by omega,Vm _ _ _ HU2.out⟩,?_,?_⟩
      ·rw[g 14 (by decide) (by decide) (by decide) (by decide)];rfl
      ·rw[g 15 (by decide) (by decide) (by decide) (by decide)];rfl
      ·rw[g 16 (by decide) (by decide) (by decide) (by decide),e2];simp
      ·rw[pK.o 17 (by decide) (by decide) (by decide),List.getElem?_set_self (by omega)]
      ·rw[g 21 (by decide) (by decide) (by decide) (by decide),if_neg (by decide)]
      ·rw[g 22 (by decide) (by decide) (by decide) (by decide),if_neg (by decide)]
      ·exact((e3.only (AQ.set _ _ _ _) (by omega)).only O8 (by omega)).mono (by omega)
      ·exact((HM6.out.1.only (AQ.set _ _ _ _) (by omega)).only O8 (by omega)).mono (by omega)
     have HS8:=γ (HP7.out.1.trans pK.kc);clear pK;cases ok
     ·have HF:Hid (AA nm s.data.toList=false):=by show _=_;rw[aj.out];rfl
      go_wp2;go_ret;exact⟨ι (by rw[HF.out]),cs8,hc8,HS8.out,HP7.out.2.trans (Bi.Aw O8),Vn HF⟩
     ·have HF:Hid (AA nm s.data.toList=ES (s.data.toList.drop q)):=by show _=_;rw[aj.out];rfl
      generalize ES (s.data.toList.drop q)=fl at*;go_wp2;go_ret;exact⟨ι (by rw[HF.out]),cs8,hc8,HS8.out,HP7.out.2.trans (Bi.Aw O8),fun _=>yP.out (by first|trivial|rfl)⟩
    ·have aj:Hid (AA nm s.data.toList=(!FD l && (!l.isEmpty && (l.length==l2.length && (s.data.toList.drop q).isEmpty)))):=by show _=_;rw[rZ.out,if_neg LG]
     have h1:((nm:Int)==115)=false:=by simp;omega
     have Bn:=γ LG;clear LG rZ;have HMK:Hid (∀i(h:i<l.length),∃b' off,a=some ⟨b',off,none⟩∧b'<w2.heap.size∧w2.cell? ⟨b',off+i*2,none⟩ =some (.int .i64 l[i].b)):=fun i h=>by
      obtain⟨b',off,e1,e2,e3,e4⟩ :=Tl.get h;exact⟨b',off,e1,e2,e3⟩
     obtain⟨n,hn⟩ :∃n,l.length=n:=⟨_,rfl⟩
     have Hc:=γ hn;rw[hn]at uf Z4⊢;clear Tl hn
     go_wp2_with fail
     go_loopw [12,13] (fun v12 _ wr=>∃i:Nat,i≤n∧v12= .int .i64 i∧Hid (∀i' k'(h:i'<l.length)(h2:k'<i'),i'<i→l[i'].b≠(l[k']'(by omega)).b)∧Hid (C0 wr b cs∧Bi b w wr∧∀i(h:i<l.length),∃b' off,a=some ⟨b',off,none⟩∧b'<wr.heap.size∧wr.cell? ⟨b',off+i*2,none⟩ =some (.int .i64 l[i].b))∧Hid (wr.heap=w2.heap)) (fun v12 _ _=>n - (intOf v12).toNat)
     case atStart=>exact⟨0,ε,rfl,fun _ _ _ _ h=>by omega,⟨HA.out.1,HA.out.2,HMK.out⟩,rfl⟩
     case round=>
      clear HA HMK E2;obtain⟨i,hi,rfl,HP,HW,yQ⟩ :=hrel
      by_cases S5:i<n
      ·have AFW:(i:Int)<(n:Int):=by omega
       go_wp2_with fail
       go_loopw [13] (fun Zh wr=>∃k:Nat,k≤i∧Zh= .int .i64 k∧Hid (∀k'(h:i<l.length)(h2:k'<i),k'<k→l[i].b≠(l[k']'(by omega)).b)∧Hid (C0 wr b cs∧Bi b w wr∧∀i(h:i<l.length),∃b' off,a=some ⟨b',off,none⟩∧b'<wr.heap.size∧wr.cell? ⟨b',off+i*2,none⟩ =some (.int .i64 l[i].b))∧Hid (wr.heap=w2.heap)) (fun Zh _=>i - (intOf Zh).toNat)
       case atStart=>exact⟨0,ε,rfl,fun _ _ _ h=>by omega,HW.out,yQ.out⟩
       case round=>
        clear HW yQ;obtain⟨k,hk,rfl,NH,HW,yQ⟩ :=hrel
        by_cases dA:k<i
        ·have AFX:(k:Int)<(i:Int):=by omega
         have EW:(k:Int)<(n:Int):=by omega
         have KA:(0:Int)≤(k:Int):=by omega
         have h02:(0:Int)≤(i:Int):=by omega
         have hil:i<l.length:=by rw[Hc.out];omega
         have Lv:k<l.length:=by omega
         obtain⟨b',off,rfl,eC,d0⟩ :=HW.out.2.2 i hil;obtain⟨b'',jy,XN,AFY,d1⟩ :=HW.out.2.2 k Lv;simp only[Option.some.injEq,Addr.mk.injEq,and_true]at XN;obtain⟨rfl,rfl⟩ :=XN;obtain⟨y0,hy0⟩ :∃y,l[i].b=y:=⟨_,rfl⟩
         obtain⟨y1,hy1⟩ :∃y,l[k].b=y:=⟨_,rfl⟩
         rw[hy0]at d0;rw[hy1]at d1;have HY:Hid (l[i].b=y0∧l[k].b=y1):=⟨hy0,hy1⟩
         clear hy0 hy1
         by_cases heq:y0=y1
         ·have HF:Hid (AA nm s.data.toList=false):=by
           show _=_;have:FD l=true:=(Ou l).2 ⟨i,k,hil,dA,by rw[HY.out.1,HY.out.2];exact heq⟩;rw[aj.out,this];rfl
          have yR:((y0:Int)==(y1:Int))=true:=by simp[heq]
          clear heq
          go_wp2_with fail
          go_quiet(fail)
          go_wp2;go_ret;exact⟨ι (by rw[HF.out]),cs,⟨HW.out.1.1.keep rfl δ,HW.out.1.2⟩,Kc.refl HW.out.1.2,HW.out.2.1.drewN _,Vn HF⟩
         ·have yR:((y0:Int)==(y1:Int))=false:=by simp;omega
          have uo:Hid (∀k'(h:i<l.length)(h2:k'<i),k'<k+1→l[i].b≠(l[k']'(by omega)).b):=fun k' h h2 h3=>by
           by_cases e:k'=k
           ·subst e;rw[HY.out.1,HY.out.2];exact heq
           ·exact NH.out k' h h2 (by omega)
          clear heq NH
          go_wp2_with fail
          go_quiet(fail)
          go_wp2
          go_roundw
          case rel=>exact⟨k+1,by omega,by go_num,uo.out,⟨⟨HW.out.1.1.keep rfl δ,HW.out.1.2⟩,HW.out.2.1.drewN _,HW.out.2.2⟩,yQ.out⟩
          case measure=>simp[intOf]<;>omega
        ·obtain rfl:k=i:=by omega
         have uo:Hid (∀i' k'(h:i'<l.length)(h2:k'<i'),i'<k+1→l[i'].b≠(l[k']'(by omega)).b):=fun i' k' h h2 h3=>by
          by_cases e:i'=k
          ·subst e;exact NH.out k' h h2 h2
          ·exact HP.out i' k' h h2 (by omega)
         clear HP NH;go_wp2
         go_roundw
         case rel=>exact⟨k+1,by omega,by go_num,uo.out,HW.out,yQ.out⟩
         case measure=>simp[intOf]<;>omega
      ·obtain rfl:i=n:=by omega
       have yS:Hid (FD l=false):=by
        show _=_;rw[Bool.eq_false_iff];intro h;obtain⟨i',k',h1,h2,e⟩ :=(Ou l).1 h;exact HP.out i' k' h1 h2 (by rw[←Hc.out];exact h1) e
       have ADL:=HW.out.1.1.get 21 (by have:=HW.out.1.2;omega);obtain⟨v21,c21⟩ :=ADL;have f21:=HW.out.1.1.fz 21 (by have:=HW.out.1.2;omega);have Hs:=HW.out.1.1.set 21 (by have:=HW.out.1.2;omega) (.slice a i c) rfl;obtain⟨v22,c22⟩ :=Hs.get 22 (by have:=HW.out.1.2;simp;omega);have f22:=Hs.fz 22 (by have:=HW.out.1.2;simp;omega);have VW:Hid (C0 ((wr.setCell ⟨b,21,none⟩ (.slice a i c)).setCell ⟨b,22,none⟩ (.slice a2 l2.length c2)) b ((cs.set 21 (.slice a i c)).set 22 (.slice a2 l2.length c2))):=⟨Hs.set 22 (by have:=HW.out.1.2;simp;omega) _ rfl,by rw[List.length_set,List.length_set];exact HW.out.1.2⟩
       have ER:Hid (Kc cs ((cs.set 21 (.slice a i c)).set 22 (.slice a2 l2.length c2))∧Bi b w ((wr.setCell ⟨b,21,none⟩ (.slice a i c)).setCell ⟨b,22,none⟩ (.slice a2 l2.length c2))):=
        ⟨(Kc.set HW.out.1.2 21 _ (by decide)).trans (Kc.set (by rw[List.length_set];exact HW.out.1.2) 22 _ (by decide)),HW.out.2.1.trans ((Bi.Aw (AQ.set _ _ _ _)).trans (Bi.Aw (AQ.set _ _ _ _)))⟩
       have HV:Hid (AA nm s.data.toList=(!decide (i=0) && (decide (i=l2.length) && decide (q=s.size)))):=by
        show _=_;have e1:l.isEmpty=decide (i=0):=by
         rw[←Hc.out];cases l<;>simp
        have e2:(l.length==l2.length)=decide (i=l2.length):=by rw[Hc.out];rfl
        have e3:(s.data.toList.drop q).isEmpty=decide (q=s.size):=by
         rw[Bool.eq_iff_iff,List.isEmpty_iff,decide_eq_true_iff,List.drop_eq_nil_iff,Δ];omega
        rw[aj.out,yS.out,e1,e2,e3];rfl
       have yP:Hid (i=l2.length→vB w.heap.size ((wr.setCell ⟨b,21,none⟩ (.slice a i c)).setCell ⟨b,22,none⟩ (.slice a2 l2.length c2)) nm s.data.toList cs ((cs.set 21 (.slice a i c)).set 22 (.slice a2 l2.length c2))):=fun h9=>by
        have hex:=mL HU1.out HU2.out;have hl:=HW.out.1.2;refine⟨fun h=>absurd h Bn.out,fun _=> ?_⟩;rw[hex];have hk:∀{lo:Nat}{P:World→Prop},Cj lo w2 P→Cj lo wr P:=fun h=>h.Kv (by rw[yQ.out];exact δ) (fun k _ _=>by rw[yQ.out])
        refine⟨a,c,a2,c2,fun j j1 j2=> ?_,?_,?_,?_,?_,?_,?_⟩
        ·rw[List.getElem?_set_ne (by omega),List.getElem?_set_ne (by omega)]
        ·rw[List.getElem?_set_ne (by decide),List.getElem?_set_self (by omega),Hc.out]
        ·rw[List.getElem?_set_self (by rw[List.length_set];omega)]
        ·show l.length≤400;rw[Hc.out];omega
        ·show l2.length=l.length;rw[Hc.out];exact h9.symm
        ·exact((hk Of.out).only (AQ.set _ _ _ _) (by omega)).only (AQ.set _ _ _ _) (by omega)
        ·exact(((hk Kb.out).only (AQ.set _ _ _ _) (by omega)).only (AQ.set _ _ _ _) (by omega)).mono (by omega)
       clear aj yS HP Hs
       by_cases z1:i=0
       ·have HF:Hid (AA nm s.data.toList=false):=by show _=_;rw[HV.out,decide_eq_true z1];rfl
        have z2:¬(0:Int)<(i:Int):=by omega
        clear z1 HV;go_wp2;go_ret;exact⟨ι (by rw[HF.out]),_,VW.out,ER.out.1,ER.out.2,Vn HF⟩
       ·have z2:(0:Int)<(i:Int):=by omega
        by_cases z3:i=l2.length
        ·have z4:((i:Int)==(l2.length:Int))=true:=by simp[z3]
         by_cases z5:q=s.size
         ·have HF:Hid (AA nm s.data.toList=true):=by show _=_;rw[HV.out,decide_eq_false z1,decide_eq_true z3,decide_eq_true z5];rfl
          have HVW:=yP.out z3;have rD:=γ HVW;clear HVW;have z6:((q:Int)==(s.size:Int))=true:=by simp[z5]
          clear z1 z3 z5 HV;go_wp2;go_ret;exact⟨ι (by rw[HF.out]),_,VW.out,ER.out.1,ER.out.2,fun _=>rD.out⟩
         ·have HF:Hid (AA nm s.data.toList=false):=by show _=_;rw[HV.out,decide_eq_false z5];simp
          have z6:((q:Int)==(s.size:Int))=false:=by simp;omega
          clear z1 z3 z5 HV;go_wp2;go_ret;exact⟨ι (by rw[HF.out]),_,VW.out,ER.out.1,ER.out.2,Vn HF⟩
        ·have z4:((i:Int)==(l2.length:Int))=false:=by simp;omega
         have HF:Hid (AA nm s.data.toList=false):=by show _=_;rw[HV.out,decide_eq_false z3];simp
         clear z1 z3 HV;go_wp2;go_ret;exact⟨ι (by rw[HF.out]),_,VW.out,ER.out.1,ER.out.2,Vn HF⟩
 ·have HF:Hid (AA nm s.data.toList=false):=by
   show _=_;rw[HG.out,AA,if_neg (by rw[hx];exact Fa)]
  have hne:((x:Int) !=47)=true:=by simp;omega
  clear Fa h0
  go_enter func177,ntmps177
  go_wp2;go_ret;exact⟨ι (by rw[HF.out]),cs,hb,Kc.refl hb.2,Bi.refl _ _,Vn HF⟩
end Go.Proofs.YtlppphmnegdhoabGreatDoor
