import Derived.Test.YtlppphmnegdhoabGreatDoorMz30
set_option linter.unusedVariables false
set_option maxRecDepth 100000
set_option linter.unusedSimpArgs false
set_option maxHeartbeats 4000000
namespace Go.Proofs.YtlppphmnegdhoabGreatDoor
open Go.Proofs.Tryz
open Go.RowKit
open M
abbrev Mt(nm:Nat):Prop:=nm=97∨nm=105∨nm=99
structure OY(lo:Nat)(w:World)(nm:Nat)(s:ByteArray)(cs cs':List Value):Prop where
 pr:∀j,j<12→cs'[j]? =cs[j]?
 t:cs'[12]? =if Mt nm then some (.string s)else cs[12]?
 l:cs'[13]? =if labelled nm then some (.string s)else cs[13]?
 c:nm=115∨nm=121→vB lo w nm s.data.toList cs cs'
 o:nm≠115→nm≠121→∀j,14≤j→cs'[j]? =cs[j]?
theorem Vo(nm:Nat):labelled nm=true↔nm=58∨nm=98∨nm=116:=by simp[labelled]
theorem OY.same{lo nm:Nat}{w:World}{s:ByteArray}{cs:List Value}(h1:¬Mt nm)(h2:labelled nm=false)(h3:nm≠115)(h4:nm≠121):OY lo w nm s cs cs:=
 ⟨fun _ _=>rfl,by rw[if_neg h1],by rw[h2];rfl,fun h=>by omega,fun _ _ _ _=>rfl⟩
theorem OY.mM{lo nm:Nat}{w:World}{s:ByteArray}{cs:List Value}(hl:cs.length=23)(h2:labelled nm=true):OY lo w nm s cs (cs.set 13 (.string s)):=by
 have:=(Vo nm).1 h2;exact⟨fun j hj=>List.getElem?_set_ne (by omega),by rw[if_neg (by unfold Mt;omega),List.getElem?_set_ne (by decide)],by rw[h2,List.getElem?_set_self (by omega)];rfl,fun h=>by omega,fun _ _ j hj=>List.getElem?_set_ne (by omega)⟩
theorem OY.txt{lo nm:Nat}{w:World}{s:ByteArray}{cs:List Value}(hl:cs.length=23)(h1:Mt nm):OY lo w nm s cs (cs.set 12 (.string s)):=by
 have h2:labelled nm=false:=by
  rw[Bool.eq_false_iff];intro h;have:=(Vo nm).1 h;unfold Mt at h1;omega
 have h3:=h1;unfold Mt at h3;exact⟨fun j hj=>List.getElem?_set_ne (by omega),by rw[if_pos h1,List.getElem?_set_self (by omega)],by rw[h2,List.getElem?_set_ne (by decide)];rfl,fun h=>by omega,fun _ _ j hj=>List.getElem?_set_ne (by omega)⟩
theorem OY.chg{lo nm:Nat}{w:World}{s:ByteArray}{cs cs':List Value}(hc:Kc cs cs')(h:nm=115∨nm=121)(hv:vB lo w nm s.data.toList cs cs'):OY lo w nm s cs cs':=by
 have h2:labelled nm=false:=by
  rw[Bool.eq_false_iff];intro h9;have:=(Vo nm).1 h9;omega
 exact⟨fun j hj=>hc.2 j (by omega),by rw[if_neg (by unfold Mt;omega)];exact hc.2 12 (by decide),by rw[h2];exact hc.2 13 (by decide),fun _=>hv,fun h3 h4=>by omega⟩
def rb(b k nm:Nat)(cs:List Value)(s:ByteArray)(w:World)(e:Ending)(w':World):Prop:=
 e= .returned (.bool (AF k nm s.data.toList))∧∃cs',C0 w' b cs'∧Bi b w w'∧(AF k nm s.data.toList=true→OY w.heap.size w' nm s cs cs')
theorem Gj(b k nm:Nat)(cs:List Value)(s:ByteArray)(w:World)(hs:s.size≤400)(hb:C0 w b cs)(IW:cs[0]? =some (.int .i64 k))(CF:cs[11]? =some (.int .u8 nm))(NN:nm<256)(pU:cs[19]? =some (.bool false))(pV:cs[20]? =some (.bool false)):
  Calls prog 148 #[.pointer (some ⟨b,0,none⟩),.string s] w fun e w'=>rb b k nm cs s w e w':=by
 have c0:=hb.1.c 0 _ IW;have E2:=hb.1.c 11 _ CF;have hlen:=hb.2;have HKK:Hid (∀kk,(kk==0)=true↔kk=0):=fun kk=>by simp
 obtain⟨fr,rf⟩ :∃fr,decide (k=0)=fr:=⟨_,rfl⟩
 have ADM:((k:Int)==0)=fr:=by rw[←rf,Bool.eq_iff_iff];simp
 obtain⟨em,hem⟩ :∃em,s.toList.isEmpty=em:=⟨_,rfl⟩
 have HFR:=γ rf;have rh:Hid (s.data.toList.isEmpty=em):=by show _=_;rw[mE];exact hem
 clear rf HKK
 by_cases Bk:nm=125
 ·have n125:((nm:Int)==125)=true:=by simp[Bk]
  have HA:Hid (AF k nm s.data.toList=(fr && em)):=by
   show _=_;unfold AF;rw[if_pos Bk,HFR.out,rh.out]
  have fx:Hid (∀lo w,OY lo w nm s cs cs):=fun lo w=>OY.same (by unfold Mt;omega) (by subst Bk;rfl) (by omega) (by omega)
  clear Bk
  go_enter func148,ntmps148
  cases fr
  ·go_wp2
   go_ret;exact⟨ι (by rw[HA.out];try rfl),cs,hb,Bi.refl _ _,fun _=>fx.out _ _⟩
  ·cases em
   all_goals
    go_wp2;go_ret;exact⟨ι (by rw[HA.out];try rfl),cs,hb,Bi.refl _ _,fun _=>fx.out _ _⟩
 have n125:((nm:Int)==125)=false:=by simp;omega
 by_cases Ed:nm=58
 ·have n58:((nm:Int)==58)=true:=by simp[Ed]
  have HA:Hid (AF k nm s.data.toList=(fr && Cc s.data.toList)):=by
   show _=_;unfold AF;rw[if_neg Bk,if_pos Ed,HFR.out]
  have vC:Hid (labelled nm=true):=by show _=_;subst Ed;rfl
  clear Bk Ed;obtain⟨Zh,Ro⟩ :=hb.1.get 13 (by omega);have f13:=hb.1.fz 13 (by omega);have Hs:C0 (w.setCell ⟨b,13,none⟩ (.string s)) b (cs.set 13 (.string s)):=⟨hb.1.set 13 (by omega) _ rfl,by rw[List.length_set];exact hlen⟩
  have MP:Bi b w (w.setCell ⟨b,13,none⟩ (.string s)):=Bi.Aw (AQ.set _ _ _ _)
  go_enter func148,ntmps148
  cases fr
  ·go_wp2
   go_ret;exact⟨ι (by rw[HA.out];try rfl),_,Hs,MP,fun _=>OY.mM hlen vC.out⟩
  ·go_wp2_with fail
   refine(Jl s _ (by omega)).mono ?_;rintro e w2 ⟨rfl,rfl⟩;generalize Cc s.data.toList=lt at*;go_wp2;go_ret;exact⟨ι (by rw[HA.out];try rfl),_,Hs,MP,fun _=>OY.mM hlen vC.out⟩
 have n58:((nm:Int)==58)=false:=by simp;omega
 by_cases YA:nm=98
 ·have n98:((nm:Int)==98)=true:=by simp[YA]
  have HA:Hid (AF k nm s.data.toList=(em || Cc s.data.toList)):=by
   show _=_;unfold AF;rw[if_neg Bk,if_neg Ed,if_pos (.inl YA),rh.out]
  have vC:Hid (labelled nm=true):=by show _=_;subst YA;rfl
  clear Bk Ed YA;obtain⟨Zh,Ro⟩ :=hb.1.get 13 (by omega);have f13:=hb.1.fz 13 (by omega);have Hs:C0 (w.setCell ⟨b,13,none⟩ (.string s)) b (cs.set 13 (.string s)):=⟨hb.1.set 13 (by omega) _ rfl,by rw[List.length_set];exact hlen⟩
  have MP:Bi b w (w.setCell ⟨b,13,none⟩ (.string s)):=Bi.Aw (AQ.set _ _ _ _)
  go_enter func148,ntmps148
  cases em
  ·go_wp2_with fail
   refine(Jl s _ (by omega)).mono ?_;rintro e w2 ⟨rfl,rfl⟩;generalize Cc s.data.toList=lt at*;go_wp2;go_ret;exact⟨ι (by rw[HA.out];try rfl),_,Hs,MP,fun _=>OY.mM hlen vC.out⟩
  ·go_wp2
   go_ret;exact⟨ι (by rw[HA.out];try rfl),_,Hs,MP,fun _=>OY.mM hlen vC.out⟩
 have n98:((nm:Int)==98)=false:=by simp;omega
 by_cases MA:nm=116
 ·have n116:((nm:Int)==116)=true:=by simp[MA]
  have HA:Hid (AF k nm s.data.toList=(em || Cc s.data.toList)):=by
   show _=_;unfold AF;rw[if_neg Bk,if_neg Ed,if_pos (.inr MA),rh.out]
  have vC:Hid (labelled nm=true):=by show _=_;subst MA;rfl
  clear Bk Ed YA MA;obtain⟨Zh,Ro⟩ :=hb.1.get 13 (by omega);have f13:=hb.1.fz 13 (by omega);have Hs:C0 (w.setCell ⟨b,13,none⟩ (.string s)) b (cs.set 13 (.string s)):=⟨hb.1.set 13 (by omega) _ rfl,by rw[List.length_set];exact hlen⟩
  have MP:Bi b w (w.setCell ⟨b,13,none⟩ (.string s)):=Bi.Aw (AQ.set _ _ _ _)
  go_enter func148,ntmps148
  cases em
  ·go_wp2_with fail
   refine(Jl s _ (by omega)).mono ?_;rintro e w2 ⟨rfl,rfl⟩;generalize Cc s.data.toList=lt at*;go_wp2;go_ret;exact⟨ι (by rw[HA.out];try rfl),_,Hs,MP,fun _=>OY.mM hlen vC.out⟩
  ·go_wp2
   go_ret;exact⟨ι (by rw[HA.out];try rfl),_,Hs,MP,fun _=>OY.mM hlen vC.out⟩
 have n116:((nm:Int)==116)=false:=by simp;omega
 by_cases im:nm=97
 ·have n97:((nm:Int)==97)=true:=by simp[im]
  have HA:Hid (AF k nm s.data.toList=true):=by
   show _=_;unfold AF;rw[if_neg Bk,if_neg Ed,if_neg (by omega),if_pos (.inl im)]
  have fx:Hid (∀lo w,OY lo w nm s cs (cs.set 12 (.string s))):=fun lo w=>OY.txt hlen (by unfold Mt;omega)
  clear Bk Ed YA MA im;obtain⟨v12,OU⟩ :=hb.1.get 12 (by omega);have f12:=hb.1.fz 12 (by omega);have Hs:C0 (w.setCell ⟨b,12,none⟩ (.string s)) b (cs.set 12 (.string s)):=⟨hb.1.set 12 (by omega) _ rfl,by rw[List.length_set];exact hlen⟩
  have MP:Bi b w (w.setCell ⟨b,12,none⟩ (.string s)):=Bi.Aw (AQ.set _ _ _ _)
  go_enter func148,ntmps148
  go_wp2;go_ret;exact⟨ι (by rw[HA.out]),_,Hs,MP,fun _=>fx.out _ _⟩
 have n97:((nm:Int)==97)=false:=by simp;omega
 by_cases Tq:nm=105
 ·have n105:((nm:Int)==105)=true:=by simp[Tq]
  have HA:Hid (AF k nm s.data.toList=true):=by
   show _=_;unfold AF;rw[if_neg Bk,if_neg Ed,if_neg (by omega),if_pos (.inr (.inl Tq))]
  have fx:Hid (∀lo w,OY lo w nm s cs (cs.set 12 (.string s))):=fun lo w=>OY.txt hlen (by unfold Mt;omega)
  clear Bk Ed YA MA im Tq;obtain⟨v12,OU⟩ :=hb.1.get 12 (by omega);have f12:=hb.1.fz 12 (by omega);have Hs:C0 (w.setCell ⟨b,12,none⟩ (.string s)) b (cs.set 12 (.string s)):=⟨hb.1.set 12 (by omega) _ rfl,by rw[List.length_set];exact hlen⟩
  have MP:Bi b w (w.setCell ⟨b,12,none⟩ (.string s)):=Bi.Aw (AQ.set _ _ _ _)
  go_enter func148,ntmps148
  go_wp2;go_ret;exact⟨ι (by rw[HA.out]),_,Hs,MP,fun _=>fx.out _ _⟩
 have n105:((nm:Int)==105)=false:=by simp;omega
 by_cases au:nm=99
 ·have n99:((nm:Int)==99)=true:=by simp[au]
  have HA:Hid (AF k nm s.data.toList=true):=by
   show _=_;unfold AF;rw[if_neg Bk,if_neg Ed,if_neg (by omega),if_pos (.inr (.inr au))]
  have fx:Hid (∀lo w,OY lo w nm s cs (cs.set 12 (.string s))):=fun lo w=>OY.txt hlen (by unfold Mt;omega)
  clear Bk Ed YA MA im Tq au;obtain⟨v12,OU⟩ :=hb.1.get 12 (by omega);have f12:=hb.1.fz 12 (by omega);have Hs:C0 (w.setCell ⟨b,12,none⟩ (.string s)) b (cs.set 12 (.string s)):=⟨hb.1.set 12 (by omega) _ rfl,by rw[List.length_set];exact hlen⟩
  have MP:Bi b w (w.setCell ⟨b,12,none⟩ (.string s)):=Bi.Aw (AQ.set _ _ _ _)
  go_enter func148,ntmps148
  go_wp2;go_ret;exact⟨ι (by rw[HA.out]),_,Hs,MP,fun _=>fx.out _ _⟩
 have n99:((nm:Int)==99)=false:=by simp;omega
 by_cases LG:nm=115
 ·have n115:((nm:Int)==115)=true:=by simp[LG]
  have HA:Hid (AF k nm s.data.toList=AA nm s.data.toList):=by
   show _=_;unfold AF;rw[if_neg Bk,if_neg Ed,if_neg (by omega),if_neg (by omega),if_pos (.inl LG)]
  have Bn:Hid (nm=115∨nm=121):=by show _∨_;omega
  clear Bk Ed YA MA im Tq au LG
  go_enter func148,ntmps148
  go_wp2_with fail
  refine(MO b nm cs s _ hs hb CF NN pU pV).mono ?_;rintro e w2 ⟨rfl,cs',qC,OM,ha',hv'⟩;have yP:Hid (AA nm s.data.toList=true→vB w.heap.size w2 nm s.data.toList cs cs'):=hv';have ud:=γ OM;clear hv' OM;generalize AA nm s.data.toList=lt at*;go_wp2;go_ret;exact⟨ι (by rw[HA.out]),cs',qC,ha',fun h=>OY.chg ud.out Bn.out (yP.out (by rw[←HA.out];exact h))⟩
 have n115:((nm:Int)==115)=false:=by simp;omega
 by_cases YE:nm=121
 ·have n121:((nm:Int)==121)=true:=by simp[YE]
  have HA:Hid (AF k nm s.data.toList=AA nm s.data.toList):=by
   show _=_;unfold AF;rw[if_neg Bk,if_neg Ed,if_neg (by omega),if_neg (by omega),if_pos (.inr YE)]
  have Bn:Hid (nm=115∨nm=121):=by show _∨_;omega
  clear Bk Ed YA MA im Tq au LG YE
  go_enter func148,ntmps148
  go_wp2_with fail
  refine(MO b nm cs s _ hs hb CF NN pU pV).mono ?_;rintro e w2 ⟨rfl,cs',qC,OM,ha',hv'⟩;have yP:Hid (AA nm s.data.toList=true→vB w.heap.size w2 nm s.data.toList cs cs'):=hv';have ud:=γ OM;clear hv' OM;generalize AA nm s.data.toList=lt at*;go_wp2;go_ret;exact⟨ι (by rw[HA.out]),cs',qC,ha',fun h=>OY.chg ud.out Bn.out (yP.out (by rw[←HA.out];exact h))⟩
 have n121:((nm:Int)==121)=false:=by simp;omega
 have HA:Hid (AF k nm s.data.toList=(EG nm Kr && em)):=by
  show _=_;unfold AF;rw[if_neg Bk,if_neg Ed,if_neg (by omega),if_neg (by omega),if_neg (by omega),rh.out];rfl
 have fx:Hid (∀lo w,OY lo w nm s cs cs):=fun lo w=>OY.same (by unfold Mt;omega) (by unfold labelled;simp;omega) LG YE
 clear Bk Ed YA MA im Tq au LG YE
 go_enter func148,ntmps148
 go_wp2_with fail
 refine(VM nm _ _ (by unfold maxLen;decide) NN).mono ?_;rintro e w2 ⟨rfl,rfl⟩;have e9:EG nm (ByteArray.mk #[112,100,68,80,110,78,104,72,103,71,120,113,61,123]).data.toList=EG nm Kr:=rfl;rw[e9];generalize EG nm Kr=lt at*;cases lt
 ·go_wp2
  go_ret;exact⟨ι (by rw[HA.out];rfl),cs,hb,Bi.refl _ _,fun _=>fx.out _ _⟩
 ·cases em
  all_goals
   go_wp2;go_ret;exact⟨ι (by rw[HA.out];rfl),cs,hb,Bi.refl _ _,fun _=>fx.out _ _⟩
def pln(nm:Nat):Bool:= !labelled nm && !(nm==97 || nm==105 || nm==99 || nm==115 || nm==121)
inductive MT(lo:Nat)(w:World)(cs:List Value)(s:ByteArray):Nat→List Value→Prop
 |plain (nm:Nat):pln nm=true→MT lo w cs s nm cs
 |mM (nm:Nat):labelled nm=true→MT lo w cs s nm (cs.set 13 (.int .u8 (Bv s.data.toList)))
 |txt (nm:Nat):nm=97∨nm=105∨nm=99→MT lo w cs s nm (cs.set 15 (.string s))
 |sub (cs':List Value):yl lo w cs cs' (FH s.data.toList)→MT lo w cs s 115 cs'
 |exc:MT lo w cs s 121 (cs.take 23++ [.string (NG (ET (CA s.data.toList).1)),.string (NG (ET (CA s.data.toList).2))])
def yw(b cn nm:Nat)(cs:List Value)(s:ByteArray)(w:World)(e:Ending)(w':World):Prop:=
 e= .returned (.bool (AF cn nm s.data.toList))∧∃cs',E4 w' b cs'∧(AF cn nm s.data.toList=true→MT w.heap.size w' cs s nm cs')∧Bi b w w'
theorem YI(b cn nm:Nat)(cs:List Value)(s:ByteArray)(w:World)(hs:s.size≤400)(Im:KN s)(hb:E4 w b cs)(IW:cs[0]? =some (.int .i64 cn))(CF:cs[12]? =some (.int .u8 nm))(NN:nm<256):
  Calls prog 132 #[.pointer (some ⟨b,0,none⟩),.string s] w fun e w'=>yw b cn nm cs s w e w':=by
 have c0:=hb.1.c 0 _ IW;have OU:=hb.1.c 12 _ CF;have hlen:=hb.2;obtain⟨fr,rf⟩ :∃fr,decide (cn=0)=fr:=⟨_,rfl⟩
 have ADM:((cn:Int)==0)=fr:=by rw[←rf,Bool.eq_iff_iff];simp
 obtain⟨em,hem⟩ :∃em,s.toList.isEmpty=em:=⟨_,rfl⟩
 have HFR:=γ rf;have rh:Hid (s.data.toList.isEmpty=em):=by show _=_;rw[sB];exact hem
 have Ce:=γ Im;have HB:=γ hb;have HK:=γ CF;have pW:=γ IW;clear rf Im hb CF IW
 by_cases Ht:nm=112∨nm=100∨nm=68∨nm=80∨nm=110∨nm=78∨nm=104∨nm=72∨nm=103∨nm=71∨nm=120∨nm=113∨nm=61∨nm=123
 ·have HA:Hid (AF cn nm s.data.toList=em):=by
   show _=_;rw[←rh.out];rcases Ht with rfl|rfl|rfl|rfl|rfl|rfl|rfl|rfl|rfl|rfl|rfl|rfl|rfl|rfl<;>rfl
  have Oa:Hid (pln nm=true):=by
   show _=_;rcases Ht with rfl|rfl|rfl|rfl|rfl|rfl|rfl|rfl|rfl|rfl|rfl|rfl|rfl|rfl<;>rfl
  rcases Ht with rfl|rfl|rfl|rfl|rfl|rfl|rfl|rfl|rfl|rfl|rfl|rfl|rfl|rfl
  all_goals
   go_enter func132,ntmps132
   cases em
   all_goals
    go_wp2;go_ret;exact⟨ι (by rw[HA.out]),cs,HB.out,fun _=> .plain _ Oa.out,Bi.refl _ _⟩
 by_cases Bk:nm=125
 ·subst Bk
  have HA:Hid (AF cn 125 s.data.toList=(fr && em)):=by show _=_;rw[←HFR.out,←rh.out];rfl
  go_enter func132,ntmps132
  cases em
  ·go_wp2
   go_ret;exact⟨ι (by rw[HA.out];cases fr<;>rfl),cs,HB.out,fun _=> .plain _ rfl,Bi.refl _ _⟩
  ·cases fr
   all_goals
    go_wp2;go_ret;exact⟨ι (by rw[HA.out];try rfl),cs,HB.out,fun _=> .plain _ rfl,Bi.refl _ _⟩
 by_cases Ed:nm=58
 ·subst Ed
  have HA:Hid (AF cn 58 s.data.toList=(fr && Cc s.data.toList)):=by show _=_;rw[←HFR.out];rfl
  obtain⟨Zh,Ro⟩ :=HB.out.1.get 13 (by omega);have f13:=HB.out.1.fz 13 (by omega);have jd:=Qu s.data.toList;have J9:=Qv s.data.toList;have Hs:E4 (w.setCell ⟨b,13,none⟩ (.int .u8 (Bv s.data.toList))) b (cs.set 13 (.int .u8 (Bv s.data.toList))):=⟨HB.out.1.set 13 (by omega) _ rfl,by rw[List.length_set];exact hlen⟩
  have MP:Bi b w (w.setCell ⟨b,13,none⟩ (.int .u8 (Bv s.data.toList))):=Bi.Aw (AQ.set _ _ _ _);have Xi:Hid (∀w',MT w.heap.size w' cs s 58 (cs.set 13 (.int .u8 (Bv s.data.toList)))):=fun _=> .mM 58 rfl
  have vM:=Hs.1.c 13 _ (by rw[List.getElem?_set_self (by omega)]);have ABX:=Hs.1.c 0 (.int .i64 cn) (by rw[List.getElem?_set_ne (by decide)];exact pW.out)
  go_enter func132,ntmps132
  go_wp2_with fail
  refine(IY s _ hs).mono ?_;rintro e wq ⟨rfl,JE⟩;rw[JE];clear JE;generalize Bv s.data.toList=lb at*;have Hc:=γ J9;clear J9
  by_cases hz:lb=0
  ·have CN:((lb:Int) !=0)=false:=by simp[hz]
   have XY:Hid (Cc s.data.toList=false):=by
    cases h9:Cc s.data.toList
    ·rfl
    ·exact absurd hz (Hc.out.2 h9)
   clear hz;go_wp2;go_ret;exact⟨ι (by rw[HA.out,XY.out];cases fr<;>rfl),_,Hs,fun _=>Xi.out _,MP⟩
  ·have CN:((lb:Int) !=0)=true:=by simp;omega
   have XY:=γ (Hc.out.1 hz);clear hz;cases fr
   all_goals
    go_wp2;go_ret
   ·exact⟨ι (by rw[HA.out];rfl),_,Hs,fun _=>Xi.out _,MP⟩
   ·exact⟨ι (by rw[HA.out,XY.out];rfl),_,Hs,fun _=>Xi.out _,MP⟩
 by_cases YA:nm=98
 ·subst YA
  have HA:Hid (AF cn 98 s.data.toList=(em || Cc s.data.toList)):=by show _=_;rw[←rh.out];rfl
  obtain⟨Zh,Ro⟩ :=HB.out.1.get 13 (by omega);have f13:=HB.out.1.fz 13 (by omega);have jd:=Qu s.data.toList;have J9:=Qv s.data.toList;have Hs:E4 (w.setCell ⟨b,13,none⟩ (.int .u8 (Bv s.data.toList))) b (cs.set 13 (.int .u8 (Bv s.data.toList))):=⟨HB.out.1.set 13 (by omega) _ rfl,by rw[List.length_set];exact hlen⟩
  have MP:Bi b w (w.setCell ⟨b,13,none⟩ (.int .u8 (Bv s.data.toList))):=Bi.Aw (AQ.set _ _ _ _);have Xi:Hid (∀w',MT w.heap.size w' cs s 98 (cs.set 13 (.int .u8 (Bv s.data.toList)))):=fun _=> .mM 98 rfl
  have vM:=Hs.1.c 13 _ (by rw[List.getElem?_set_self (by omega)]);have ABX:=Hs.1.c 0 (.int .i64 cn) (by rw[List.getElem?_set_ne (by decide)];exact pW.out)
  go_enter func132,ntmps132
  go_wp2_with fail
  refine(IY s _ hs).mono ?_;rintro e wq ⟨rfl,JE⟩;rw[JE];clear JE;generalize Bv s.data.toList=lb at*;have Hc:=γ J9;clear J9
  by_cases hz:lb=0
  ·have CN:((lb:Int) !=0)=false:=by simp[hz]
   have XY:Hid (Cc s.data.toList=false):=by
    cases h9:Cc s.data.toList
    ·rfl
    ·exact absurd hz (Hc.out.2 h9)
   clear hz;cases em
   all_goals
    go_wp2;go_ret
   ·exact⟨ι (by rw[HA.out,XY.out];rfl),_,Hs,fun _=>Xi.out _,MP⟩
   ·exact⟨ι (by rw[HA.out];rfl),_,Hs,fun _=>Xi.out _,MP⟩
  ·have CN:((lb:Int) !=0)=true:=by simp;omega
   have XY:=γ (Hc.out.1 hz);clear hz;go_wp2;go_ret;exact⟨ι (by rw[HA.out,XY.out];cases em<;>rfl),_,Hs,fun _=>Xi.out _,MP⟩
 by_cases MA:nm=116
 ·subst MA
  have HA:Hid (AF cn 116 s.data.toList=(em || Cc s.data.toList)):=by show _=_;rw[←rh.out];rfl
  obtain⟨Zh,Ro⟩ :=HB.out.1.get 13 (by omega);have f13:=HB.out.1.fz 13 (by omega);have jd:=Qu s.data.toList;have J9:=Qv s.data.toList;have Hs:E4 (w.setCell ⟨b,13,none⟩ (.int .u8 (Bv s.data.toList))) b (cs.set 13 (.int .u8 (Bv s.data.toList))):=⟨HB.out.1.set 13 (by omega) _ rfl,by rw[List.length_set];exact hlen⟩
  have MP:Bi b w (w.setCell ⟨b,13,none⟩ (.int .u8 (Bv s.data.toList))):=Bi.Aw (AQ.set _ _ _ _);have Xi:Hid (∀w',MT w.heap.size w' cs s 116 (cs.set 13 (.int .u8 (Bv s.data.toList)))):=fun _=> .mM 116 rfl
  have vM:=Hs.1.c 13 _ (by rw[List.getElem?_set_self (by omega)]);have ABX:=Hs.1.c 0 (.int .i64 cn) (by rw[List.getElem?_set_ne (by decide)];exact pW.out)
  go_enter func132,ntmps132
  go_wp2_with fail
  refine(IY s _ hs).mono ?_;rintro e wq ⟨rfl,JE⟩;rw[JE];clear JE;generalize Bv s.data.toList=lb at*;have Hc:=γ J9;clear J9
  by_cases hz:lb=0
  ·have CN:((lb:Int) !=0)=false:=by simp[hz]
   have XY:Hid (Cc s.data.toList=false):=by
    cases h9:Cc s.data.toList
    ·rfl
    ·exact absurd hz (Hc.out.2 h9)
   clear hz;cases em
   all_goals
    go_wp2;go_ret
   ·exact⟨ι (by rw[HA.out,XY.out];rfl),_,Hs,fun _=>Xi.out _,MP⟩
   ·exact⟨ι (by rw[HA.out];rfl),_,Hs,fun _=>Xi.out _,MP⟩
  ·have CN:((lb:Int) !=0)=true:=by simp;omega
   have XY:=γ (Hc.out.1 hz);clear hz;go_wp2;go_ret;exact⟨ι (by rw[HA.out,XY.out];cases em<;>rfl),_,Hs,fun _=>Xi.out _,MP⟩
 by_cases im:nm=97
 ·subst im
  have HA:Hid (AF cn 97 s.data.toList=true):=by show _=_;rfl
  obtain⟨v15,aM⟩ :=HB.out.1.get 15 (by omega);have f15:=HB.out.1.fz 15 (by omega);have Hs:E4 (w.setCell ⟨b,15,none⟩ (.string s)) b (cs.set 15 (.string s)):=⟨HB.out.1.set 15 (by omega) _ rfl,by rw[List.length_set];exact hlen⟩
  have MP:Bi b w (w.setCell ⟨b,15,none⟩ (.string s)):=Bi.Aw (AQ.set _ _ _ _)
  go_enter func132,ntmps132
  go_wp2;go_ret;exact⟨ι (by rw[HA.out]),_,Hs,fun _=> .txt _ (by decide),MP⟩
 by_cases Tq:nm=105
 ·subst Tq
  have HA:Hid (AF cn 105 s.data.toList=true):=by show _=_;rfl
  obtain⟨v15,aM⟩ :=HB.out.1.get 15 (by omega);have f15:=HB.out.1.fz 15 (by omega);have Hs:E4 (w.setCell ⟨b,15,none⟩ (.string s)) b (cs.set 15 (.string s)):=⟨HB.out.1.set 15 (by omega) _ rfl,by rw[List.length_set];exact hlen⟩
  have MP:Bi b w (w.setCell ⟨b,15,none⟩ (.string s)):=Bi.Aw (AQ.set _ _ _ _)
  go_enter func132,ntmps132
  go_wp2;go_ret;exact⟨ι (by rw[HA.out]),_,Hs,fun _=> .txt _ (by decide),MP⟩
 by_cases au:nm=99
 ·subst au
  have HA:Hid (AF cn 99 s.data.toList=true):=by show _=_;rfl
  obtain⟨v15,aM⟩ :=HB.out.1.get 15 (by omega);have f15:=HB.out.1.fz 15 (by omega);have Hs:E4 (w.setCell ⟨b,15,none⟩ (.string s)) b (cs.set 15 (.string s)):=⟨HB.out.1.set 15 (by omega) _ rfl,by rw[List.length_set];exact hlen⟩
  have MP:Bi b w (w.setCell ⟨b,15,none⟩ (.string s)):=Bi.Aw (AQ.set _ _ _ _)
  go_enter func132,ntmps132
  go_wp2;go_ret;exact⟨ι (by rw[HA.out]),_,Hs,fun _=> .txt _ (by decide),MP⟩
 by_cases LG:nm=115
 ·subst LG
  have HA:Hid (AF cn 115 s.data.toList=AA 115 s.data.toList):=by show _=_;rfl
  go_enter func132,ntmps132
  go_wp2_with fail
  refine(MC b cs s w hs Ce.out HB.out).mono ?_;rintro e w2 ⟨rfl,cs',qC,OM,ha'⟩;have HS':Hid (AA 115 s.data.toList=true→yl w.heap.size w2 cs cs' (FH s.data.toList)):=OM;have Hy:=γ HA.out;clear OM;generalize AA 115 s.data.toList=lt at HA⊢;go_wp2;go_ret;exact⟨ι (by rw[HA.out]),cs',qC,fun h=> .sub cs' (HS'.out (Hy.out.symm.trans h)),ha'⟩
 by_cases YE:nm=121
 ·subst YE
  have HA:Hid (AF cn 121 s.data.toList=AA 121 s.data.toList):=by show _=_;rfl
  go_enter func132,ntmps132
  go_wp2_with fail
  refine(QY b cs s w hs Ce.out HB.out).mono ?_;rintro e w2 ⟨rfl,cs',qC,OM,ha'⟩;have HS':Hid (AA 121 s.data.toList=true→cs'=cs.take 23++ [.string (NG (ET (CA s.data.toList).1)),.string (NG (ET (CA s.data.toList).2))]):=OM;have Hy:=γ HA.out;clear OM;generalize AA 121 s.data.toList=lt at HA⊢;go_wp2;go_ret;exact⟨ι (by rw[HA.out]),cs',qC,fun h=>by(rw[HS'.out (Hy.out.symm.trans h)];exact .exc),ha'⟩
 have HA:Hid (AF cn nm s.data.toList=false):=by
  show _=_;unfold AF;rw[if_neg Bk,if_neg Ed,if_neg (by omega),if_neg (by omega),if_neg (by omega)];have:Kr.any (fun d=>d.toNat==nm)=false:=by
   simp only[Kr,List.any_cons,List.any_nil,Bool.or_false];simp;omega
  rw[this];rfl
 have n112:((nm:Int)==112)=false:=by simp;omega
 have n100:((nm:Int)==100)=false:=by simp;omega
 have n68:((nm:Int)==68)=false:=by simp;omega
 have n80:((nm:Int)==80)=false:=by simp;omega
 have n110:((nm:Int)==110)=false:=by simp;omega
 have n78:((nm:Int)==78)=false:=by simp;omega
 have n104:((nm:Int)==104)=false:=by simp;omega
 have n72:((nm:Int)==72)=false:=by simp;omega
 have n103:((nm:Int)==103)=false:=by simp;omega
 have n71:((nm:Int)==71)=false:=by simp;omega
 have n120:((nm:Int)==120)=false:=by simp;omega
 have n113:((nm:Int)==113)=false:=by simp;omega
 have n61:((nm:Int)==61)=false:=by simp;omega
 have n123:((nm:Int)==123)=false:=by simp;omega
 have n125:((nm:Int)==125)=false:=by simp;omega
 have n58:((nm:Int)==58)=false:=by simp;omega
 have n98:((nm:Int)==98)=false:=by simp;omega
 have n116:((nm:Int)==116)=false:=by simp;omega
 have n97:((nm:Int)==97)=false:=by simp;omega
 have n105:((nm:Int)==105)=false:=by simp;omega
 have n99:((nm:Int)==99)=false:=by simp;omega
 have n115:((nm:Int)==115)=false:=by simp;omega
 have n121:((nm:Int)==121)=false:=by simp;omega
 clear Ht Bk Ed YA MA im Tq au LG YE
 go_enter func132,ntmps132
 go_wp2;go_ret;exact⟨ι (by rw[HA.out]),cs,HB.out,fun h=>by(rw[HA.out]at h;cases h),Bi.refl _ _⟩
theorem Hk:EE 148 25:=⟨⟨_,underlying148,rfl⟩,by kernel_rfl⟩
def P1:List Value:= [.int .i64 0,.int .i64 0,.int .i64 0,.bool false,.bool false,.slice none 0 0,.int .i64 0,.int .i64 0,.bool false,.bool false,.slice none 0 0,.bool false,.int .u8 0,.int .u8 0,.int .i64 0,.string ⟨#[]⟩,.bool false,.bool false,.slice none 0 0,.slice none 0 0,.int .i64 0,.bool false,.bool false,.string ⟨#[]⟩,.string ⟨#[]⟩]
theorem Jx:∀v∈P1,v.oneCell'=true:=by decide
theorem bD{op:Oper}{a:Act}{w:World}{K:Act→World→Prop}{Q:Exit→Act→World→Prop}{g n:Nat}{cs vs:List Value}{T:TypeId}(hT:EE T n)(hb:CB w g cs)(S8:cs.length=n)(x y:Operand)(ho:op.op= .store T x y)(hx:a.eval x= .pointer (some ⟨g,0,none⟩))(hy:a.eval y= .agg vs.toArray)(hl:vs.length=n)(h1:∀v∈vs,v.oneCell'=true)
  (h:∀w',CB w' g vs→AQ g w w'→K (a.put op.dst undef) w'):op.wp prog a w K Q:=by
 subst hl;obtain⟨_,hi⟩ :=hT;have hc:=hb.store 0 vs (by omega) h1;rw[List.take_zero,List.nil_append,List.drop_of_length_le (by omega),List.append_nil]at hc;exact wp_store_mid T x y ho g 0 vs.toArray hx hy (by rw[List.size_toArray];exact hb.there 0 vs.length (by omega)) (by rw[List.size_toArray];exact hi) (all_oneCell_toArray h1) (h _ hc (AQ.setCells g 0 vs w))
end Go.Proofs.YtlppphmnegdhoabGreatDoor
