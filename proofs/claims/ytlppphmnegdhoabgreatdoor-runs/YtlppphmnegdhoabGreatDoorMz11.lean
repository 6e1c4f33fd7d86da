import Derived.Deep.RegionWith
import Derived.Test.YtlppphmnegdhoabGreatDoorMz10
set_option linter.unusedVariables false
set_option maxRecDepth 100000
set_option maxHeartbeats 8000000
namespace Go.Proofs.YtlppphmnegdhoabGreatDoor
open Go.Proofs.Tryz
open Go.RowKit
open M
structure GJ(w:World)(a:Option Addr)(L:List (Nat×List UInt8)):Prop where
 small:L.length≤8192
 cells:∀i(h:i<L.length),∃g,a=some ⟨g,0,none⟩∧g<w.heap.size∧w.cell? ⟨g,i*23+11,none⟩ =some (.int .u8 L[i].1)∧L[i].1<256∧∃t:ByteArray,w.cell? ⟨g,i*23+13,none⟩ =some (.string t)∧t.data.toList=L[i].2
def L9:Option Nat→Int
 |none=> -1
 |some r=>(r:Int)
theorem mF(x:Nat×List UInt8)(t:List (Nat×List UInt8))(d:Nat):LZ (x::t) d=if x.1=123 then LZ t (d+1)else if x.1=125 then(if d=1 then true else LZ t (d - 1))else LZ t d:=by
 obtain⟨n,s⟩ :=x;rw[LZ]
def rL(R:Bool)(w:World)(e:Ending)(w':World):Prop:=(∃r:Int,e= .returned (.int .i64 r)∧(R=true→0≤r)∧(R=false→r= -1))∧w'=w
theorem mG(t s:ByteArray):(t.toList==s.toList)=(t.data.toList==s.data.toList):=by rw[ByteArray.toList_eq,ByteArray.toList_eq]
theorem IB(a:Option Addr)(c:Nat)(L:List (Nat×List UInt8))(s:ByteArray)(w:World)(hL:GJ w a L):
  Calls prog 150 #[.slice a L.length c,.string s] w fun e w'=>e= .returned (.int .i64 (L9 (BD L s.data.toList)))∧w'=w:=by
 have FV:=hL.small;obtain⟨n,hn⟩ :∃n,L.length=n:=⟨_,rfl⟩
 have HN:=γ hn;rw[hn]at FV⊢;clear hn;have HC:Hid (∀i(h:i<L.length),∃g,a=some ⟨g,0,none⟩∧g<w.heap.size∧w.cell? ⟨g,i*23+11,none⟩ =some (.int .u8 L[i].1)∧L[i].1<256∧∃t:ByteArray,w.cell? ⟨g,i*23+13,none⟩ =some (.string t)∧t.data.toList=L[i].2):=hL.cells;clear hL
 go_enter func150,ntmps150
 go_wp2
 go_loop [5] (fun v=>∃i:Nat,i≤n∧v= .int .i64 i∧Hid (BD L s.data.toList=(BD (L.drop i) s.data.toList).map (· +i))) (fun v=>n - (intOf v).toNat)
 case atStart=>
  refine⟨0,ε,rfl,?_⟩;show _=_;rw[List.drop_zero];cases BD L s.data.toList<;>rfl
 case round=>
  obtain⟨i,hi,rfl,mH⟩ :=hrel
  by_cases Ac:i<n
  ·have AV:(i:Int)<(n:Int):=by omega
   have h0:(0:Int)≤(i:Int):=by omega
   have BN:i<L.length:=by rw[HN.out];exact Ac
   obtain⟨g,rfl,hg,E2,CF,t,Ro,ht⟩ :=HC.out i BN;have HD:Hid (L.drop i=L[i]::L.drop (i+1)):=by show _=_;exact List.drop_eq_getElem_cons BN
   obtain⟨nm,Ib⟩ :∃x,L[i].1=x:=⟨_,rfl⟩
   rw[Ib]at E2 CF
   by_cases Ed:nm=58
   ·have Vg:((nm:Int)==58)=true:=by simp[Ed]
    by_cases hs:t.data.toList=s.data.toList
    ·have CE:(t.toList==s.toList)=true:=by rw[mG];simpa using hs
     have HF:Hid (BD L s.data.toList=some (1+i)):=by
      show _=_;rw[mH.out,HD.out];show((if L[i].1=58∧L[i].2=s.data.toList then some 1 else(BD (L.drop (i+1)) s.data.toList).map (· +1))).map (· +i)=_;rw[if_pos ⟨by rw[Ib];exact Ed,by rw[←ht];exact hs⟩];rfl
     clear Ed hs mH Ib ht;go_wp2;go_ret;refine⟨?_,rfl⟩;rw[HF.out];show _=Ending.returned (.int .i64 (((1+i:Nat)):Int));simp;omega
    ·have CE:(t.toList==s.toList)=false:=by rw[mG];simpa using hs
     have HF:Hid (BD L s.data.toList=(BD (L.drop (i+1)) s.data.toList).map (· +(i+1))):=by
      show _=_;rw[mH.out,HD.out];show((if L[i].1=58∧L[i].2=s.data.toList then some 1 else(BD (L.drop (i+1)) s.data.toList).map (· +1))).map (· +i)=_;rw[if_neg (fun h=>hs (by rw[ht];exact h.2))];cases BD (L.drop (i+1)) s.data.toList with
      |none=>rfl
      |some r=>simp;omega
     clear Ed hs mH Ib ht;go_wp2
     go_round
     case rel=>exact⟨i+1,by omega,by go_num,HF.out⟩
     case measure=>simp[intOf]<;>omega
   ·have Vg:((nm:Int)==58)=false:=by simp;omega
    have HF:Hid (BD L s.data.toList=(BD (L.drop (i+1)) s.data.toList).map (· +(i+1))):=by
     show _=_;rw[mH.out,HD.out];show((if L[i].1=58∧L[i].2=s.data.toList then some 1 else(BD (L.drop (i+1)) s.data.toList).map (· +1))).map (· +i)=_;rw[if_neg (fun h=>Ed (by rw[←Ib];exact h.1))];cases BD (L.drop (i+1)) s.data.toList with
     |none=>rfl
     |some r=>simp;omega
    clear Ed mH Ib ht;go_wp2
    go_round
    case rel=>exact⟨i+1,by omega,by go_num,HF.out⟩
    case measure=>simp[intOf]<;>omega
  ·obtain rfl:i=n:=by omega
   have HF:Hid (BD L s.data.toList=none):=by
    show _=_;rw[mH.out,List.drop_of_length_le (by rw[HN.out];exact δ)];rfl
   clear mH;go_wp2;go_ret;refine⟨?_,rfl⟩;rw[HF.out];rfl
theorem Vh(a:Option Addr)(c p:Nat)(L:List (Nat×List UInt8))(w:World)(hL:GJ w a L)(hp:p<L.length)(R0:L[p].1=123):
  Calls prog 149 #[.slice a L.length c,.int .i64 p] w fun e w'=>rL (LZ (L.drop (p+1)) 1) w e w':=by
 have FV:=hL.small;obtain⟨n,hn⟩ :∃n,L.length=n:=⟨_,rfl⟩
 have HN:=γ hn;have HP:=γ R0;have hpn:p<n:=by omega
 rw[hn]at FV⊢;clear hn R0;have HC:Hid (∀i(h:i<L.length),∃g,a=some ⟨g,0,none⟩∧g<w.heap.size∧w.cell? ⟨g,i*23+11,none⟩ =some (.int .u8 L[i].1)∧L[i].1<256∧∃t:ByteArray,w.cell? ⟨g,i*23+13,none⟩ =some (.string t)∧t.data.toList=L[i].2):=hL.cells;clear hL;obtain⟨R,hR⟩ :∃R,LZ (L.drop (p+1)) 1=R:=⟨_,rfl⟩
 rw[hR];have HR:=γ hR;clear hR
 go_enter func149,ntmps149
 go_wp2
 go_loop [5,6] (fun v5 v6=>∃i d:Nat,i≤n∧v6= .int .i64 i∧v5= .int .i64 d∧d≤i∧Hid ((i=p∧d=0)∨(p<i∧1≤d∧LZ (L.drop i) d=R))) (fun _ v6=>n - (intOf v6).toNat)
 case atStart=>exact⟨p,0,by omega,rfl,rfl,by omega,.inl ⟨rfl,rfl⟩⟩
 case round=>
  obtain⟨i,d,hi,rfl,rfl,hdi,HS⟩ :=hrel
  by_cases Ac:i<n
  ·have AV:(i:Int)<(n:Int):=by omega
   have h0:(0:Int)≤(i:Int):=by omega
   have BN:i<L.length:=by rw[HN.out];exact Ac
   obtain⟨g,rfl,hg,E2,CF,t,Ro,ht⟩ :=HC.out i BN;have HD:Hid (L.drop i=L[i]::L.drop (i+1)):=by show _=_;exact List.drop_eq_getElem_cons BN
   obtain⟨nm,Ib⟩ :∃x,L[i].1=x:=⟨_,rfl⟩
   rw[Ib]at E2 CF;have CR:Hid (1≤d→LZ (L.drop i) d=R→(if nm=123 then LZ (L.drop (i+1)) (d+1)else if nm=125 then(if d=1 then true else LZ (L.drop (i+1)) (d - 1))else LZ (L.drop (i+1)) d)=R):=fun _ h=>by
    rw[HD.out,mF,Ib]at h;exact h
   have Vi:Hid (i=p→nm=123):=fun h=>by rw[←Ib];subst h;exact HP.out
   clear ht Ro Ib
   by_cases BV:nm=123
   ·have R7:((nm:Int)==123)=true:=by simp[BV]
    have Ny:((nm:Int)==125)=false:=by simp[BV]
    have h3:((d:Int)+1==0)=false:=by simp;omega
    have ER:Hid (p<i+1∧1≤d+1∧LZ (L.drop (i+1)) (d+1)=R):=by
     rcases HS.out with⟨rfl,rfl⟩ | ⟨e1,e2,e3⟩
     ·exact⟨by omega,by omega,HR.out⟩
     ·have:=CR.out e2 e3
      rw[if_pos BV]at this;exact⟨by omega,by omega,this⟩
    clear BV HS CR Vi;go_wp2
    go_round
    case rel=>exact⟨i+1,d+1,by omega,by go_num,by go_num,by omega,.inr ER.out⟩
    case measure=>simp[intOf]<;>omega
   ·have R7:((nm:Int)==123)=false:=by simp;omega
    have Gc:Hid (p<i∧1≤d∧LZ (L.drop i) d=R):=by
     rcases HS.out with⟨e,_⟩ |h
     ·exact absurd (Vi.out e) BV
     ·exact h
    by_cases Bk:nm=125
    ·have Ny:((nm:Int)==125)=true:=by simp[Bk]
     by_cases OX:d=1
     ·have EA:Hid (R=true):=by
       have:=CR.out Gc.out.2.1 Gc.out.2.2;rw[if_neg BV,if_pos Bk,if_pos OX]at this;exact this.symm
      subst OX;clear BV Bk HS CR Vi Gc;go_wp2;go_ret;exact⟨⟨_,rfl,fun _=>by omega,fun h=>by rw[EA.out]at h;cases h⟩,rfl⟩
     ·have ER:Hid (p<i+1∧1≤d - 1∧LZ (L.drop (i+1)) (d - 1)=R):=by
       have:=CR.out Gc.out.2.1 Gc.out.2.2;rw[if_neg BV,if_pos Bk,if_neg OX]at this;exact⟨by have:=Gc.out.1;omega,by have:=Gc.out.2.1;omega,this⟩
      obtain⟨d',rfl⟩ :∃d',d=d'+2:=⟨d - 2,by have:=Gc.out.2.1;omega⟩
      have e9:((d'+2:Nat):Int) - 1=((d'+1:Nat):Int):=by omega
      have h3:(((d'+1:Nat):Int)==0)=false:=by simp;omega
      clear BV Bk HS CR Vi Gc OX;go_wp2
      go_round
      case rel=>exact⟨i+1,d'+1,by omega,by go_num,by first|go_num| (congr 1;omega) | (simp;omega),by omega,.inr ER.out⟩
      case measure=>simp[intOf]<;>omega
    ·have Ny:((nm:Int)==125)=false:=by simp;omega
     have ER:Hid (p<i+1∧1≤d∧LZ (L.drop (i+1)) d=R):=by
      have:=CR.out Gc.out.2.1 Gc.out.2.2;rw[if_neg BV,if_neg Bk]at this;exact⟨by have:=Gc.out.1;omega,Gc.out.2.1,this⟩
     have h3:((d:Int)==0)=false:=by have:=Gc.out.2.1;simp;omega
     clear BV Bk HS CR Vi Gc;go_wp2
     go_round
     case rel=>exact⟨i+1,d,by omega,by go_num,rfl,by omega,.inr ER.out⟩
     case measure=>simp[intOf]<;>omega
  ·obtain rfl:i=n:=by omega
   have EA:Hid (R=false):=by
    show _=_;rcases HS.out with⟨e,_⟩ | ⟨_,_,h⟩
    ·omega
    ·rw[List.drop_of_length_le (by rw[HN.out];exact δ)]at h
     exact h.symm
   clear HS;go_wp2;go_ret;exact⟨⟨-1,rfl,fun h=>(by rw[EA.out]at h;cases h),fun _=>rfl⟩,rfl⟩
theorem fo(x:Nat×List UInt8)(t:List (Nat×List UInt8))(d:Nat):Fi (x::t) d=if x.1=123 then LZ t 1 && Fi t (d+1)else if x.1=125 then(if d=0 then false else Fi t (d - 1))else Fi t d:=by
 obtain⟨n,s⟩ :=x;rw[Fi]
def IC(L:List (Nat×List UInt8))(i:Nat)(h:i<L.length):Prop:=(L[i].1=58→BD L L[i].2=some (i+1))∧(L[i].1=98∨L[i].1=116→L[i].2≠ []→BD L L[i].2≠none)
theorem Ju(L:List (Nat×List UInt8)):Cd L↔Fi L 0=true∧∀i(h:i<L.length),IC L i h:=by
 unfold Cd;rw[kG];simp only[beq_self_eq_true,Bool.true_or,Bool.and_true]
 rfl
def yI(L:List (Nat×List UInt8))(w:World)(e:Ending)(w':World):Prop:=(∃r:Bool,e= .returned (.bool r)∧(r=true↔Cd L))∧w'=w
theorem dN(o:Option Nat):L9 o<0↔o=none:=by
 cases o with
 |none=>simp[L9]
 |some r=>simp[L9]
theorem rM(o:Option Nat)(i:Nat):L9 o=(i:Int)+1↔o=some (i+1):=by
 cases o with
 |none=>simp[L9];omega
 |some r=>simp[L9];omega
theorem Vj(a:Option Addr)(c:Nat)(L:List (Nat×List UInt8))(w:World)(hL:GJ w a L):
  Calls prog 110 #[.slice a L.length c] w fun e w'=>yI L w e w':=by
 have FV:=hL.small;obtain⟨n,hn⟩ :∃n,L.length=n:=⟨_,rfl⟩
 have HN:=γ hn;have HL:=γ hL;rw[hn]at FV⊢;clear hn;have HC:Hid (∀i(h:i<L.length),∃g,a=some ⟨g,0,none⟩∧g<w.heap.size∧w.cell? ⟨g,i*23+11,none⟩ =some (.int .u8 L[i].1)∧L[i].1<256∧∃t:ByteArray,w.cell? ⟨g,i*23+13,none⟩ =some (.string t)∧t.data.toList=L[i].2):=hL.cells;clear hL
 go_enter func110,ntmps110
 go_wp2
 go_loop [3,4] (fun v3 v4=>∃i d:Nat,i≤n∧d≤i∧v4= .int .i64 i∧v3= .int .i64 d∧Hid (Fi L 0=Fi (L.drop i) d)∧Hid (∀j(h:j<L.length),j<i→IC L j h)) (fun _ v4=>n - (intOf v4).toNat)
 case atStart=>exact⟨0,0,ε,ε,rfl,rfl,by show _=_;rw[List.drop_zero],fun _ _ h=>by omega⟩
 case round=>
  obtain⟨i,d,hi,hdi,rfl,rfl,HB,HJ⟩ :=hrel
  by_cases Ac:i<n
  ·have AV:(i:Int)<(n:Int):=by omega
   have h0:(0:Int)≤(i:Int):=by omega
   have BN:i<L.length:=by rw[HN.out];exact Ac
   obtain⟨g,rfl,hg,E2,CF,t,Ro,ht⟩ :=HC.out i BN;obtain⟨nm,Ib⟩ :∃x,L[i].1=x:=⟨_,rfl⟩
   rw[Ib]at E2 CF;have GC:Hid (Fi L 0=if nm=123 then LZ (L.drop (i+1)) 1 && Fi (L.drop (i+1)) (d+1)else if nm=125 then(if d=0 then false else Fi (L.drop (i+1)) (d - 1))else Fi (L.drop (i+1)) d):=by
    show _=_;rw[HB.out,List.drop_eq_getElem_cons BN,fo,Ib]
   have HT:=γ ht;have Bn:=γ Ib;have TH:Hid (IC L i BN→∀j(h:j<L.length),j<i+1→IC L j h):=fun hl j h hj=>by
    by_cases e:j=i
    ·subst e;exact hl
    ·exact HJ.out j h (by omega)
   have Pz:Hid (¬IC L i BN→¬Cd L):=fun h hk=>h (((Ju L).1 hk).2 i BN)
   have ic:Hid (Fi L 0=false→¬Cd L):=fun h hk=>by rw[((Ju L).1 hk).1]at h;cases h
   clear ht Ib HB HJ
   by_cases BV:nm=123
   ·have R7:((nm:Int)==123)=true:=by simp[BV]
    have Lg:Hid (Fi L 0=(LZ (L.drop (i+1)) 1 && Fi (L.drop (i+1)) (d+1))):=by show _=_;rw[GC.out,if_pos BV]
    have Tp:Hid (IC L i BN):=⟨fun h=>by have:=Bn.out;omega,fun h=>by have:=Bn.out;omega⟩
    have HP:Hid (L[i].1=123):=by show _=_;rw[Bn.out];exact BV
    clear BV GC
    go_wp2_with fail
    have HCB:=Vh _ c i L w HL.out BN HP.out;rw[HN.out]at HCB;refine HCB.mono ?_;clear HCB;rintro e w2 ⟨⟨r,rfl,RU,LV⟩,rfl⟩;cases DL:LZ (L.drop (i+1)) 1
    ·have hr:=LV DL
     subst hr;have HF:Hid (¬Cd L):=ic.out (by rw[Lg.out,DL];rfl);clear RU LV DL;go_wp2;go_ret;exact⟨⟨false,rfl,⟨fun h=>Bool.noConfusion h,fun h=>absurd h HF.out⟩⟩,rfl⟩
    ·have hr:=RU DL
     have Nf:¬r<0:=by omega
     have ZQ:Hid (Fi L 0=Fi (L.drop (i+1)) (d+1)):=by show _=_;rw[Lg.out,DL];rfl
     clear RU LV DL Lg;go_wp2
     go_round
     case rel=>exact⟨i+1,d+1,by omega,by omega,by go_num,by go_num,ZQ.out,TH.out Tp.out⟩
     case measure=>simp[intOf]<;>omega
   have R7:((nm:Int)==123)=false:=by simp;omega
   by_cases Bk:nm=125
   ·have Ny:((nm:Int)==125)=true:=by simp[Bk]
    have Tp:Hid (IC L i BN):=⟨fun h=>by have:=Bn.out;omega,fun h=>by have:=Bn.out;omega⟩
    by_cases hd:d=0
    ·have HF:Hid (¬Cd L):=ic.out (by rw[GC.out,if_neg BV,if_pos Bk,if_pos hd])
     subst hd;clear BV Bk GC;go_wp2;go_ret;exact⟨⟨false,rfl,⟨fun h=>Bool.noConfusion h,fun h=>absurd h HF.out⟩⟩,rfl⟩
    ·have ZQ:Hid (Fi L 0=Fi (L.drop (i+1)) (d - 1)):=by show _=_;rw[GC.out,if_neg BV,if_pos Bk,if_neg hd]
     obtain⟨d',rfl⟩ :∃d',d=d'+1:=⟨d - 1,by omega⟩
     have hd3:¬(d':Int)<0:=by omega
     clear BV Bk GC hd;go_wp2
     go_round
     case rel=>exact⟨i+1,d',by omega,by omega,by go_num,by first|go_num| (congr 1;omega) | (simp;omega),ZQ.out,TH.out Tp.out⟩
     case measure=>simp[intOf]<;>omega
   have Ny:((nm:Int)==125)=false:=by simp;omega
   have ZQ:Hid (Fi L 0=Fi (L.drop (i+1)) d):=by show _=_;rw[GC.out,if_neg BV,if_neg Bk]
   clear GC
   by_cases Ed:nm=58
   ·have Vg:((nm:Int)==58)=true:=by simp[Ed]
    have OS:Hid (IC L i BN↔BD L t.data.toList=some (i+1)):=by
     rw[HT.out];refine⟨fun h=>h.1 (by rw[Bn.out];exact Ed),fun h=>⟨fun _=>h,fun h2=>by have:=Bn.out;omega⟩⟩
    clear Ed BV Bk
    go_wp2_with fail
    have Ms:=IB _ c L t w HL.out;rw[HN.out]at Ms;refine Ms.mono ?_;clear Ms;rintro e w2 ⟨rfl,rfl⟩;have HQ:=rM (BD L t.data.toList) i;generalize L9 (BD L t.data.toList)=r at*
    by_cases hr:r=(i:Int)+1
    ·have RU:(r !=(i:Int)+1)=false:=by simp[hr]
     have Tp:=γ (OS.out.2 (HQ.1 hr));clear hr HQ OS;go_wp2
     go_round
     case rel=>exact⟨i+1,d,by omega,by omega,by go_num,rfl,ZQ.out,TH.out Tp.out⟩
     case measure=>simp[intOf]<;>omega
    ·have RU:(r !=(i:Int)+1)=true:=by simp;omega
     have HF:Hid (¬Cd L):=Pz.out (fun h=>hr (HQ.2 (OS.out.1 h)));clear hr HQ OS;go_wp2;go_ret;exact⟨⟨false,rfl,⟨fun h=>Bool.noConfusion h,fun h=>absurd h HF.out⟩⟩,rfl⟩
   have Vg:((nm:Int)==58)=false:=by simp;omega
   by_cases Io:nm=98∨nm=116
   ·have OS:Hid (IC L i BN↔(t.data.toList≠ []→BD L t.data.toList≠none)):=by
     rw[HT.out];refine⟨fun h=>h.2 (by rw[Bn.out];exact Io),fun h=>⟨fun h2=>by have:=Bn.out;omega,fun _=>h⟩⟩
    have EK:(((nm:Int)==98)=true)∨(((nm:Int)==98)=false∧((nm:Int)==116)=true):=by
     rcases Io with h|h
     ·exact .inl (by simp[h])
     ·exact .inr (by simp[h])
    clear Io Ed BV Bk;cases hte:t.toList.isEmpty
    ·have HTE:Hid (t.data.toList≠ []):=fun h=>by rw[ByteArray.toList_eq,h]at hte;cases hte
     rcases EK with ho| ⟨yJ,ie⟩
     all_goals
      go_wp2_with fail
      have Ms:=IB _ c L t w HL.out;rw[HN.out]at Ms;refine Ms.mono ?_;clear Ms;rintro e w2 ⟨rfl,rfl⟩;have HQ:=dN (BD L t.data.toList);generalize L9 (BD L t.data.toList)=r at*
      by_cases hr:r<0
      ·have HF:Hid (¬Cd L):=Pz.out (fun h=>OS.out.1 h HTE.out (HQ.1 hr))
       clear HQ OS;go_wp2;go_ret;exact⟨⟨false,rfl,⟨fun h=>Bool.noConfusion h,fun h=>absurd h HF.out⟩⟩,rfl⟩
      ·have Tp:Hid (IC L i BN):=OS.out.2 (fun _ h=>hr (HQ.2 h))
       clear HQ OS;go_wp2
       go_round
       case rel=>exact⟨i+1,d,by omega,by omega,by go_num,rfl,ZQ.out,TH.out Tp.out⟩
       case measure=>simp[intOf]<;>omega
    ·have Tp:Hid (IC L i BN):=OS.out.2 (fun h=>absurd (by rw[ByteArray.toList_eq,List.isEmpty_iff]at hte;exact hte) h)
     clear OS;rcases EK with ho| ⟨yJ,ie⟩
     all_goals
      go_wp2
      go_round
      case rel=>exact⟨i+1,d,by omega,by omega,by go_num,rfl,ZQ.out,TH.out Tp.out⟩
      case measure=>simp[intOf]<;>omega
   have YA:((nm:Int)==98)=false:=by simp;omega
   have MA:((nm:Int)==116)=false:=by simp;omega
   have Tp:Hid (IC L i BN):=⟨fun h=>by have:=Bn.out;omega,fun h=>by have:=Bn.out;omega⟩
   clear Io Ed BV Bk;go_wp2
   go_round
   case rel=>exact⟨i+1,d,by omega,by omega,by go_num,rfl,ZQ.out,TH.out Tp.out⟩
   case measure=>simp[intOf]<;>omega
  ·obtain rfl:i=n:=by omega
   have HF:Hid (Cd L):=(Ju L).2 ⟨by rw[HB.out,List.drop_of_length_le (by rw[HN.out];exact δ)];rfl,fun j h=>HJ.out j h (by rw[HN.out]at h;exact h)⟩;clear HB HJ;go_wp2;go_ret;exact⟨⟨true,rfl,⟨fun _=>HF.out,fun _=>rfl⟩⟩,rfl⟩
theorem Ul(hd tl:Bool)(l:List It)(s:List UInt8)(j p:Nat)(hj:j≤s.length)(h:hd=false∨p=0):FX tl l s j 0 p=AP ⟨hd,tl,l⟩ s p j:=by
 unfold FX AP;rw[List.drop_zero];have e1:decide (j≤s.length)=true:=decide_eq_true hj;have e2:(!hd || decide (p=0))=true:=by rcases h with h|h<;>simp[h]
 simp only[e1,e2,Bool.and_true,Bool.and_assoc]
def nQ(x:Ex)(s:ByteArray)(j:Nat)(w w':World)(e:Ending):Prop:=
 ∃g,e= .returned (.slice (some ⟨g,0,none⟩) (s.size+1) (s.size+1))∧w.heap.size≤g∧Cr w' g (s.size+1) (fun p=>AP x s.data.toList p j)∧Below w.heap.size w w'
structure FB(b:Nat)(w:World)(hd tl:Bool)(v:Value):Prop where
 c0:w.cell? ⟨b,0,none⟩ =some (.bool hd)
 c1:w.cell? ⟨b,1,none⟩ =some (.bool tl)
 c2:w.cell? ⟨b,2,none⟩ =some v
 lt:b<w.heap.size
theorem FB.keep{b:Nat}{w w':World}{hd tl:Bool}{v:Value}(e:FB b w hd tl v)(hk:w'.heap[b]? =w.heap[b]?)(hs:w.heap.size≤w'.heap.size):FB b w' hd tl v:=by
 have hc:∀o,w'.cell? ⟨b,o,none⟩ =w.cell? ⟨b,o,none⟩ :=fun o=>World.cell?_of_block hk
 exact⟨(hc _).trans e.c0,(hc _).trans e.c1,(hc _).trans e.c2,by have:=e.lt;omega⟩
theorem FB.below{b B:Nat}{w w':World}{hd tl:Bool}{v:Value}(e:FB b w hd tl v)(hb:Below B w w')(h:b<B):FB b w' hd tl v:=e.keep (hb.block b h) hb.size
theorem FB.Rq{b:Nat}{w:World}{hd tl:Bool}{v:Value}(e:FB b w hd tl v){a:Addr}(ha:b≠a.block)(u:Value):FB b (w.setCell a u) hd tl v:=
 e.keep (heap_setCell_other _ _ _ _ ha) (by simp)
theorem WD(hd tl:Bool)(a:Option Addr)(n c:Nat)(L:List IV)(s:ByteArray)(j:Nat)(w:World)(hn:n=L.length)(Dz:Gh w a L)(hL:L.length≤8192)(hs:s.size≤256)(hj:j≤s.size):
  Calls prog 146 #[.agg #[.bool hd,.bool tl,.slice a n c],.string s,.int .i64 j] w fun e w'=>nQ ⟨hd,tl,L.map IV.it⟩ s j w w' e:=by
 subst hn;obtain⟨i0,hi,DF,CN,Dq⟩ :=info_parts Xp;have Tl:∀u:World,(Instr.makeSlice 79 (.int .i64 ((s.size:Int)+1)) (.int .i64 ((s.size:Int)+1))).run prog u=
   .ok (.slice (some ⟨u.heap.size,0,none⟩) (s.size+1) (s.size+1)) (u.alloc (.cells (madeCells (Value.bool false).cells (s.size+1)) 4)):=fun u=>by
  have h:=run_make (P:=prog) u 79 4 i0 (.bool false) Xq hi DF .i64 .i64 ((s.size:Int)+1) ((s.size:Int)+1) (by omega) (Int.le_refl _) (by rw[Dq];omega) (by omega);have e:((s.size:Int)+1).toNat=s.size+1:=by omega
  rw[e,CN,Nat.mul_one]at h;exact h
 have fh:∀u:World,Cr (u.alloc (.cells (madeCells (Value.bool false).cells (s.size+1)) 4)) u.heap.size (s.size+1) (fun _=>false):=fun u=>ks u _
 generalize madeCells (Value.bool false).cells (s.size+1)=cur at*;have uk:Hid (∀u:World,Cr (u.alloc (.cells cur 4)) u.heap.size (s.size+1) (fun _=>false)):=fh;have hj1:(j:Int)<(s.size:Int)+1:=by omega
 have hl:=Δ s;have Hc:=γ hl;have HLM:Hid ((L.map IV.it).length=L.length):=by show _=_;simp
 clear fh hl
 go_enter func146,ntmps146
 go_upto_region 2 with fail
 have KF:=uk.out (w.alloc (.cells #[.bool hd,.bool tl,.slice a L.length c] 169));have bO:FB w.heap.size ((w.alloc (.cells #[.bool hd,.bool tl,.slice a L.length c] 169)).alloc (.cells cur 4)) hd tl (.slice a L.length c):=by
  constructor<;>simp[go_sem]
 have nR:Below w.heap.size w ((w.alloc (.cells #[.bool hd,.bool tl,.slice a L.length c] 169)).alloc (.cells cur 4)):=(ζ.alloc δ _).alloc (by simp) _;have e0:(w.alloc (.cells #[.bool hd,.bool tl,.slice a L.length c] 169)).heap.size=w.heap.size+1:=by simp
 rw[e0]at KF;generalize((w.alloc (.cells #[.bool hd,.bool tl,.slice a L.length c] 169)).alloc (.cells cur 4))=W at KF bO nR⊢;clear e0
 go_cut [] (fun wx=>Cr wx (w.heap.size+1) (s.size+1) (FX tl (L.map IV.it) s.data.toList j (L.map IV.it).length)∧FB w.heap.size wx hd tl (.slice a L.length c)∧Below w.heap.size w wx)
 case first=>
  have c0:=KF.c j (by omega);have f0:=KF.fz j (by omega);have ADb:=KF.lt;obtain⟨x0,x1,x2,xl⟩ :=bO;have zL:Hid (∀b,b=(!tl || decide (j=s.size))→Cr (W.setCell ⟨w.heap.size+1,j,none⟩ (.bool b)) (w.heap.size+1) (s.size+1) (FX tl (L.map IV.it) s.data.toList j (L.map IV.it).length)):=fun b hb=>by
   refine(KF.set j (by omega) b).congr (fun i hi=> ?_);rw[Qs tl _ _ j i (by rw[Hc.out];exact hj),Hc.out,hb]
   by_cases h:i=j<;>simp[h]
  have ik:Hid (∀b:Bool,FB w.heap.size (W.setCell ⟨w.heap.size+1,j,none⟩ (.bool b)) hd tl (.slice a L.length c)):=fun b=>(FB.mk x0 x1 x2 xl).Rq (by simp) _
  clear KF;cases tl
  ·go_wp2
   go_meet
   exact⟨zL.out true rfl,ik.out true,nR.setCell (by simp) _⟩
  ·by_cases nS:j=s.size
   ·have ABc:((j:Int)==(s.size:Int))=true:=by simp[nS]
    have HJS:=γ (decide_eq_true nS);clear nS;go_wp2
    go_meet
    exact⟨zL.out true (by rw[HJS.out];rfl),ik.out true,nR.setCell (by simp) _⟩
   ·have ABc:((j:Int)==(s.size:Int))=false:=by rw[beq_eq_false_iff_ne];omega
    have HJS:=γ (decide_eq_false nS);clear nS;go_wp2
    go_meet
    exact⟨zL.out false (by rw[HJS.out];rfl),ik.out false,nR.setCell (by simp) _⟩
 case rest=>
  clear KF bO nR;obtain⟨KF,bO,nR⟩ :=hcut;rw[HLM.out]at KF;have Eo:=bO;obtain⟨x0,x1,x2,xl⟩ :=Eo;go_wp2;clear x0 x1 x2 xl
  go_loopw [7,8] (fun t k' wr=>∃(kk g:Nat),kk≤L.length∧k'= .int .i64 ((kk:Int) - 1)∧t= .slice (some ⟨g,0,none⟩) (s.size+1) (s.size+1)∧w.heap.size<g∧Cr wr g (s.size+1) (FX tl (L.map IV.it) s.data.toList j kk)∧FB w.heap.size wr hd tl (.slice a L.length c)∧Below w.heap.size w wr) (fun _ k' _=>(intOf k'+1).toNat)
  case atStart=>exact⟨L.length,w.heap.size+1,δ,rfl,rfl,by omega,KF,bO,nR⟩
  case round=>
   clear KF bO nR;obtain⟨kk,g,I2,rfl,rfl,aZ,Jy,TJ,hB⟩ :=hrel;have Eo:=TJ;obtain⟨x0,x1,x2,xl⟩ :=Eo;obtain rfl| ⟨m,rfl⟩ :kk=0∨∃m,kk=m+1:=by cases kk with
    |zero=>exact .inl rfl
    |succ m=>exact .inr ⟨m,rfl⟩
   ·cases hd
    ·have HM:Hid (Cr wr g (s.size+1) (fun p=>AP ⟨false,tl,L.map IV.it⟩ s.data.toList p j)):=Jy.congr (fun p hp=>Ul false tl _ _ j p (by rw[Hc.out];exact hj) (.inl rfl))
     go_wp2;go_ret;exact⟨g,rfl,by omega,HM.out,hB⟩
    ·have Td:w.heap.size≤g:=by omega
     go_wp2
     go_loopw [12] (fun p' wi=>∃pp:Nat,1≤pp∧pp≤s.size+1∧p'= .int .i64 pp∧Cr wi g (s.size+1) (fun q=>(decide (q=0) || decide (pp≤q)) && FX tl (L.map IV.it) s.data.toList j 0 q)∧Below w.heap.size w wi) (fun p' _=>s.size+1 - (intOf p').toNat)
     case atStart=>exact⟨1,δ,by omega,rfl,Jy.congr (fun q hq=>by
      have e:(decide (q=0) || decide (1≤q))=true:=by by_cases h:q=0<;>simp[h];omega
      rw[e];rfl),hB⟩
     case round=>
      clear Jy TJ x0 x1 x2 xl hB;obtain⟨pp,fL,R0,rfl,Jy,hB⟩ :=hrel
      by_cases Ac:pp≤s.size
      ·have AV:(pp:Int)≤(s.size:Int):=by omega
       have E7:(pp:Int)<(s.size:Int)+1:=by omega
       have c0:=Jy.c pp (by omega);have f0:=Jy.fz pp (by omega);have Rp:=Jy.lt
       have HR:Hid (Cr (wr.setCell ⟨g,pp,none⟩ (.bool false)) g (s.size+1) (fun q=>(decide (q=0) || decide (pp+1≤q)) && FX tl (L.map IV.it) s.data.toList j 0 q)):=(Jy.set pp (by omega) false).congr (fun q hq=>by
        by_cases h:q=pp
        ·subst h
         have e1:decide (q=0)=false:=decide_eq_false (by omega);have e2:decide (q+1≤q)=false:=decide_eq_false (by omega);simp[e1,e2]
        ·have e:decide (pp+1≤q)=decide (pp≤q):=by rw[decide_eq_decide];omega
         simp[h,e])
       clear Jy;go_wp2
       go_roundw
       case rel=>exact⟨pp+1,by omega,by omega,by go_num,HR.out,hB.setCell Td _⟩
       case measure=>simp[intOf];omega
      ·have AV:¬(pp:Int)≤(s.size:Int):=by omega
       have HM:Hid (Cr wr g (s.size+1) (fun p=>AP ⟨true,tl,L.map IV.it⟩ s.data.toList p j)):=Jy.congr (fun p hp=>by
        have e:decide (pp≤p)=false:=decide_eq_false (by omega);rw[e,Bool.or_false]
        by_cases h0:p=0
        ·rw[decide_eq_true h0,Bool.true_and]
         exact Ul true tl _ _ j p (by rw[Hc.out];exact hj) (.inr h0)
        ·rw[decide_eq_false h0,Bool.false_and]
         simp[AP,h0])
       go_wp2;go_ret;exact⟨g,rfl,Td,HM.out,hB⟩
   ·have em:(((m+1:Nat):Int) - 1)=(m:Int):=by omega
    rw[em];have OO:(0:Int)≤(m:Int):=by omega
    have hmL:m<L.length:=by omega
    have XX:m<(L.map IV.it).length:=by rw[HLM.out];exact hmL
    have ABd:=Jy.lt;clear em;go_wp2;have nU:=uk.out wr;have vR:=Jy.keep (w':=wr.alloc (.cells cur 4)) (Below.heap_alloc _ _ _ ABd) (by simp);have ABe:=TJ.keep (w':=wr.alloc (.cells cur 4)) (Below.heap_alloc _ _ _ TJ.lt) (by simp);have hBU:=hB.alloc hB.size (.cells cur 4);have VH:=hB.size;obtain⟨gu,hgu⟩ :∃gu,wr.heap.size=gu:=⟨_,rfl⟩
    rw[hgu]at nU VH ABd;rw[hgu];clear hgu
    go_loopw [10] (fun p' wi=>∃pp:Nat,pp≤j+1∧p'= .int .i64 ((pp:Int) - 1)∧Cr wi gu (s.size+1) (fun q=>decide (pp≤q) && FX tl (L.map IV.it) s.data.toList j m q)∧Cr wi g (s.size+1) (FX tl (L.map IV.it) s.data.toList j (m+1))∧FB w.heap.size wi hd tl (.slice a L.length c)∧Below w.heap.size w wi) (fun p' _=>(intOf p'+1).toNat)
    case atStart=>
     refine⟨j+1,δ,by congr 1;omega,nU.congr (fun q hq=> ?_),vR,ABe,hBU⟩;unfold FX
     by_cases h:q≤j
     ·have:¬(j+1≤q):=by omega
      simp[this]
     ·simp[h]
    case round=>
     clear nU vR ABe hBU Jy TJ x0 x1 x2 xl;obtain⟨pp,hpp,rfl,hrU,hrT,TJ,hBi⟩ :=hrel;obtain rfl| ⟨q,rfl⟩ :pp=0∨∃q,pp=q+1:=by cases pp with
      |zero=>exact .inl rfl
      |succ m=>exact .inr ⟨m,rfl⟩
     ·go_wp2
      go_roundw
      case rel=>exact⟨m,gu,by omega,rfl,rfl,by omega,hrU.congr (fun q hq=>by simp),TJ,hBi⟩
      case measure=>simp[intOf]
     ·have eq1:(((q+1:Nat):Int) - 1)=(q:Int):=by omega
      rw[eq1];have VI:(0:Int)≤(q:Int):=by omega
      have hqj:q≤j:=by omega
      have CQ:L≠ []:=fun e=>by rw[e]at hmL;simp at hmL
      have zM:=Dz.below hBi;obtain⟨gi,hga,dF,G6⟩ :=zM.cells.resolve_left CQ;obtain⟨t0,t1,t2,t3,t4⟩ :=G6 m hmL;have ABf:=zM.ok L[m] (List.getElem_mem hmL);have CR:Hid (FX tl (L.map IV.it) s.data.toList j m q=if L[m].it.star then(FX tl (L.map IV.it) s.data.toList j (m+1) q || ((decide (q<j) && Fe L[m].it ((s.data.toList.getD q 0).toNat)) && FX tl (L.map IV.it) s.data.toList j m (q+1)))else((decide (q<j) && Fe L[m].it ((s.data.toList.getD q 0).toNat)) && FX tl (L.map IV.it) s.data.toList j (m+1) (q+1))):=by
       have e:=K5 tl (L.map IV.it) s.data.toList j m q XX (by rw[Hc.out];exact hj) hqj;rw[List.getElem_map]at e;exact e
      obtain⟨⟨x0,x1,x2,xl⟩,ADp⟩ :=And.intro TJ TJ;have AFe:(m:Int)<(L.length:Int):=by omega
      clear G6 CQ eq1 zM;subst hga;generalize L[m]=x at*
      go_upto_region 10 with fail
      go_cut [11] (fun t wx=>t= .bool (decide (q<j) && Fe x.it ((s.data.toList.getD q 0).toNat))∧Below wr.heap.size wr wx)
      case first=>
       have QT:Hid (∀wx,Below wr.heap.size wr wx→Lt 0 wx x):=fun wx hb=>ABf.below hb
       by_cases nV:q<j
       ·have OX:decide ((q:Int)<(j:Int))=true:=decide_eq_true (by omega)
        have hd2:(q:Int)<(j:Int):=by omega
        have hd3:q<j:=nV;have Oy:q<s.size:=by omega
        have AFf:(q:Int)<(s.size:Int):=by omega
        obtain⟨BO,hby⟩ :∃BO:Nat,s[q].toNat=BO:=⟨_,rfl⟩
        have ADq:BO<256:=by rw[←hby];exact s[q].toNat_lt
        have xR:Hid ((s.data.toList.getD q 0).toNat=BO):=by
         show _=_;rw[List.getD_eq_getElem?_getD,List.getElem?_eq_getElem (by rw[Hc.out];exact Oy),←hby];rfl
        have HD:=γ (decide_eq_true nV);clear nV
        go_wp2_with fail
        go_region_with(first
         | (go_at_call 175;refine(fS x BO _ 0 (QT.out _ (by first|exact ζ|exact ζ.drew)) ADq).mono ?_;rintro e w2 ⟨rfl,b2⟩))
        all_goals go_wp2
        all_goals go_meet
        all_goals exact⟨by rw[HD.out,xR.out];rfl,(Below.refl wr.heap.size wr).drew.trans b2⟩
       ·have OX:decide ((q:Int)<(j:Int))=false:=decide_eq_false (by omega)
        have hd2:¬(q:Int)<(j:Int):=by omega
        have hd4:decide (q<j)=false:=decide_eq_false nV;have HD:=γ (decide_eq_false nV)
        go_wp2_with fail
        go_quiet(fail)
        go_wp2
        go_meet
        exact⟨by rw[HD.out];rfl,below_drewN ζ _⟩
      case rest=>
       obtain⟨rfl,b2⟩ :=hcut;have gW:=hrU.below b2 hrU.lt;have nW:=hrT.below b2 hrT.lt;have ADr:=TJ.below b2 TJ.lt;have TB:Below w.heap.size w wc:=hBi.trans (b2.mono hBi.size);have u2:=(b2.cell (by exact dF)).trans t2;have AFg:gi<wc.heap.size:=by have:=b2.size;omega
       obtain⟨x0',x1',x2',xl'⟩ :=ADr;have cT:=nW.c q (by omega);have cU:=gW.c q (by omega);have fU:=gW.fz q (by omega);have ltU:=gW.lt;have ltT:=nW.lt;have ay:Hid ((decide (q<j) && Fe x.it ((s.data.toList.getD q 0).toNat))=true→q<j):=fun h=>by simp at h;exact h.1
       have ADs:Hid (q<j→wc.cell? ⟨g,q+1,none⟩ =some (.bool (FX tl (L.map IV.it) s.data.toList j (m+1) (q+1)))):=fun h=>nW.c (q+1) (by omega)
       have ADt:Hid (q<j→wc.cell? ⟨gu,q+1,none⟩ =some (.bool (FX tl (L.map IV.it) s.data.toList j m (q+1)))):=fun h=>by have:=gW.c (q+1) (by omega);simpa using this
       have HR:Hid (∀b:Bool,b=FX tl (L.map IV.it) s.data.toList j m q→Cr (wc.setCell ⟨gu,q,none⟩ (.bool b)) gu (s.size+1) (fun z=>decide (q≤z) && FX tl (L.map IV.it) s.data.toList j m z)∧Cr (wc.setCell ⟨gu,q,none⟩ (.bool b)) g (s.size+1) (FX tl (L.map IV.it) s.data.toList j (m+1))∧FB w.heap.size (wc.setCell ⟨gu,q,none⟩ (.bool b)) hd tl (.slice (some ⟨gi,0,none⟩) L.length c)∧Below w.heap.size w (wc.setCell ⟨gu,q,none⟩ (.bool b))):=fun b hb=>by
        refine⟨(gW.set q (by omega) b).congr (fun z hz=> ?_),nW.Rq (by simp only;omega) _,(FB.mk x0' x1' x2' xl').Rq (by simp only;omega) _,TB.setCell (by simp only;omega) _⟩
        by_cases hzq:z=q
        ·subst hzq;simp[hb]
        ·have e:decide (q+1≤z)=decide (q≤z):=by rw[decide_eq_decide];omega
         simp[hzq,e]
       have AA0:(q:Int)<(s.size:Int)+1:=by omega
       clear gW nW hrU hrT TJ hBi b2 t0 t1 t2 t3 t4 ABf x0 x1 x2 xl ADp;generalize(decide (q<j) && Fe x.it ((s.data.toList.getD q 0).toNat))=bin at*;generalize FX tl (L.map IV.it) s.data.toList j (m+1) q=v1 at*;have nX:Hid (∀b:Bool,b=FX tl (L.map IV.it) s.data.toList j m q→∃pp:Nat,pp≤j+1∧Value.int .i64 ((q:Int) - 1)= .int .i64 ((pp:Int) - 1)∧Cr (wc.setCell ⟨gu,q,none⟩ (.bool b)) gu (s.size+1) (fun z=>decide (pp≤z) && FX tl (L.map IV.it) s.data.toList j m z)∧Cr (wc.setCell ⟨gu,q,none⟩ (.bool b)) g (s.size+1) (FX tl (L.map IV.it) s.data.toList j (m+1))∧FB w.heap.size (wc.setCell ⟨gu,q,none⟩ (.bool b)) hd tl (.slice (some ⟨gi,0,none⟩) L.length c)∧Below w.heap.size w (wc.setCell ⟨gu,q,none⟩ (.bool b))):=fun b hb=>⟨q,by omega,rfl,HR.out b hb⟩
       cases BZ:x.it.star
       ·have ER:Hid (FX tl (L.map IV.it) s.data.toList j m q=(bin && FX tl (L.map IV.it) s.data.toList j (m+1) (q+1))):=by show _=_;rw[CR.out,BZ];rfl
        rw[BZ]at u2;clear CR BZ;cases bin
        ·go_wp2
         go_roundw
         case rel=>exact nX.out false (by rw[ER.out];rfl)
         case measure=>simp[intOf]
        ·have zN:=ay.out rfl
         have cT1:=ADs.out zN;have ADu:(q:Int)+1<(s.size:Int)+1:=by omega
         generalize FX tl (L.map IV.it) s.data.toList j (m+1) (q+1)=v2 at*;go_wp2
         go_roundw
         case rel=>exact nX.out v2 (by rw[ER.out];rfl)
         case measure=>simp[intOf]
       ·have ER:Hid (FX tl (L.map IV.it) s.data.toList j m q=(v1 || (bin && FX tl (L.map IV.it) s.data.toList j m (q+1)))):=by show _=_;rw[CR.out,BZ];rfl
        rw[BZ]at u2;clear CR BZ;cases v1
        ·cases bin
         ·go_wp2
          go_roundw
          case rel=>exact nX.out false (by rw[ER.out];rfl)
          case measure=>simp[intOf]
         ·have zN:=ay.out rfl
          have cU1:=ADt.out zN;have ADu:(q:Int)+1<(s.size:Int)+1:=by omega
          generalize FX tl (L.map IV.it) s.data.toList j m (q+1)=v2 at*;go_wp2
          go_roundw
          case rel=>exact nX.out v2 (by rw[ER.out];rfl)
          case measure=>simp[intOf]
        ·go_wp2
         go_roundw
         case rel=>exact nX.out true (by rw[ER.out];rfl)
         case measure=>simp[intOf]
end Go.Proofs.YtlppphmnegdhoabGreatDoor
