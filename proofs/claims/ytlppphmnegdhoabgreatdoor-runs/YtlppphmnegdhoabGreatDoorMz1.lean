import Derived.Below
import Derived.Test.YtlppphmnegdhoabGreatDoorRows
import Derived.WalkKit
import Derived.WalkSpells
import Derived.WalkLawsBesides
import Derived.Laws.BitsLemmas
import Derived.Lib.ItoaNum
set_option maxRecDepth 100000
set_option linter.unusedVariables false
set_option maxHeartbeats 400000
namespace Go.Proofs.YtlppphmnegdhoabGreatDoor
open Go.RowKit
theorem γ{p:Prop}(h:p):Hid p:=h
theorem δ{n:Nat}:n≤n:=Nat.le_refl n
theorem ε{n:Nat}:0≤n:=Nat.zero_le n
theorem ζ{B:Nat}{w:World}:Below B w w:=Below.refl _ _
end Go.Proofs.YtlppphmnegdhoabGreatDoor
namespace Go.Proofs.YtlppphmnegdhoabGreatDoor
open Go.Proofs.Tryz
open Go.RowKit
namespace M
def Iq(n:Nat)(set:Bool):Nat:=if decide (32768≤n) !=set then(n*2 % 65536) ^^^ 4129 else n*2 % 65536
def F9(n c:Nat):Nat→Nat
 |0=>n
 |k+1=>Iq (F9 n c k) (c.testBit (7 - k))
def LU(n:Nat)(l:List UInt8):Nat:=l.foldl (fun n c=>F9 n c.toNat 8) n
def sum(l:List UInt8):Nat:=LU 65535 l
theorem jE(n:Nat)(b:Bool):Iq n b<65536:=by
 unfold Iq;split
 ·exact Nat.xor_lt_two_pow (n:=16) (by omega) (by omega)
 ·omega
theorem Q0(n c k:Nat)(h:n<65536):F9 n c k<65536:=by
 cases k with
 |zero=>exact h
 |succ k=>exact jE _ _
theorem ZY(n:Nat)(l:List UInt8)(h:n<65536):LU n l<65536:=by
 unfold LU
 induction l generalizing n with
 |nil=>exact h
 |cons c l ih=>exact ih _ (Q0 _ _ _ h)
theorem KZ(l:List UInt8):sum l<65536:=ZY _ _ (by decide)
theorem NJ(n:Nat)(l:List UInt8)(c:UInt8):LU n (l++ [c])=F9 (LU n l) c.toNat 8:=by
 unfold LU;rw[List.foldl_append];rfl
theorem U0(a b:Nat)(ha:a<2 ^ 62)(hb:b<2 ^ 62):bits .and .i64 (a:Int) (b:Int)=((a &&& b:Nat):Int):=
 (bits_nat .i64 62 (by decide) (fun n h0 h1=>by rw[IntKind.wrap_i64];omega) a b ha hb).1
theorem pz(a b:Nat)(ha:a<2 ^ 62)(hb:b<2 ^ 62):bits .xor .i64 (a:Int) (b:Int)=((a ^^^ b:Nat):Int):=
 by
 have ea:(BitVec.ofInt 64 (a:Int)).toNat=a:=by simp;omega
 have eb:(BitVec.ofInt 64 (b:Int)).toNat=b:=by simp;omega
 have hx:a ^^^ b<2 ^ 62:=Nat.xor_lt_two_pow ha hb;show IntKind.i64.wrap ((BitVec.ofInt 64 (a:Int) ^^^ BitVec.ofInt 64 (b:Int)).toNat:Int)=_;rw[BitVec.toNat_xor,ea,eb,IntKind.wrap_i64];omega
theorem jF(m:Nat)(hm:m<65536):bits .and .i64 ((m:Int)*2) 65535=((m*2 % 65536:Nat):Int):=by
 have h:=U0 (m*2) 65535 (by omega) (by decide);rw[show(65535:Nat)=2 ^ 16 - 1 from rfl,Nat.and_two_pow_sub_one_eq_mod]at h
 simpa using h
theorem cK(m:Nat):bits .xor .i64 ((m:Int)*2 % 65536) 4129=(((m*2 % 65536) ^^^ 4129:Nat):Int):=by
 have h:=pz (m*2 % 65536) 4129 (by omega) (by decide)
 simpa using h
def Ir(k:Nat):Nat:=128 / 2 ^ k
theorem jG(k:Nat):Ir k≤128:=Nat.div_le_self _ _
theorem ZZ(k:Nat):Ir k / 2=Ir (k+1):=by unfold Ir;rw[Nat.div_div_eq_div_mul,Nat.pow_succ]
theorem dv(k:Nat)(h:k<8):0<Ir k:=by
 obtain rfl|rfl|rfl|rfl|rfl|rfl|rfl|rfl:k=0∨k=1∨k=2∨k=3∨k=4∨k=5∨k=6∨k=7:=by omega
 all_goals decide
theorem jH:∀c,c<256→∀k,k<8→((c &&& Ir k) !=0)=c.testBit (7 - k):=by decide+kernel
theorem p5(c k:Nat)(hc:c<256)(h:k<8):((((c &&& Ir k:Nat):Int) !=0):Bool)=c.testBit (7 - k):=by
 rw[←jH c hc k h,Bool.eq_iff_iff];simp
theorem dw(m:Nat)(b:Bool)(h:(!decide (32768≤(m:Int))==b)=true):Iq m b=(m*2 % 65536) ^^^ 4129:=by
 have e:decide (32768≤(m:Int))=decide (32768≤m):=by rw[decide_eq_decide];omega
 rw[e]at h;unfold Iq;rw[if_pos];cases hd:decide (32768≤m)<;>cases b<;>simp_all<;>omega
theorem jI(m:Nat)(b:Bool)(h:(!decide (32768≤(m:Int))==b)=false):Iq m b=m*2 % 65536:=by
 have e:decide (32768≤(m:Int))=decide (32768≤m):=by rw[decide_eq_decide];omega
 rw[e]at h;unfold Iq;rw[if_neg];cases hd:decide (32768≤m)<;>cases b<;>simp_all<;>omega
theorem cL(x:Nat)(hx:x<2 ^ 62):bits .and .i64 (x:Int) 1=((x % 2:Nat):Int):=by
 have h:=U0 x 1 hx (by decide);rw[show(1:Nat)=2 ^ 1 - 1 from rfl,Nat.and_two_pow_sub_one_eq_mod]at h
 simpa using h
theorem Za(m c r:Nat)(hm:m<65536)(hc:c<256):
  (bits .and .i64 ((m:Int) / 32768) 1 !=bits .and .i64 ((c:Int) / 2 ^ (7 - r)) 1)=(decide (32768≤m) !=c.testBit (7 - r)):=by
 have e1:((m:Int) / 32768)=((m / 32768:Nat):Int):=by omega
 have e2:((c:Int) / 2 ^ (7 - r))=((c / 2 ^ (7 - r):Nat):Int):=by simp
 have l2:c / 2 ^ (7 - r)≤c:=Nat.div_le_self _ _;rw[e1,e2,cL _ (by omega),cL _ (by omega),Nat.testBit_eq_decide_div_mod_eq];generalize c / 2 ^ (7 - r)=d at*;rw[Bool.eq_iff_iff]
 by_cases h:32768≤m<;>simp[h]<;>omega
theorem dy(m:Nat)(b:Bool)(h:(decide (32768≤m) !=b)=true):Iq m b=(m*2 % 65536) ^^^ 4129:=by
 unfold Iq;rw[if_pos h]
theorem dz(m:Nat)(b:Bool)(h:(decide (32768≤m) !=b)=false):Iq m b=m*2 % 65536:=by
 unfold Iq;rw[if_neg (by simp[h])]
end M
open M
theorem H2{k:IntKind}{a b:Int}(h:a=b):Ending.returned (.int k a)= .returned (.int k b):=by rw[h]
theorem TL(n c:Nat)(w:World)(hn:n<65536)(hc:c<256):
  Calls prog 124 #[.int .i64 n,.int .i64 c] w fun e w'=>e= .returned (.int .i64 (M.F9 n c 8:Nat))∧w'=w:=by
 go_enter func124,ntmps124
 go_wp2
 go_loop [0,5] (fun t b=>∃k:Nat,k≤8∧b= .int .i64 (M.Ir k:Nat)∧t= .int .i64 (M.F9 n c k:Nat)) (fun _ b=>(intOf b).toNat)
 case atStart=>exact⟨0,by omega,rfl,rfl⟩
 case round=>
  obtain⟨k,hk,rfl,rfl⟩ :=hrel;have hm:=M.Q0 n c k hn;have Bq:=M.jG k
  by_cases Ac:k<8
  ·have hbp:=M.dv k Ac
   have h1:=M.U0 c (M.Ir k) (by omega) (by omega);have h2:=M.p5 c k hc Ac;have h3:=M.jF _ hm;have h4:=M.cK (M.F9 n c k);have H5:Hid (M.F9 n c (k+1)=M.Iq (M.F9 n c k) (c.testBit (7 - k))):=rfl;have H6:=γ (M.ZZ k);generalize M.F9 n c k=m at*;generalize M.Ir k=bt at*;generalize c.testBit (7 - k)=tb at*;go_wp2
   ·go_round
    case rel=>exact⟨k+1,by omega,by rw[←H6.out];go_num,by rw[H5.out,M.dw m tb (by assumption)]⟩
    case measure=>simp[intOf];omega
   ·go_round
    case rel=>exact⟨k+1,by omega,by rw[←H6.out];go_num,by rw[H5.out,M.jI m tb (by assumption)];go_num⟩
    case measure=>simp[intOf];omega
  ·obtain rfl:k=8:=by omega
   have Dg:M.Ir 8=0:=by decide
   rw[Dg];go_wp2;go_ret;exact⟨rfl,rfl⟩
theorem UA(s:ByteArray)(k:Nat)(h:k<s.size):s.data.toList.take (k+1)=s.data.toList.take k++ [s[k]]:=by
 rw[List.take_succ_eq_append_getElem (by simpa using h)];rfl
theorem Oc(s:ByteArray)(w:World)(hs:s.size≤maxLen):
  Calls prog 83 #[.string s] w fun e w'=>e= .returned (.int .i64 (M.sum s.data.toList:Nat))∧w'=w:=by
 unfold maxLen at hs
 go_enter func83,ntmps83
 go_wp2
 go_loop [3,4] (fun n i=>∃k:Nat,k≤s.size∧i= .int .i64 k∧n= .int .i64 (M.sum (s.data.toList.take k):Nat)) (fun _ i=>s.size - (intOf i).toNat)
 case atStart=>exact⟨0,ε,rfl,rfl⟩
 case round=>
  obtain⟨k,hk,rfl,rfl⟩ :=hrel;have hm:=M.KZ (s.data.toList.take k)
  by_cases Ac:k<s.size
  ·have HS:Hid (M.sum (s.data.toList.take (k+1))=M.F9 (M.sum (s.data.toList.take k)) s[k].toNat 8):=by
    unfold M.sum;rw[UA s k Ac,M.NJ];exact rfl
   generalize M.sum (s.data.toList.take k)=m at*;have hc:s[k].toNat<256:=s[k].toNat_lt
   go_wp2_with fail
   refine(TL m s[k].toNat _ hm hc).mono ?_;rintro e w' ⟨rfl,rfl⟩;go_wp2
   go_round
   case rel=>exact⟨k+1,by omega,by go_num,by rw[HS.out]⟩
   case measure=>simp[intOf];omega
  ·go_wp2
   go_ret;exact⟨H2 (by rw[List.take_of_length_le (by simp;omega)]),rfl⟩
theorem Q1(s:ByteArray)(w:World)(hs:s.size≤maxLen):
  Calls prog 61 #[.string s] w fun e w'=>e= .returned (.int .i64 (M.sum s.data.toList:Nat))∧w'=w:=by
 unfold maxLen at hs
 go_enter func61,ntmps61
 go_wp2
 go_loop [3,4] (fun n i=>∃k:Nat,k≤s.size∧i= .int .i64 k∧n= .int .i64 (M.sum (s.data.toList.take k):Nat)) (fun _ i=>s.size - (intOf i).toNat)
 case atStart=>exact⟨0,ε,rfl,rfl⟩
 case round=>
  obtain⟨k,hk,rfl,rfl⟩ :=hrel;have hm:=M.KZ (s.data.toList.take k)
  by_cases Ac:k<s.size
  ·have HS:Hid (M.sum (s.data.toList.take (k+1))=M.F9 (M.sum (s.data.toList.take k)) s[k].toNat 8):=by
    unfold M.sum;rw[UA s k Ac,M.NJ];exact rfl
   generalize M.sum (s.data.toList.take k)=m at*;have hc:s[k].toNat<256:=s[k].toNat_lt;go_wp2
   go_loop [3,5] (fun t q=>∃r:Nat,r≤8∧q= .int .i64 (7 - (r:Int))∧t= .int .i64 (M.F9 m s[k].toNat r:Nat)) (fun _ q=>(intOf q+1).toNat)
   case atStart=>exact⟨0,by omega,rfl,rfl⟩
   case round=>
    obtain⟨r,hr,rfl,rfl⟩ :=hrel;have Q3:=M.Q0 m s[k].toNat r hm
    by_cases hr8:r<8
    ·have H5:Hid (M.F9 m s[k].toNat (r+1)=M.Iq (M.F9 m s[k].toNat r) (s[k].toNat.testBit (7 - r))):=rfl
     have h4:=M.cK (M.F9 m s[k].toNat r);generalize M.F9 m s[k].toNat r=m2 at*;have hT:=M.Za m2 s[k].toNat r Q3 hc;go_wp2
     ·go_round
      case rel=>exact⟨r+1,by omega,by go_num,by rw[H5.out,M.dy _ _ (by assumption)]⟩
      case measure=>simp[intOf];omega
     ·go_round
      case rel=>exact⟨r+1,by omega,by go_num,by rw[H5.out,M.dz _ _ (by assumption)];go_num⟩
      case measure=>simp[intOf];omega
    ·obtain rfl:r=8:=by omega
     go_wp2
     go_round
     case rel=>exact⟨k+1,by omega,by go_num,by rw[HS.out]⟩
     case measure=>simp[intOf];omega
  ·go_wp2
   go_ret;exact⟨H2 (by rw[List.take_of_length_le (by simp;omega)]),rfl⟩
end Go.Proofs.YtlppphmnegdhoabGreatDoor
namespace Go.Proofs.YtlppphmnegdhoabGreatDoor
namespace M
structure Mk where
 b:Nat
 p:Bool
def Mk.is(m:Mk)(c:Nat):Bool:=m.p && m.b==c
def Iu(d:UInt8):Nat:=if d.toNat=110 then 10 else d.toNat
def Wr(m:Mk)(r:List Mk×List UInt8):List Mk×List UInt8:=(m::r.1,r.2)
def Ψ:List UInt8→Option (List Mk×List UInt8)
 | []=>none
 | [c]=>if c.toNat=47 then some ([],[])else none
 |c::d::t=>if c.toNat=47 then some ([],d::t)else if c.toNat=92 then(Ψ t).map (Wr ⟨Iu d,false⟩)else(Ψ (d::t)).map (Wr ⟨c.toNat,true⟩)
def Zb(l:List Mk)(r:List Mk×List UInt8):List Mk×List UInt8:=(l++r.1,r.2)
theorem MY(c:UInt8)(t:List UInt8)(h:c.toNat=47):Ψ (c::t)=some ([],t):=by
 cases t with
 |nil=>simp[Ψ,h]
 |cons d t=>simp[Ψ,h]
theorem MZ(c:UInt8)(t:List UInt8)(h:c.toNat≠47)(h2:c.toNat≠92):Ψ (c::t)=(Ψ t).map (Wr ⟨c.toNat,true⟩):=by
 cases t with
 |nil=>simp[Ψ,h]
 |cons d t=>simp[Ψ,h,h2]
theorem Ws(c d:UInt8)(t:List UInt8)(h:c.toNat=92):Ψ (c::d::t)=(Ψ t).map (Wr ⟨Iu d,false⟩):=by
 simp[Ψ,h]
theorem Wt(c:UInt8)(h:c.toNat=92):Ψ [c]=none:=by simp[Ψ,h]
theorem cM(l:List Mk)(m:Mk)(o:Option (List Mk×List UInt8)):(o.map (Wr m)).map (Zb l)=o.map (Zb (l++ [m])):=by
 cases o with
 |none=>rfl
 |some r=>simp[Wr,Zb]
structure It where
 any:Bool
 not:Bool
 star:Bool
 AM:List (Nat×Nat)
structure Ex where
 head:Bool
 tail:Bool
 l:List It
def Fe(x:It)(c:Nat):Bool:=x.any || (x.AM.any (fun r=>decide (r.1≤c) && decide (c≤r.2)) !=x.not)
def υ:List Mk→List (Nat×Nat)→Option (List (Nat×Nat)×List Mk)
 | [],_=>none
 | [m],acc=>if m.is 93 then(if acc= []then none else some (acc,[]))else none
 | [m,d],acc=>if m.is 93 then(if acc= []then none else some (acc,[d]))else if m.is 45 then none else if d.is 45 then none else υ [d] (acc++ [(m.b,m.b)])
 |m::d::h::v,acc=>
  if m.is 93 then(if acc= []then none else some (acc,d::h::v))else if m.is 45 then none
  else if d.is 45 then(if h.is 93 || h.is 45 || decide (h.b<m.b)then none else υ v (acc++ [(m.b,h.b)]))
  else υ (d::h::v) (acc++ [(m.b,m.b)])
def Ey:List Mk→Option (Bool×List (Nat×Nat)×List Mk)
 | []=>none
 |d::u=>if d.is 94 then(υ u []).map (fun r=>(true,r.1,r.2))else(υ (d::u) []).map (fun r=>(false,r.1,r.2))
def Bt:List Mk→Option (It×List Mk)
 | []=>none
 |c::t=>
  if c.is 46 then some (⟨true,false,false,[]⟩,t)
  else if c.is 91 then(Ey t).map (fun r=>(⟨false,r.1,false,r.2.1⟩,r.2.2))
  else if c.is 42 || c.is 93 || c.is 94 || c.is 36 then none
  else some (⟨false,false,false,[(c.b,c.b)]⟩,t)
def Q4(r:It×List Mk):It×List Mk:=
 match r.2 with
 | []=>r
 |d::u=>if d.is 42 then(⟨r.1.any,r.1.not,true,r.1.AM⟩,u)else r
def Ba(m:List Mk):Option (It×List Mk):=(Bt m).map Q4
def EP:Nat→List Mk→Option (List It)
 |_,[]=>some []
 |0,_=>none
 |n+1,m::t=>match Ba (m::t)with
  |none=>none
  |some (x,r)=>(EP n r).map (x::·)
def Cv(m:List Mk):Option Ex:=
 if m= []then none else
 let hd:=(m.head?.map (·.is 94)).getD false
 let at':=if hd then 1 else 0
 let tl:=decide (at'<m.length) && (m.getLast?.map (·.is 36)).getD false
 let body:=(if tl then m.take (m.length - 1)else m).drop at'
 (EP body.length body).map (fun l=>⟨hd,tl,l⟩)
def mt:List It→List UInt8→Bool
 | [],s=>s.isEmpty
 |x::l,[]=>x.star && mt l []
 |x::l,c::t=>if x.star then mt l (c::t) || (Fe x c.toNat && mt (x::l) t)else Fe x c.toNat && mt l t
termination_by l s=>(l.length,s.length)
theorem wA(s:List UInt8):mt [] s=s.isEmpty:=by rw[mt]
theorem wB(x:It)(l:List It):mt (x::l) []=(x.star && mt l []):=by rw[mt]
theorem p6(x:It)(l:List It)(c:UInt8)(t:List UInt8):mt (x::l) (c::t)=if x.star then mt l (c::t) || (Fe x c.toNat && mt (x::l) t)else Fe x c.toNat && mt l t:=by rw[mt]
def wC(s:List UInt8)(i j:Nat):List UInt8:=(s.take j).drop i
def AP(x:Ex)(s:List UInt8)(i j:Nat):Bool:=decide (i≤j) && decide (j≤s.length) && (!x.head || decide (i=0)) && (!x.tail || decide (j=s.length)) && mt x.l (wC s i j)
def Ka(x:Ex)(s:List UInt8)(at':Nat)(i j:Int):Prop:=
 (i= -1∧j= -1∧∀a b,at'≤a→AP x s a b=false)∨∃a b:Nat,i=a∧j=b∧at'≤a∧AP x s a b=true∧(∀c d,at'≤c→c<a→AP x s c d=false)∧∀d,b<d→AP x s a d=false
end M
namespace M
structure Rec where
 kind:Int
 n:Int
 s:ByteArray
def H3(r:Rec):Bool:=decide (1≤r.n) && ((decide (r.kind=0) || decide (r.kind=1)) && decide (r.s.size=0) || decide (r.kind=2) && decide ((r.s.size:Int)=r.n))
def ZD(r:Rec):Int:=if r.kind=1 then 0 else r.n
def cN(r:Rec):Int:=if r.kind=0∨r.kind=1 then r.n else 0
theorem CO(r:Rec):H3 r=true↔1≤r.n∧(((r.kind=0∨r.kind=1)∧r.s.size=0)∨(r.kind=2∧(r.s.size:Int)=r.n)):=by
 simp[H3]
theorem Zc{a b:ByteArray}(h:a.data.toList=b.data.toList):a=b:=by
 cases a;cases b;simp at h;simp[h]
theorem Δ(a:ByteArray):a.data.toList.length=a.size:=by rw[Array.length_toList];rfl
def EY(v:Nat):List UInt8:=
 if v<128 then [UInt8.ofNat v]else if v<16384 then [UInt8.ofNat (128+v % 128),UInt8.ofNat (v / 128)]
 else [UInt8.ofNat (128+v % 128),UInt8.ofNat (128+v / 128 % 128),UInt8.ofNat (v / 16384)]
def Lo(v:Nat):List UInt8:= [UInt8.ofNat (v / 256),UInt8.ofNat (v % 256)]
theorem u8(v:Nat)(h:v<256):(UInt8.ofNat v).toNat=v:=by
 rw[UInt8.toNat_ofNat'];omega
theorem NK(v:Nat):1≤(EY v).length∧(EY v).length≤3:=by
 unfold EY;repeat' split
 all_goals simp
def U3(r:Rec):List UInt8:=EY (4*r.n+r.kind).toNat++r.s.data.toList
def ED(l:List Rec):List UInt8:=(l.map U3).flatten
def DG:List Rec→Int
 | []=>0
 |r::l=>ZD r+DG l
def DH:List Rec→Int
 | []=>0
 |r::l=>cN r+DH l
theorem Ph(l m:List Rec):DG (l++m)=DG l+DG m:=by
 induction l with
 |nil=>simp[DG]
 |cons r l ih=>simp only[List.cons_append,DG,ih];omega
theorem Pj(l m:List Rec):DH (l++m)=DH l+DH m:=by
 induction l with
 |nil=>simp[DH]
 |cons r l ih=>simp only[List.cons_append,DH,ih];omega
theorem U4(l m:List Rec):ED (l++m)=ED l++ED m:=by simp[ED]
theorem Zd(r:Rec)(l:List Rec):ED (r::l)=U3 r++ED l:=by simp[ED]
def C5(l:List Rec):Prop:=∀r∈l,H3 r=true
theorem jL(r:Rec)(h:H3 r=true):0≤ZD r:=by
 have:=(CO r).1 h;unfold ZD;split<;>omega
theorem Ze(r:Rec)(h:H3 r=true):0≤cN r:=by
 have:=(CO r).1 h;unfold cN;split<;>omega
theorem wD(r:Rec)(h:H3 r=true):r.n≤ZD r+cN r:=by
 have:=(CO r).1 h;unfold ZD cN;repeat' split
 all_goals omega
theorem U5(l:List Rec)(h:C5 l):0≤DG l:=by
 induction l with
 |nil=>simp[DG]
 |cons r l ih=>have:=ih (fun x hx=>h x (List.mem_cons_of_mem _ hx));have:=jL r (h r (List.mem_cons_self ..));simp only[DG];omega
theorem U6(l:List Rec)(h:C5 l):0≤DH l:=by
 induction l with
 |nil=>simp[DH]
 |cons r l ih=>have:=ih (fun x hx=>h x (List.mem_cons_of_mem _ hx));have:=Ze r (h r (List.mem_cons_self ..));simp only[DH];omega
theorem ACT(r:Rec)(h:H3 r=true):r.n=ZD r∨r.n=cN r:=by
 have:=(CO r).1 h;unfold ZD cN;repeat' split
 all_goals omega
theorem wE(l:List Rec)(h:C5 l)(r:Rec)(hr:r∈l):ZD r≤DG l∧cN r≤DH l:=by
 induction l with
 |nil=>cases hr
 |cons x l ih=>
  have hl:C5 l:=fun y hy=>h y (List.mem_cons_of_mem _ hy)
  have h1:=jL x (h x (List.mem_cons_self ..));have h2:=Ze x (h x (List.mem_cons_self ..));have h3:=U5 l hl;have h4:=U6 l hl;simp only[DG,DH];rcases List.mem_cons.1 hr with rfl|hr
  ·omega
  ·have:=ih hl hr;omega
theorem jM(l:List Rec)(h:C5 l)(ha:DG l≤4096)(hb:DH l≤4096)(r:Rec)(hr:r∈l):r.n≤4096:=by
 have:=wE l h r hr;have:=ACT r (h r hr);omega
theorem DI{r:Rec}{l:List Rec}(h:C5 (r::l)):H3 r=true∧C5 l:=
 ⟨h r (List.mem_cons_self ..),fun x hx=>h x (List.mem_cons_of_mem _ hx)⟩
theorem U7{l m:List Rec}(h:C5 l)(g:C5 m):C5 (l++m):=fun x hx=>by
 rcases List.mem_append.1 hx with hx|hx
 ·exact h x hx
 ·exact g x hx
structure Jn where
 la:Nat
 lb:Nat
 sa:Nat
 sb:Nat
 l:List Rec
def Gb(j:Jn):List UInt8:=82::84::(EY j.la++(EY j.lb++(Lo j.sa++Lo j.sb)))
def cO(j:Jn):List UInt8:=Gb j++ED j.l
def Pk(j:Jn):List UInt8:=cO j++Lo (sum (cO j))
end M
namespace M
inductive Ev where
 |k:Ev
 |d:Ev
 |r:UInt8→Ev
def KI(r:Rec):List Ev:=if r.kind=0 then List.replicate r.n.toNat .k else if r.kind=1 then List.replicate r.n.toNat .d else r.s.data.toList.map .r
def BH:List Rec→List Ev
 | []=> []
 |r::l=>KI r++BH l
theorem CK(l m:List Rec):BH (l++m)=BH l++BH m:=by
 induction l with
 |nil=>rfl
 |cons r l ih=>simp[BH,ih]
def Dj:Nat→List Ev→List Int
 |_,[]=> []
 |a,.k::es=>(a:Int)::Dj (a+1) es
 |a,.d::es=> -1::Dj a es
 |a,.r _::es=>Dj (a+1) es
def EC:List Ev→List Int
 | []=> []
 | .k::es=> -1::EC es
 | .d::es=>EC es
 | .r c::es=>(c.toNat:Int)::EC es
def Jg:List Ev→Nat
 | []=>0
 | .d::es=>Jg es
 | .k::es=>Jg es+1
 | .r _::es=>Jg es+1
def KJ:List Ev→Nat
 | []=>0
 | .d::es=>KJ es+1
 | .k::es=>KJ es+1
 | .r _::es=>KJ es
theorem Fg(x y:List Ev):Jg (x++y)=Jg x+Jg y:=by
 induction x with
 |nil=>simp[Jg]
 |cons e x ih=>cases e<;>simp[Jg,ih]<;>omega
theorem Fh(x y:List Ev):KJ (x++y)=KJ x+KJ y:=by
 induction x with
 |nil=>simp[KJ]
 |cons e x ih=>cases e<;>simp[KJ,ih]<;>omega
theorem Jh(x y:List Ev):∀a,Dj a (x++y)=Dj a x++Dj (a+Jg x) y:=by
 induction x with
 |nil=>intro a;simp[Dj,Jg]
 |cons e x ih=>intro a;cases e<;>simp[Dj,Jg,ih]<;>congr 1<;>omega
theorem Mb(x y:List Ev):EC (x++y)=EC x++EC y:=by
 induction x with
 |nil=>rfl
 |cons e x ih=>cases e<;>simp[EC,ih]
theorem NU(x:List Ev):∀a,(Dj a x).length=KJ x:=by
 induction x with
 |nil=>intro a;rfl
 |cons e x ih=>intro a;cases e<;>simp[Dj,KJ,ih]
theorem FA(x:List Ev):(EC x).length=Jg x:=by
 induction x with
 |nil=>rfl
 |cons e x ih=>cases e<;>simp[EC,Jg,ih]
theorem XF(n:Nat):Jg (List.replicate n .k)=n∧KJ (List.replicate n .k)=n:=by
 induction n with
 |zero=>exact⟨rfl,rfl⟩
 |succ n ih=>simp[List.replicate_succ,Jg,KJ,ih]
theorem jg(n:Nat):Jg (List.replicate n .d)=0∧KJ (List.replicate n .d)=n:=by
 induction n with
 |zero=>exact⟨rfl,rfl⟩
 |succ n ih=>simp[List.replicate_succ,Jg,KJ,ih]
theorem NV(s:List UInt8):Jg (s.map .r)=s.length∧KJ (s.map .r)=0:=by
 induction s with
 |nil=>exact⟨rfl,rfl⟩
 |cons c s ih=>simp[Jg,KJ,ih]
theorem jh(r:Rec)(h:H3 r=true):(Jg (KI r):Int)=ZD r∧(KJ (KI r):Int)=cN r:=by
 have hk:=(CO r).1 h;have hl:=Δ r.s;unfold KI ZD cN
 by_cases h0:r.kind=0
 ·simp[h0,XF];omega
 ·by_cases h1:r.kind=1
  ·simp[h1,jg];omega
  ·have h2:r.kind=2:=by omega
   simp[h2,NV];omega
theorem RF(l:List Rec)(h:C5 l):(Jg (BH l):Int)=DG l∧(KJ (BH l):Int)=DH l:=by
 induction l with
 |nil=>exact⟨rfl,rfl⟩
 |cons r l ih=>
  have hr:=jh r (DI h).1;have hl:=ih (DI h).2;simp only[BH,Fg,Fh,DG,DH];omega
inductive Mc:List Ev→List Ev→Prop
 |refl (x):Mc x x
 |swap (c x):Mc (.d:: .r c::x) (.r c:: .d::x)
 |cons (e) {x y}:Mc x y→Mc (e::x) (e::y)
 |symm {x y}:Mc x y→Mc y x
 |trans {x y z}:Mc x y→Mc y z→Mc x z
theorem Mc.pre(p:List Ev){x y:List Ev}(h:Mc x y):Mc (p++x) (p++y):=by
 induction p with
 |nil=>exact h
 |cons e p ih=>exact .cons e ih
theorem eK(s:List UInt8)(x:List Ev):Mc (.d::(s.map .r++x)) (s.map .r++ .d::x):=by
 induction s with
 |nil=>exact .refl _
 |cons c s ih=>exact .trans (.swap c _) (.cons _ ih)
theorem Mc.F{x y:List Ev}(h:Mc x y):∀a,Dj a x=Dj a y:=by
 induction h with
 |refl x=>intro a;rfl
 |swap c x=>intro a;simp[Dj]
 |cons e _ ih=>intro a;cases e<;>simp[Dj,ih]
 |symm _ ih=>intro a;exact(ih a).symm
 |trans _ _ wV wW=>intro a;exact(wV a).trans (wW a)
theorem Mc.K{x y:List Ev}(h:Mc x y):EC x=EC y:=by
 induction h with
 |refl x=>rfl
 |swap c x=>simp[EC]
 |cons e _ ih=>cases e<;>simp[EC,ih]
 |symm _ ih=>exact ih.symm
 |trans _ _ wV wW=>exact wV.trans wW
theorem Mc.A{x y:List Ev}(h:Mc x y):Jg x=Jg y:=by rw[←FA,←FA,h.K]
theorem Mc.B{x y:List Ev}(h:Mc x y):KJ x=KJ y:=by rw[←NU _ 0,←NU _ 0,h.F]
structure OP where
 d:Nat
 s:List UInt8
 m:Nat
def nb(d:Nat)(s:List UInt8)(m:Nat):List Ev→List OP
 | []=>if d=0∧s= []∧m=0 then []else [⟨d,s,m⟩]
 | .k::es=>nb d s (m+1) es
 | .d::es=>if m=0 then nb (d+1) s 0 es else⟨d,s,m⟩ ::nb 1 [] 0 es
 | .r c::es=>if m=0 then nb d (s++ [c]) 0 es else⟨d,s,m⟩ ::nb 0 [c] 0 es
def Pm(b:OP):List Ev:=List.replicate b.d .d++(b.s.map .r++List.replicate b.m .k)
def Cb:List OP→List Ev
 | []=> []
 |b::l=>Pm b++Cb l
def CU(d:Nat):List Rec:=if d=0 then []else [⟨1,d,⟨#[]⟩⟩]
def Cp(s:List UInt8):List Rec:=if s= []then []else [⟨2,s.length,⟨⟨s⟩⟩⟩]
def DR(m:Nat):List Rec:=if m=0 then []else [⟨0,m,⟨#[]⟩⟩]
def NW(b:OP):List Rec:=CU b.d++(Cp b.s++DR b.m)
def EZ:List OP→List Rec
 | []=> []
 |b::l=>NW b++EZ l
def norm(es:List Ev):List Rec:=EZ (nb 0 [] 0 es)
theorem wX(es:List Ev):∀d s m,Mc (List.replicate d .d++(s.map .r++(List.replicate m .k++es))) (Cb (nb d s m es)):=by
 induction es with
 |nil=>
  intro d s m;simp only[nb];split
  ·rename_i h;obtain⟨rfl,rfl,rfl⟩ :=h;exact .refl _
  ·simp only[Cb,Pm,List.append_nil];exact .refl _
 |cons e es ih=>
  intro d s m;cases e with
  |k=>
   simp only[nb];have:=ih d s (m+1);rw[List.replicate_succ',List.append_assoc]at this;exact this
  |d=>
   simp only[nb];split
   ·rename_i h;subst h
    refine .trans ?_ (ih (d+1) s 0);rw[List.replicate_succ',List.append_assoc];exact .pre _ (.symm (eK s _))
   ·have:=ih 1 [] 0
    simp only[Cb,Pm,List.append_assoc];exact .pre _ (.pre _ (.pre _ this))
  |r c=>
   simp only[nb];split
   ·rename_i h;subst h
    have:=ih d (s++ [c]) 0;simp only[List.map_append,List.append_assoc]at this;exact this
   ·have:=ih 0 [c] 0
    simp only[Cb,Pm,List.append_assoc];exact .pre _ (.pre _ (.pre _ this))
theorem Zk(es:List Ev):Mc es (Cb (nb 0 [] 0 es)):=wX es 0 [] 0
theorem ji(b:OP):BH (NW b)=Pm b:=by
 unfold NW Pm CU Cp DR;simp only[CK]
 congr 1
 ·split
  ·rename_i h;simp[h,BH]
  ·simp[BH,KI]
 congr 1
 all_goals
  split
  ·rename_i h;simp[h,BH]
  ·simp[BH,KI]
theorem eM(l:List OP):BH (EZ l)=Cb l:=by
 induction l with
 |nil=>rfl
 |cons b l ih=>simp only[EZ,Cb,CK,ji,ih]
theorem jk(es:List Ev):Mc es (BH (norm es)):=by
 unfold norm;rw[eM];exact Zk es
def IX:List OP→Prop
 | []=>True
 | [b]=>0<b.d∨b.s≠ []
 |b::c::l=>(0<b.d∨b.s≠ [])∧0<b.m∧IX (c::l)
def Oj:List OP→Prop
 | []=>True
 | [b]=>0<b.d∨b.s≠ []∨0<b.m
 |b::c::l=>0<b.m∧IX (c::l)
theorem cR(b:OP)(l:List OP)(h:IX l)(hm:0<b.m):Oj (b::l):=by
 cases l with
 |nil=>exact .inr (.inr hm)
 |cons c l=>exact⟨hm,h⟩
theorem XG(b:OP)(l:List OP)(h:IX l)(hm:0<b.m)(hd:0<b.d∨b.s≠ []):IX (b::l):=by
 cases l with
 |nil=>exact hd
 |cons c l=>exact⟨hd,hm,h⟩
theorem jm(es:List Ev):∀d s m,(0<d∨s≠ [])→IX (nb d s m es):=by
 induction es with
 |nil=>
  intro d s m h;simp only[nb];split
  ·trivial
  ·exact h
 |cons e es ih=>
  intro d s m h;cases e with
  |k=>exact ih d s (m+1) h
  |d=>
   simp only[nb];split
   ·exact ih (d+1) s 0 (.inl (by omega))
   ·exact XG _ _ (ih 1 [] 0 (.inl (by omega))) (by simp;omega) h
  |r c=>
   simp only[nb];split
   ·exact ih d (s++ [c]) 0 (.inr (by simp))
   ·exact XG _ _ (ih 0 [c] 0 (.inr (by simp))) (by simp;omega) h
theorem AAQ(es:List Ev):∀d s m,Oj (nb d s m es):=by
 induction es with
 |nil=>
  intro d s m;simp only[nb];split
  ·trivial
  ·rename_i h
   simp only[Oj]
   by_cases h1:0<d
   ·exact .inl h1
   ·by_cases h2:s= []
    ·refine .inr (.inr ?_)
     apply Nat.pos_of_ne_zero;intro h3;exact h ⟨by omega,h2,h3⟩
    ·exact .inr (.inl h2)
 |cons e es ih=>
  intro d s m;cases e with
  |k=>exact ih d s (m+1)
  |d=>
   simp only[nb];split
   ·exact ih (d+1) s 0
   ·exact cR _ _ (jm es 1 [] 0 (.inl (by omega))) (by simp;omega)
  |r c=>
   simp only[nb];split
   ·exact ih d (s++ [c]) 0
   ·exact cR _ _ (jm es 0 [c] 0 (.inr (by simp))) (by simp;omega)
theorem qD(b:OP):C5 (NW b):=by
 intro r hr;rw[CO];unfold NW CU Cp DR at hr;simp only[List.mem_append]at hr;rcases hr with hr|hr|hr
 all_goals
  split at hr
  ·cases hr
 ··rename_i h;simp at hr;subst hr;exact⟨by simp;omega,.inl ⟨by simp,rfl⟩⟩
 ··rename_i h
   simp at hr;subst hr;have:0<b.s.length:=List.length_pos_iff.2 h;refine⟨by simp;omega,.inr ⟨rfl,?_⟩⟩;simp[ByteArray.size]
 ··rename_i h;simp at hr;subst hr;exact⟨by simp;omega,.inl ⟨by simp,rfl⟩⟩
theorem jn(l:List OP):C5 (EZ l):=by
 induction l with
 |nil=>intro r hr;cases hr
 |cons b l ih=>exact U7 (qD b) ih
theorem NY(es:List Ev):C5 (norm es):=jn _
theorem NZ(es:List Ev):DG (norm es)=Jg es∧DH (norm es)=KJ es:=by
 have h:=RF _ (NY es);have e:=jk es;rw[←e.A,←e.B]at h;exact⟨h.1.symm,h.2.symm⟩
end M
namespace M
def BI:List Ev→List Ev→List Ev
 | .r c::es,fs=> .r c::BI es fs
 |es,.d::fs=> .d::BI es fs
 | .k::es,.k::fs=> .k::BI es fs
 | .k::es,.r c::fs=> .r c::BI es fs
 | .d::es,.k::fs=> .d::BI es fs
 | .d::es,.r _::fs=>BI es fs
 | .k::es,[]=>BI es []
 | .d::es,[]=>BI es []
 | [],.k::fs=>BI [] fs
 | [],.r _::fs=>BI [] fs
 | [],[]=> []
termination_by es fs=>es.length+fs.length
@[simp] theorem j_r (c:UInt8) (es fs):BI (.r c::es) fs= .r c::BI es fs:=by
 cases fs with
 |nil=>rw[BI]
 |cons e fs=>cases e<;>rw[BI]
@[simp] theorem AE3 (es fs):BI (.k::es) (.d::fs)= .d::BI (.k::es) fs:=by rw[BI];simp
@[simp] theorem AE4 (es fs):BI (.d::es) (.d::fs)= .d::BI (.d::es) fs:=by rw[BI];simp
@[simp] theorem AE5 (fs):BI [] (.d::fs)= .d::BI [] fs:=by rw[BI];simp
@[simp] theorem AE6 (es fs):BI (.k::es) (.k::fs)= .k::BI es fs:=by rw[BI]
@[simp] theorem AE7 (es c fs):BI (.k::es) (.r c::fs)= .r c::BI es fs:=by rw[BI]
@[simp] theorem AE8 (es fs):BI (.d::es) (.k::fs)= .d::BI es fs:=by rw[BI]
@[simp] theorem AE9 (es c fs):BI (.d::es) (.r c::fs)=BI es fs:=by rw[BI]
@[simp] theorem AFA (es):BI (.k::es) []=BI es []:=by rw[BI]
@[simp] theorem AFB (es):BI (.d::es) []=BI es []:=by rw[BI]
@[simp] theorem AFC (fs):BI [] (.k::fs)=BI [] fs:=by rw[BI]
@[simp] theorem AFD (c fs):BI [] (.r c::fs)=BI [] fs:=by rw[BI]
@[simp] theorem AFE:BI [] []= []:=by rw[BI]
end M
namespace M
theorem wY(es:List Ev):∀a,∀i∈Dj a es,i= -1∨(a:Int)≤i:=by
 induction es with
 |nil=>intro a i h;cases h
 |cons e es ih=>
  intro a i h;cases e with
  |k=>
   simp only[Dj,List.mem_cons]at h;rcases h with rfl|h
   ·exact .inr (Int.le_refl _)
   ·have:=ih _ i h;omega
  |d=>
   simp only[Dj,List.mem_cons]at h;rcases h with rfl|h
   ·exact .inl rfl
   ·exact ih _ i h
  |r c=>have:=ih _ i h;omega
def kk:List Ev→List Int→List Int
 | [],_=> []
 | .r c::es,yb=>(c.toNat:Int)::kk es yb
 | .k::es,v::yb=>v::kk es yb
 | .d::es,_::yb=>kk es yb
 | .k::es,[]=> []
 | .d::es,[]=> []
theorem UF(n a:Nat)(x:List Ev):Dj a (List.replicate n .d++x)=List.replicate n (-1)++Dj a x:=by
 induction n with
 |zero=>rfl
 |succ n ih=>simp[List.replicate_succ,Dj,ih]
theorem eN(n:Nat)(x:List Ev):EC (List.replicate n .d++x)=EC x:=by
 induction n with
 |zero=>rfl
 |succ n ih=>simp[List.replicate_succ,EC,ih]
theorem UG(s:List UInt8)(x:List Ev):∀a,Dj a (s.map .r++x)=Dj (a+s.length) x:=by
 induction s with
 |nil=>intro a;rfl
 |cons c s ih=>intro a;simp[Dj,ih];congr 1;omega
theorem eO(s:List UInt8)(x:List Ev):EC (s.map .r++x)=s.map (fun c=>(c.toNat:Int))++EC x:=by
 induction s with
 |nil=>rfl
 |cons c s ih=>simp[EC,ih]
theorem eP(n:Nat)(x:List Ev):EC (List.replicate n .k++x)=List.replicate n (-1)++EC x:=by
 induction n with
 |zero=>rfl
 |succ n ih=>simp[List.replicate_succ,EC,ih]
theorem wZ(bs:List OP)(h:IX bs)(a:Nat):(Dj a (Cb bs)).head? ≠some (a:Int):=by
 match bs,h with
 | [],_=>simp[Cb,Dj]
 |b::bs,h=>
  simp only[Cb,Pm,List.append_assoc];rw[UF,UG]
  by_cases hd:b.d=0
  ·have hs:b.s≠ []:=by
    cases bs with
    |nil=>rcases h with h|h;·omega
          ·exact h
    |cons c l=>rcases h.1 with h|h;·omega
               ·exact h
   have:0<b.s.length:=List.length_pos_iff.2 hs;rw[hd];simp only[List.replicate_zero,List.nil_append];intro e;have m:=List.mem_of_mem_head? e;have:=wY _ _ _ m;omega
  ·obtain⟨n,hn⟩ :=Nat.exists_eq_succ_of_ne_zero hd
   rw[hn];simp[List.replicate_succ]
theorem wa(m:Nat)(bs:List OP)(hm:0<m∨bs= [])(a:Nat):∀i,(Dj a (List.replicate m .k++Cb bs)).head? =some i→0≤i:=by
 intro i h;rcases hm with hm|rfl
 ·obtain⟨n,rfl⟩ :=Nat.exists_eq_succ_of_ne_zero (by omega:m≠0)
  simp[List.replicate_succ,Dj]at h;omega
 ·cases m with
  |zero=>simp[Cb,Dj]at h
  |succ n=>simp[List.replicate_succ,Dj]at h;omega
theorem wb(m:Nat)(bs:List OP)(hm:0<m∨bs= []):∀i,(EC (List.replicate m .k++Cb bs)).head? =some i→i= -1:=by
 intro i h;rcases hm with hm|rfl
 ·obtain⟨n,rfl⟩ :=Nat.exists_eq_succ_of_ne_zero (by omega:m≠0)
  simp[List.replicate_succ,EC]at h;omega
 ·cases m with
  |zero=>simp[Cb,EC]at h
  |succ n=>simp[List.replicate_succ,EC]at h;omega
theorem qE{b:OP}{bs:List OP}(h:Oj (b::bs)):IX bs∧(0<b.m∨bs= [])∧(0<b.d∨b.s≠ []∨0<b.m):=by
 cases bs with
 |nil=>exact⟨trivial,.inr rfl,h⟩
 |cons c l=>exact⟨h.2,.inl h.1,.inr (.inr h.1)⟩
theorem wg{bs:List OP}(h:IX bs):Oj bs:=by
 cases bs with
 |nil=>trivial
 |cons b l=>
  cases l with
  |nil=>rcases h with h|h
        ·exact .inl h
        ·exact .inr (.inl h)
  |cons c l=>exact⟨h.2.1,h.2.2⟩
end M
namespace M
abbrev Cl:=UInt8×Int
structure Ku where
 kind:Nat
 line:Nat
 ex:Ex
structure Lx where
 ex:Ex
 rep:List (Option UInt8)
 count:Nat
 all:Bool
 Pt:Bool
structure Cm where
 cnt:Nat
 a1:Ku
 a2:Ku
 no:Bool
 name:Nat
 label:Nat
 next:Nat
 text:ByteArray
 sub:Lx
 UO:ByteArray
 Kv:ByteArray
structure St where
 cs:List Cm
 AM:List Bool
 quiet:Bool
 steps:Nat
 room:Nat
 text:ByteArray
 closed:Bool
 behind:Nat
 nl:Int
 out:List Cl
 pat:List Cl
 hold:List Cl
 line:Nat
 queue:List ByteArray
 mark:Bool
 next:Nat
 asks:Nat
 over:Bool
 AB:Nat
def C4(o:Int):Cl:=(10,o)
def BJ(t:List UInt8):List Cl:=t.map (fun c=>(c,-1))
def AL(l:List Cl):List UInt8:=l.map (·.1)
def Dr(l:List Cl):ByteArray:=⟨(AL l).toArray⟩
def Ad:List Cl→Nat
 | []=>0
 |c::t=>if c.1.toNat=10 then 1 else if Ad t=0 then 0 else Ad t+1
def AJ(a:List Cl)(c:Cl)(b:List Cl):List Cl:=a++ [c]++b
def τ(l:List Cl)(i j:Nat):List Cl:=(l.drop i).take (j - i)
def Hw(x:Ex)(s:List UInt8)(p:Nat):Int:=match(List.range (s.length+1)).reverse.find? (fun q=>AP x s p q)with
 |some q=>(q:Int)
 |none=> -1
def Ni(x:Ex)(s:List UInt8):Bool:=(List.range (s.length+1)).any (fun p=>Hw x s p != -1)
def G8(E:Nat→Int)(n:Nat):Nat→Nat→Int→List (Nat×Nat)
 |0,_,_=> []
 |f+1,i,b=>if i≤n then(if(i:Int)<E i∨(E i=(i:Int)∧(i:Int)≠b)then(i,(E i).toNat)::G8 E n f (E i).toNat (E i)else G8 E n f (i+1) b)else []
def CP(x:Ex)(s:List UInt8):List (Nat×Nat):=G8 (Hw x s) s.length (2*s.length+3) 0 (-1)
def Ai(rep:List (Option UInt8))(m:List Cl):List Cl:=rep.flatMap (fun p=>match p with|none=>m|some c=> [(c,-1)])
def I7(s:Lx)(k:Nat):Bool:=k==s.count || (decide (s.count<k) && s.all)
def Au(l:List Cl)(s:Lx):List (Nat×Nat)→Nat→Nat→List Cl
 | [],_,b=>l.drop b
 |m::ms,k,b=>if I7 s k then τ l b m.1++Ai s.rep (τ l m.1 m.2)++Au l s ms (k+1) m.2 else Au l s ms (k+1) b
def G9(t:List UInt8)(c:UInt8):Option Nat:=t.findIdx? (fun d=>d==c)
def BQ(UO Kv:List UInt8)(c:Cl):Cl:=match G9 UO c.1 with
 |none=>c
 |some k=>match Kv[k]? with
  |none=>c
  |some d=>(d,-1)
namespace St
def die(S:St)(e:Nat):St:= {S with AB:=if S.AB=0 then e else S.AB,over:=true}
def put(S:St)(l:List Cl):St:=if S.AB≠0 then S else if 4096 - S.out.length<l.length then S.die 6 else{S with out:=S.out++l}
def Φ(S:St)(t:ByteArray):St:=S.put (AJ (BJ t.data.toList) (C4 (-1)) [])
def BU(S:St):St:=S.put (AJ S.pat (C4 S.nl) [])
def Ar(S:St):St:=if S.quiet then S else S.BU
def Ak(S:St):St:=if Ad S.pat=0 then S.BU else S.put (τ S.pat 0 (Ad S.pat))
def φ(S:St):St:= {S.queue.foldl Φ S with queue:= []}
def AO(S:St):St:= {S.φ with next:=0,asks:=1}
def Am(S:St):St:= {S.Ar.φ with over:=true}
def Bj(S:St):Nat:=S.behind+((S.text.data.toList.drop S.behind).takeWhile (fun c=>c.toNat !=10)).length
def ask(S:St):Nat:=if S.closed=false∧S.text.size<S.Bj+2 then 2 else if S.text.size≤S.behind then 3 else 1
def Θ(S:St):List Cl:=(((S.text.data.toList.drop S.behind).take (S.Bj - S.behind)).zipIdx S.behind).map (fun p=>(p.1,(p.2:Int)))
def took(S:St):St:=if S.Bj<S.text.size then{S with nl:=S.Bj,behind:=S.Bj+1}else{S with nl:= -1,behind:=S.Bj}
def fits(S:St)(n:Nat):Bool:=decide (n≤S.room)
def take(S:St):St:=
 let S1:St:= {S with asks:=0}
 let S2:=if S.asks=2 then S1.Ar else S1
 let S3:=S2.φ
 let S4:St:= {S3.took with line:=S3.line+1,mark:=false}
 let l:=if S.asks=3 then AJ S3.pat (C4 S3.nl) S3.Θ else S3.Θ
 if S4.fits l.length then{S4 with pat:=l}else S4.die 5
def AW(S:St):St:=if S.asks=1 then{S with over:=true}else S.Am
def Ov(S:St):Bool:=decide (S.text.size≤S.behind)
def holds(S:St)(a:Ku):Bool:=if a.kind=1 then a.line==S.line else if a.kind=2 then S.Ov else if a.kind=3 then Ni a.ex (AL S.pat)else false
def AG(S:St)(at':Nat)(c:Cm):Bool×St:=
 if S.AM.getD at' false then(true,{S with AM:=S.AM.set at' (!S.holds c.a2 && !(decide (c.a2.kind=1) && decide (c.a2.line<S.line)))})
 else(S.holds c.a1,{S with AM:=S.AM.set at' (S.holds c.a1 && !(decide (c.a2.kind=1) && decide (c.a2.line≤S.line)))})
def AI(S:St)(at':Nat)(c:Cm):Bool×St:=
 if c.cnt=0 then(true,S)else if c.cnt=1 then(S.holds c.a1 !=c.no,S)else((S.AG at' c).1 !=c.no,(S.AG at' c).2)
def subst(S:St)(s:Lx):St:=
 let ms:=CP s.ex (AL S.pat)
 if ms.length<s.count then S else
 let r:=Au S.pat s ms 1 0
 if S.fits r.length then
  let S2:St:= {S with pat:=r,mark:=true}
  if s.Pt then S2.BU else S2
 else S.die 5
def Ae(S:St):St:=if Ad S.pat=0 then S.AO else{{S with pat:=τ S.pat (Ad S.pat) S.pat.length}.φ with next:=0}
def itoa(n:Nat):ByteArray:=⟨(Lib.decDigits n).toArray⟩
def Bw(S:St)(c:Cm):St:=
 if c.name=112 then S.BU else if c.name=80 then S.Ak else if c.name=61 then S.Φ (itoa S.line)else if c.name=105 then S.Φ c.text else{S with queue:=S.queue++ [c.text]}
def change(S:St)(c:Cm):St:=
 if c.name=104 then{S with hold:=S.pat}else if c.name=103 then{S with pat:=S.hold}else if c.name=120 then{S with pat:=S.hold,hold:=S.pat}
 else if c.name=72 then(let l:=AJ S.hold (C4 (-1)) S.pat;if S.fits l.length then{S with hold:=l}else S.die 5)
 else if c.name=71 then(let l:=AJ S.pat (C4 (-1)) S.hold;if S.fits l.length then{S with pat:=l}else S.die 5)
 else if c.name=115 then S.subst c.sub else{S with pat:=S.pat.map (BQ c.UO.data.toList c.Kv.data.toList)}
def lead(S:St)(c:Cm):St:=
 if c.name=100 then S.AO else if c.name=68 then S.Ae else if c.name=99 then(S.Φ c.text).AO else if c.name=110 then{S with asks:=2}else if c.name=78 then{S with asks:=3}
 else if c.name=113 then S.Am else if c.name=98 then{S with next:=c.next}else if S.mark then{S with mark:=false,next:=c.next}else S
def does(S:St)(c:Cm):St:=
 if c.name=112∨c.name=80∨c.name=61∨c.name=105∨c.name=97 then S.Bw c
 else if c.name=104∨c.name=72∨c.name=103∨c.name=71∨c.name=120∨c.name=115∨c.name=121 then S.change c
 else if c.name=100∨c.name=68∨c.name=99∨c.name=110∨c.name=78∨c.name=113∨c.name=98∨c.name=116 then S.lead c else S
def reach(S:St):St:=match S.cs[S.next]? with
 |none=>S.Ar.AO
 |some c=>
  if S.steps=0 then S.die 4 else
  let S1:St:= {S with steps:=S.steps - 1,next:=S.next+1}
  let r:=S1.AI S.next c
  if r.1 then r.2.does c else if c.name=123 then{r.2 with next:=c.next}else r.2
def stuck(S:St):Bool:=decide (S.asks≠0) && S.ask==2
def move(S:St):St:=if S.asks=0 then S.reach else if S.ask=2 then S else if S.ask=3 then S.AW else S.take
def still(S:St):Bool:=S.over || S.stuck
end St
inductive Goes:St→St→Prop
 |stop {S:St}:S.still=true→Goes S S
 |step {S T:St}:S.still=false→Goes S.move T→Goes S T
theorem Goes.unique{S T U:St}(h:Goes S T)(g:Goes S U):T=U:=by
 induction h with
 |stop h=>cases g with
  |stop _=>rfl
  |step k _=>rw[h]at k;cases k
 |step h _ ih=>cases g with
  |stop k=>rw[h]at k;cases k
  |step _ g=>exact ih g
end M
end Go.Proofs.YtlppphmnegdhoabGreatDoor
