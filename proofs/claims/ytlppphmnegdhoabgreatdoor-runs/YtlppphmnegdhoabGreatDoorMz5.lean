import Derived.Test.YtlppphmnegdhoabGreatDoorMz4
set_option maxRecDepth 100000
set_option linter.unusedVariables false
set_option maxHeartbeats 4000000
namespace Go.Proofs.YtlppphmnegdhoabGreatDoor
open Go.Proofs.Tryz
open Go.RowKit
open M
def JP(A:List UInt8):List Value:=A.map fun b=> .int .u8 (b.toNat:Int)
theorem Sm(A:List UInt8)(n:Nat)(h:n<256):JP A++ [.int .u8 (n:Int)]=JP (A++ [UInt8.ofNat n]):=by
 simp[JP,u8 n h]
theorem Pd(A:List UInt8)(s:ByteArray):JP A++Lib.strCells s=JP (A++s.data.toList):=by
 rw[strCells_eq];simp[JP]
theorem zx(w:World)(x:Value)(t:TypeId):∀j u,[x][j]? =some u→(w.alloc (.cells #[x] t)).cell? ((⟨w.heap.size,0,none⟩ :Addr).add j)=some u:=by
 intro j u h
 match j,h with
 |0,h=>simp at h;subst h;simp[Addr.add]
 |n+1,h=>simp at h
theorem Ij(v:Nat)(w:World)(hv:v<2097152):
  Calls prog 128 #[.int .i64 v] w fun e w'=>(∃t:ByteArray,e= .returned (.string t)∧t.data.toList=EY v)∧Below w.heap.size w w':=by
 obtain⟨i0,hi,DF,CN,Dq⟩ :=info_parts Tryz.oa
 go_enter func128,ntmps128
 go_wp2
 go_loopw [0,3] (fun vv o wr=>∃(x:Nat)(A:List UInt8),vv= .int .i64 x∧wr.ownsRow w.heap.size 5 1 o A.length (JP A)∧x<2097152∧Hid (A++EY x=EY v)∧(A.length=0∨A.length=1∧x<16384∨A.length=2∧x<128)∧Below w.heap.size w wr) (fun vv _ _=>(intOf vv).toNat)
 case atStart=>exact⟨v,[],rfl,World.ownsRow_nil _ _ _ _,hv,rfl,.inl rfl,ζ⟩
 case round=>
  obtain⟨x,A,rfl,ν,hx,H,EV,B⟩ :=hrel;have hA:A.length≤2:=by omega
  have hz:=B.size
  by_cases Ac:x<128
  ·have AV:(x:Int)<128:=by omega
   have HT:Hid (A++ [UInt8.ofNat x]=EY v):=by
    show _=_;rw[←H.out];simp[EY,Ac]
   go_wp2_with(first
    | (at_builtin;refine wpList_append_own _ rfl _ _ 151 rfl w.heap.size 5 i0 (.int .u8 0) 1 1 underlying151 hi DF CN Dq rfl (by decide) _ _ _ rfl (ν.alloc _) ⟨wr.heap.size,0,none⟩ 1 1 [.int .u8 (x:Int)] rfl rfl ?k1 ?k2 ?k3 ?k4 ?k5 ?_)
    |go_in)
   case k1=>exact zx _ _ _
   case k2=>intro u hu;simp at hu;subst hu;rfl
   case k3=>unfold maxLen;omega
   case k4=>omega
   case k5=>simp;omega
   intro v' w3 Γ AE _;have B3:Below w.heap.size w w3:=(B.alloc hz _).grown AE (by simp;omega) (fun k hk=>(ν.lt k hk).1);rw[Sm A x (by omega)]at Γ;clear AE ν;have GA:w3.ownsRow w.heap.size 5 1 v' (A++ [UInt8.ofNat x]).length (JP (A++ [UInt8.ofNat x])):=by simpa using Γ
   obtain⟨t,ht,hr⟩ :=OJ GA;rw[HT.out]at ht;clear Γ GA;have Er:=γ ht;clear ht;go_wp2;go_ret;exact⟨⟨t,rfl,Er.out⟩,B3⟩
  ·have AV:¬(x:Int)<128:=by omega
   have HT:Hid (A++ [UInt8.ofNat (128+x % 128)]++EY (x / 128)=EY v):=by
    show _=_;rw[←H.out,List.append_assoc]
    congr 1
    exact(UC x (by omega) hx).symm
   go_wp2_with(first
    | (at_builtin;refine wpList_append_own _ rfl _ _ 151 rfl w.heap.size 5 i0 (.int .u8 0) 1 1 underlying151 hi DF CN Dq rfl (by decide) _ _ _ rfl (ν.alloc _) ⟨wr.heap.size,0,none⟩ 1 1 [.int .u8 (128+(x:Int) % 128)] rfl rfl ?k1 ?k2 ?k3 ?k4 ?k5 ?_)
    |go_in)
   case k2=>rfl
   case k3=>unfold maxLen;omega
   case k4=>omega
   case k5=>omega
   intro v' w3 Γ AE _;have B3:Below w.heap.size w w3:=(B.alloc hz _).grown AE (by simp;omega) (fun k hk=>(ν.lt k hk).1);have e1:(128+(x:Int) % 128)=((128+x % 128:Nat):Int):=by omega
   rw[e1,Sm A (128+x % 128) (by omega)]at Γ;clear AE ν e1;go_wp2
   go_roundw
   case rel=>exact⟨x / 128,A++ [UInt8.ofNat (128+x % 128)],by go_num,by simpa using Γ,by omega,HT.out,by rw[List.length_append];simp only[List.length_singleton];omega,B3⟩
   case measure=>simp[intOf];omega
theorem Y0(x:Int)(w:World)(h0:0≤x)(hv:x<2097152):
  Calls prog 128 #[.int .i64 x] w fun e w'=>(∃t:ByteArray,e= .returned (.string t)∧t.data.toList=EY x.toNat)∧Below w.heap.size w w':=by
 obtain⟨n,rfl⟩ :=Int.eq_ofNat_of_zero_le h0;exact Ij n w (by omega)
theorem Sn(la lb sa sb:Nat)(l:List M.Rec)(w:World)(pF:la≤4096)(jd:lb≤4096)(uS:sa<65536)(je:sb<65536):
  Calls prog 127 #[.agg #[.int .i64 la,.int .i64 lb,.int .i64 sa,.int .i64 sb]] w fun e w'=>(∃t:ByteArray,e= .returned (.string t)∧t.data.toList=Gb ⟨la,lb,sa,sb,l⟩)∧Below w.heap.size w w':=by
 go_enter func127,ntmps127
 go_wp2_with fail
 refine(Ij la _ (by omega)).mono ?_;rintro e w1 ⟨⟨t1,rfl,wR⟩,b1⟩;have d1:w1.cell? ⟨w.heap.size,1,none⟩ =some (.int .i64 lb):=by rw[(Q6 b1).1 _ _ (by simp)];simp[go_sem]
 have d2:w1.cell? ⟨w.heap.size,2,none⟩ =some (.int .i64 sa):=by rw[(Q6 b1).1 _ _ (by simp)];simp[go_sem]
 have d3:w1.cell? ⟨w.heap.size,3,none⟩ =some (.int .i64 sb):=by rw[(Q6 b1).1 _ _ (by simp)];simp[go_sem]
 have z1:w.heap.size<w1.heap.size:=by have:=b1.size;simp at this;omega
 have B1:Below w.heap.size w w1:=((Below.refl w.heap.size w).alloc δ _).trans (b1.mono (by simp));clear b1
 go_wp2_with fail
 refine(Ij lb _ (by omega)).mono ?_;rintro e w2 ⟨⟨t2,rfl,pG⟩,b2⟩;have e2:=((Q6 b2).1 _ 2 z1).trans d2;have e3:=((Q6 b2).1 _ 3 z1).trans d3;have z2:w.heap.size<w2.heap.size:=by have:=b2.size;omega
 have B2:Below w.heap.size w w2:=B1.trans (b2.mono (by omega));clear b2 d1 d2 d3 B1
 go_wp2_with fail
 refine(Od sa _ (by omega)).mono ?_;rintro e w3 ⟨⟨t3,rfl,wT⟩,b3⟩;have f3:=((Q6 b3).1 _ 3 z2).trans e3;have z3:w.heap.size<w3.heap.size:=by have:=b3.size;omega
 have B3:Below w.heap.size w w3:=B2.trans (b3.mono (by omega));clear b3 e2 e3 B2
 go_wp2_with fail
 refine(Od sb _ (by omega)).mono ?_;rintro e w4 ⟨⟨t4,rfl,wU⟩,b4⟩;have B4:Below w.heap.size w w4:=B3.trans (b4.mono (by omega));clear b4 f3 B3;have CE:=Gt wR;have Fw:=Gt pG;have H4:=Gu wT;have Kh:=Gu wU;have Lq:2+t1.size≤9223372036854775807:=by omega
 have NP:2+t1.size+t2.size≤9223372036854775807:=by omega
 have hq3:2+t1.size+t2.size+t3.size≤9223372036854775807:=by omega
 have hq4:2+t1.size+t2.size+t3.size+t4.size≤9223372036854775807:=by omega
 have HH:=γ (XE la lb sa sb l wR pG wT wU);clear wR pG wT wU;go_wp2;go_ret;exact⟨⟨_,rfl,HH.out⟩,B4⟩
theorem WV(a b:ByteArray)(w:World)(ha:a.size≤4096)(hb:b.size≤4096):
  Calls prog 87 #[.string a,.string b] w fun e w'=>e= .returned (.agg #[.int .i64 a.size,.int .i64 b.size,.int .i64 (sum a.data.toList:Nat),.int .i64 (sum b.data.toList:Nat)])∧Below w.heap.size w w':=by
 go_enter func87,ntmps87
 go_wp2_with fail
 refine(Oc a _ (by unfold maxLen;omega)).mono ?_;rintro e w1 ⟨rfl,rfl⟩
 go_wp2_with fail
 refine(Oc b _ (by unfold maxLen;omega)).mono ?_;rintro e w1 ⟨rfl,rfl⟩;go_wp2;exact bodyPost_ret (v:= .agg #[.int .i64 a.size,.int .i64 b.size,.int .i64 (sum a.data.toList:Nat),.int .i64 (sum b.data.toList:Nat)]) (by simp[results,Tryz.results87,go_sem]) rfl ⟨rfl,ζ.alloc δ _⟩
theorem Y1{w:World}{base:Nat}{v:Value}{A:List UInt8}(h:w.ownsRow base 5 1 v A.length (JP A)):∃t:ByteArray,t.data.toList=A∧(convert 151 9 v).run prog w= .ok (.string t) w:=OJ h
theorem WW(la lb sa sb n c:Nat)(a:Option Addr)(l:List M.Rec)(w:World)(pF:la≤4096)(jd:lb≤4096)(uS:sa<65536)(je:sb<65536)(Cw:Jf w a n l)(Fx:C5 l)(ha:DG l≤4096)(hb:DH l≤4096):
  Calls prog 88 #[.agg #[.int .i64 la,.int .i64 lb,.int .i64 sa,.int .i64 sb],.slice a n c] w fun e w'=>(∃t:ByteArray,e= .returned (.string t)∧t.data.toList=Pk ⟨la,lb,sa,sb,l⟩)∧Below w.heap.size w w':=by
 have hn:=Cw.len;subst hn;have hl4:l.length≤8192:=by have:=UE l Fx;omega
 obtain⟨i0,hi,DF,CN,Dq⟩ :=info_parts Tryz.oa
 go_enter func88,ntmps88
 go_wp2_with fail
 refine(Sn la lb sa sb l _ pF jd uS je).mono ?_;rintro e w1 ⟨⟨t,rfl,ht⟩,b1⟩;have B1:Below w.heap.size w w1:=((Below.refl w.heap.size w).alloc δ _).trans (b1.mono (by simp));have Q7:t.size≤12:=by rw[←Δ,ht];exact Oi la lb sa sb l
 have HT:=γ ht;have z1:=B1.size;clear b1 ht;have zy:=World.ownsRow_nil w1 w.heap.size 5 1
 go_wp2_with(first
  | (at_builtin;refine Lib.wpList_append_own_string _ rfl _ _ 151 9 rfl w.heap.size 5 i0 underlying151 underlying9 hi DF CN Dq _ _ _ rfl zy t rfl ?k3 ?k4 ?k5 ?_)
  |go_in)
 case k3=>unfold maxLen;omega
 case k4=>omega
 case k5=>omega
 intro v2 w2 bP AE _;have B2:Below w.heap.size w w2:=B1.grown AE z1 (fun k hk=>(zy.lt k hk).1);have T3:w2.ownsRow w.heap.size 5 1 v2 (Gb ⟨la,lb,sa,sb,l⟩).length (JP (Gb ⟨la,lb,sa,sb,l⟩)):=by
  rw[←HT.out,Δ];have h:=bP;rw[strCells_eq]at h;exact h
 clear AE zy bP;go_wp2
 go_loopw [5,19] (fun v i wr=>∃(k:Nat)(A:List UInt8),k≤l.length∧i= .int .i64 k∧wr.ownsRow w.heap.size 5 1 v A.length (JP A)∧Hid (A=Gb ⟨la,lb,sa,sb,l⟩ ++ED (l.take k))∧Below w.heap.size w wr) (fun _ i _=>l.length - (intOf i).toNat)
 case atStart=>exact⟨0,Gb ⟨la,lb,sa,sb,l⟩,ε,rfl,T3,by simp[Hid,ED],B2⟩
 case round=>
  obtain⟨k,A,hk,rfl,ν,HS,B⟩ :=hrel;have E7:=XB l Fx k;have RE:=XA (l.take k) (RD Fx k);have hhl:=Oi la lb sa sb l;have hss:A.length≤40000:=by
   rw[HS.out,List.length_append];omega
  have hz:=B.size;clear RE hhl E7 T3 B2 HT
  by_cases Ac:k<l.length
  ·have AV:(k:Int)<(l.length:Int):=by omega
   have CQ:l≠ []:=fun h=>by rw[h]at Ac;simp at Ac
   obtain⟨bk,off,ha',ND,G6⟩ :=Cw.cells.resolve_left CQ;subst ha';obtain⟨c0,c1,c2⟩ :=G6 k Ac;have d0:=(B.cell (by exact ND)).trans c0;have d1:=(B.cell (by exact ND)).trans c1;have d2:=(B.cell (by exact ND)).trans c2;have VE:=Fx l[k] (List.getElem_mem Ac);have uU:=jM l Fx ha hb l[k] (List.getElem_mem Ac);have HR:=γ (XC l k Ac);clear G6 c0 c1 c2 CQ;generalize l[k]=r at*;have ho:=(CO r).1 VE;have hrs:r.s.size≤4096:=by omega
   have VF:0≤4*r.n+r.kind:=by omega
   have EN:4*r.n+r.kind<2097152:=by omega
   have IW:0≤r.kind∧r.kind≤2:=by omega
   have RU:1≤r.n:=by omega
   clear ho VE
   go_wp2_with fail
   refine(Y0 (4*r.n+r.kind) _ VF EN).mono ?_;rintro e w3 ⟨⟨t,rfl,ht⟩,b3⟩;have CE:=Gt ht;have e2:w3.cell? ⟨wr.heap.size,2,none⟩ =some (.string r.s):=by rw[(Q6 b3).1 _ _ (by simp)];simp[go_sem]
   have T3:=Ξ (ν.alloc _) b3;have B3:Below w.heap.size w w3:=(B.alloc hz _).trans (b3.mono (by simp;omega));have z3:=B3.size;have zz:wr.heap.size<w3.heap.size:=by have:=b3.size;simp at this;omega
   have hne:=fun k hk=>(ν.lt k hk).2
   clear b3 ν d0 d1 d2
   go_wp2_with(first
    | (at_builtin;refine Lib.wpList_append_own_string _ rfl (.tmp 30) (.tmp 31) 151 9 rfl w.heap.size 5 i0 underlying151 underlying9 hi DF CN Dq _ _ _ rfl T3 t rfl ?k3 ?k4 ?k5 ?_)
    |go_in)
   case k3=>unfold maxLen;omega
   case k4=>omega
   case k5=>omega
   intro v4 w4 Y2 AE _;have e4:w4.cell? ⟨wr.heap.size,2,none⟩ =some (.string r.s):=AE.cell e2 (fun e=>by have:=hne _ e.symm;simp at this);have B4:Below w.heap.size w w4:=B3.grown AE z3 (fun k hk=>(T3.lt k hk).1);have z4:=B4.size;rw[Pd]at Y2;clear AE T3 e2 B3 hne
   go_wp2_with(first
    | (at_builtin;refine Lib.wpList_append_own_string _ rfl (.tmp 33) (.tmp 35) 151 9 rfl w.heap.size 5 i0 underlying151 underlying9 hi DF CN Dq _ _ _ rfl Y2 r.s rfl ?k3 ?k4 ?k5 ?_)
    |go_in)
   case k3=>unfold maxLen;omega
   case k4=>omega
   case k5=>omega
   intro v5 w5 bq AE _;have B5:Below w.heap.size w w5:=B4.grown AE z4 (fun k hk=>(Y2.lt k hk).1);rw[Pd]at bq;have ER:Hid (A++t.data.toList++r.s.data.toList=Gb ⟨la,lb,sa,sb,l⟩ ++ED (l.take (k+1))):=by
    show _=_;rw[ht,HS.out,HR.out,U3];simp
   have uB:w5.ownsRow w.heap.size 5 1 v5 (A++t.data.toList++r.s.data.toList).length (JP (A++t.data.toList++r.s.data.toList)):=by
    rw[List.length_append,List.length_append,Δ,Δ,ht];simpa using bq
   clear AE Y2 bq e4 B4 ht;go_wp2
   go_roundw
   case rel=>exact⟨k+1,_,by omega,by go_num,uB,ER.out,B5⟩
   case measure=>simp[intOf];omega
  ·obtain rfl:k=l.length:=by omega
   obtain⟨t,ht,hr⟩ :=Y1 ν;have Q7:t.size≤40000:=by rw[←Δ,ht];exact hss
   have HB:Hid (t.data.toList=cO ⟨la,lb,sa,sb,l⟩):=by
    show _=_;rw[ht,HS.out,List.take_length];rfl
   have HA:=γ ht.symm;have DC:=KZ t.data.toList;clear ht
   go_wp2_with fail
   refine(Oc t _ (by unfold maxLen;omega)).mono ?_;rintro e w3 ⟨rfl,rfl⟩;clear hr
   go_wp2_with fail
   refine(Od _ _ DC).mono ?_;rintro e w4 ⟨⟨u,rfl,hu⟩,b4⟩;have ZP:=Gu hu;have Y2:=Ξ ν b4;have B4:Below w.heap.size w w4:=B.trans (b4.mono hz);have z4:=B4.size;clear b4 ν
   go_wp2_with(first
    | (at_builtin;refine Lib.wpList_append_own_string _ rfl (.tmp 43) (.tmp 44) 151 9 rfl w.heap.size 5 i0 underlying151 underlying9 hi DF CN Dq _ _ _ rfl Y2 u rfl ?k3 ?k4 ?k5 ?_)
    |go_in)
   case k3=>unfold maxLen;omega
   case k4=>omega
   case k5=>omega
   intro v5 w5 bq AE _;have B5:Below w.heap.size w w5:=B4.grown AE z4 (fun k hk=>(Y2.lt k hk).1);rw[Pd]at bq;have uB:w5.ownsRow w.heap.size 5 1 v5 (A++u.data.toList).length (JP (A++u.data.toList)):=by
    rw[List.length_append,Δ];exact bq
   obtain⟨x,hx,hr⟩ :=Y1 uB;have HX:Hid (x.data.toList=Pk ⟨la,lb,sa,sb,l⟩):=by
    show _=_;rw[hx,hu,HA.out,HB.out];rfl
   clear AE Y2 bq uB hx hu;go_wp2;go_ret;exact⟨⟨x,rfl,HX.out⟩,B5⟩
end Go.Proofs.YtlppphmnegdhoabGreatDoor
namespace Go.Proofs.YtlppphmnegdhoabGreatDoor
open Go.RowKit
open M
structure Ok(w:World)(a:Option Addr)(F:List Int):Prop where
 cells:F= []∨∃g,a=some ⟨g,0,none⟩∧g<w.heap.size∧∀i(h:i<F.length),w.cell? ⟨g,i,none⟩ =some (.int .i64 F[i])
theorem Na{w:World}{B:Nat}{a:Option Addr}{c:Nat}{F:List Int}(h:w.ownsRow B 3 1 (.slice a F.length c) F.length (Ki F)):Ok w a F:=by
 by_cases h0:F= []
 ·exact⟨.inl h0⟩
 ·have hp:0<F.length:=List.length_pos_iff.2 h0
  obtain⟨g,cap,e,_,hg⟩ :=h.form hp;simp only[Value.slice.injEq]at e;obtain⟨rfl,_,rfl⟩ :=e;refine⟨.inr ⟨g,rfl,hg,fun i hi=> ?_⟩⟩;rw[h.cellAt i (by omega),jo F i hi]
theorem Kj{F G:List Int}{b:Nat}(h:F.drop b=G)(t:Nat):F[b+t]? =G[t]? :=by rw[←h,List.getElem?_drop]
theorem I1{F G:List Int}{b:Nat}(h:F.drop b=G)(hb:b≤F.length):F.length=b+G.length:=by rw[←h,List.length_drop];omega
theorem get_some{F:List Int}{i:Nat}{x:Int}(h:F[i]? =some x):∃hi:i<F.length,F[i]=x:=List.getElem?_eq_some_iff.1 h
theorem jr{F G:List Int}{b d:Nat}(h:F.drop b=List.replicate d (-1)++G)(hb:b≤F.length)(hG:∀i,G.head? =some i→0≤i):
  (∀t,t<d→∃hi:b+t<F.length,F[b+t]= -1)∧(∀hi:b+d<F.length,0≤F[b+d])∧b+d≤F.length∧F.drop (b+d)=G:=by
 refine⟨fun t ht=> ?_,fun hi=> ?_,?_,?_⟩
 ·apply get_some;rw[Kj h,List.getElem?_append_left (by simpa using ht)];simp[ht]
 ·apply hG
  rw[List.head?_eq_getElem?];have:=Kj h d;rw[List.getElem?_append_right (by simp)]at this;simp at this;rw[List.getElem?_eq_getElem hi]at this
  simpa using this.symm
 ·have:=I1 h hb;simp at this;omega
 ·rw[←List.drop_drop,h,List.drop_append_of_le_length (by simp),List.drop_of_length_le (by simp)];rfl
theorem js{K G:List Int}{a:Nat}{s:List UInt8}(h:K.drop a=s.map (fun c=>(c.toNat:Int))++G)(ha:a≤K.length)(hG:∀i,G.head? =some i→i= -1):
  (∀t(ht:t<s.length),∃hi:a+t<K.length,K[a+t]=(s[t].toNat:Int))∧(∀hi:a+s.length<K.length,K[a+s.length]= -1)∧a+s.length≤K.length∧K.drop (a+s.length)=G:=by
 refine⟨fun t ht=> ?_,fun hi=> ?_,?_,?_⟩
 ·apply get_some;rw[Kj h,List.getElem?_append_left (by simpa using ht)];simp[ht]
 ·apply hG
  rw[List.head?_eq_getElem?];have:=Kj h s.length;rw[List.getElem?_append_right (by simp)]at this;simp at this;rw[List.getElem?_eq_getElem hi]at this
  simpa using this.symm
 ·have:=I1 h ha;simp at this;omega
 ·rw[←List.drop_drop,h,List.drop_append_of_le_length (by simp),List.drop_of_length_le (by simp)];rfl
theorem eR(m:Nat)(x:List Ev):∀a t,t<m→(Dj a (List.replicate m .k++x))[t]? =some ((a+t:Nat):Int):=by
 induction m with
 |zero=>intro a t h;omega
 |succ m ih=>
  intro a t h;simp only[List.replicate_succ,List.cons_append,Dj];cases t with
  |zero=>simp
  |succ t=>rw[List.getElem?_cons_succ,ih (a+1) t (by omega)];congr 2;omega
theorem RI(m:Nat)(x:List Ev):∀a,(Dj a (List.replicate m .k++x)).drop m=Dj (a+m) x:=by
 induction m with
 |zero=>intro a;simp
 |succ m ih=>intro a;simp only[List.replicate_succ,List.cons_append,Dj,List.drop_succ_cons];rw[ih (a+1)];congr 1;omega
theorem jt{F K:List Int}{a b m:Nat}{bs:List OP}(h:F.drop b=Dj a (List.replicate m .k++Cb bs))(g:K.drop a=List.replicate m (-1)++EC (Cb bs))(hb:b≤F.length)(ha:a≤K.length)(hw:IX bs):
  (∀t,t<m→a+t<K.length∧∃hi:b+t<F.length,F[b+t]=((a+t:Nat):Int))∧(∀hi:b+m<F.length,F[b+m]≠((a+m:Nat):Int))∧b+m≤F.length∧a+m≤K.length∧F.drop (b+m)=Dj (a+m) (Cb bs)∧K.drop (a+m)=EC (Cb bs):=by
 have hF:F.drop (b+m)=Dj (a+m) (Cb bs):=by rw[←List.drop_drop,h,RI]
 have lf:=I1 h hb;have lk:=I1 g ha;rw[NU,Fh,(XF m).2]at lf;simp at lk;refine⟨fun t ht=>⟨by omega,?_⟩,fun hi e=> ?_,by omega,by omega,hF,?_⟩
 ·apply get_some;rw[Kj h,eR m _ a t ht]
 ·apply wZ bs hw (a+m)
  rw[←hF,List.head?_drop,List.getElem?_eq_getElem hi,e]
 ·rw[←List.drop_drop,g,List.drop_append_of_le_length (by simp),List.drop_of_length_le (by simp)];rfl
theorem count_le(l:List M.Rec)(h:C5 l):(l.length:Int)≤DG l+DH l:=by
 induction l with
 |nil=>simp[DG,DH]
 |cons r l ih=>
  have h1:=ih (DI h).2;have h2:=wD r (DI h).1;have h3:=((CO r).1 (DI h).1).1;simp only[List.length_cons,DG,DH];omega
theorem Zp(es:List Ev):(norm es).length≤Jg es+KJ es:=by
 have h:=count_le _ (NY es);have g:=NZ es;omega
structure RJ(F K:List Int)(L all:List M.Rec)(bs:List OP)(a b:Nat):Prop where
 wf:Oj bs
 hf:F.drop b=Dj a (Cb bs)
 hk:K.drop a=EC (Cb bs)
 hb:b≤F.length
 ha:a≤K.length
 out:L++EZ bs=all
theorem RJ.start(es:List Ev):RJ (Dj 0 es) (EC es) [] (norm es) (nb 0 [] 0 es) 0 0:=
 ⟨AAQ es 0 [] 0,by rw[List.drop_zero,(Zk es).F],by rw[List.drop_zero,(Zk es).K],ε,ε,rfl⟩
theorem RJ.fin{F K:List Int}{L all:List M.Rec}{a b:Nat}(h:RJ F K L all [] a b):a=K.length∧b=F.length∧L=all:=by
 have h1:=I1 h.hf h.hb;have h2:=I1 h.hk h.ha;have h3:=h.out;simp[Cb,Dj,EC,EZ]at h1 h2 h3;exact⟨h2.symm,h1.symm,h3⟩
structure cS(F K:List Int)(L all:List M.Rec)(blk:OP)(bs:List OP)(a b:Nat):Prop where
 some:0<blk.d∨blk.s≠ []∨0<blk.m
 AAR:∀t,t<blk.d→∃hi:b+t<F.length,F[b+t]= -1
 ACZ:∀hi:b+blk.d<F.length,0≤F[b+blk.d]
 AAS:∀t(ht:t<blk.s.length),∃hi:a+t<K.length,K[a+t]=(blk.s[t].toNat:Int)
 ACa:∀hi:a+blk.s.length<K.length,K[a+blk.s.length]= -1
 keeps:∀t,t<blk.m→a+blk.s.length+t<K.length∧∃hi:b+blk.d+t<F.length,F[b+blk.d+t]=((a+blk.s.length+t:Nat):Int)
 ACb:∀hi:b+blk.d+blk.m<F.length,F[b+blk.d+blk.m]≠((a+blk.s.length+blk.m:Nat):Int)
 la:a+blk.s.length+blk.m≤K.length
 lb:b+blk.d+blk.m≤F.length
 next:RJ F K (L++(CU blk.d++(Cp blk.s++DR blk.m))) all bs (a+blk.s.length+blk.m) (b+blk.d+blk.m)
theorem RJ.round{F K:List Int}{L all:List M.Rec}{blk:OP}{bs:List OP}{a b:Nat}(h:RJ F K L all (blk::bs) a b):cS F K L all blk bs a b:=by
 obtain⟨w1,w2,w3⟩ :=qE h.wf;have hf:=h.hf;have hk:=h.hk;simp only[Cb,Pm,List.append_assoc]at hf hk;rw[UF,UG]at hf;rw[eN,eO]at hk;obtain⟨p1,p2,p3,p4⟩ :=jr hf h.hb (wa _ _ w2 _);obtain⟨q1,q2,q3,q4⟩ :=js hk h.ha (wb _ _ w2);rw[eP]at q4;obtain⟨r1,r2,r3,r4,r5,r6⟩ :=jt p4 q4 p3 q3 w1;refine⟨w3,p1,p2,q1,q2,r1,r2,r4,r3,wg w1,r5,r6,r3,r4,?_⟩;have:=h.out;simp only[EZ,NW]at this;rw[←this];simp only[List.append_assoc]
def bu(A:List UInt8):List Value:=A.map fun b=> .int .u8 (b.toNat:Int)
structure Fc(b:Nat)(w:World)(vo:Value)(m d:Nat)(vr:Value):Prop where
 c0:w.cell? ⟨b,0,none⟩ =some vo
 c1:w.cell? ⟨b,1,none⟩ =some (.int .i64 m)
 c2:w.cell? ⟨b,2,none⟩ =some (.int .i64 d)
 c3:w.cell? ⟨b,3,none⟩ =some vr
 f0:w.frozen? ⟨b,0,none⟩ =false
 f1:w.frozen? ⟨b,1,none⟩ =false
 f2:w.frozen? ⟨b,2,none⟩ =false
 f3:w.frozen? ⟨b,3,none⟩ =false
theorem Fc.keep{b:Nat}{w w':World}{vo vr:Value}{m d:Nat}(h:Fc b w vo m d vr)(hk:w'.heap[b]? =w.heap[b]?):Fc b w' vo m d vr:=by
 have hc:∀o,w'.cell? ⟨b,o,none⟩ =w.cell? ⟨b,o,none⟩ :=fun o=>World.cell?_of_block hk
 have hf:∀o,w'.frozen? ⟨b,o,none⟩ =w.frozen? ⟨b,o,none⟩ :=fun o=>World.frozen?_of_block hk
 exact⟨(hc _).trans h.c0,(hc _).trans h.c1,(hc _).trans h.c2,(hc _).trans h.c3,(hf _).trans h.f0,(hf _).trans h.f1,(hf _).trans h.f2,(hf _).trans h.f3⟩
theorem Fc.RP{b:Nat}{w:World}{vo vr:Value}{m d:Nat}(h:Fc b w vo m d vr)(u:Value):Fc b (w.setCell ⟨b,0,none⟩ u) u m d vr:=by
 obtain⟨c0,c1,c2,c3,f0,f1,f2,f3⟩ :=h;refine⟨?_,?_,?_,?_,?_,?_,?_,?_⟩
 all_goals first| (simp[go_sem, *];done) | (rw[World.cell?_setCell_other (by simp)];assumption) |exact World.cell?_setCell_same c0
theorem Fc.RN{b:Nat}{w:World}{vo vr:Value}{m d:Nat}(h:Fc b w vo m d vr)(u:Nat):Fc b (w.setCell ⟨b,1,none⟩ (.int .i64 u)) vo u d vr:=by
 obtain⟨c0,c1,c2,c3,f0,f1,f2,f3⟩ :=h;refine⟨?_,?_,?_,?_,?_,?_,?_,?_⟩
 all_goals first| (simp[go_sem, *];done) | (rw[World.cell?_setCell_other (by simp)];assumption) |exact World.cell?_setCell_same c1
theorem Fc.VG{b:Nat}{w:World}{vo vr:Value}{m d:Nat}(h:Fc b w vo m d vr)(u:Nat):Fc b (w.setCell ⟨b,2,none⟩ (.int .i64 u)) vo m u vr:=by
 obtain⟨c0,c1,c2,c3,f0,f1,f2,f3⟩ :=h;refine⟨?_,?_,?_,?_,?_,?_,?_,?_⟩
 all_goals first| (simp[go_sem, *];done) | (rw[World.cell?_setCell_other (by simp)];assumption) |exact World.cell?_setCell_same c2
theorem Fc.eT{b:Nat}{w:World}{vo vr:Value}{m d:Nat}(h:Fc b w vo m d vr)(u:Value):Fc b (w.setCell ⟨b,3,none⟩ u) vo m d u:=by
 obtain⟨c0,c1,c2,c3,f0,f1,f2,f3⟩ :=h;refine⟨?_,?_,?_,?_,?_,?_,?_,?_⟩
 all_goals first| (simp[go_sem, *];done) | (rw[World.cell?_setCell_other (by simp)];assumption) |exact World.cell?_setCell_same c3
structure Dp(b:Nat)(w:World)(S:SL)(vo vr:Value):Prop where
 box:Fc b w vo S.m S.d vr
 out:w.ownsRow (b+1) 69 3 vo S.out.length (C6 S.out)
 s:w.ownsRow (b+1) 5 1 vr S.s.length (bu S.s)
 lt:b<w.heap.size
theorem So{w:World}{B1 B2:Nat}{e1 e2:TypeId}{s1 s2:Nat}{v1 v2:Value}{n1 n2:Nat}{x1 x2:List Value}(h1:w.ownsRow B1 e1 s1 v1 n1 x1)(h2:w.ownsRow B2 e2 s2 v2 n2 x2)(hne:e1≠e2):v1.ownBlock=none∨v1.ownBlock≠v2.ownBlock:=by
 rcases h1.2 with⟨rfl,_⟩ | ⟨g,cap,cur,rfl,hb,hg,_⟩
 ·exact .inl rfl
 ·right
  rcases h2.2 with⟨rfl,_⟩ | ⟨g',eW,AAU,rfl,eC,XU,_⟩
  ·simp[Value.ownBlock]
  ·intro e
   simp[Value.ownBlock]at e;subst e;rw[hg]at XU;simp at XU;exact hne XU.2
theorem Dp.keep{b:Nat}{w w':World}{S:SL}{vo vr:Value}(h:Dp b w S vo vr)(hb:Below w.heap.size w w'):Dp b w' S vo vr:=
 ⟨h.box.keep (hb.block b h.lt),Ξ h.out hb,Ξ h.s hb,by have:=hb.size;have:=h.lt;omega⟩
theorem Dp.alloc{b:Nat}{w:World}{S:SL}{vo vr:Value}(h:Dp b w S vo vr)(o:Obj):Dp b (w.alloc o) S vo vr:=
 h.keep ((Below.refl w.heap.size w).alloc δ o)
def Fr(b:Nat)(vo:Value)(w w':World)(dt:Value):Prop:=
 (∀k,k<w.heap.size→k≠b→vo.ownBlock≠some k→w'.heap[k]? =w.heap[k]?)∧(dt.ownBlock=vo.ownBlock∨∃g,dt.ownBlock=some g∧w.heap.size≤g)
theorem Fr.refl(b:Nat)(vo:Value)(w:World):Fr b vo w w vo:=⟨fun _ _ _ _=>rfl,.inl rfl⟩
theorem Fr.trans{b:Nat}{v0 v1 v2:Value}{w0 w1 w2:World}(h:Fr b v0 w0 w1 v1)(hs:w0.heap.size≤w1.heap.size)(g:Fr b v1 w1 w2 v2):Fr b v0 w0 w2 v2:=by
 refine⟨fun k hk hb hv=> ?_,?_⟩
 ·rw[g.1 k (by omega) hb (fun e=> ?_),h.1 k hk hb hv]
  rcases h.2 with h2| ⟨q,h2,h3⟩
  ·exact hv (h2.symm.trans e)
  ·rw[h2]at e;simp at e;omega
 ·rcases g.2 with g2| ⟨q,g2,g3⟩
  ·rcases h.2 with h2| ⟨q,h2,h3⟩
   ·exact .inl (g2.trans h2)
   ·exact .inr ⟨q,g2.trans h2,h3⟩
  ·exact .inr ⟨q,g2,by omega⟩
theorem Fr.set{b:Nat}{v0 v1:Value}{w0 w1:World}(h:Fr b v0 w0 w1 v1)(o:Nat)(u:Value):Fr b v0 w0 (w1.setCell ⟨b,o,none⟩ u) v1:=
 ⟨fun k hk hb hv=>(heap_setCell_other w1 _ k u hb).trans (h.1 k hk hb hv),h.2⟩
theorem Dp.WZ{b:Nat}{w w3:World}{S:SL}{vo vr v':Value}{o:Obj}{r:M.Rec}(h:Dp b w S vo vr)(ν:w3.ownsRow (b+1) 69 3 v' (S.out.length+1) (C6 S.out++recC r))(hg:(w.alloc o).grownBy w3 vo.ownBlock){g:Nat}(hv:v'.ownBlock=some g)(Cw:vo.ownBlock=some g∨g=w.heap.size+1):
  Fc b w3 vo S.m S.d vr∧Dp b (w3.setCell ⟨b,0,none⟩ v') ⟨S.out++ [r],S.m,S.d,S.s⟩ v' vr∧Below b w (w3.setCell ⟨b,0,none⟩ v')∧Fr b vo w (w3.setCell ⟨b,0,none⟩ v') v':=by
 have Ac:=h.lt;have hb:=(h.alloc o).box.keep (hg.block b (by simp;omega) (fun e=>by have:=(h.out.lt b e.symm).1;omega));have hs:=hg.size;simp at hs;have h3:w3.ownsRow (b+1) 5 1 vr S.s.length (bu S.s):=(h.s.alloc o).kept hg (So h.s h.out (by decide));rw[←JZ]at ν;refine⟨hb,⟨hb.RP _,?_,ownsRow_setCell_below h3 (by simp) _,by simp;omega⟩,?_,Fr.set ⟨?_,?_⟩ _ _⟩
 ·rw[List.length_append];exact ownsRow_setCell_below ν (by simp) _
 ·exact(((Below.refl b w).alloc (by omega) o).grown hg (by simp;omega) (fun k hk=>by have:=(h.out.lt k hk).1;omega)).setCell (by simp) _
 ·intro k hk hkb hkv
  rw[hg.block k (by simp;omega) (fun e=>hkv e.symm),Below.heap_alloc _ _ _ hk]
 ·rcases Cw with Cw|Cw
  ·exact .inl (hv.trans Cw.symm)
  ·exact .inr ⟨g,hv,by omega⟩
theorem Dp.ACA{b:Nat}{w w3:World}{S:SL}{vo vr v':Value}{t:ByteArray}(h:Dp b w S vo vr)(ν:w3.ownsRow (b+1) 5 1 v' (S.s.length+t.size) (bu S.s++Lib.strCells t))(hg:w.grownBy w3 vr.ownBlock):
  Fc b w3 vo S.m S.d vr∧Dp b (w3.setCell ⟨b,3,none⟩ v') ⟨S.out,S.m,S.d,S.s++t.data.toList⟩ vo v'∧Below b w (w3.setCell ⟨b,3,none⟩ v')∧(∀k,k<w.heap.size→k≠b→vr.ownBlock≠some k→(w3.setCell ⟨b,3,none⟩ v').heap[k]? =w.heap[k]?):=by
 have Ac:=h.lt;have hb:=h.box.keep (hg.block b (by omega) (fun e=>by have:=(h.s.lt b e.symm).1;omega));have hs:=hg.size;have h3:w3.ownsRow (b+1) 69 3 vo S.out.length (C6 S.out):=h.out.kept hg (So h.out h.s (by decide));refine⟨hb,⟨hb.eT _,ownsRow_setCell_below h3 (by simp) _,?_,by simp;omega⟩,?_,?_⟩
 ·rw[List.length_append,Δ]
  have e:bu (S.s++t.data.toList)=bu S.s++Lib.strCells t:=by rw[strCells_eq];simp[bu]
  rw[e];exact ownsRow_setCell_below ν (by simp) _
 ·exact((Below.refl b w).grown hg (by omega) (fun k hk=>by have:=(h.s.lt k hk).1;omega)).setCell (by simp) _
 ·intro k hk hkb hkv
  rw[heap_setCell_other w3 _ k _ hkb,hg.block k hk (fun e=>hkv e.symm)]
theorem Dp.Ey{b:Nat}{w:World}{S:SL}{vo vr:Value}(h:Dp b w S vo vr)(u:Nat):Dp b (w.setCell ⟨b,1,none⟩ (.int .i64 u)) ⟨S.out,u,S.d,S.s⟩ vo vr:=
 ⟨h.box.RN u,ownsRow_setCell_below h.out (by simp) _,ownsRow_setCell_below h.s (by simp) _,by simpa using h.lt⟩
theorem Dp.DN{b:Nat}{w:World}{S:SL}{vo vr:Value}(h:Dp b w S vo vr)(u:Nat):Dp b (w.setCell ⟨b,2,none⟩ (.int .i64 u)) ⟨S.out,S.m,u,S.s⟩ vo vr:=
 ⟨h.box.VG u,ownsRow_setCell_below h.out (by simp) _,ownsRow_setCell_below h.s (by simp) _,by simpa using h.lt⟩
theorem Dp.z8{b:Nat}{w:World}{S:SL}{vo vr:Value}(h:Dp b w S vo vr):Dp b (w.setCell ⟨b,3,none⟩ (.slice none 0 0)) ⟨S.out,S.m,S.d,[]⟩ vo (.slice none 0 0):=
 ⟨h.box.eT _,ownsRow_setCell_below h.out (by simp) _,World.ownsRow_nil _ _ _ _,by simpa using h.lt⟩
end Go.Proofs.YtlppphmnegdhoabGreatDoor
namespace Go.Proofs.YtlppphmnegdhoabGreatDoor
open Go.Proofs.Tryz
open Go.RowKit
open M
theorem ju:(prog.info? 216).map (fun i=>(i.zero,i.size,i.bytes))=some (some (.agg #[.int .i64 0,.bool false]),2,16):=by kernel_rfl
theorem RK:prog.underlying 164=some (.slice 216):=by kernel_rfl
def J8(m:Mk):List Value:= [.int .i64 m.b,.bool m.p]
def GU(l:List Mk):List Value:=(l.map J8).flatten
theorem Kk(l:List Mk)(m:Mk):GU (l++ [m])=GU l++J8 m:=by simp[GU]
theorem Ol(m:Mk):∀u∈J8 m,u.oneCell'=true:=by
 intro u h;simp[J8]at h;rcases h with rfl|rfl<;>rfl
theorem RL(w:World)(m:Mk)(t:TypeId):∀j u,(J8 m)[j]? =some u→(w.alloc (.cells #[.int .i64 m.b,.bool m.p] t)).cell? ((⟨w.heap.size,0,none⟩ :Addr).add j)=some u:=by
 intro j u h
 match j,h with
 |0,h=>simp[J8]at h;subst h;simp[Addr.add]
 |1,h=>simp[J8]at h;subst h;simp[Addr.add]
 |n+2,h=>simp[J8]at h
structure A7(w:World)(a:Option Addr)(n:Nat)(l:List Mk):Prop where
 len:l.length=n
 cells:l= []∨∃b off,a=some ⟨b,off,none⟩∧b<w.heap.size∧∀i(h:i<l.length),w.cell? ⟨b,off+i*2,none⟩ =some (.int .i64 l[i].b)∧w.cell? ⟨b,off+i*2+1,none⟩ =some (.bool l[i].p)
theorem A7.below{w w':World}{a:Option Addr}{n:Nat}{l:List Mk}(h:A7 w a n l)(hb:Below w.heap.size w w'):A7 w' a n l:=by
 refine⟨h.len,?_⟩;rcases h.cells with h0| ⟨b,off,ha,Ac,hc⟩
 ·exact .inl h0
 ·exact .inr ⟨b,off,ha,by have:=hb.size;omega,fun i hi=>⟨(hb.cell (by exact Ac)).trans (hc i hi).1,(hb.cell (by exact Ac)).trans (hc i hi).2⟩⟩
theorem Zq(l:List Mk):∀i(h:i<l.length),(GU l)[i*2]? =some (.int .i64 l[i].b)∧(GU l)[i*2+1]? =some (.bool l[i].p):=by
 induction l with
 |nil=>intro i h;simp at h
 |cons m l ih=>
  intro i h;have e:GU (m::l)= [.int .i64 m.b,.bool m.p]++GU l:=by simp[GU,J8]
  rw[e];cases i with
  |zero=>exact⟨rfl,rfl⟩
  |succ i=>
   have:=ih i (by simpa using h);have e1:(i+1)*2=i*2+2:=by omega
   rw[e1]
   simpa using this
theorem Kl{w:World}{B:Nat}{a:Option Addr}{c:Nat}{l:List Mk}(h:w.ownsRow B 216 2 (.slice a l.length c) l.length (GU l)):A7 w a l.length l:=by
 refine⟨rfl,?_⟩
 by_cases h0:l= []
 ·exact .inl h0
 ·right
  have hp:0<l.length:=List.length_pos_iff.2 h0;rcases h.2 with⟨_,hz⟩ | ⟨g,cap,cur,hv,hb,hg,_⟩
  ·omega
  ·simp at hv
   obtain⟨rfl,rfl⟩ :=hv;refine⟨g,0,rfl,(h.lt g rfl).2,fun i hi=> ?_⟩;have hc:=Zq l i hi;have h1:=h.cells rfl (i*2) _ hc.1;have h2:=h.cells rfl (i*2+1) _ hc.2;have e:∀j,(⟨g,0,none⟩ :Addr).add j=⟨g,j,none⟩ :=fun j=>by unfold Addr.add;split<;>simp_all
   rw[e]at h1 h2;rw[Nat.zero_add];exact⟨h1,h2⟩
theorem CV(m:Mk)(c:Nat)(w:World):Calls prog 144 #[.agg #[.int .i64 m.b,.bool m.p],.int .i64 c] w fun e w'=>e= .returned (.bool (m.is c))∧Below w.heap.size w w':=by
 obtain⟨b,p⟩ :=m;cases p
 ·go_enter func144,ntmps144
  go_wp2;go_ret;exact⟨rfl,ζ.alloc δ _⟩
 ·by_cases h:b=c
  ·have h1:((b:Int)==(c:Int))=true:=by simp[h]
   have H:Hid (Mk.is ⟨b,true⟩ c=true):=by show _=_;simp[Mk.is,h]
   clear h
   go_enter func144,ntmps144
   go_wp2;go_ret;exact⟨ι (by rw[H.out]),ζ.alloc δ _⟩
  ·have h1:((b:Int)==(c:Int))=false:=by simp;omega
   have H:Hid (Mk.is ⟨b,true⟩ c=false):=by show _=_;simp[Mk.is,h]
   go_enter func144,ntmps144
   go_wp2;go_ret;exact⟨ι (by rw[H.out]),ζ.alloc δ _⟩
def jv(s:ByteArray)(p:Nat)(w w':World)(e:Ending):Prop:=
 Below w.heap.size w w'∧((Ψ (s.data.toList.drop p)=none∧e= .returned (.tuple #[.slice none 0 0,.int .i64 (-1)]))∨
  ∃(l:List Mk)(q:Nat)(a:Option Addr)(c:Nat),Ψ (s.data.toList.drop p)=some (l,s.data.toList.drop q)∧p<q∧q≤s.size∧l.length≤q∧e= .returned (.tuple #[.slice a l.length c,.int .i64 (q:Int)])∧w'.ownsRow w.heap.size 216 2 (.slice a l.length c) l.length (GU l))
theorem Md(s:ByteArray)(p:Nat)(w:World)(hs:s.size≤8192)(hp:p≤s.size):
  Calls prog 103 #[.string s,.int .i64 p] w fun e w'=>jv s p w w' e:=by
 obtain⟨i0,hi,DF,CN,Dq⟩ :=info_parts ju
 go_enter func103,ntmps103
 go_wp2
 go_loopw [1,6] (fun at' v wr=>∃(k:Nat)(L:List Mk),at'= .int .i64 k∧p≤k∧k≤s.size∧wr.ownsRow w.heap.size 216 2 v L.length (GU L)∧L.length≤k∧Hid (Ψ (s.data.toList.drop p)=(Ψ (s.data.toList.drop k)).map (Zb L))∧Below w.heap.size w wr) (fun at' _ _=>s.size - (intOf at').toNat)
 case atStart=>exact⟨p,[],rfl,δ,hp,World.ownsRow_nil _ _ _ _,ε,by show _=_;cases Ψ (s.data.toList.drop p)<;>rfl,ζ⟩
 case round=>
  obtain⟨k,L,rfl,hpk,hk,ν,hLk,H,B⟩ :=hrel;have hz:=B.size
  by_cases Ac:k<s.size
  ·have AV:(k:Int)<(s.size:Int):=by omega
   obtain⟨x,hx⟩ :∃x:Nat,s[k].toNat=x:=⟨_,rfl⟩
   have hc:x<256:=by rw[←hx];exact s[k].toNat_lt
   have HD:=γ (Ap s k Ac)
   by_cases Fa:x=47
   ·obtain⟨a,c,rfl⟩ :=κ ν
    have HF:Hid (Ψ (s.data.toList.drop p)=some (L,s.data.toList.drop (k+1))):=by
     show _=_;rw[H.out,HD.out,MY _ _ (by rw[hx];exact Fa)];simp[Zb]
    clear H HD;subst Fa;go_wp2;go_ret2;exact⟨B,.inr ⟨L,k+1,a,c,HF.out,by omega,by omega,by omega,rfl,ν⟩⟩
   ·have h1:((x:Int)==47)=false:=by simp;omega
    by_cases jJ:x=92
    ·by_cases E7:k+1<s.size
     ·have TN:¬(s.size:Int)≤(k:Int)+1:=by omega
      have eS:(k:Int)+1<(s.size:Int):=by omega
      obtain⟨y,hy⟩ :∃y:Nat,s[k+1].toNat=y:=⟨_,rfl⟩
      have hd:y<256:=by rw[←hy];exact s[k+1].toNat_lt
      have HN:Hid (Ψ (s.data.toList.drop p)=(Ψ (s.data.toList.drop (k+2))).map (Zb (L++ [⟨Iu s[k+1],false⟩]))):=by
       show _=_;rw[H.out,HD.out,Ap s (k+1) E7,Ws _ _ _ (by rw[hx];exact jJ),cM]
      by_cases qF:y=110
      ·have HE:Hid (Iu s[k+1]=10):=if_pos (by rw[hy];exact qF)
       clear H HD Fa;subst jJ qF
       go_wp2_with(first
        | (at_builtin;refine wpList_append_own _ rfl (.tmp 42) (.tmp 45) 164 rfl w.heap.size 216 i0 (.agg #[.int .i64 0,.bool false]) 2 16 RK hi DF CN Dq rfl (by decide) _ _ _ rfl (ν.alloc _) ⟨wr.heap.size,0,none⟩ 1 1 (J8 ⟨10,false⟩) rfl rfl ?k1 ?k2 ?k3 ?k4 ?k5 ?_)
        |go_in)
       case k1=>first|exact fun j u h=>h|exact RL wr ⟨10,false⟩ _
       case k2=>exact Ol _
       case k3=>unfold maxLen;omega
       case k4=>omega
       case k5=>first|omega| (simp;omega)
       intro v' w3 Γ AE _;have B3:Below w.heap.size w w3:=(B.alloc hz _).grown AE (by simp;omega) (fun k hk=>(ν.lt k hk).1);rw[←Kk]at Γ;clear AE ν;go_wp2
       go_roundw
       case rel=>exact⟨k+2,L++ [⟨10,false⟩],by go_num,by omega,by omega,by simpa using Γ,by simp;omega,by have:=HN.out;rw[HE.out]at this;exact this,B3⟩
       case measure=>simp[intOf];omega
      ·have h3:((y:Int)==110)=false:=by simp;omega
       have HE:Hid (Iu s[k+1]=y):=(if_neg (by rw[hy];exact qF)).trans hy;clear H HD Fa qF;subst jJ
       go_wp2_with(first
        | (at_builtin;refine wpList_append_own _ rfl (.tmp 42) (.tmp 45) 164 rfl w.heap.size 216 i0 (.agg #[.int .i64 0,.bool false]) 2 16 RK hi DF CN Dq rfl (by decide) _ _ _ rfl (ν.alloc _) ⟨wr.heap.size,0,none⟩ 1 1 (J8 ⟨y,false⟩) rfl rfl ?k1 ?k2 ?k3 ?k4 ?k5 ?_)
        |go_in)
       case k1=>first|exact fun j u h=>h|exact RL wr ⟨y,false⟩ _
       case k2=>exact Ol _
       case k3=>unfold maxLen;omega
       case k4=>omega
       case k5=>first|omega| (simp;omega)
       intro v' w3 Γ AE _;have B3:Below w.heap.size w w3:=(B.alloc hz _).grown AE (by simp;omega) (fun k hk=>(ν.lt k hk).1);rw[←Kk]at Γ;clear AE ν;go_wp2
       go_roundw
       case rel=>exact⟨k+2,L++ [⟨y,false⟩],by go_num,by omega,by omega,by simpa using Γ,by simp;omega,by have:=HN.out;rw[HE.out]at this;exact this,B3⟩
       case measure=>simp[intOf];omega
     ·have TN:(s.size:Int)≤(k:Int)+1:=by omega
      have HF:Hid (Ψ (s.data.toList.drop p)=none):=by
       show _=_;rw[H.out,HD.out,List.drop_of_length_le (by rw[Δ];omega),Wt _ (by rw[hx];exact jJ)];rfl
      clear H HD Fa;subst jJ;go_wp2;go_ret2;exact⟨B,.inl ⟨HF.out,rfl⟩⟩
    ·have h2:((x:Int) !=92)=true:=by simp;omega
     have HN:Hid (Ψ (s.data.toList.drop p)=(Ψ (s.data.toList.drop (k+1))).map (Zb (L++ [⟨x,true⟩]))):=by
      show _=_;rw[H.out,HD.out,MZ _ _ (by rw[hx];exact Fa) (by rw[hx];exact jJ),cM,hx]
     clear H HD Fa jJ
     go_wp2_with(first
      | (at_builtin;refine wpList_append_own _ rfl (.tmp 23) (.tmp 26) 164 rfl w.heap.size 216 i0 (.agg #[.int .i64 0,.bool false]) 2 16 RK hi DF CN Dq rfl (by decide) _ _ _ rfl (ν.alloc _) ⟨wr.heap.size,0,none⟩ 1 1 (J8 ⟨x,true⟩) rfl rfl ?k1 ?k2 ?k3 ?k4 ?k5 ?_)
      |go_in)
     case k1=>first|exact fun j u h=>h|exact RL wr ⟨x,true⟩ _
     case k2=>exact Ol _
     case k3=>unfold maxLen;omega
     case k4=>omega
     case k5=>first|omega| (simp;omega)
     intro v' w3 Γ AE _;have B3:Below w.heap.size w w3:=(B.alloc hz _).grown AE (by simp;omega) (fun k hk=>(ν.lt k hk).1);rw[←Kk]at Γ;clear AE ν;go_wp2
     go_roundw
     case rel=>exact⟨k+1,L++ [(⟨x,true⟩ :Mk)],by go_num,by omega,by omega,by simpa using Γ,by simp;omega,HN.out,B3⟩
     case measure=>simp[intOf];omega
  ·have AV:¬(k:Int)<(s.size:Int):=by omega
   have HF:Hid (Ψ (s.data.toList.drop p)=none):=by
    show _=_;rw[H.out,List.drop_of_length_le (by rw[Δ];omega)];rfl
   clear H;go_wp2;go_ret2;exact⟨B,.inl ⟨HF.out,rfl⟩⟩
end Go.Proofs.YtlppphmnegdhoabGreatDoor
