import Derived.Test.YtlppphmnegdhoabGreatDoorMz9
set_option linter.unusedVariables false
set_option maxRecDepth 100000
set_option maxHeartbeats 8000000
namespace Go.Proofs.YtlppphmnegdhoabGreatDoor
open Go.Proofs.Tryz
open Go.RowKit
open M
theorem qR(N:Nat)(hN:0<N)(vs:List Value)(hl:vs.length=N)(Z:Array Value)(hZ:Z.size=N):Instr.fill (fun i=>some (i*N,N)) Z [(0,.agg vs.toArray)]=some vs.toArray:=by
 have hc:(Value.agg vs.toArray).cells=vs.toArray:=rfl;have hcs:(Value.agg vs.toArray).cells.size=N:=by rw[hc,List.size_toArray];exact hl
 obtain⟨r,h1,h2,h3⟩ :=Great.fill_dense (s:=N) hN [.agg vs.toArray] 0 Z (fun v hv=>by simp at hv;rw[hv];exact hcs) (by rw[hZ];simp);have h1':Instr.fill (fun i=>some (i*N,N)) Z [(0,.agg vs.toArray)]=some r:=h1;rw[h1']
 congr 1
 apply Array.ext_getElem?;intro k;rw[h3 k]
 by_cases hk:k<N
 ·rw[if_pos (by simp;omega)]
  have e1:k / N=0:=Nat.div_eq_of_lt hk;have e2:k % N=k:=Nat.mod_eq_of_lt hk;rw[e1,e2];show(Value.agg vs.toArray).cells[k]? =_;rw[hc]
 ·rw[if_neg (by simp;omega)]
  rw[Array.getElem?_eq_none (by omega),Array.getElem?_eq_none (by rw[List.size_toArray];omega)]
structure ZH(TS T:TypeId)(N BO:Nat)(z:Value):Prop where
 und:prog.underlying TS=some (.slice T)
 info:(prog.info? T).map (fun i=>(i.zero,i.size,i.bytes))=some (some z,N,BO)
 zc:z.cells.size=N
 pos:0<N
 ZI:N≤65536
 byt:BO≤65536
theorem Bz{ops:Array Oper}{rest:List Oper}{op:Oper}{a:Act}{w:World}{Q:Exit→Act→World→Prop}{TS T:TypeId}{N BO:Nat}{z:Value}(hE:ZH TS T N BO z)(Fv:op.guard=none)(x:Operand)(ho:op.op= .buildSlice TS 1 #[(0,x)])(vs:List Value)(hx:a.eval x= .agg vs.toArray)(hl:vs.length=N)
  (h:wpList prog ops Q rest (a.put op.dst (.slice (some ⟨w.heap.size,0,none⟩) 1 1)) (w.alloc (.cells vs.toArray T))):wpList prog ops Q (op::rest) a w:=by
 obtain⟨i0,hi,DF,CN,Dq⟩ :=info_parts hE.info;have hp:=hE.pos;have hf:=hE.ZI;refine wpList_buildSlice Fv _ _ 1 _ ho vs.toArray i0 _ hE.und hi DF (by rw[CN];omega) (by rw[CN];omega) ?_ h;rw[CN];have e:(#[((0:Nat),x)].map fun(p:Nat×Operand)=>(p.1,a.eval p.2)).toList= [(0,.agg vs.toArray)]:=by simp[hx]
 have e':(#[((0:Nat),x)].map fun((i,x):Nat×Operand)=>(i,a.eval x)).toList= [(0,.agg vs.toArray)]:=e;rw[e'];exact qR N hp vs hl _ (by simp)
theorem Gx{ops:Array Oper}{rest:List Oper}{o:Oper}{a:Act}{w:World}{Q:Exit→Act→World→Prop}{TS T:TypeId}{N BO:Nat}{z:Value}(hE:ZH TS T N BO z){B:Nat}{v:Value}{n:Nat}{xs:List Value}(ν:w.ownsRow B T N v n xs)(g:Nat)(vs:List Value)(hg:w.heap[g]? =some (.cells vs.toArray T))(hl:vs.length=N)(h1:∀u∈vs,u.oneCell'=true)(hn:n≤8192)(hB:B≤w.heap.size)(Fv:o.guard=none)(s x:Operand)
  (ho:o.op= .call {callee:= .builtin .append,args:= #[s,x],argTypes:= #[TS,TS]}) (hs:a.eval s=v) (hx:a.eval x= .slice (some ⟨g,0,none⟩) 1 1)
  (h:∀v' w',w'.ownsRow B T N v' (n+1) (xs++vs)→w.grownBy w' v.ownBlock→wpList prog ops Q rest (a.put o.dst v') w'):wpList prog ops Q (o::rest) a w:=by
 obtain⟨i0,hi,DF,CN,Dq⟩ :=info_parts hE.info;have hb:=hE.byt;refine wpList_append_own w Fv s x _ ho B _ i0 _ N BO hE.und hi DF CN Dq hE.zc hE.pos v n xs hs ν ⟨g,0,none⟩ 1 1 vs hx (by rw[hl];omega) ?_ h1 (by unfold maxLen;omega) ?_ hB (fun v' w' h1 h2 _=>h v' w' h1 h2)
 ·intro j u hu
  rw[Addr.add_mid,cell_of_row _ _ _ _ _ _ hg]
  simpa using hu
 ·exact Nat.le_trans (Nat.mul_le_mul (show n+1≤8193 by omega) hb) (by decide)
def Du:List UInt8→Int
 | []=> -1
 |c::_=>if DJ c.toNat then((c.toNat - 48:Nat):Int)else -1
theorem Fz(s:ByteArray)(k:Nat)(w:World)(hs:s.size≤400)(hk:k≤s.size):
  Calls prog 230 #[.string s,.int .i64 k] w fun e w'=>e= .returned (.int .i64 (Du (s.data.toList.drop k)))∧w'=w:=by
 have h0:¬(k:Int)<0:=by omega
 by_cases Ac:k<s.size
 ·have AV:¬(s.size:Int)≤(k:Int):=by omega
  have E7:(k:Int)<(s.size:Int):=by omega
  obtain⟨x,hx⟩ :∃x:Nat,s[k].toNat=x:=⟨_,rfl⟩
  have FT:x<256:=by rw[←hx];exact s[k].toNat_lt
  have HD:Hid (Du (s.data.toList.drop k)=if DJ x then((x - 48:Nat):Int)else -1):=by
   show _=_;rw[Ap s k Ac,Du,hx]
  by_cases h48:48≤x
  ·have xB:¬(x:Int)<48:=by omega
   have AFI:(48:Int)≤(x:Int):=by omega
   by_cases h57:x≤57
   ·have AAW:¬(57:Int)<(x:Int):=by omega
    have I3:Hid (Du (s.data.toList.drop k)=(x:Int) - 48):=by
     show _=_;have e:DJ x=true:=by simp[DJ];omega
     rw[HD.out,e,if_pos rfl];omega
    clear HD
    go_enter func230,ntmps230
    go_wp2;go_ret;refine⟨?_,rfl⟩;rw[I3.out]
    first|rfl|go_num|simp
   ·have AAW:(57:Int)<(x:Int):=by omega
    have I3:Hid (Du (s.data.toList.drop k)= -1):=by
     show _=_;have e:DJ x=false:=by simp[DJ];omega
     rw[HD.out,e];rfl
    clear HD
    go_enter func230,ntmps230
    go_wp2;go_ret;exact⟨by rw[I3.out];rfl,rfl⟩
  ·have xB:(x:Int)<48:=by omega
   have I3:Hid (Du (s.data.toList.drop k)= -1):=by
    show _=_;have e:DJ x=false:=by simp[DJ];omega
    rw[HD.out,e];rfl
   clear HD
   go_enter func230,ntmps230
   go_wp2;go_ret;exact⟨by rw[I3.out];rfl,rfl⟩
 ·have AV:(s.size:Int)≤(k:Int):=by omega
  have I3:Hid (Du (s.data.toList.drop k)= -1):=by
   show _=_;rw[List.drop_of_length_le (by rw[Δ];omega)];rfl
  go_enter func230,ntmps230
  go_wp2;go_ret;exact⟨by rw[I3.out];rfl,rfl⟩
def Bv(t:List UInt8):Nat:=if Cc t then(match t with| []=>0|c::_=>c.toNat)else 0
theorem IY(s:ByteArray)(w:World)(hs:s.size≤400):
  Calls prog 166 #[.string s] w fun e w'=>e= .returned (.int .u8 (Bv s.data.toList))∧w'=w:=by
 by_cases h1:s.size=1
 ·have Pr:((s.size:Int) !=1)=false:=by simp[h1]
  have Z3:0<s.size:=by omega
  have Hu:(0:Int)<(s.size:Int):=by omega
  obtain⟨x,hx⟩ :∃x:Nat,s[0].toNat=x:=⟨_,rfl⟩
  have FT:x<256:=by rw[←hx];exact s[0].toNat_lt
  have HL:Hid (Bv s.data.toList=if decide (97≤x) && decide (x≤122)then x else 0):=by
   show _=_;have e:=Ap s 0 Z3;rw[List.drop_zero,List.drop_of_length_le (by rw[Δ];omega)]at e;rw[e,←hx];rfl
  clear h1
  by_cases ha:97≤x
  ·have S9:¬(x:Int)<97:=by omega
   by_cases hb:x≤122
   ·have ξ:¬(122:Int)<(x:Int):=by omega
    have HF:Hid (Bv s.data.toList=x):=by show _=_;rw[HL.out,decide_eq_true ha,decide_eq_true hb];rfl
    go_enter func166,ntmps166
    go_wp2;go_ret;exact⟨by rw[HF.out];rfl,rfl⟩
   ·have ξ:(122:Int)<(x:Int):=by omega
    have HF:Hid (Bv s.data.toList=0):=by show _=_;rw[HL.out,decide_eq_true ha,decide_eq_false hb];rfl
    go_enter func166,ntmps166
    go_wp2;go_ret;exact⟨by rw[HF.out];rfl,rfl⟩
  ·have S9:(x:Int)<97:=by omega
   have HF:Hid (Bv s.data.toList=0):=by show _=_;rw[HL.out,decide_eq_false ha];rfl
   go_enter func166,ntmps166
   go_wp2;go_ret;exact⟨by rw[HF.out];rfl,rfl⟩
 ·have Pr:((s.size:Int) !=1)=true:=by simp;omega
  have HF:Hid (Bv s.data.toList=0):=by
   show _=_;have hl:=Δ s
   match hd:s.data.toList with
   | []=>rfl
   | [c]=>rw[hd]at hl;simp at hl;omega
   |c::d::t=>rfl
  clear h1
  go_enter func166,ntmps166
  go_wp2;go_ret;exact⟨by rw[HF.out];rfl,rfl⟩
def FW(t:List UInt8):Nat:=match t with
 | []=>0
 |c::_=>if CG c.toNat then At 4 t else 0
theorem kL(t:List UInt8)(m:Nat)(h:0≤Du t):∃c r,t=c::r∧DJ c.toNat=true∧Du t=((c.toNat - 48:Nat):Int)∧At (m+1) t=At m r+1:=by
 match t with
 | []=>simp[Du]at h
 |c::r=>
  cases hd:DJ c.toNat
  ·simp[Du,hd]at h
  ·exact⟨c,r,rfl,hd,by simp[Du,hd],by rw[At,hd];rfl⟩
theorem kM(t:List UInt8)(m:Nat)(h:¬0≤Du t):At m t=0:=by
 match t,m with
 |t,0=>rfl
 | [],m+1=>rfl
 |c::r,m+1=>
  cases hd:DJ c.toNat
  ·rw[At,hd];rfl
  ·simp[Du,hd]at h
theorem VL(t:List UInt8):Du t≤9∧ -1≤Du t:=by
 match t with
 | []=>simp[Du]
 |c::r=>
  cases hd:DJ c.toNat
  ·simp[Du,hd]
  ·have:48≤c.toNat∧c.toNat≤57:=by simpa[DJ]using hd
   simp[Du,hd];omega
theorem D4:EE 137 3:=⟨⟨_,underlying137,rfl⟩,by kernel_rfl⟩
theorem C7:EE 139 5:=⟨⟨_,underlying139,rfl⟩,by kernel_rfl⟩
theorem Lb(t r:List UInt8)(h:Ah t=([],r)):r=t:=by
 match t with
 | []=>rw[Ah]at h;simp at h;exact h
 | [c]=>
   rw[Ah]at h;split at h
   ·simp at h;exact h.symm
   ·simp at h
 |c::d::t=>
  rw[Ah]at h;split at h
  ·simp at h;exact h.symm
  ·split at h
   ·split at h
    ·simp at h;exact h.symm
    ·simp[KG]at h
   ·simp[KG]at h
def KN(s:ByteArray):Prop:=∀c∈s.data.toList,c.toNat≠10
theorem KN.drop{s:ByteArray}(h:KN s)(k:Nat):∀c∈s.data.toList.drop k,c.toNat≠10:=fun c hc=>h c (List.mem_of_mem_drop hc)
theorem Ql(t:List UInt8)(m:List Mk)(r:List UInt8)(hn:∀c∈t,c.toNat≠10)(hm:Ah t=(m,r)):(∀r',r=47::r'→Ψ t=some (m,r'))∧((∀r',r≠47::r')→Ψ t=none):=by
 have uX:=Q5 t hn;rw[hm]at uX;refine⟨fun r' e=> ?_,fun h=> ?_⟩
 ·subst e;rw[uX];rfl
 ·rw[uX]
  split
  ·rename_i h9;exact absurd h9 (h _)
  ·rfl
theorem kN(t:List UInt8)(m m3:List Mk)(r:List UInt8)(hn:∀c∈t,c.toNat≠10)(hm:Ah t=(m,r))(u:List UInt8)(hu:Ah u=(m3,r))(hB:m3≠ []→Cv m=none):
  (CH u 47=false→I5 (Ψ t)=none)∧(CH u 47=true→u=t→m= [])∧(CH u 47=true→m3= []∧∃r',r=47::r'∧Ψ t=some (m,r')∧u=47::r'):=by
 obtain⟨p1,p2⟩ :=Ql t m r hn hm;refine⟨fun h=> ?_,fun h e=> ?_,fun h=> ?_⟩
 ·by_cases hr:∃r',r=47::r'
  ·obtain⟨r',hr⟩ :=hr
   rw[p1 r' hr,I5];have h3:m3≠ []:=fun e=>by
    subst e;have:=Lb u r hu;rw[←this,hr]at h;cases h
   rw[hB h3];rfl
  ·rw[p2 (fun r' e=>hr ⟨r',e⟩)];rfl
 all_goals
  obtain⟨h3,r',h4,h5⟩ :=(Ix u m3 r hu).1 h
 ·rw[e,hm]at hu
  simp at hu;rw[hu];exact h3
 ·exact⟨h3,r',h4,p1 r' h4,h5⟩
def E3(vs:List Value):Prop:=∃(h t:Bool)(a:Option Addr)(l c:Nat),vs= [.bool h,.bool t,.slice a l c]
theorem E3.len{vs:List Value}(h:E3 vs):vs.length=3:=by obtain⟨_,_,_,_,_,rfl⟩ :=h;rfl
theorem E3.one{vs:List Value}(h:E3 vs):∀v∈vs,v.oneCell'=true:=by obtain⟨_,_,_,_,_,rfl⟩ :=h;simp[Value.oneCell']
def A5(vs:List Value):Prop:=∃(k n:Int)(h t:Bool)(a:Option Addr)(l c:Nat),vs= [.int .i64 k,.int .i64 n,.bool h,.bool t,.slice a l c]
theorem A5.len{vs:List Value}(h:A5 vs):vs.length=5:=by obtain⟨_,_,_,_,_,_,_,rfl⟩ :=h;rfl
theorem A5.one{vs:List Value}(h:A5 vs):∀v∈vs,v.oneCell'=true:=by obtain⟨_,_,_,_,_,_,_,rfl⟩ :=h;simp[Value.oneCell']
def A12(vs:List Value):Prop:=∃(q k n k' n':Int)(h t h' t' x:Bool)(a a':Option Addr)(l c l' c':Nat),vs= [.int .i64 q,.int .i64 k,.int .i64 n,.bool h,.bool t,.slice a l c,.int .i64 k',.int .i64 n',.bool h',.bool t',.slice a' l' c',.bool x]
theorem A12.part{vs us:List Value}(h:A12 vs)(g:A5 us)(i:Int):A12 ((vs.set 0 (.int .i64 i)).take 6++us++(vs.set 0 (.int .i64 i)).drop (6+5)):=by
 obtain⟨q,k,n,k',n',h,t,h',t',x,a,a',l,c,l',c',rfl⟩ :=h;obtain⟨k2,n2,h2,t2,a2,l2,c2,rfl⟩ :=g;exact⟨i,k,n,k2,n2,h,t,h2,t2,x,a,a2,l,c,l2,c2,rfl⟩
theorem Fj(n c:Nat)(ad:Option Addr)(l:List Mk)(w:World)(Cw:A7 w ad n l)(J9:l.length≤8192)(Z4:n≤c):
  Calls prog 105 #[.slice ad n c] w fun e w'=>qO l w w' e:=by
 have hn:=Cw.len;subst hn;obtain⟨i0,hi,DF,CN,Dq⟩ :=info_parts kA;have RY:KL w ((w.alloc (.cells #[.bool false,.bool false,.slice none 0 0] 169)).alloc (.cells #[.bool false,.bool false,.slice none 0 0] 169)) false false (.slice none 0 0) []:=by
  refine⟨?_,?_,World.ownsRow_nil _ _ _ _,fun x hx=>by simp at hx,(ζ.alloc δ _).alloc (by simp) _,by simp⟩
  all_goals
   constructor<;>simp[go_sem]
 go_enter func105,ntmps105
 by_cases h0:l.length=0
 ·have KA:((l.length:Int)==0)=true:=by simp[h0]
  have HF:Hid (Cv l=none):=by show _=_;rw[List.length_eq_zero_iff.1 h0];rfl
  clear h0;obtain⟨x0,x1,x2,p0,p1,p2⟩ :=RY.box;obtain⟨r0,r1,r2,o0,o1,o2⟩ :=RY.res;have KM:=RY.fin;go_wp2;refine bodyPost_ret (v:= .tuple #[.agg #[.bool false,.bool false,.slice none 0 0],.bool false]) (by simp[results,Tryz.results105,go_sem]) rfl ⟨false,false,none,0,0,?_,.inl ⟨HF.out,rfl⟩⟩
  first|exact RY.below|exact(((RY.below.setCell (by exact δ) _).setCell (by exact δ) _).setCell (by exact δ) _)
 ·have KA:((l.length:Int)==0)=false:=by rw[beq_eq_false_iff_ne];omega
  have Lr:0<l.length:=by omega
  have AEx:(0:Int)<(l.length:Int):=by omega
  obtain⟨b,off,rfl,hb,d0,d1⟩ :=(Cw.below RY.below).get Lr;simp only[Nat.zero_mul,Nat.add_zero]at d0 d1;have HX:Hid (∀(tl:Bool)(at' en:Nat),at'=(if l[0].is 94 then 1 else 0)→tl=(decide (at'<l.length) && (l[l.length - 1]'(by omega)).is 36)→en=(if tl then l.length - 1 else l.length)→Cv l=(C1 ((l.take en).drop at')).map (fun q=>⟨l[0].is 94,tl,q⟩)):=fun tl at' en q2 q3 q4=>cX l (fun e=>by rw[e]at Lr;simp at Lr) _ tl at' en Lr rfl q2 q3 q4
  clear h0;obtain⟨m,pH⟩ :∃m,l[0]=m:=⟨_,rfl⟩
  rw[pH]at HX d0 d1;clear pH
  go_upto_region 6 with fail
  generalize((w.alloc (.cells #[.bool false,.bool false,.slice none 0 0] 169)).alloc (.cells #[.bool false,.bool false,.slice none 0 0] 169))=W at RY hb d0 d1⊢
  go_wp2_with fail
  refine(CV m 94 _).mono ?_;rintro e w1 ⟨rfl,b1⟩;have TY:=RY.keep b1;clear RY b1 d0 d1 hb;generalize m.is 94=hd at*
  go_upto_if 17 with fail
  go_cut [5] (fun at' wx=>at'= .int .i64 ((if hd then 1 else 0:Nat):Int)∧KL w wx hd false (.slice none 0 0) [])
  case first=>
   cases hd
   ·go_wp2
    go_meet
    exact⟨rfl,TY⟩
   ·have ey:=TY.RP true
    obtain⟨x0,x1,x2,p0,p1,p2⟩ :=TY.box;have EV:=TY.size;go_wp2
    go_meet
    exact⟨rfl,ey⟩
  case rest=>
   clear TY;obtain⟨rfl,TY⟩ :=hcut;obtain⟨ez,qT⟩ :∃k:Nat,(if hd then 1 else 0:Nat)=k:=⟨_,rfl⟩
   rw[qT];have eV:ez≤1:=by rw[←qT];cases hd<;>simp
   have HA:=γ qT.symm;clear qT;obtain⟨ml,XX⟩ :∃ml,l[l.length - 1]'(by omega)=ml:=⟨_,rfl⟩
   rw[XX]at HX;obtain⟨tl,Hv⟩ :∃tl,(decide (ez<l.length) && ml.is 36)=tl:=⟨_,rfl⟩
   have Qm:=γ Hv.symm;clear Hv
   go_upto_region 9 with fail
   go_cut [29] (fun t wx=>t= .bool tl∧Below wc.heap.size wc wx)
   case first=>
    by_cases Ac:ez<l.length
    ·have AV:(ez:Int)<(l.length:Int):=by omega
     obtain⟨b',jy,XN,eC,s0,s1⟩ :=(Cw.below TY.below).get (show l.length - 1<l.length by omega);simp only[Option.some.injEq,Addr.mk.injEq,and_true]at XN;obtain⟨rfl,rfl⟩ :=XN;rw[XX]at s0 s1;have Ks:(l.length:Int) - 1=((l.length - 1:Nat):Int):=by omega
     have iY:((l.length - 1:Nat):Int)<(l.length:Int):=by omega
     have Er:Hid (tl=ml.is 36):=by show _=_;rw[Qm.out,decide_eq_true Ac];rfl
     clear XX Qm HX;generalize l.length - 1=ll at*
     go_wp2_with fail
     refine(CV ml 36 _).mono ?_;rintro e w2 ⟨rfl,b2⟩;generalize hgg:ml.is 36=gg at*;go_wp2
     go_meet
     exact⟨by rw[Er.out],b2⟩
    ·have AV:¬(ez:Int)<(l.length:Int):=by omega
     have Er:Hid (tl=false):=by show _=_;rw[Qm.out,decide_eq_false Ac];rfl
     go_wp2
     go_meet
     exact⟨by rw[Er.out],ζ⟩
   case rest=>
    obtain⟨rfl,b2⟩ :=hcut;have ey:=TY.keep b2;clear TY b2 XX
    go_upto_if 29 with fail
    go_cut [6] (fun en' wx=>en'= .int .i64 ((if tl then l.length - 1 else l.length:Nat):Int)∧KL w wx hd tl (.slice none 0 0) [])
    case first=>
     cases tl
     ·go_wp2
      go_meet
      exact⟨rfl,ey⟩
     ·have hE3:=ey.RN true
      obtain⟨x0,x1,x2,p0,p1,p2⟩ :=ey.box;have EV:=ey.size;go_wp2
      go_meet
      exact⟨by simp only[if_true];congr 1;omega,hE3⟩
    case rest=>
     clear ey;obtain⟨rfl,ey⟩ :=hcut;obtain⟨en,hen⟩ :∃k:Nat,(if tl then l.length - 1 else l.length:Nat)=k:=⟨_,rfl⟩
     rw[hen];have ACm:en≤l.length:=by rw[←hen];cases tl<;>simp
     have TA:=γ (HX.out tl ez en HA.out Qm.out hen.symm);clear HX HA Qm hen;have qU:(l.take en).length=en:=by rw[List.length_take];omega
     go_wp2
     go_loopw [5] (fun at' wr=>∃(k:Nat)(L:List IV)(v:Value),at'= .int .i64 k∧KL w wr hd tl v L∧L.length≤k∧k≤l.length∧Hid (C1 ((l.take en).drop ez)=(C1 ((l.take en).drop k)).map (L.map IV.it++ ·))) (fun at' _=>en - (intOf at').toNat)
     case atStart=>exact⟨ez,[],_,rfl,ey,ε,by omega,by show _=_;cases C1 ((l.take en).drop ez)<;>rfl⟩
     case round=>
      clear ey;obtain⟨k,L,v,rfl,hE,hLk,Lv,HI⟩ :=hrel;obtain⟨av,cv,CX⟩ :=κ hE.own;generalize Ej:L.length=nL at CX;have Ce:=γ Ej;have AFJ:nL≤8192:=by omega
      clear Ej;subst CX;have EV:=hE.size
      by_cases Ac:k<en
      ·have AV:(k:Int)<(en:Int):=by omega
       have AFK:(en:Int)≤(c:Int):=by omega
       have ACn:=((Cw.below hE.below).take en ACm)
       have hne:(l.take en).drop k≠ []:=fun e=>by have:=congrArg List.length e;rw[List.length_drop,qU]at this;simp at this;omega
       have JU:=γ hne;have XY:=γ qU;clear hne qU
       go_wp2_with fail
       refine(Zr en _ _ (l.take en) k _ ACn (by rw[XY.out];omega) (by rw[XY.out];exact Ac)).mono ?_;rintro e w2 ⟨an,nt,st,vf,vb,b2,⟨a1,n1,c1,a2,n2,c2,rfl,rfl⟩,⟨CQ,rfl⟩ | ⟨AM,q,BW,VI,Lq,rfl,tw⟩⟩
       ·have HF:Hid (Cv l=none):=by
         show _=_;rw[TA.out,HI.out,Kq _ JU.out CQ];rfl
        obtain⟨x0,x1,x2,p0,p1,p2⟩ :=(hE.keep b2).box;obtain⟨r0,r1,r2,o0,o1,o2⟩ :=(hE.keep b2).res;have ACo:=b2.size;have j9:w.heap.size+1<w2.heap.size:=by omega
        have ew:w.heap.size<w2.heap.size:=by omega
        have Bq:=(hE.keep b2).fin.2.2;clear HI TA CQ;go_wp2;refine bodyPost_ret (v:= .tuple #[.agg #[.bool hd,.bool tl,.slice av nL cv],.bool false]) (by simp[results,Tryz.results105,go_sem,r0,r1,r2,ew]) rfl ⟨hd,tl,av,nL,cv,Bq.alloc (by simp;omega) _,.inl ⟨HF.out,rfl⟩⟩
       ·have Wi:Hid (C1 ((l.take en).drop ez)=(C1 ((l.take en).drop q)).map ((L++ [(⟨⟨an,nt,st,AM⟩,.slice a1 n1 c1,.slice a2 n2 c2⟩ :IV)]).map IV.it++ ·)):=by
         show _=_;rw[HI.out,Pq _ _ _ JU.out BW,wy,List.map_append];rfl
        have ACo:=b2.size;have ey:=hE.keep b2;have hE3:=ey.keep ((Below.refl w2.heap.size w2).alloc δ (.cells #[.bool an,.bool nt,.bool st,.slice a1 n1 c1,.slice a2 n2 c2] 219));have hx:Lt (w.heap.size+2) (w2.alloc (.cells #[.bool an,.bool nt,.bool st,.slice a1 n1 c1,.slice a2 n2 c2] 219)) ⟨⟨an,nt,st,AM⟩,.slice a1 n1 c1,.slice a2 n2 c2⟩ :=⟨(AH tw.f (by omega)).alloc _,(AH tw.k (by omega)).alloc _,tw.ap⟩
        rw[XY.out]at Lq;have hL2:L.length≤8192:=by omega
        have NP:¬(q:Int)<0:=by omega
        obtain⟨x0,x1,x2,p0,p1,p2⟩ :=ey.box;have j9:w.heap.size+1<w2.heap.size:=by omega
        have ew:w.heap.size+1<w2.heap.size+1:=by omega
        clear HI BW tw JU
        go_wp2_with(first
         | (at_builtin;refine wpList_append_own _ rfl (.tmp 48) (.tmp 50) 167 rfl (w.heap.size+2) 219 i0 (.agg #[.bool false,.bool false,.bool false,.slice none 0 0,.slice none 0 0]) 5 56 kB hi DF CN Dq rfl (by decide) _ _ _ rfl (hE3.own.alloc _) ⟨w2.heap.size+1,0,none⟩ 1 1 (Zt ⟨⟨an,nt,st,AM⟩,.slice a1 n1 c1,.slice a2 n2 c2⟩) rfl rfl ?k1 ?k2 ?k3 ?k4 ?k5 ?_)
         |go_in)
        try(case k1=>
         first
         |exact fun j u h=>h
         | (intro j u h
            have h9:=wu (w2.alloc (.cells #[.bool an,.bool nt,.bool st,.slice a1 n1 c1,.slice a2 n2 c2] 219)) ⟨⟨an,nt,st,AM⟩,.slice a1 n1 c1,.slice a2 n2 c2⟩ 219 j u h
            simpa using h9))
        try(case k2=>exact qL hx)
        try(case k3=>first|omega| (unfold maxLen;omega))
        try(case k4=>omega)
        try(case k5=>first|omega| (simp;omega))
        intro v' w3 Γ AE _;obtain⟨CM,hE4⟩ :=hE3.grow hx Γ AE;obtain⟨NF,JV,CX⟩ :=κ Γ;subst CX;obtain⟨y0,y1,y2,e0,e1,e2⟩ :=CM;clear Γ AE x0 x1 x2 p0 p1 p2;go_wp2
        go_roundw
        case rel=>exact⟨q,L++ [(⟨⟨an,nt,st,AM⟩,.slice a1 n1 c1,.slice a2 n2 c2⟩ :IV)],_,rfl,hE4,by simp;omega,by omega,Wi.out⟩
        case measure=>simp[intOf];omega
      ·have AV:¬(k:Int)<(en:Int):=by omega
       have HF:Hid (Cv l=some ⟨hd,tl,L.map IV.it⟩):=by
        have e:(l.take en).drop k= []:=List.drop_of_length_le (by omega);show _=_;rw[TA.out,HI.out,e,Mf];simp
       obtain⟨x0,x1,x2,p0,p1,p2⟩ :=hE.box;obtain⟨r0,r1,r2,o0,o1,o2⟩ :=hE.res;have hL2:L.length≤l.length:=by omega
       have KM:=hE.fin;clear HI TA qU;go_wp2;refine bodyPost_ret (v:= .tuple #[.agg #[.bool hd,.bool tl,.slice av nL cv],.bool true]) (by simp[results,Tryz.results105,go_sem,r0,r1,r2]) rfl ⟨hd,tl,av,nL,cv,KM.2.2,.inr ⟨L,HF.out,Ce.out.symm,rfl,KM.1,KM.2.1,hL2⟩⟩
theorem Az:EE 177 5:=⟨⟨_,underlying177,rfl⟩,by kernel_rfl⟩
theorem Ps:EE 169 3:=⟨⟨_,underlying169,rfl⟩,by kernel_rfl⟩
theorem Jl(s:ByteArray)(w:World)(hs:s.size≤8192):
  Calls prog 176 #[.string s] w fun e w'=>e= .returned (.bool (Cc s.data.toList))∧w'=w:=by
 by_cases h1:s.size=1
 ·have Pr:((s.size:Int)==1)=true:=by simp[h1]
  have Z3:0<s.size:=by omega
  have Hu:(0:Int)<(s.size:Int):=by omega
  obtain⟨x,hx⟩ :∃x:Nat,s[0].toNat=x:=⟨_,rfl⟩
  have FT:x<256:=by rw[←hx];exact s[0].toNat_lt
  have HL:Hid (Cc s.data.toList=(decide (97≤x) && decide (x≤122))):=by
   show _=_;have e:=Ap s 0 Z3;rw[List.drop_zero,List.drop_of_length_le (by rw[Δ];omega)]at e;rw[e,←hx];rfl
  clear h1
  by_cases ha:97≤x
  ·have S9:(97:Int)≤(x:Int):=by omega
   by_cases hb:x≤122
   ·have ξ:(x:Int)≤122:=by omega
    have HF:Hid (Cc s.data.toList=true):=by show _=_;rw[HL.out,decide_eq_true ha,decide_eq_true hb];rfl
    go_enter func176,ntmps176
    go_wp2;go_ret;exact⟨ι (by rw[HF.out]),rfl⟩
   ·have ξ:¬(x:Int)≤122:=by omega
    have HF:Hid (Cc s.data.toList=false):=by show _=_;rw[HL.out,decide_eq_true ha,decide_eq_false hb];rfl
    go_enter func176,ntmps176
    go_wp2;go_ret;exact⟨ι (by rw[HF.out]),rfl⟩
  ·have S9:¬(97:Int)≤(x:Int):=by omega
   have HF:Hid (Cc s.data.toList=false):=by show _=_;rw[HL.out,decide_eq_false ha];rfl
   go_enter func176,ntmps176
   go_wp2;go_ret;exact⟨ι (by rw[HF.out]),rfl⟩
 ·have Pr:((s.size:Int)==1)=false:=by simp;omega
  have HF:Hid (Cc s.data.toList=false):=by
   show _=_;have hl:=Δ s
   match hd:s.data.toList with
   | []=>rfl
   | [c]=>rw[hd]at hl;simp at hl;omega
   |c::d::t=>rfl
  clear h1
  go_enter func176,ntmps176
  go_wp2;go_ret;exact⟨ι (by rw[HF.out]),rfl⟩
theorem VM(c:Nat)(s:ByteArray)(w:World)(hs:s.size≤maxLen)(Il:c<256):
  Calls prog 178 #[.int .u8 c,.string s] w fun e w'=>e= .returned (.bool (EG c s.data.toList))∧w'=w:=by
 unfold maxLen at hs
 go_enter func178,ntmps178
 go_wp2
 go_loop [5] (fun i=>∃k:Nat,k≤s.size∧i= .int .i64 k∧Hid (EG c s.data.toList=EG c (s.data.toList.drop k))) (fun i=>s.size - (intOf i).toNat)
 case atStart=>exact⟨0,ε,rfl,by show _=_;rfl⟩
 case round=>
  obtain⟨k,hk,rfl,H⟩ :=hrel
  by_cases Ac:k<s.size
  ·have AV:(k:Int)<(s.size:Int):=by omega
   obtain⟨x,hx⟩ :∃x:Nat,s[k].toNat=x:=⟨_,rfl⟩
   have hc:x<256:=by rw[←hx];exact s[k].toNat_lt
   have HQ:Hid (EG c s.data.toList=((x==c) || EG c (s.data.toList.drop (k+1)))):=by
    show _=_;rw[H.out,Ap s k Ac,←hx]
    rfl
   clear H
   by_cases Ff:x=c
   ·have HB:Hid (EG c s.data.toList=true):=by show _=_;rw[HQ.out,Ff];simp
    have h1:((x:Int)==(c:Int))=true:=by simp[Ff]
    clear Ff;go_wp2;go_ret;exact⟨ι (by rw[HB.out]),rfl⟩
   ·have h1:((x:Int)==(c:Int))=false:=by simp;omega
    have HB:Hid (EG c s.data.toList=EG c (s.data.toList.drop (k+1))):=by
     have e:(x==c)=false:=by simpa using Ff
     show _=_;rw[HQ.out,e,Bool.false_or]
    clear HQ Ff;go_wp2
    go_round
    case rel=>exact⟨k+1,by omega,by go_num,HB.out⟩
    case measure=>simp[intOf];omega
  ·obtain rfl:k=s.size:=by omega
   have HB:Hid (EG c s.data.toList=false):=by
    show _=_;rw[H.out,List.drop_of_length_le (by rw[Δ];omega)];rfl
   clear H;go_wp2;go_ret;exact⟨ι (by rw[HB.out]),rfl⟩
theorem XZ{w:World}{base:Nat}{e:TypeId}{size:Nat}{a:Option Addr}{n c:Nat}{xs:List Value}(h:w.ownsRow base e size (.slice a n c) n xs):n≤c:=by
 rcases h.2 with⟨_,h0⟩ | ⟨g,cap,cur,hv,_,_,h1,_⟩
 ·omega
 ·simp at hv;omega
theorem qh{w:World}{base:Nat}{e:TypeId}{size:Nat}{v:Value}{n:Nat}{xs:List Value}(h:w.ownsRow base e size v n xs):n≤9223372036854775807:=by
 rcases h.2 with⟨_,h0⟩ | ⟨g,cap,cur,_,_,_,h1,h2,_⟩
 ·omega
 ·unfold maxLen at h2;omega
def dC(c:Nat)(r:Nat×Nat):Bool:=decide (r.1≤c) && decide (c≤r.2)
theorem dD(x:It)(c:Nat):Fe x c=(x.any || (x.AM.any (dC c) !=x.not)):=rfl
theorem fS(x:IV)(c:Nat)(w:World)(B:Nat)(h:Lt B w x)(hc:c<256):
  Calls prog 175 #[.agg #[.bool x.it.any,.bool x.it.not,.bool x.it.star,x.f,x.b],.int .u8 c] w fun e w'=>e= .returned (.bool (Fe x.it c))∧Below w.heap.size w w':=by
 have hlen:x.it.AM.length≤9223372036854775807:=by
  have:=qh h.f;simp[On]at this;exact this
 obtain⟨⟨a1,c1,hf,if1⟩,⟨a2,c2,hb,ib1⟩⟩ :=j7 h;obtain⟨⟨an,nt,st,AM⟩,vf,vb⟩ :=x;simp only at hf hb hlen if1 ib1;subst hf hb;clear h;cases an
 ·have HQ:Hid (Fe ⟨false,nt,st,AM⟩ c=(AM.any (dC c) !=nt)):=by show _=_;rw[dD];rfl
  go_enter func175,ntmps175
  go_wp2
  go_loop [5,6] (fun in' i=>∃k:Nat,k≤AM.length∧i= .int .i64 k∧in'= .bool ((AM.take k).any (dC c))) (fun _ i=>AM.length - (intOf i).toNat)
  case atStart=>exact⟨0,ε,rfl,rfl⟩
  case round=>
   obtain⟨k,hk,rfl,rfl⟩ :=hrel
   by_cases Ac:k<AM.length
   ·have AV:(k:Int)<(AM.length:Int):=by omega
    have Ks:k<(On AM).length:=by simpa[On]using Ac
    have iY:k<(Pn AM).length:=by simpa[Pn]using Ac
    have NC:On AM≠ []:=fun e=>by rw[e]at Ks;simp at Ks
    have NN:Pn AM≠ []:=fun e=>by rw[e]at iY;simp at iY
    obtain⟨g1,rfl,Td,q1⟩ :=if1.cells.resolve_left NC;obtain⟨g2,rfl,eI,q2⟩ :=ib1.cells.resolve_left NN;have d1:=q1 k Ks;have d2:=q2 k iY;have e1:(On AM)[k]=(AM[k].1:Int):=by simp[On]
    have e2:(Pn AM)[k]=(AM[k].2:Int):=by simp[Pn]
    rw[e1]at d1;rw[e2]at d2;have HT:Hid ((AM.take (k+1)).any (dC c)=((AM.take k).any (dC c) || dC c AM[k])):=by
     show _=_;rw[List.take_succ_eq_append_getElem Ac,List.any_append];simp
    clear q1 q2 e1 e2 NC NN;generalize AM[k]=r at*;obtain⟨lo,JC⟩ :=r;simp only at d1 d2;generalize(AM.take k).any (dC c)=bb at*
    by_cases h1:lo≤c
    ·have Pr:(lo:Int)≤(c:Int):=by omega
     by_cases h2:c≤JC
     ·have qd:(c:Int)≤(JC:Int):=by omega
      have Er:Hid ((AM.take (k+1)).any (dC c)=true):=by show _=_;rw[HT.out];simp[dC,h1,h2]
      go_wp2
      go_round
      case rel=>exact⟨k+1,by omega,by go_num,by rw[Er.out]⟩
      case measure=>simp[intOf];omega
     ·have qd:¬(c:Int)≤(JC:Int):=by omega
      have Er:Hid ((AM.take (k+1)).any (dC c)=bb):=by show _=_;rw[HT.out];simp[dC,h2]
      go_wp2
      go_round
      case rel=>exact⟨k+1,by omega,by go_num,by rw[Er.out]⟩
      case measure=>simp[intOf];omega
    ·have Pr:¬(lo:Int)≤(c:Int):=by omega
     have Er:Hid ((AM.take (k+1)).any (dC c)=bb):=by show _=_;rw[HT.out];simp[dC,h1]
     go_wp2
     go_round
     case rel=>exact⟨k+1,by omega,by go_num,by rw[Er.out]⟩
     case measure=>simp[intOf];omega
   ·obtain rfl:k=AM.length:=by omega
    have AV:¬(AM.length:Int)<(AM.length:Int):=by omega
    rw[List.take_length];generalize AM.any (dC c)=bb at*;cases bb<;>cases nt
    all_goals go_wp2
    all_goals go_ret
    all_goals exact⟨ι (by rw[HQ.out];rfl),ζ.alloc δ _⟩
 ·have HQ:Hid (Fe ⟨true,nt,st,AM⟩ c=true):=by show _=_;rw[dD];rfl
  go_enter func175,ntmps175
  go_wp2;go_ret;exact⟨ι (by rw[HQ.out]),ζ.alloc δ _⟩
structure Cr(w:World)(g n:Nat)(f:Nat→Bool):Prop where
 lt:g<w.heap.size
 c:∀i,i<n→w.cell? ⟨g,i,none⟩ =some (.bool (f i))
 fz:∀i,i<n→w.frozen? ⟨g,i,none⟩ =false
theorem Cr.keep{w w':World}{g n:Nat}{f:Nat→Bool}(h:Cr w g n f)(hk:w'.heap[g]? =w.heap[g]?)(hs:w.heap.size≤w'.heap.size):Cr w' g n f:=
 ⟨by have:=h.lt;omega,fun i hi=>(World.cell?_of_block hk).trans (h.c i hi),fun i hi=>(World.frozen?_of_block hk).trans (h.fz i hi)⟩
theorem Cr.below{w w':World}{g n B:Nat}{f:Nat→Bool}(h:Cr w g n f)(hb:Below B w w')(hg:g<B):Cr w' g n f:=h.keep (hb.block g hg) hb.size
theorem Cr.congr{w:World}{g n:Nat}{f f':Nat→Bool}(h:Cr w g n f)(e:∀i,i<n→f i=f' i):Cr w g n f':=
 ⟨h.lt,fun i hi=>by rw[←e i hi];exact h.c i hi,h.fz⟩
theorem Cr.set{w:World}{g n:Nat}{f:Nat→Bool}(h:Cr w g n f)(q:Nat)(hq:q<n)(b:Bool):Cr (w.setCell ⟨g,q,none⟩ (.bool b)) g n (fun i=>if i=q then b else f i):=by
 refine⟨by simpa using h.lt,fun i hi=> ?_,fun i hi=>by simpa using h.fz i hi⟩
 by_cases QG:i=q
 ·subst QG
  rw[if_pos rfl];exact World.cell?_setCell_same' _ _ _ (by rw[h.c i hi];rfl)
 ·rw[if_neg QG]
  rw[World.cell?_setCell_other _ _ _ _ (fun e=>QG (congrArg Addr.off e).symm)];exact h.c i hi
theorem Cr.Rq{w:World}{g n:Nat}{f:Nat→Bool}(h:Cr w g n f){a:Addr}(ha:g≠a.block)(u:Value):Cr (w.setCell a u) g n f:=
 h.keep (heap_setCell_other _ _ _ _ ha) (by simp)
theorem Xp:(prog.info? 4).map (fun i=>(i.zero,i.size,i.bytes))=some (some (.bool false),1,1):=by kernel_rfl
theorem Xq:prog.underlying 79=some (.slice 4):=by kernel_rfl
theorem ks(u:World)(n:Nat):Cr (u.alloc (.cells (madeCells (Value.bool false).cells n) 4)) u.heap.size n (fun _=>false):=by
 have hs:=size_madeCells (Value.bool false).cells n;refine⟨by simp,fun i hi=> ?_,fun i hi=> ?_⟩
 ·have e:(u.alloc (.cells (madeCells (Value.bool false).cells n) 4)).cell? ⟨u.heap.size,i,none⟩ =(madeCells (Value.bool false).cells n)[i]? :=by
   rw[cell_of_row _ _ _ _ _ _ (heap_alloc_new u _)]
  rw[e];simp[madeCells,Value.cells,hi];rw[Nat.mod_one];rfl
 ·simp[go_sem]
def FX(tl:Bool)(l:List It)(s:List UInt8)(j k p:Nat):Bool:=decide (p≤j) && ((!tl || decide (j=s.length)) && mt (l.drop k) (wC s p j))
theorem dE(s:List UInt8)(j:Nat):wC s j j= []:=by unfold wC;rw[List.drop_of_length_le];rw[List.length_take];omega
theorem Xr(s:List UInt8)(p j:Nat)(h:p<j)(hj:j≤s.length):wC s p j=s[p]::wC s (p+1) j:=by
 unfold wC;have hl:p<(s.take j).length:=by rw[List.length_take];omega
 rw[List.drop_eq_getElem_cons hl]
 congr 1
 rw[List.getElem_take]
theorem Qs(tl:Bool)(l:List It)(s:List UInt8)(j p:Nat)(hj:j≤s.length):FX tl l s j l.length p=(decide (p=j) && (!tl || decide (j=s.length))):=by
 unfold FX;rw[List.drop_length,wA]
 by_cases h:p=j
 ·subst h;rw[dE];simp
 ·by_cases h2:p≤j
  ·rw[Xr s p j (by omega) hj];simp[h]
  ·simp[h2,h]
theorem K5(tl:Bool)(l:List It)(s:List UInt8)(j k p:Nat)(hk:k<l.length)(hj:j≤s.length)(hp:p≤j):
  FX tl l s j k p=if l[k].star then(FX tl l s j (k+1) p || ((decide (p<j) && Fe l[k] ((s.getD p 0).toNat)) && FX tl l s j k (p+1)))else((decide (p<j) && Fe l[k] ((s.getD p 0).toNat)) && FX tl l s j (k+1) (p+1)):=by
 unfold FX;rw[List.drop_eq_getElem_cons hk];generalize(!tl || decide (j=s.length))=T
 by_cases h:p<j
 ·have e:s.getD p 0=s[p]:=by rw[List.getD_eq_getElem?_getD,List.getElem?_eq_getElem (by omega)];rfl
  rw[Xr s p j h hj,p6,e];have h1:p≤j:=hp;have h2:p+1≤j:=h;cases l[k].star<;>cases T<;>simp[h,h1,h2]
 ·obtain rfl:p=j:=by omega
  rw[dE,wB];cases l[k].star<;>cases T<;>simp
structure Gh(w:World)(a:Option Addr)(L:List IV):Prop where
 cells:L= []∨∃g,a=some ⟨g,0,none⟩∧g<w.heap.size∧∀i(h:i<L.length),w.cell? ⟨g,i*5,none⟩ =some (.bool L[i].it.any)∧w.cell? ⟨g,i*5+1,none⟩ =some (.bool L[i].it.not)∧w.cell? ⟨g,i*5+2,none⟩ =some (.bool L[i].it.star)∧w.cell? ⟨g,i*5+3,none⟩ =some L[i].f∧w.cell? ⟨g,i*5+4,none⟩ =some L[i].b
 ok:∀x∈L,Lt 0 w x
theorem Gh.below{w w':World}{a:Option Addr}{L:List IV}(h:Gh w a L)(hb:Below w.heap.size w w'):Gh w' a L:=by
 refine⟨?_,fun x hx=>(h.ok x hx).below hb⟩;rcases h.cells with h0| ⟨g,ha,hg,hc⟩
 ·exact .inl h0
 ·refine .inr ⟨g,ha,by have:=hb.size;omega,fun i hi=> ?_⟩
  obtain⟨c0,c1,c2,c3,c4⟩ :=hc i hi;exact⟨(hb.cell (by exact hg)).trans c0,(hb.cell (by exact hg)).trans c1,(hb.cell (by exact hg)).trans c2,(hb.cell (by exact hg)).trans c3,(hb.cell (by exact hg)).trans c4⟩
theorem kt(l:List IV):∀i(h:i<l.length),(Ko l)[i*5]? =some (.bool l[i].it.any)∧(Ko l)[i*5+1]? =some (.bool l[i].it.not)∧(Ko l)[i*5+2]? =some (.bool l[i].it.star)∧(Ko l)[i*5+3]? =some l[i].f∧(Ko l)[i*5+4]? =some l[i].b:=by
 induction l with
 |nil=>intro i h;simp at h
 |cons m l ih=>
  intro i h;have e:Ko (m::l)=Zt m++Ko l:=by simp[Ko]
  rw[e];cases i with
  |zero=>exact⟨rfl,rfl,rfl,rfl,rfl⟩
  |succ i=>
   have:=ih i (by simpa using h);have e1:(i+1)*5=i*5+5:=by omega
   rw[e1]
   simpa[Zt]using this
theorem Xs{w:World}{B:Nat}{a:Option Addr}{c:Nat}{L:List IV}(h:w.ownsRow B 219 5 (.slice a L.length c) L.length (Ko L))(Fx:∀x∈L,Lt B w x):Gh w a L:=by
 refine⟨?_,fun x hx=>⟨AH (Fx x hx).f ε,AH (Fx x hx).k ε,(Fx x hx).ap⟩⟩
 by_cases h0:L= []
 ·exact .inl h0
 ·right
  have hp:0<L.length:=List.length_pos_iff.2 h0;rcases h.2 with⟨_,hz⟩ | ⟨g,cap,cur,hv,hb,hg,_⟩
  ·omega
  ·simp at hv
   obtain⟨rfl,rfl⟩ :=hv;refine⟨g,rfl,(h.lt g rfl).2,fun i hi=> ?_⟩;obtain⟨q0,q1,q2,q3,q4⟩ :=kt L i hi;have e:∀j,(⟨g,0,none⟩ :Addr).add j=⟨g,j,none⟩ :=fun j=>by unfold Addr.add;split<;>simp_all
   have h0:=h.cells rfl (i*5) _ q0;have h1:=h.cells rfl (i*5+1) _ q1;have h2:=h.cells rfl (i*5+2) _ q2;have h3:=h.cells rfl (i*5+3) _ q3;have h4:=h.cells rfl (i*5+4) _ q4;rw[e]at h0 h1 h2 h3 h4;exact⟨h0,h1,h2,h3,h4⟩
end Go.Proofs.YtlppphmnegdhoabGreatDoor
