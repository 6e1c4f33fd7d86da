import Derived.Test.YtlppphmnegdhoabGreatDoorMz11
set_option linter.unusedVariables false
set_option maxRecDepth 100000
set_option maxHeartbeats 4000000
namespace Go.Proofs.YtlppphmnegdhoabGreatDoor
open Go.Proofs.Tryz
open Go.RowKit
open M
theorem gX:(prog.info? 79).map (fun i=>(i.zero,i.size,i.bytes))=some (some (.slice none 0 0),1,24):=by kernel_rfl
theorem gY:prog.underlying 172=some (.slice 79):=by kernel_rfl
def MF(N:Nat)(G:List Nat):List Value:=G.map fun g=> .slice (some ⟨g,0,none⟩) N N
theorem gZ(N:Nat)(G:List Nat)(g:Nat):MF N (G++ [g])=MF N G++ [.slice (some ⟨g,0,none⟩) N N]:=by simp[MF]
theorem gb(g N:Nat):∀u∈ [Value.slice (some ⟨g,0,none⟩) N N],u.oneCell'=true:=by
 intro u hu;simp at hu;subst hu;rfl
def gf(x:Ex)(s:ByteArray)(w w':World)(e:Ending):Prop:=
 ∃(G:List Nat)(a:Option Addr)(c:Nat),G.length=s.size+1∧e= .returned (.slice a (s.size+1) c)∧w'.ownsRow w.heap.size 79 1 (.slice a (s.size+1) c) (s.size+1) (MF (s.size+1) G)∧(∀j(h:j<G.length),Cr w' G[j] (s.size+1) (fun p=>AP x s.data.toList p j))∧Below w.heap.size w w'
theorem Cr.grown{w w3:World}{g n:Nat}{f:Nat→Bool}{o:Obj}{row:Option Nat}(h:Cr w g n f)(hg:(w.alloc o).grownBy w3 row)(hne:some g≠row):Cr w3 g n f:=by
 have hl:=h.lt;have hs:=hg.size;simp at hs;exact h.keep ((hg.block g (by simp;omega) hne).trans (Below.heap_alloc _ _ _ hl)) (by omega)
theorem Um{w:World}{B N k:Nat}{v:Value}{G:List Nat}(h:w.ownsRow B 79 1 v k (MF N G))(hk:k=0→v= .slice none 0 0){g n:Nat}{f:Nat→Bool}(hr:Cr w g n f)(hn:0<n):some g≠v.ownBlock:=by
 intro e
 by_cases h0:k=0
 ·rw[hk h0]at e;cases e
 ·obtain⟨g',cap,hv,_,_⟩ :=h.form (by omega)
  subst hv;simp[Value.ownBlock]at e;subst e;have hl:G.length=k:=by have:=h.1;simpa[MF]using this
  have h1:=h.cells rfl 0 _ (show(MF N G)[0]? =some (.slice (some ⟨G[0]'(by omega),0,none⟩) N N)by simp[MF,List.getElem?_eq_getElem (show 0<G.length by omega)]);have h2:=hr.c 0 hn;rw[show(⟨g,0,none⟩ :Addr).add 0=⟨g,0,none⟩by unfold Addr.add;split<;>simp_all,h2]at h1;cases h1
theorem P8(hd tl:Bool)(a:Option Addr)(n c:Nat)(L:List IV)(s:ByteArray)(w:World)(hn:n=L.length)(Dz:Gh w a L)(hL:L.length≤8192)(hs:s.size≤256):
  Calls prog 106 #[.agg #[.bool hd,.bool tl,.slice a n c],.string s] w fun e w'=>gf ⟨hd,tl,L.map IV.it⟩ s w w' e:=by
 subst hn;obtain⟨i0,hi,DF,CN,Dq⟩ :=info_parts gX
 go_enter func106,ntmps106
 go_wp2
 go_loopw [5,6] (fun v j' wr=>∃(k:Nat)(G:List Nat),G.length=k∧k≤s.size+1∧j'= .int .i64 k∧wr.ownsRow (w.heap.size+1) 79 1 v k (MF (s.size+1) G)∧(k=0→v= .slice none 0 0)∧(∀j(h:j<G.length),Cr wr G[j] (s.size+1) (fun p=>AP ⟨hd,tl,L.map IV.it⟩ s.data.toList p j))∧FB w.heap.size wr hd tl (.slice a L.length c)∧Below w.heap.size w wr) (fun _ j' _=>s.size+1 - (intOf j').toNat)
 case atStart=>exact⟨0,[],rfl,ε,rfl,World.ownsRow_nil _ _ _ _,fun _=>rfl,fun j h=>by simp at h,by constructor<;>simp[go_sem],ζ.alloc δ _⟩
 case round=>
  obtain⟨k,G,hGk,hk,rfl,ν,sy,JK,TJ,hB⟩ :=hrel;have Eo:=TJ;obtain⟨x0,x1,x2,xl⟩ :=Eo;have VH:=hB.size
  by_cases Ac:k≤s.size
  ·have AV:(k:Int)≤(s.size:Int):=by omega
   go_wp2_with fail
   refine(WD hd tl a L.length c L s k _ rfl (Dz.below hB) hL hs Ac).mono ?_;rintro e w1 ⟨g,rfl,hg,Jy,b1⟩;have Bp:=Ξ ν b1;have nY:∀j(h:j<G.length),Cr w1 G[j] (s.size+1) (fun p=>AP ⟨hd,tl,L.map IV.it⟩ s.data.toList p j):=fun j h=>(JK j h).below b1 (JK j h).lt
   have ABg:=TJ.below b1 TJ.lt;have L0:Below w.heap.size w w1:=hB.trans (b1.mono VH);have VJ:=b1.size;have HRW:Hid (∀j(h:j<G.length),Cr w1 G[j] (s.size+1) (fun p=>AP ⟨hd,tl,L.map IV.it⟩ s.data.toList p j)):=nY;have zO:=γ Jy;clear JK nY Jy ν TJ x0 x1 x2 xl b1
   go_wp2_with(first
    | (at_builtin;refine wpList_append_own _ rfl (.tmp 18) (.tmp 20) 172 rfl (w.heap.size+1) 79 i0 (.slice none 0 0) 1 24 gY hi DF CN Dq rfl (by decide) _ _ _ rfl (Bp.alloc _) ⟨w1.heap.size,0,none⟩ 1 1 [.slice (some ⟨g,0,none⟩) (s.size+1) (s.size+1)] rfl rfl ?k1 ?k2 ?k3 ?k4 ?k5 ?_)
    |go_in)
   try(case k1=>
    first
    |exact fun j u h=>h
    | (intro j u h
       match j,h with
       |0,h=>simp at h;subst h;simp[go_sem,Addr.add]
       |j+1,h=>simp at h))
   try(case k2=>exact gb _ _)
   try(case k3=>first|omega| (unfold maxLen;omega))
   try(case k4=>omega)
   try(case k5=>first|omega| (simp;omega))
   intro v' w3 Γ AE ABh;have nZ:∀j(h:j<(G++ [g]).length),Cr w3 (G++ [g])[j] (s.size+1) (fun p=>AP ⟨hd,tl,L.map IV.it⟩ s.data.toList p j):=fun j h=>by
    by_cases hj:j<G.length
    ·rw[List.getElem_append_left hj]
     exact(HRW.out j hj).grown AE (Um Bp sy (HRW.out j hj) (by omega))
    ·have:j=k:=by simp at h;omega
     subst this;rw[List.getElem_append_right (by omega)];simp only[hGk,Nat.sub_self,List.getElem_cons_zero];exact zO.out.grown AE (Um Bp sy zO.out (by omega))
   have ADv:FB w.heap.size w3 hd tl (.slice a L.length c):=by
    have H4:=AE.size;simp at H4;have hl:=ABg.lt;exact ABg.keep ((AE.block _ (by simp;omega) (fun e=>by have:=(Bp.lt _ e.symm).1;omega)).trans (Below.heap_alloc _ _ _ hl)) (by omega)
   have B3:Below w.heap.size w w3:=(L0.alloc (by omega) _).grown AE (by simp;omega) (fun k hk=>by have:=(Bp.lt k hk).1;omega);rw[←gZ]at Γ;have Ge:Hid (∀j(h:j<(G++ [g]).length),Cr w3 (G++ [g])[j] (s.size+1) (fun p=>AP ⟨hd,tl,L.map IV.it⟩ s.data.toList p j)):=nZ;clear AE Bp nZ HRW zO sy ABh;go_wp2
   go_roundw
   case rel=>exact⟨k+1,G++ [g],by simp[hGk],by omega,by go_num,Γ,fun h=>by omega,Ge.out,ADv,B3⟩
   case measure=>simp[intOf];omega
  ·obtain rfl:k=s.size+1:=by omega
   have AV:¬((s.size+1:Nat):Int)≤(s.size:Int):=by omega
   obtain⟨av,cv,rfl⟩ :=κ ν;have HRW:Hid (∀j(h:j<G.length),Cr wr G[j] (s.size+1) (fun p=>AP ⟨hd,tl,L.map IV.it⟩ s.data.toList p j)):=JK;have bP:=AH ν (Nat.le_succ _);clear JK x0 x1 x2 xl sy ν;go_wp2;go_ret;exact⟨G,av,cv,hGk,rfl,bP,HRW.out,hB⟩
theorem Fo(x:Ex)(s:List UInt8)(i j:Nat)(h:j<i∨s.length<j):AP x s i j=false:=by
 unfold AP;rcases h with h|h
 ·have e:decide (i≤j)=false:=decide_eq_false (by omega)
  simp[e]
 ·have e:decide (j≤s.length)=false:=decide_eq_false (by omega)
  simp[e]
theorem YV(G:List Nat)(a:Option Addr)(c B:Nat)(x:Ex)(s:ByteArray)(k:Nat)(w:World)(hs:s.size≤256)(hG:G.length=s.size+1)(ν:w.ownsRow B 79 1 (.slice a (s.size+1) c) (s.size+1) (MF (s.size+1) G))(JK:∀j(h:j<G.length),Cr w G[j] (s.size+1) (fun p=>AP x s.data.toList p j))(hk:k≤s.size):
  Calls prog 107 #[.slice a (s.size+1) c,.int .i64 k,.int .i64 (-1)] w fun e w'=>(∃i j:Int,e= .returned (.tuple #[.int .i64 i,.int .i64 j])∧Ka x s.data.toList k i j)∧w'=w:=by
 obtain⟨gt,cap,hv,_,qa⟩ :=ν.form (by omega);simp only[Value.slice.injEq]at hv;obtain⟨rfl,_,rfl⟩ :=hv;have hl:=Δ s;have HT:Hid (∀j i,j≤s.size→i≤s.size→∃gj,gj<w.heap.size∧w.cell? ⟨gt,j,none⟩ =some (.slice (some ⟨gj,0,none⟩) (s.size+1) (s.size+1))∧w.cell? ⟨gj,i,none⟩ =some (.bool (AP x s.data.toList i j))):=fun j i hj hi=>by
  have zP:j<G.length:=by omega
  refine⟨G[j],(JK j zP).lt,?_,(JK j zP).c i (by omega)⟩;have h1:=ν.cells rfl j _ (show(MF (s.size+1) G)[j]? =some (.slice (some ⟨G[j],0,none⟩) (s.size+1) (s.size+1))by simp[MF,List.getElem?_eq_getElem zP]);rw[show(⟨gt,0,none⟩ :Addr).add j=⟨gt,j,none⟩by unfold Addr.add;split<;>simp_all]at h1;exact h1
 clear ν JK
 go_enter func107,ntmps107
 go_wp2
 go_loop [8] (fun i'=>∃i:Nat,k≤i∧i≤s.size+1∧i'= .int .i64 i∧Hid (∀p d,k≤p→p<i→AP x s.data.toList p d=false)) (fun i'=>s.size+1 - (intOf i').toNat)
 case atStart=>exact⟨k,δ,by omega,rfl,fun p d h1 h2=>by omega⟩
 case round=>
  obtain⟨i,dA,hi,rfl,HN⟩ :=hrel
  by_cases Ac:i≤s.size
  ·have AV:(i:Int)<(s.size:Int)+1:=by omega
   go_wp2
   go_loop [9] (fun j'=>∃jj:Nat,i≤jj∧jj≤s.size+1∧j'= .int .i64 ((jj:Int) - 1)∧Hid (∀d,jj≤d→AP x s.data.toList i d=false)) (fun j'=>(intOf j'+1).toNat)
   case atStart=>exact⟨s.size+1,by omega,δ,by congr 1;omega,fun d hd=>Fo x _ i d (.inr (by omega))⟩
   case round=>
    obtain⟨jj,aG,nS,rfl,HD⟩ :=hrel
    by_cases E7:i<jj
    ·obtain⟨j,rfl⟩ :∃j,jj=j+1:=⟨jj - 1,by omega⟩
     have ej:(((j+1:Nat):Int) - 1)=(j:Int):=by omega
     rw[ej];have h1:(i:Int)≤(j:Int):=by omega
     have h2:(j:Int)<(s.size:Int)+1:=by omega
     obtain⟨gj,hgj,c0,c1⟩ :=HT.out j i (by omega) Ac;have h3:(0:Int)≤(j:Int):=by omega
     have h4:(0:Int)≤(i:Int):=by omega
     have h5:((i:Int) != -1)=true:=by simp
     clear ej;cases hm:AP x s.data.toList i j
     all_goals
      rw[hm]at c1
     ·have I3:Hid (∀d,j≤d→AP x s.data.toList i d=false):=fun d hd=>by
       by_cases h:d=j
       ·rw[h];exact hm
       ·exact HD.out d (by omega)
      clear hm HD;go_wp2
      go_round
      case rel=>exact⟨j,by omega,by omega,rfl,I3.out⟩
      case measure=>simp[intOf]
     ·have HF:Hid (Ka x s.data.toList k (i:Int) (j:Int)):= .inr ⟨i,j,rfl,rfl,dA,hm,fun p d q1 q2=>HN.out p d q1 q2,fun d hd=>HD.out d (by omega)⟩
      clear hm HD HN
      by_cases hji:(i:Int)<(j:Int)
      all_goals
       go_wp2;go_ret2;exact⟨⟨_,_,rfl,HF.out⟩,rfl⟩
    ·obtain rfl:i=jj:=by omega
     have h1:¬(i:Int)≤(i:Int) - 1:=by omega
     have Qo:Hid (∀p d,k≤p→p<i+1→AP x s.data.toList p d=false):=fun p d q1 q2=>by
      by_cases h:p=i
      ·subst h
       by_cases hd:p≤d
       ·exact HD.out d hd
       ·exact Fo x _ p d (.inl (by omega))
      ·exact HN.out p d q1 (by omega)
     clear HD HN;go_wp2
     go_round
     case rel=>exact⟨i+1,by omega,by omega,by go_num,Qo.out⟩
     case measure=>simp[intOf];omega
  ·have AV:¬(i:Int)<(s.size:Int)+1:=by omega
   have HF:Hid (Ka x s.data.toList k (-1) (-1)):= .inl ⟨rfl,rfl,fun p d q1=>by
    by_cases hp:p<i
    ·exact HN.out p d q1 hp
    ·exact Fo x _ p d (by omega)⟩
   clear HN;go_wp2;go_ret2;exact⟨⟨_,_,rfl,HF.out⟩,rfl⟩
end Go.Proofs.YtlppphmnegdhoabGreatDoor
namespace Go.Proofs.YtlppphmnegdhoabGreatDoor
open Go.RowKit
open M
def C0(w:World)(b:Nat)(cs:List Value):Prop:=CB w b cs∧cs.length=23
theorem CB.get{w:World}{b:Nat}{cs:List Value}(h:CB w b cs)(j:Nat)(hj:j<cs.length):∃v,w.cell? ⟨b,j,none⟩ =some v:=⟨_,h.c j _ (List.getElem?_eq_getElem hj)⟩
theorem MK(a:ByteArray)(m:Nat):(a.extract m a.size).data.toList=a.data.toList.drop m:=by
 rw[Lib.extract_data,List.take_of_length_le (by rw[List.length_drop,Δ];omega)]
def UN(p:Nat→Bool):List UInt8→Bool
 | []=>false
 |c::_=>p c.toNat
theorem Lc(p:Nat→Bool)(t:List UInt8):Dk p t=if UN p t then t.drop 1 else t:=by
 match t with
 | []=>rfl
 |c::r=>rfl
theorem RZ(s:ByteArray)(p:Nat→Bool)(h:UN p s.data.toList=true):0<s.size:=by
 rcases Nat.eq_zero_or_pos s.size with h0|h0
 ·have hl:=Δ s
  rw[List.length_eq_zero_iff.1 (hl.trans h0)]at h;cases h
 ·exact h0
theorem Ng(s:ByteArray)(p:Nat→Bool)(h:0<s.size):UN p s.data.toList=p s[0].toNat:=by
 have e:=Ap s 0 h;rw[List.drop_zero]at e;rw[e];rfl
theorem Ra(s:ByteArray)(p:Nat→Bool)(h:s.size=0):UN p s.data.toList=false:=by
 have hl:=Δ s;rw[List.length_eq_zero_iff.1 (hl.trans h)];rfl
end Go.Proofs.YtlppphmnegdhoabGreatDoor
namespace Go.Proofs.YtlppphmnegdhoabGreatDoor
open Go.Proofs.Tryz
open Go.RowKit
open M
structure Bi(g:Nat)(w w':World):Prop where
 os:w'.os=w.os
 tape:w'.tape=w.tape
 output:w'.output=w.output
 size:w.heap.size≤w'.heap.size
 block:∀k,k<w.heap.size→k≠g→w'.heap[k]? =w.heap[k]?
theorem Bi.refl(g:Nat)(w:World):Bi g w w:=⟨rfl,rfl,rfl,δ,fun _ _ _=>rfl⟩
theorem Bi.trans{g:Nat}{a b c:World}(h:Bi g a b)(k:Bi g b c):Bi g a c:=
 ⟨k.os.trans h.os,k.tape.trans h.tape,k.output.trans h.output,Nat.le_trans h.size k.size,fun i hi hg=>(k.block i (Nat.lt_of_lt_of_le hi h.size) hg).trans (h.block i hi hg)⟩
theorem Bi.η{g:Nat}{w w':World}(h:Below w.heap.size w w'):Bi g w w':=⟨h.os,h.tape,h.output,h.size,fun k hk _=>h.block k hk⟩
theorem Bi.Aw{g:Nat}{w w':World}(h:AQ g w w'):Bi g w w':=⟨h.os,h.tape,h.output,by rw[h.size];exact δ,fun k _ hk=>h.block k hk⟩
theorem Bi.below{g B:Nat}{w w':World}(h:Bi g w w')(hB:B≤g)(hw:B≤w.heap.size):Below B w w':=⟨h.os,h.tape,h.output,h.size,fun k hk=>h.block k (by omega) (by omega)⟩
theorem Bi.Rb{g b:Nat}{w W W':World}(h:Bi b w W)(ho:AQ g W W')(hg:w.heap.size≤g):Bi b w W':=⟨ho.os.trans h.os,ho.tape.trans h.tape,ho.output.trans h.output,by rw[ho.size];exact h.size,fun k hk hb=>(ho.block k (by omega)).trans (h.block k hk hb)⟩
theorem Bi.drewN{g:Nat}{w w':World}(h:Bi g w w')(n:Nat):Bi g w (w'.drewN n):=⟨h.os,h.tape,h.output,h.size,h.block⟩
theorem CB.xC{w w':World}{b g:Nat}{cs:List Value}(h:CB w b cs)(ha:Bi g w w')(hb:b≠g):CB w' b cs:=h.keep (ha.block b h.lt hb) ha.size
theorem Ou(m:List Mk):FD m=true↔∃i k,∃(h:i<m.length)(h':k<i),m[i].b=(m[k]'(by omega)).b:=by
 induction m with
 |nil=>simp[FD]
 |cons q m ih=>
  rw[FD,Bool.or_eq_true,ih,List.any_eq_true]
  constructor
  ·rintro(⟨x,hx,e⟩ | ⟨i,k,h,h',e⟩)
   ·obtain⟨i,hi,rfl⟩ :=List.getElem_of_mem hx
    exact⟨i+1,0,by simp;omega,by omega,by simpa using e⟩
   ·exact⟨i+1,k+1,by simp;omega,by omega,by simpa using e⟩
  ·rintro⟨i,k,h,h',e⟩
   obtain⟨i,rfl⟩ :∃j,i=j+1:=⟨i - 1,by omega⟩
   cases k with
   |zero=>
    left;refine⟨m[i]'(by simpa using h),List.getElem_mem _,?_⟩
    simpa using e
   |succ k=>
    right;exact⟨i,k,by simpa using h,by omega,by simpa using e⟩
theorem C0.keep{w w':World}{b:Nat}{cs:List Value}(h:C0 w b cs)(hb:Below w.heap.size w w'):C0 w' b cs:=⟨h.1.below hb h.1.lt,h.2⟩
theorem Ek{ops:Array Oper}{rest:List Oper}{op:Oper}{a:Act}{w:World}{Q:Exit→Act→World→Prop}{g n:Nat}{cs vs:List Value}{T:TypeId}(hT:EE T n)(hb:CB w g cs)(o:Nat)(Fv:op.guard=none)(x y:Operand)(ho:op.op= .store T x y)(hx:a.eval x= .pointer (some ⟨g,o,none⟩))(hy:a.eval y= .agg vs.toArray)(hl:vs.length=n)(hn:o+n≤cs.length)(h1:∀v∈vs,v.oneCell'=true)
  (h:∀w',CB w' g (cs.take o++vs++cs.drop (o+n))→AQ g w w'→wpList prog ops Q rest (a.put op.dst undef) w'):wpList prog ops Q (op::rest) a w:=
 RX hT hb hl hn h1 Fv x y ho hx hy h
theorem BL:EE 141 12:=⟨⟨_,underlying141,rfl⟩,by kernel_rfl⟩
theorem I6{l m:List Value}(h:∀v∈l,v.oneCell'=true)(g:∀v∈m,v.oneCell'=true):∀v∈l++m,v.oneCell'=true:=fun v hv=>(List.mem_append.1 hv).elim (h v) (g v)
def KB(t:List UInt8):Option (Nat×List UInt8):=
 if CH t 36 then some (2,t.drop 1)else if CH t 47 then I5 (Ψ (t.drop 1))else if 0<FW t then some (1,t.drop (FW t))else none
def KO(t:List UInt8):Nat×List UInt8:=if CH t 44 then(match KB (t.drop 1)with|none=>(1,t) |some p=>(2,p.2))else(1,t)
def Kt(t:List UInt8):List UInt8:=if CH t 33 then t.drop 1 else t
def QM(t:List UInt8):Nat×List UInt8:=match KB t with
 |none=>(0,t)
 |some p=>((KO p.2).1,Kt (KO p.2).2)
def Xa:List Value:= [.int .i64 0,.int .i64 0,.int .i64 0,.bool false,.bool false,.slice none 0 0,.int .i64 0,.int .i64 0,.bool false,.bool false,.slice none 0 0,.bool false]
theorem Qn:∀v∈Xa,v.oneCell'=true:=by decide
theorem uy:ZH 22 9 1 16 (.string ⟨#[]⟩):=⟨by kernel_rfl,by kernel_rfl,rfl,by decide,by decide,by decide⟩
def Nz(T:List ByteArray):List Value:=T.map .string
def rN(s:ByteArray)(T:List ByteArray):Prop:=∀t∈T,t.size≤s.size∧t.data.toList≠ []∧∀c∈t.data.toList,c.toNat≠10
def rO(s:ByteArray)(w:World)(e:Ending)(w':World):Prop:=
 Below w.heap.size w w'∧∃(T:List ByteArray)(a:Option Addr)(c:Nat),e= .returned (.slice a T.length c)∧AR [] s.data.toList=T.map (fun t=>t.data.toList)∧w'.ownsRow w.heap.size 9 1 (.slice a T.length c) T.length (Nz T)∧rN s T∧T.length≤s.size
theorem YB(l:List UInt8)(f i:Nat)(h:i<l.length)(hf:f≤i):(l.drop f).take (i+1 - f)=(l.drop f).take (i - f)++ [l[i]]:=by
 have e:i+1 - f=(i - f)+1:=by omega
 have hl:i - f<(l.drop f).length:=by rw[List.length_drop];omega
 rw[e,List.take_add_one,List.getElem?_eq_getElem hl,List.getElem_drop];simp[show f+(i - f)=i by omega]
theorem rP(s:ByteArray)(f i:Nat):(s.extract f i).data.toList=(s.data.toList.drop f).take (i - f):=Lib.extract_data s f i
theorem YC (s : ByteArray) (w : World) (hs : s.size ≤ 400) :
  Calls prog 108 #[.string s] w fun e w' => rO s w e w' := by
 have hl := Δ s;have Hc := γ hl;clear hl
 go_enter func108, ntmps108
 go_wp2
 go_loopw [3, 4, 5] (fun v3 v4 v5 wr => ∃ (f i : Nat) (T : List ByteArray), v4 = .int .i64 f ∧ v5 = .int .i64 i ∧ f ≤ i ∧ i ≤ s.size + 1 ∧ T.length ≤ f ∧ (i ≤ s.size ∨ (f = i ∧ i = s.size + 1)) ∧ T.length ≤ s.size ∧ Hid (rN s T) ∧ Hid ((∀ c ∈ (s.data.toList.drop f).take (i - f), c.toNat ≠ 10) ∧ AR [] s.data.toList = T.map (fun t => t.data.toList) ++ (if i ≤ s.size then AR ((s.data.toList.drop f).take (i - f)) (s.data.toList.drop i) else [])) ∧ wr.ownsRow w.heap.size 9 1 v3 T.length (Nz T) ∧ Below w.heap.size w wr) (fun _ _ v5 _ => s.size + 1 - (intOf v5).toNat)
 case atStart =>
  refine ⟨0, 0, [], rfl, rfl, δ, by omega, ε, .inl ε, ε, fun t h => by simp at h, ⟨fun c h => by simp at h, ?_⟩, World.ownsRow_nil _ _ _ _, ζ⟩;rw [if_pos ε]; simp
 case round =>
  obtain ⟨f, i, T, rfl, rfl, hfi, Pn, hTf, EK, hTs, QT, HL, ν, hB⟩ := hrel;obtain ⟨av, cv, CX⟩ := κ ν;subst CX;obtain ⟨nT, yK⟩ : ∃ n, T.length = n := ⟨_, rfl⟩
  have TI := γ yK;rw [yK] at hTf hTs ν ⊢;clear yK;have K1 := hB.size
  by_cases hle : i ≤ s.size
  ·have eU : (i : Int) ≤ (s.size : Int) := by omega
   have Jv : Hid (AR [] s.data.toList = T.map (fun t => t.data.toList) ++ AR ((s.data.toList.drop f).take (i - f)) (s.data.toList.drop i)) := by
    show _ = _;have := HL.out.2;rw [if_pos hle] at this; exact this
   have R8 : Hid (∀ c ∈ (s.data.toList.drop f).take (i - f), c.toNat ≠ 10) := HL.out.1;have TA := γ (rP s f i);have wQ : Hid ((s.extract f i).size ≤ s.size) := by show _ ≤ _; rw [ByteArray.size_extract]; omega
   clear HL
   by_cases Mp : i = s.size ∨ ∃ h : i < s.size, s[i].toNat = 10
   ·-- a line ends here
    have hd0 : (f : Int) ≤ (i : Int) := by omega
    have MN : Hid (∀ X : List (List UInt8), AR ((s.data.toList.drop f).take (i - f)) (s.data.toList.drop i) = (if (s.data.toList.drop f).take (i - f) = [] then [] else [(s.data.toList.drop f).take (i - f)]) ++ (if i + 1 ≤ s.size then AR ((s.data.toList.drop (i + 1)).take (i + 1 - (i + 1))) (s.data.toList.drop (i + 1)) else [])) := fun _ => by
     rcases Mp with rfl | ⟨h, hx⟩
     ·rw [if_neg (show ¬ s.size + 1 ≤ s.size by omega), List.drop_of_length_le (show s.data.toList.length ≤ s.size by rw [Hc.out]; exact δ), AR, List.append_nil]
     ·rw [if_pos (show i + 1 ≤ s.size by omega), Ap s i h, AR, if_pos hx, Nat.sub_self, List.take_zero]
      split <;> rfl
    have mI : ((i : Int) == (s.size : Int)) = true ∨ (((i : Int) == (s.size : Int)) = false ∧ ∃ x : Nat, ∃ h : i < s.size, s[i].toNat = x ∧ x < 256 ∧ ((x : Int) == 10) = true ∧ (i : Int) < (s.size : Int)) := by
     by_cases h : i = s.size
     ·exact .inl (by simp [h])
     ·rcases Mp with e | ⟨h1, h2⟩
      ·exact absurd e h
      ·exact .inr ⟨by simp; omega, 10, h1, h2, by decide, by decide, by omega⟩
    by_cases qa : f < i
    ·have ADB : (f : Int) < (i : Int) := by omega
     have JU : Hid ((s.data.toList.drop f).take (i - f) ≠ []) := fun e => by
      have := congrArg List.length e;rw [List.length_take, List.length_drop, Hc.out] at this;simp at this; omega
     have rQ : Hid (AR [] s.data.toList = (T ++ [s.extract f i]).map (fun t => t.data.toList) ++ (if i + 1 ≤ s.size then AR ((s.data.toList.drop (i + 1)).take (i + 1 - (i + 1))) (s.data.toList.drop (i + 1)) else [])) := by
      show _ = _;rw [Jv.out, MN.out [], if_neg JU.out, List.map_append, List.append_assoc];simp
     have ABA : Hid (rN s (T ++ [s.extract f i])) := fun t ht => by
      rcases List.mem_append.1 ht with ht | ht
      ·exact QT.out t ht
      ·simp at ht; subst ht
       exact ⟨wQ.out, by rw [TA.out]; exact JU.out, by rw [TA.out]; exact R8.out⟩
     clear MN Jv QT Mp R8;rcases mI with PH | ⟨PH, x, hix, hx, FT, ABB, Gv⟩
     all_goals
      go_wp2_with (refine Gx uy (ν.alloc _) wr.heap.size [.string (s.extract f i)] (heap_alloc_new wr _) rfl (by simp [Value.oneCell']) (by omega) (by simp; omega) rfl _ _ rfl rfl rfl ?_
                   intro v' w3 Γ D0;have Hx : Below w.heap.size w w3 := (hB.alloc K1 _).grown D0 (by simp; omega) (fun k hk => (ν.lt k hk).1);obtain ⟨NF, JV, CX⟩ := κ Γ;subst CX;clear D0)
      go_roundw
      case rel =>
       refine ⟨i + 1, i + 1, T ++ [s.extract f i], by go_num, by go_num, δ, by omega, by rw [List.length_append, TI.out]; simp; omega, by omega, by rw [List.length_append, TI.out]; simp; omega, ABA.out, ⟨fun c h => by simp at h, rQ.out⟩, ?_, Hx⟩;have e9 : Nz (T ++ [s.extract f i]) = Nz T ++ [.string (s.extract f i)] := by simp [Nz]
       rw [List.length_append, TI.out, e9]; exact Γ
      case measure => simp [intOf] <;> omega
    ·obtain rfl : f = i := by omega
     have ADB : ¬ (f : Int) < (f : Int) := by omega
     have rQ : Hid (AR [] s.data.toList = T.map (fun t => t.data.toList) ++ (if f + 1 ≤ s.size then AR ((s.data.toList.drop (f + 1)).take (f + 1 - (f + 1))) (s.data.toList.drop (f + 1)) else [])) := by
      show _ = _;rw [Jv.out, MN.out [], if_pos (by rw [Nat.sub_self]; rfl)]; rfl
     clear MN Jv Mp R8;rcases mI with PH | ⟨PH, x, hix, hx, FT, ABB, Gv⟩
     all_goals
      go_wp2
      go_roundw
      case rel => exact ⟨f + 1, f + 1, T, by go_num, by go_num, δ, by omega, by rw [TI.out]; omega, by omega, by rw [TI.out]; omega, QT.out, ⟨fun c h => by simp at h, rQ.out⟩, by rw [TI.out]; exact ν, hB⟩
      case measure => simp [intOf] <;> omega
   ·have Ac : i < s.size := by
     refine Nat.lt_of_le_of_ne hle (fun e => Mp (.inl e))
    have AV : (i : Int) < (s.size : Int) := by omega
    have PH : ((i : Int) == (s.size : Int)) = false := by simp; omega
    obtain ⟨x, hx⟩ : ∃ x : Nat, s[i].toNat = x := ⟨_, rfl⟩
    have FT : x < 256 := by rw [← hx]; exact s[i].toNat_lt
    have hx9 : x ≠ 10 := fun e => Mp (.inr ⟨Ac, by rw [hx]; exact e⟩)
    have ABB : ((x : Int) == 10) = false := by simp; omega
    have hlL : i < s.data.toList.length := by rw [Hc.out]; exact Ac
    have dF : s.data.toList[i] = s[i] := rfl;have rQ : Hid (AR [] s.data.toList = T.map (fun t => t.data.toList) ++ (if i + 1 ≤ s.size then AR ((s.data.toList.drop f).take (i + 1 - f)) (s.data.toList.drop (i + 1)) else [])) := by
     show _ = _;rw [Jv.out, if_pos (show i + 1 ≤ s.size by omega), Ap s i Ac, AR, if_neg (by rw [hx]; exact hx9), YB s.data.toList f i hlL hfi, dF]
    have ADC : Hid (∀ c ∈ (s.data.toList.drop f).take (i + 1 - f), c.toNat ≠ 10) := fun c hc => by
     rw [YB s.data.toList f i hlL hfi] at hc;rcases List.mem_append.1 hc with hc | hc
     ·exact R8.out c hc
     ·rw [List.mem_singleton] at hc; rw [hc, dF, hx]; exact hx9
    clear Jv Mp R8 hx9 dF hlL;go_wp2
    go_roundw
    case rel => exact ⟨f, i + 1, T, rfl, by go_num, by omega, by omega, by rw [TI.out]; exact hTf, .inl (by omega), by rw [TI.out]; omega, QT.out, ⟨ADC.out, rQ.out⟩, by rw [TI.out]; exact ν, hB⟩
    case measure => simp [intOf] <;> omega
  ·obtain rfl : i = s.size + 1 := by omega
   have eU : ¬ ((s.size : Int) + 1) ≤ (s.size : Int) := by omega
   have rQ : Hid (AR [] s.data.toList = T.map (fun t => t.data.toList)) := by
    show _ = _;have := HL.out.2;rw [if_neg hle, List.append_nil] at this; exact this
   clear HL;go_wp2;go_ret;exact ⟨hB, T, av, cv, by rw [TI.out]; rfl, rQ.out, by rw [TI.out]; exact ν, QT.out, by rw [TI.out]; exact hTs⟩
theorem Gm:EE 274 2:=⟨⟨_,underlying274,rfl⟩,by kernel_rfl⟩
theorem dS:ZH 142 274 2 2 (.agg #[.bool false,.int .u8 0]):=⟨by kernel_rfl,by kernel_rfl,rfl,by decide,by decide,by decide⟩
theorem Ub(q:Mk)(Fa:q.is 47=false):(q.p && EG q.b [47])=false:=by
 obtain⟨b,p⟩ :=q;cases p
 ·rfl
 ·simp[Mk.is]at Fa
  simp[EG];omega
def mZ(s:ByteArray)(k n:Nat):Prop:=k≤n∧n≤s.size∧(∀i(h:i<s.size),k≤i→i<n→s[i].toNat≠10)∧(n=s.size∨∃h:n<s.size,s[n].toNat=10)
def yy(s:ByteArray)(k:Nat)(w:World)(e:Ending)(w':World):Prop:=(∃n:Nat,e= .returned (.int .i64 n)∧mZ s k n)∧w'=w
theorem Ts(s:ByteArray)(k:Nat)(w:World)(hs:s.size≤400)(hk:k≤s.size):
  Calls prog 89 #[.string s,.int .i64 k] w fun e w'=>yy s k w e w':=by
 have FV:s.size≤maxLen:=by unfold maxLen;omega
 go_enter func89,ntmps89
 go_wp2_with fail
 go_loop [1] (fun v1=>∃n:Nat,v1= .int .i64 n∧k≤n∧n≤s.size∧Hid (∀i(h:i<s.size),k≤i→i<n→s[i].toNat≠10)) (fun v1=>s.size - (intOf v1).toNat)
 case atStart=>exact⟨k,rfl,δ,hk,fun i h h1 h2=>by omega⟩
 case round=>
  obtain⟨n,rfl,Ez,TP,HP⟩ :=hrel
  by_cases Ac:n<s.size
  ·have AV:(n:Int)<(s.size:Int):=by omega
   go_wp2_with fail
   refine(AY s n 10 _ FV TP (by decide)).mono ?_;rintro e wq ⟨rfl,JE⟩;rw[JE];clear JE;have HE:Hid (CH (s.data.toList.drop n) 10=(s[n].toNat==10)):=by show _=_;rw[Ap s n Ac];rfl
   cases BZ:CH (s.data.toList.drop n) 10
   ·have NH:Hid (∀i(h:i<s.size),k≤i→i<n+1→s[i].toNat≠10):=fun i h h1 h2=>by
     by_cases e:i=n
     ·subst e
      have:=HE.out;rw[BZ]at this
      simpa using this.symm
     ·exact HP.out i h h1 (by omega)
    clear BZ HE HP;go_wp2
    go_round
    case rel=>exact⟨n+1,by go_num,by omega,by omega,NH.out⟩
    case measure=>simp[intOf]<;>omega
   ·have HF:Hid (mZ s k n):=⟨Ez,TP,HP.out,.inr ⟨Ac,by have:=HE.out;rw[BZ]at this;simpa using this.symm⟩⟩
    clear BZ HE HP;go_wp2;go_ret;exact⟨⟨n,rfl,HF.out⟩,rfl⟩
  ·have AV:¬(n:Int)<(s.size:Int):=by omega
   have HF:Hid (mZ s k n):=⟨Ez,TP,HP.out,.inl (by omega)⟩
   clear HP;go_wp2;go_ret;exact⟨⟨n,rfl,HF.out⟩,rfl⟩
structure N5(w:World)(g:Nat)(L:List (Nat×Nat)):Prop where
 lt:g<w.heap.size
 nm:∀i(h:i<L.length),w.cell? ⟨g,i*25+12,none⟩ =some (.int .u8 L[i].1)
 lb:∀i(h:i<L.length),w.cell? ⟨g,i*25+13,none⟩ =some (.int .u8 L[i].2)
 nx:∀i(h:i<L.length),∃v,w.cell? ⟨g,i*25+14,none⟩ =some v
 fz:∀i(h:i<L.length),w.frozen? ⟨g,i*25+14,none⟩ =false
 b1:∀i(h:i<L.length),L[i].1<256
 b2:∀i(h:i<L.length),L[i].2<256
theorem N5.set{w:World}{g:Nat}{L:List (Nat×Nat)}(h:N5 w g L)(j:Nat)(hj:j<L.length)(u:Value):N5 (w.setCell ⟨g,j*25+14,none⟩ u) g L:=by
 refine⟨by simpa using h.lt,fun i hi=> ?_,fun i hi=> ?_,fun i hi=> ?_,fun i hi=>by simpa using h.fz i hi,h.b1,h.b2⟩
 ·rw[World.cell?_setCell_other _ _ _ _ (fun e=>by have:=congrArg Addr.off e;simp at this;omega)];exact h.nm i hi
 ·rw[World.cell?_setCell_other _ _ _ _ (fun e=>by have:=congrArg Addr.off e;simp at this;omega)];exact h.lb i hi
 ·by_cases e:j=i
  ·subst e
   obtain⟨v,hv⟩ :=h.nx j hj;exact⟨u,World.cell?_setCell_same' _ _ _ (by rw[hv];rfl)⟩
  ·obtain⟨v,hv⟩ :=h.nx i hi
   exact⟨v,by rw[World.cell?_setCell_other _ _ _ _ (fun e'=>by have:=congrArg Addr.off e';simp at this;omega)];exact hv⟩
structure Gf(w:World)(b:Nat)(a:Option Addr)(c:Nat)(L:List (Nat×Nat)):Prop where
 lt:b<w.heap.size
 c0:w.cell? ⟨b,0,none⟩ =some (.slice a L.length c)
 row:L= []∨∃g,a=some ⟨g,0,none⟩∧N5 w g L∧g≠b
 ZI:L.length≤8192
def Ee:List (Nat×Nat)→Nat→Nat
 | [],_=>0
 | (n,l)::t,x=>if n=58∧l=x then 1 else if Ee t x=0 then 0 else Ee t x+1
theorem PK(q:Nat×Nat)(t:List (Nat×Nat))(x:Nat):Ee (q::t) x=if q.1=58∧q.2=x then 1 else if Ee t x=0 then 0 else Ee t x+1:=by
 obtain⟨n,l⟩ :=q;rw[Ee]
def Tt(L:List (Nat×Nat))(i x:Nat):Nat:=if Ee (L.drop i) x=0 then 0 else Ee (L.drop i) x+i
theorem gG(L:List (Nat×Nat))(i x:Nat)(h:i<L.length):Tt L i x=if L[i].1=58∧L[i].2=x then i+1 else Tt L (i+1) x:=by
 unfold Tt;rw[List.drop_eq_getElem_cons h,PK]
 by_cases hc:L[i].1=58∧L[i].2=x
 ·rw[if_pos hc,if_pos hc];simp;omega
 ·rw[if_neg hc,if_neg hc]
  by_cases h0:Ee (L.drop (i+1)) x=0
  ·rw[if_pos h0];simp[h0]
  ·rw[if_neg h0,if_neg h0,if_neg (by omega)];omega
theorem IE(b:Nat)(a:Option Addr)(c x:Nat)(L:List (Nat×Nat))(w:World)(hS:Gf w b a c L)(hx:x<256):
  Calls prog 133 #[.pointer (some ⟨b,0,none⟩),.int .u8 x] w fun e w'=>e= .returned (.int .i64 ((Ee L x:Nat):Int))∧w'=w:=by
 obtain⟨ADb,Vw,Jy,SD⟩ :=hS;obtain⟨n,hn⟩ :∃n,L.length=n:=⟨_,rfl⟩
 have HN:=γ hn;rw[hn]at Vw SD;clear hn;have HR:=γ Jy;clear Jy;have H0:Hid (Ee L x=Tt L 0 x):=by
  show _=_;unfold Tt;rw[List.drop_zero];split<;>omega
 go_enter func133,ntmps133
 go_wp2_with fail
 go_loop [5,11] (fun _ v11=>∃i:Nat,i≤n∧v11= .int .i64 i∧Hid (Ee L x=Tt L i x)) (fun _ v11=>n - (intOf v11).toNat)
 case atStart=>exact⟨0,ε,rfl,H0⟩
 case round=>
  clear H0;obtain⟨i,hi,rfl,HI⟩ :=hrel
  by_cases Ac:i<n
  ·have AV:(i:Int)<(n:Int):=by omega
   have h0:(0:Int)≤(i:Int):=by omega
   have BN:i<L.length:=by rw[HN.out];exact Ac
   obtain⟨g,rfl,Gz,dJ⟩ :∃g,a=some ⟨g,0,none⟩∧N5 w g L∧g≠b:=by
    rcases HR.out with h|h
    ·rw[h]at BN;simp at BN
    ·exact h
   have d1:=Gz.nm i BN;have d2:=Gz.lb i BN;have Rp:=Gz.lt;have e1:=Gz.b1 i BN;have e2:=Gz.b2 i BN;have Wi:Hid (Ee L x=if L[i].1=58∧L[i].2=x then i+1 else Tt L (i+1) x):=by show _=_;rw[HI.out,gG L i x BN]
   generalize L[i].1=y at*;generalize L[i].2=z at*;clear HI Gz
   by_cases Ed:y=58
   ·have Vg:((y:Int)==58)=true:=by simp[Ed]
    by_cases hzx:z=x
    ·have ADc:((z:Int)==(x:Int))=true:=by simp[hzx]
     have HF:Hid (Ee L x=i+1):=by show _=_;rw[Wi.out,if_pos ⟨Ed,hzx⟩]
     clear Ed hzx Wi;go_wp2;go_ret;exact⟨by rw[HF.out];rfl,rfl⟩
    ·have ADc:((z:Int)==(x:Int))=false:=by simp;omega
     have HF:Hid (Ee L x=Tt L (i+1) x):=by show _=_;rw[Wi.out,if_neg (fun h=>hzx h.2)]
     clear Ed hzx Wi;go_wp2
     go_round
     case rel=>exact⟨i+1,by omega,by go_num,HF.out⟩
     case measure=>simp[intOf]<;>omega
   ·have Vg:((y:Int)==58)=false:=by simp;omega
    have HF:Hid (Ee L x=Tt L (i+1) x):=by show _=_;rw[Wi.out,if_neg (fun h=>Ed h.1)]
    clear Ed Wi;go_wp2
    go_round
    case rel=>exact⟨i+1,by omega,by go_num,HF.out⟩
    case measure=>simp[intOf]<;>omega
  ·have AV:¬(i:Int)<(n:Int):=by omega
   have HF:Hid (Ee L x=0):=by
    show _=_;rw[HI.out];unfold Tt;rw[List.drop_of_length_le (by rw[HN.out];omega)];rfl
   clear HI;go_wp2;go_ret;exact⟨by rw[HF.out];rfl,rfl⟩
end Go.Proofs.YtlppphmnegdhoabGreatDoor
