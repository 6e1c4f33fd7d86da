import Derived.Test.YtlppphmnegdhoabGreatDoorMz35
set_option linter.unusedVariables false
set_option maxRecDepth 100000
set_option maxHeartbeats 2000000
namespace Go.Proofs.YtlppphmnegdhoabGreatDoor
open Go.Proofs.Tryz
open Go.RowKit
open M
structure PQ(w:World)(vs:List Value)(c:Cm):Prop where
 len:vs.length=23
 one:∀v∈vs,v.oneCell'=true
 a1:∃p q,(∀j,j<5→vs[j]? =(OZ c.a1 p q)[j]?)∧QW w p c.a1.ex.l
 a2:∃p q,(∀j,j<5→vs[5+j]? =(OZ c.a2 p q)[j]?)∧QW w p c.a2.ex.l
 no:vs[10]? =some (.bool c.no)
 nm:vs[11]? =some (.int .u8 (c.name:Nat))
 tx:vs[12]? =some (.string c.text)
 sb:c.name=115→∃(a:Option Addr)(q:Nat)(m:List Mk)(a2:Option Addr)(q2:Nat),vs[14]? =some (.bool c.sub.ex.head)∧vs[15]? =some (.bool c.sub.ex.tail)∧vs[16]? =some (.slice a c.sub.ex.l.length q)∧vs[17]? =some (.slice a2 m.length q2)∧vs[18]? =some (.int .i64 (c.sub.count:Nat))∧vs[19]? =some (.bool c.sub.all)∧vs[20]? =some (.bool c.sub.Pt)∧
  DK m=c.sub.rep∧(m.length≤400∧∀q∈m,q.b<256)∧QW w a c.sub.ex.l∧A7 w a2 m.length m
 ex:c.name=121→∃(l l2:List Mk)(a:Option Addr)(q:Nat)(a2:Option Addr)(q2:Nat),vs[21]? =some (.slice a l.length q)∧vs[22]? =some (.slice a2 l2.length q2)∧c.UO=NG (ET l)∧c.Kv=NG (ET l2)∧(l.length≤400∧vD l l2)∧l2.length=l.length∧A7 w a l.length l∧A7 w a2 l2.length l2
theorem mP.new{lo:Nat}{w:World}{vs:List Value}{c:Cm}(h:mP lo w vs c):Cj lo w (fun w=>PQ w vs c):=fun w' k1 k2=>by
 refine⟨h.len,h.one,?_,?_,h.no,h.nm,h.tx,fun e=> ?_,fun e=> ?_⟩
 ·obtain⟨p,q,h1,h2⟩ :=h.a1;exact⟨p,q,h1,h2 w' k1 k2⟩
 ·obtain⟨p,q,h1,h2⟩ :=h.a2;exact⟨p,q,h1,h2 w' k1 k2⟩
 ·obtain⟨a,q,m,a2,q2,h1,h2,h3,h4,h5,h6,h7,h8,h9,Ff,Pr⟩ :=h.sb e
  exact⟨a,q,m,a2,q2,h1,h2,h3,h4,h5,h6,h7,h8,h9,Ff w' k1 k2,Pr w' k1 k2⟩
 ·obtain⟨l,l2,a,q,a2,q2,h1,h2,h3,h4,h5,h6,h7,h8⟩ :=h.ex e
  exact⟨l,l2,a,q,a2,q2,h1,h2,h3,h4,h5,h6,h7 w' k1 k2,h8 w' k1 k2⟩
def rdG(lo:Nat)(v:Value)(k:Nat):Prop:=v.ownBlock=some k∨k<lo
structure SI(lo:Nat)(w:World)(v:Value)(V:List Cm)(CS:List (List Value)):Prop where
 len:CS.length=V.length
 at':Av (rdG lo v) w (fun w=>∀i(h:i<V.length)(h':i<CS.length),PQ w CS[i] V[i])
theorem SI.nil(lo:Nat)(w:World)(v:Value):SI lo w v [] []:=⟨rfl,fun _ _ _ i h=>by simp at h⟩
theorem SI.fr{lo:Nat}{w w':World}{v v':Value}{V:List Cm}{CS:List (List Value)}(h:SI lo w v V CS)(hf:Rf (rdG lo v) (rdG lo v') w w'):SI lo w' v' V CS:=⟨h.len,h.at'.fr hf⟩
theorem SI.below{lo:Nat}{w w':World}{v:Value}{V:List Cm}{CS:List (List Value)}(h:SI lo w v V CS)(hb:Below w.heap.size w w'):SI lo w' v V CS:=h.fr (.η hb)
theorem SI.boxed{lo:Nat}{w w':World}{v:Value}{V:List Cm}{CS:List (List Value)}{o:Obj}(h:SI lo w v V CS)(O:AQ w.heap.size (w.alloc o) w'):SI lo w' v V CS:=⟨h.len,SH h.at' O⟩
theorem SI.grown{lo n c:Nat}{w w':World}{v:Value}{g':Nat}{V:List Cm}{CS:List (List Value)}{o:Obj}(h:SI lo w v V CS)(hg:(w.alloc o).grownBy w' v.ownBlock)(hl:v.ownBlock=some g'∨g'=(w.alloc o).heap.size):SI lo w' (.slice (some ⟨g',0,none⟩) n c) V CS:=by
 have hs:(w.alloc o).heap.size=w.heap.size+1:=by simp
 refine h.fr ⟨hg.os,hg.tape,hg.output,by have:=hg.size;omega,fun k hk hF=> ?_,fun k hk=> ?_⟩
 ·exact(hg.block k (by omega) (fun e=>hF (.inl e.symm))).trans (Below.heap_alloc w o k hk)
 ·rcases hk with e|e
  ·have e:some g'=some k:=e
   injection e with e;subst e;rcases hl with h1|h1
   ·exact .inl (.inl h1)
   ·exact .inr (by omega)
  ·exact .inl (.inr e)
theorem SI.snoc{lo:Nat}{w:World}{v:Value}{V:List Cm}{CS:List (List Value)}{c:Cm}{cs:List Value}(h:SI lo w v V CS)(hc:Av (rdG lo v) w (fun w=>PQ w cs c)):SI lo w v (V++ [c]) (CS++ [cs]):=by
 have hlen:=h.len;refine⟨by simp[hlen],fun w' h1 h2 j hj hj'=> ?_⟩
 by_cases e:j<V.length
 ·rw[List.getElem_append_left (by omega),List.getElem_append_left e]
  exact h.at' w' h1 h2 j e (by omega)
 ·have e2:j=V.length:=by simp at hj;omega
  subst e2;rw[List.getElem_append_right (by omega),List.getElem_append_right δ];simp[hlen];exact hc w' h1 h2
structure YR(w:World)(a:Option Addr)(L:List (Nat×List UInt8))(V:List Cm):Prop where
 A6:GJ w a L
 len:V.length=L.length
 cell:∀i(h:i<V.length),∃g vs,a=some ⟨g,0,none⟩∧g<w.heap.size∧w.rangeAt g (i*23) vs∧PQ w vs V[i]
theorem sY{lo c:Nat}{w:World}{a:Option Addr}{L:List (Nat×List UInt8)}{V:List Cm}{CS:List (List Value)}(ν:w.ownsRow lo 179 23 (.slice a L.length c) L.length CS.flatten)(ho:rR L CS)(hs:L.length≤8192)(hl:V.length=L.length)(hd:SI lo w (.slice a L.length c) V CS):Cj lo w (fun w=>YR w a L V):=fun w' k1 k2=>by
 have Hi:w'.ownsRow lo 179 23 (.slice a L.length c) L.length CS.flatten:=FQ ν (fun q h1 h2=>k2 q h2 (by omega));have hN:∀c∈CS,c.length=23:=fun c hc=>by
  obtain⟨j,hj,rfl⟩ :=List.getElem_of_mem hc;exact(ho.2 j (by rw[←ho.1];exact hj) hj).1
 refine⟨YD Hi ho hs,hl,fun i hi=> ?_⟩;have JC:i<CS.length:=by rw[hd.len];exact hi
 obtain⟨g,h1,h2,h3,h4,_⟩ :=LB Hi ho.1 hN i JC;exact⟨g,CS[i],h1,h3,h4,hd.at' w' k1 (fun k hk hF=>k2 k hk (fun h9=>hF (.inr h9))) i hi JC⟩
theorem bI(l:List (List UInt8))(i:Nat)(h:i<l.length)(L:List Cm)(hh:BF l=(BF (l.drop i)).map (L++ ·)):BF l=(Dw l[i]).bind (fun c=>(BF (l.drop (i+1))).map ((L++ [c])++ ·)):=by
 rw[hh,List.drop_eq_getElem_cons h,BF];cases Dw l[i]with
 |none=>rfl
 |some c=>cases BF (l.drop (i+1))<;>simp
def sZ(s:ByteArray)(w:World)(e:Ending)(w':World):Prop:=
 Below w.heap.size w w'∧((∃v,e= .returned (.tuple #[v,.bool false])∧∀l,CW (AR [] s.data.toList)=some l→¬Cd l)∨
  ∃(a:Option Addr)(c:Nat)(l:List (Nat×List UInt8))(V:List Cm),e= .returned (.tuple #[.slice a l.length c,.bool true])∧CW (AR [] s.data.toList)=some l∧Cd l∧l.length≤400∧BF (AR [] s.data.toList)=some V∧Cj w.heap.size w' (fun w=>YR w a l V))
theorem KE (s : ByteArray) (w : World) (hs : s.size ≤ 400) :
  Calls prog 74 #[.string s] w fun e w' => sZ s w e w' := by
 have ZF := (zero_of_info (show (prog.info? 179).map (fun i => (i.zero, i.size)) = some (some (.agg A9.toArray), 23) by kernel_rfl)).1
 go_enter func74, ntmps74
 go_wp2_with fail
 refine (YC s w hs).mono ?_
 rintro e w1 ⟨B1, T, a, c, rfl, J9, ν, Fx, hTs⟩
 obtain ⟨S, hS⟩ : ∃ S, AR [] s.data.toList = S := ⟨_, rfl⟩
 have HS := γ hS
 have HT : Hid (S = T.map (fun t => t.data.toList)) := by show _ = _; rw [← hS, J9]
 obtain ⟨nT, yK⟩ : ∃ n, T.length = n := ⟨_, rfl⟩
 have TI := γ yK
 have HTC : Hid (∀ i (h : i < T.length), ∃ g, a = some ⟨g, 0, none⟩ ∧ g < w1.heap.size ∧ w1.cell? ⟨g, i, none⟩ = some (.string T[i])) := fun i hi => by
  obtain ⟨g, hg⟩ : ∃ g, a = some ⟨g, 0, none⟩ := by
   rcases ν.2 with ⟨_, hz⟩ | ⟨g, cap, cur, hv, _⟩
   ·omega
   ·simp at hv; exact ⟨g, hv.1⟩
  subst hg
  have c1 := ν.cells rfl i (.string T[i]) (by simp [Nz, hi])
  rw [Addr.add_mid, Nat.zero_add] at c1
  exact ⟨g, rfl, (ν.lt g rfl).2, c1⟩
 have QT := γ Fx
 rw [yK] at hTs ⊢
 clear hS J9 yK ν Fx
 go_wp2_with fail
 go_loopw [4, 6] (fun v4 v6 wr => ∃ (i : Nat) (L : List (Nat × List UInt8)) (CS : List (List Value)) (V : List Cm), Hid (V.length = i ∧ SI w1.heap.size wr v4 V CS ∧ BF S = (BF (S.drop i)).map (V ++ ·)) ∧ v6 = .int .i64 i ∧ i ≤ nT ∧ L.length = i ∧ Hid (rR L CS) ∧ Hid (CW S = (CW (S.drop i)).map (L ++ ·)) ∧ wr.ownsRow w1.heap.size 179 23 v4 L.length CS.flatten ∧ Below w1.heap.size w1 wr) (fun _ v6 _ => nT - (intOf v6).toNat)
 case atStart =>
  refine ⟨0, [], [], [], ⟨rfl, SI.nil _ _ _, by rw [List.drop_zero]; cases BF S <;> rfl⟩, rfl, ε, rfl, ⟨rfl, fun j h => by simp at h⟩, ?_, World.ownsRow_nil _ _ _ _, ζ⟩
  show _ = _
  rw [List.drop_zero]
  cases CW S <;> rfl
 case round =>
  obtain ⟨i, L, CS, V, iw, rfl, S5, nI, Qb, Vq, Ui, hB⟩ := hrel
  obtain ⟨av, cv, CX⟩ := κ Ui
  subst CX
  have SJ := γ nI
  rw [nI] at Ui iw ⊢
  clear nI
  have K1 := hB.size
  by_cases Ac : i < nT
  ·have AV : (i : Int) < (nT : Int) := by omega
   have h0 : (0 : Int) ≤ (i : Int) := by omega
   have hiT : i < T.length := by rw [TI.out]; exact Ac
   obtain ⟨g, rfl, hg, ct⟩ := HTC.out i hiT
   have ct2 := (hB.cell (by exact hg)).trans ct
   have eI : g < wr.heap.size := by omega
   have pI : i < S.length := by rw [HT.out, List.length_map]; exact hiT
   have hSi : S[i] = T[i].data.toList := by simp [HT.out]
   have Wh : Hid (CW S = (EH T[i].data.toList).bind (fun c => (CW (S.drop (i + 1))).map ((L ++ [c]) ++ ·))) := by
    show _ = _
    rw [fp S i pI L Vq.out, hSi]
   have R9 : Hid (BF S = (Dw T[i].data.toList).bind (fun c => (BF (S.drop (i + 1))).map ((V ++ [c]) ++ ·))) := by
    show _ = _
    rw [bI S i pI V iw.out.2.2, hSi]
   have Q7 := (QT.out T[i] (List.getElem_mem _)).1
   generalize T[i] = tx at *
   clear Vq hSi
   go_wp2_with fail
   refine (SA tx _ (by omega)).mono ?_
   rintro e w2 ⟨B2, cs, DL, PH, EK⟩
   have hw2 := B2.size
   have TB : Below w1.heap.size w1 w2 := hB.trans (B2.mono (by omega))
   have nJ := Ξ Ui B2
   have Cq : CB (w2.alloc (.cells A9.toArray 179)) w2.heap.size A9 := CB.new w2 _ _ C8
   have Hx : Below w1.heap.size w1 (w2.alloc (.cells A9.toArray 179)) := TB.alloc (by omega) _
   have zG : (w2.alloc (.cells A9.toArray 179)).ownsRow w1.heap.size 179 23 (.slice av i cv) i CS.flatten := nJ.alloc _
   have qK : (w2.alloc (.cells A9.toArray 179)).heap.size = w2.heap.size + 1 := by simp
   have hne : ∀ k, (Value.slice av i cv).ownBlock = some k → k < w2.heap.size := fun k hk => (nJ.lt k hk).2
   rcases EK with ⟨CQ, rfl⟩ | ⟨cm, cv0, BW, Il, hcv, Db, rfl⟩
   ·have HF : Hid (CW S = none) := by show _ = _; rw [Wh.out, CQ]; rfl
    clear CQ Wh
    go_wp2_with (refine θ Ao Cq rfl rfl _ _ rfl rfl rfl DL PH ?_; intro w5 BP O5)
    go_ret2
    exact ⟨(B1.trans (Hx.mono B1.size)).trans (O5.below (by have := B1.size; omega)), .inl ⟨_, rfl, fun l hl => by rw [HS.out, HF.out] at hl; cases hl⟩⟩
   ·have bB : Hid (CW S = (CW (S.drop (i + 1))).map ((L ++ [cm]) ++ ·)) := by show _ = _; rw [Wh.out, BW]; rfl
    have zH : Hid (rR (L ++ [cm]) (CS ++ [cs])) := by
     have hlen := Qb.out.1
     refine ⟨by simp [hlen], fun j h h' => ?_⟩
     by_cases e : j < L.length
     ·rw [List.getElem_append_left (by omega), List.getElem_append_left e]
      exact Qb.out.2 j e (by omega)
     ·have e2 : j = L.length := by simp at h; omega
      subst e2
      rw [List.getElem_append_right (by omega), List.getElem_append_right δ]
      simp [hlen]
      exact Il
    have HDS : Hid ((V ++ [cv0]).length = i + 1 ∧ SI w1.heap.size w2 (.slice av i cv) (V ++ [cv0]) (CS ++ [cs]) ∧ BF S = (BF (S.drop (i + 1))).map ((V ++ [cv0]) ++ ·)) := by
     refine ⟨by rw [List.length_append, iw.out.1]; rfl, (iw.out.2.1.below B2).snoc (YO Db.new (fun k hk => ?_)), by rw [R9.out, hcv]; rfl⟩
     rcases hk with e | e
     ·exact (Ui.lt k e).2
     ·omega
    have NN : (Value.slice av i cv).ownBlock ≠ some w2.heap.size := fun e => by have := hne _ e; omega
    clear BW Il Wh Qb hcv Db R9 iw
    go_wp2_with (first
     | (refine θ Ao Cq rfl rfl _ _ rfl rfl rfl DL PH ?_; intro w5 BP O5; have ADk : Hid (SI w1.heap.size w5 (.slice av i cv) (V ++ [cv0]) (CS ++ [cs])) := HDS.out.2.1.boxed O5; have BT := Jw zG O5 NN; have aF := Hx.trans (O5.below (B := w1.heap.size) (by omega)); have Qk := O5.size)
     | refine ω Ao BP DL rfl _ rfl rfl ?_
     | refine Bz uz rfl _ rfl cs rfl DL ?_
     | (refine LI uz (BT.alloc _) w5.heap.size cs (heap_alloc_new w5 _) DL PH (by omega) (by simp; omega) rfl _ _ rfl rfl rfl ?_
        intro g' JV w6 Aa AK bJ
        have ADl : Hid (SI w1.heap.size w6 (.slice (some ⟨g', 0, none⟩) (i + 1) JV) (V ++ [cv0]) (CS ++ [cs])) := ADk.out.grown AK bJ
        have Eg : Below w1.heap.size w1 w6 := (aF.alloc (by omega) _).grown AK (by simp; omega) (fun k hk => (BT.lt k hk).1)
        clear AK))
    go_roundw
    case rel =>
     refine ⟨i + 1, L ++ [cm], CS ++ [cs], V ++ [cv0], ⟨HDS.out.1, ADl.out, HDS.out.2.2⟩, by go_num, by omega, by rw [List.length_append, SJ.out]; rfl, zH.out, bB.out, ?_, Eg⟩
     rw [List.length_append, SJ.out, List.flatten_append]
     simpa using Aa
    case measure => simp [intOf] <;> omega
  ·obtain rfl : i = nT := by omega
   have HF : Hid (CW S = some L) := by
    show _ = _
    rw [Vq.out, List.drop_of_length_le (by rw [HT.out, List.length_map, TI.out]; exact δ)]
    simp [CW]
   have Ig : GJ wr av L := YD (by rw [SJ.out]; exact Ui) Qb.out (by rw [SJ.out]; omega)
   have HFV : Hid (BF S = some V ∧ Cj w1.heap.size wr (fun w => YR w av L V)) := by
    refine ⟨?_, sY (by rw [SJ.out]; exact Ui) Qb.out (by rw [SJ.out]; omega) (by rw [SJ.out]; exact iw.out.1) (by rw [SJ.out]; exact iw.out.2.1)⟩
    rw [iw.out.2.2, List.drop_of_length_le (by rw [HT.out, List.length_map, TI.out]; exact δ)]
    simp [BF]
   have ADm := B1.size
   clear iw
   have hBw : Below w.heap.size w wr := B1.trans (hB.mono B1.size)
   clear Vq Qb
   go_wp2_with fail
   have Ms := Vj av cv L wr Ig
   rw [SJ.out] at Ms
   refine Ms.mono ?_
   clear Ms
   rintro e w2 ⟨⟨r, rfl, hr⟩, rfl⟩
   have HR := γ hr
   clear hr Ig
   cases r
   ·go_wp2
    go_ret2
    exact ⟨hBw, .inl ⟨_, rfl, fun l hl hk => by
     rw [HS.out, HF.out] at hl
     simp only [Option.some.injEq] at hl
     subst hl
     exact Bool.noConfusion (HR.out.2 hk)⟩⟩
   ·go_wp2
    go_ret2
    exact ⟨hBw, .inr ⟨av, cv, L, V, by rw [SJ.out]; rfl, by rw [HS.out]; exact HF.out, (by have h9 := HR.out; simpa using h9), by rw [SJ.out]; omega, by rw [HS.out]; exact HFV.out.1, HFV.out.2.mono ADm⟩⟩
theorem ψ.JI{w:World}{B:Nat}{v:Value}{l:List Cl}(h:w.ownsRow B 120 2 v l.length (Cn l)):ψ w v l:=by
 have hh:=h;obtain⟨h1,⟨rfl,h2⟩ | ⟨g,cap,cur,rfl,e2,e3,e4,e5,e6,e7⟩⟩ :=h
 ·have:l= []:=List.eq_nil_of_length_eq_zero h2
  subst this;exact ψ.nil w
 ·refine⟨_,cap,rfl,e4,e5,.inr ⟨g,0,rfl,(hh.lt g rfl).2,fun j u hu=> ?_⟩⟩
  have:=hh.cells rfl j u hu
  rwa [Addr.add_mid]at this
theorem SK:ZH 112 120 2 16 (.agg #[.int .u8 0,.int .i64 0]):=⟨by kernel_rfl,by kernel_rfl,rfl,by decide,by decide,by decide⟩
theorem sf:EE 120 2:=⟨⟨_,underlying120,rfl⟩,by kernel_rfl⟩
theorem PR{ops:Array Oper}{rest:List Oper}{o:Oper}{a:Act}{w:World}{Q:Exit→Act→World→Prop}{B:Nat}{v v2:Value}{n:Nat}{xs:List Value}{l:List Cl}(ν:w.ownsRow B 120 2 v n xs)(DC:ψ w v2 l)(hn:n+l.length≤1000000000)(hB:B≤w.heap.size)(Fv:o.guard=none)(s x:Operand)
  (ho:o.op= .call {callee:= .builtin .append,args:= #[s,x],argTypes:= #[112,112]}) (hs:a.eval s=v) (hx:a.eval x=v2)
  (h:∀v' w',w'.ownsRow B 120 2 v' (n+l.length) (xs++Cn l)→w.grownBy w' v.ownBlock→wpList prog ops Q rest (a.put o.dst v') w'):wpList prog ops Q (o::rest) a w:=by
 obtain⟨i0,hi,DF,CN,Dq⟩ :=info_parts SK.info;obtain⟨ad,c,rfl,h1,h2,h3⟩ :=DC;cases ad with
 |none=>
  have hl:l= []∧c=0:=by
   rcases h3 with⟨h3,h4⟩ | ⟨g,o,h3,_⟩
   ·exact⟨h3,h4 rfl⟩
   ·cases h3
  obtain⟨rfl,rfl⟩ :=hl;refine wpList_append_own_none Fv s x _ ho B _ i0 2 SK.und hi v n xs hs ν hx ?_;refine h v w ?_ ⟨rfl,rfl,rfl,δ,fun _ _ _=>rfl⟩;rw[VT,List.append_nil];exact ν
 |some ad=>
  have hc:∀j u,(Cn l)[j]? =some u→w.cell? (ad.add j)=some u:=by
   rcases h3 with⟨h3,_⟩ | ⟨g,o,h3,hg,hr⟩
   ·subst h3;intro j u hu;simp[Cn]at hu
   ·simp only[Option.some.injEq]at h3
    subst h3;intro j u hu;rw[Addr.add_mid];exact hr j u hu
  exact wpList_append_own w Fv s x _ ho B _ i0 _ 2 16 SK.und hi DF CN Dq rfl (by decide) v n xs hs ν ad l.length c (Cn l) hx (by rw[VU]) hc (VV l) (by unfold maxLen;omega) (by omega) hB (fun v' w' h1 h2 _=>h v' w' h1 h2)
def LJ(l:List Cl)(w:World)(e:Ending)(w':World):Prop:=∃v,e= .returned v∧w'.ownsRow w.heap.size 120 2 v l.length (Cn l)∧Below w.heap.size w w'
theorem Vy(s:ByteArray)(w:World)(hs:s.size≤100000):
  Calls prog 229 #[.string s] w fun e w'=>LJ (BJ s.data.toList) w e w':=by
 have Hc:=γ (Δ s)
 go_enter func229,ntmps229
 go_wp2_with fail
 go_loopw [3,4] (fun v3 v4 wr=>∃i:Nat,v4= .int .i64 i∧i≤s.size∧wr.ownsRow w.heap.size 120 2 v3 i (Cn (BJ (s.data.toList.take i)))∧Below w.heap.size w wr) (fun _ v4 _=>s.size - (intOf v4).toNat)
 case atStart=>exact⟨0,rfl,ε,World.ownsRow_nil _ _ _ _,ζ⟩
 case round=>
  obtain⟨i,rfl,hi,ν,hB⟩ :=hrel;obtain⟨av,cv,CX⟩ :=κ ν;subst CX;have K1:=hB.size
  by_cases Ac:i<s.size
  ·have AV:(i:Int)<(s.size:Int):=by omega
   have HT:Hid (Cn (BJ (s.data.toList.take (i+1)))=Cn (BJ (s.data.toList.take i))++ [.int .u8 (s[i].toNat:Int),.int .i64 (-1)]):=by
    show _=_;have BN:i<s.data.toList.length:=by rw[Hc.out];exact Ac
    rw[List.take_add_one,List.getElem?_eq_getElem BN];unfold BJ;rw[List.map_append,Cf];rfl
   obtain⟨x,hx⟩ :∃x:Nat,s[i].toNat=x:=⟨_,rfl⟩
   have FT:x<256:=by rw[←hx];exact s[i].toNat_lt
   rw[hx]at HT
   go_wp2_with(first
    |refine Bz SK rfl _ rfl [.int .u8 x,.int .i64 (-1)] rfl rfl ?_
    | (refine A8 SK (ν.alloc _) wr.heap.size [.int .u8 x,.int .i64 (-1)] (heap_alloc_new wr _) rfl (by simp[Value.oneCell']) (by omega) (by simp;omega) rfl _ _ rfl rfl rfl ?_
       intro v' w6 Aa AK;have Eg:Below w.heap.size w w6:=(hB.alloc (by omega) _).grown AK (by simp;omega) (fun k hk=>(ν.lt k hk).1);obtain⟨NF,JV,CX⟩ :=κ Aa;subst CX;clear AK))
   go_roundw
   case rel=>
    refine⟨i+1,by go_num,by omega,?_,Eg⟩;rw[HT.out];exact Aa
   case measure=>simp[intOf]<;>omega
  ·obtain rfl:i=s.size:=by omega
   have AV:¬(s.size:Int)<(s.size:Int):=by omega
   rw[List.take_of_length_le (by rw[Hc.out];exact δ)]at ν;have ZJ:(BJ s.data.toList).length=s.size:=by rw[←Hc.out];simp[BJ]
   go_wp2;go_ret;exact⟨_,rfl,by rw[ZJ];exact ν,hB⟩
theorem Dn(va vb:Value)(a b:List Cl)(w:World)(ha:ψ w va a)(hb:ψ w vb b)(hl:a.length+b.length≤1000000):
  Calls prog 225 #[va,vb] w fun e w'=>LJ (a++b) w e w':=by
 have TZ:w.ownsRow w.heap.size 120 2 (.slice none 0 0) 0 []:=World.ownsRow_nil _ _ _ _;obtain⟨aa,ac,rfl,hac⟩ :=ha.form;obtain⟨ba,bc,rfl,ua⟩ :=hb.form;obtain⟨na,kh⟩ :∃n,a.length=n:=⟨_,rfl⟩
 obtain⟨nb,H7⟩ :∃n,b.length=n:=⟨_,rfl⟩
 have Pu:=γ kh;have ic:=γ H7;rw[kh]at ha hl⊢;rw[H7]at hb hl⊢;have HBO:=γ hb;have EV:w.heap.size≤w.heap.size:=δ;clear hb hac ua kh H7
 go_enter func225,ntmps225
 go_wp2_with(first
  | (refine PR TZ ha (by rw[Pu.out];omega) (by omega) rfl _ _ rfl rfl rfl ?_
     intro v1 w1 Bp Td;rw[Pu.out,Nat.zero_add,List.nil_append]at Bp;have L0:=Ci (B:=w.heap.size) Td (by omega) (fun k hk=>by cases hk);have CE:=Td.size;have ADn:=HBO.out.below L0;obtain⟨a1,c1,EN⟩ :=κ Bp;subst EN)
  | (refine PR Bp ADn (by rw[ic.out];omega) (by omega) rfl _ _ rfl rfl rfl ?_
     intro v3 w3 Γ VK;rw[ic.out]at Γ;have Hx:=L0.trans (Ci (B:=w.heap.size) VK (by omega) (fun k hk=>(Bp.lt k hk).1));obtain⟨a3,c3,Ei⟩ :=κ Γ;subst Ei))
 go_ret;refine⟨_,rfl,?_,Hx⟩;have hlen:(a++b).length=na+nb:=by rw[List.length_append,Pu.out,ic.out]
 rw[hlen,Cf];exact Γ
theorem GK(va vb:Value)(a b:List Cl)(o:Int)(w:World)(ha:ψ w va a)(hb:ψ w vb b)(hl:a.length+b.length≤100000):
  Calls prog 223 #[va,.int .i64 o,vb] w fun e w'=>LJ (AJ a (C4 o) b) w e w':=by
 have B0:Below w.heap.size w (w.alloc (.cells #[.int .u8 10,.int .i64 o] 120)):=ζ.alloc δ _;have Xw:=γ (ha.below B0);have ix:Hid (ψ (w.alloc (.cells #[.int .u8 10,.int .i64 o] 120)) (.slice (some ⟨w.heap.size,0,none⟩) 1 1) [C4 o]):=by
  refine⟨_,1,rfl,δ,by unfold maxLen;decide,.inr ⟨w.heap.size,0,rfl,by simp,fun j u hu=> ?_⟩⟩;rw[Nat.zero_add,cell_of_row _ _ _ _ _ _ (heap_alloc_new w _)]
  simpa[Cn,clV,C4]using hu
 have HB:=γ hb;clear hb;obtain⟨aa,ac,rfl,hac⟩ :=ha.form;obtain⟨na,kh⟩ :∃n,a.length=n:=⟨_,rfl⟩
 have Pu:=γ kh;obtain⟨ba,bc,rfl,ua⟩ :=HB.out.form;obtain⟨nb,H7⟩ :∃n,b.length=n:=⟨_,rfl⟩
 have ic:=γ H7;rw[kh]at ha Xw hl⊢;rw[H7]at HB hl⊢;clear hac ua kh H7 ha
 go_enter func223,ntmps223
 go_wp2_with fail
 have MG:a.length+([C4 o]:List Cl).length≤1000000:=by
  rw[Pu.out,List.length_singleton];omega
 have HC:=Dn (.slice aa na ac) (.slice (some ⟨w.heap.size,0,none⟩) 1 1) a [C4 o] (w.alloc (.cells #[.int .u8 10,.int .i64 o] 120)) Xw.out ix.out MG;refine HC.mono ?_;clear HC MG Xw ix;rintro e w1 ⟨v1,rfl,Bp,B1⟩;have BB1:=B0.trans (B1.mono B0.size);have Gc:=γ (ψ.JI Bp);have L6:=γ (HB.out.below BB1);clear Bp B1 B0 HB;obtain⟨l1,Ks⟩ :∃l1,a++ [C4 o]=l1:=⟨_,rfl⟩
 have Tp:Hid (l1++b=AJ a (C4 o) b):=by show _=_;rw[←Ks];rfl
 have HZ1:Hid (l1.length=na+1):=by show _=_;rw[←Ks,List.length_append,Pu.out];rfl
 rw[Ks]at Gc;clear Ks;obtain⟨a1,c1,EN,_⟩ :=Gc.out.form;rw[HZ1.out]at EN;subst EN
 go_wp2_with fail
 have jJ:l1.length+b.length≤1000000:=by
  rw[HZ1.out,ic.out];omega
 have HC:=Dn (.slice a1 (na+1) c1) (.slice ba nb bc) l1 b w1 Gc.out L6.out jJ;refine HC.mono ?_;clear HC jJ Gc L6;rintro e w2 ⟨v2,rfl,Bl,B2⟩;rw[Tp.out]at Bl;have EV:=BB1.size;have HO2:=γ (AH Bl EV);have GC:=γ (BB1.trans (B2.mono EV));clear Bl B2 BB1;go_wp2;go_ret;exact⟨v2,rfl,HO2.out,GC.out⟩
theorem zI:(prog.info? 5).map (fun i=>(i.zero,i.size,i.bytes))=some (some (.int .u8 0),1,1):=by kernel_rfl
theorem zJ:prog.underlying 151=some (.slice 5):=by kernel_rfl
structure Tv(w:World)(g n:Nat)(f:Nat→Nat):Prop where
 lt:g<w.heap.size
 c:∀i,i<n→w.cell? ⟨g,i,none⟩ =some (.int .u8 (f i:Nat))
 fz:∀i,i<n→w.frozen? ⟨g,i,none⟩ =false
theorem Tv.set{w:World}{g n:Nat}{f:Nat→Nat}(h:Tv w g n f)(q:Nat)(hq:q<n)(b:Nat):Tv (w.setCell ⟨g,q,none⟩ (.int .u8 (b:Nat))) g n (fun i=>if i=q then b else f i):=by
 refine⟨by simpa using h.lt,fun i hi=> ?_,fun i hi=>by simpa using h.fz i hi⟩
 by_cases QG:i=q
 ·subst QG
  rw[if_pos rfl];exact World.cell?_setCell_same' _ _ _ (by rw[h.c i hi];rfl)
 ·rw[if_neg QG]
  rw[World.cell?_setCell_other _ _ _ _ (fun e=>QG (congrArg Addr.off e).symm)];exact h.c i hi
theorem gM(u:World)(n:Nat):Tv (u.alloc (.cells (madeCells (Value.int .u8 0).cells n) 5)) u.heap.size n (fun _=>0):=by
 have hs:=size_madeCells (Value.int .u8 0).cells n;refine⟨by simp,fun i hi=> ?_,fun i hi=> ?_⟩
 ·have e:(u.alloc (.cells (madeCells (Value.int .u8 0).cells n) 5)).cell? ⟨u.heap.size,i,none⟩ =(madeCells (Value.int .u8 0).cells n)[i]? :=by
   rw[cell_of_row _ _ _ _ _ _ (heap_alloc_new u _)]
  rw[e];simp[madeCells,Value.cells,hi];rw[Nat.mod_one];rfl
 ·simp[go_sem]
theorem IH(v:Value)(l:List Cl)(w:World)(h:ψ w v l)(hl:l.length≤100000):
  Calls prog 77 #[v] w fun e w'=>e= .returned (.string (Dr l))∧Below w.heap.size w w':=by
 obtain⟨a,c,rfl,S8⟩ :=h.form;obtain⟨n,hn⟩ :∃n,l.length=n:=⟨_,rfl⟩
 have HN:=γ hn;rw[hn]at h hl⊢;have HS:=γ h;obtain⟨i0,hi,DF,CN,Dq⟩ :=info_parts zI;have Tl:∀u:World,(Instr.makeSlice 151 (.int .i64 (n:Int)) (.int .i64 (n:Int))).run prog u=
   .ok (.slice (some ⟨u.heap.size,0,none⟩) n n) (u.alloc (.cells (madeCells (Value.int .u8 0).cells n) 5)):=fun u=>by
  have h:=run_make (P:=prog) u 151 5 i0 (.int .u8 0) zJ hi DF .i64 .i64 (n:Int) (n:Int) (by omega) (Int.le_refl _) (by rw[Dq];omega) (by omega);have e:(n:Int).toNat=n:=by omega
  rw[e,CN,Nat.mul_one]at h;exact h
 have fh:Tv (w.alloc (.cells (madeCells (Value.int .u8 0).cells n) 5)) w.heap.size n (fun _=>0):=gM w n;have B0:Below w.heap.size w (w.alloc (.cells (madeCells (Value.int .u8 0).cells n) 5)):=ζ.alloc δ _;generalize madeCells (Value.int .u8 0).cells n=cur at*;clear h hn S8 hi DF CN Dq
 go_enter func77,ntmps77
 go_wp2_with fail
 go_loopw [4] (fun v4 wr=>∃(i:Nat)(f:Nat→Nat),v4= .int .i64 i∧i≤n∧Hid (Tv wr w.heap.size n f)∧Hid (∀j(h:j<l.length),j<i→f j=l[j].1.toNat)∧Below w.heap.size w wr) (fun v4 _=>n - (intOf v4).toNat)
 case atStart=>exact⟨0,_,rfl,ε,fh,fun j _ h=>absurd h (Nat.not_lt_zero _),B0⟩
 case round=>
  clear fh B0;obtain⟨i,f,rfl,S5,HR,HF,hB⟩ :=hrel
  by_cases Ac:i<n
  ·have AV:(i:Int)<(n:Int):=by omega
   have h0:(0:Int)≤(i:Int):=by omega
   have BN:i<l.length:=by rw[HN.out];exact Ac
   obtain⟨-,g,o,rfl,hg,hr⟩ :=(HS.out.below hB).at' i BN;obtain⟨x,hx⟩ :∃x:Nat,l[i].1.toNat=x:=⟨_,rfl⟩
   have FT:x<256:=by rw[←hx];exact l[i].1.toNat_lt
   have cx:wr.cell? ⟨g,o+i*2,none⟩ =some (.int .u8 x):=by have:=hr 0 _ rfl;rw[hx]at this;simpa using this
   have cr:=HR.out.c i Ac;have fr:=HR.out.fz i Ac;have lr:=HR.out.lt;have EA:=γ (HR.out.set i Ac x);have GO:Hid (∀j(h:j<l.length),j<i+1→(if j=i then x else f j)=l[j].1.toNat):=fun j hj hj2=>by
    by_cases e:j=i
    ·subst e;rw[if_pos rfl];exact hx.symm
    ·rw[if_neg e];exact HF.out j hj (by omega)
   have TB:Below w.heap.size w (wr.setCell ⟨w.heap.size,i,none⟩ (.int .u8 (x:Nat))):=hB.setCell (by simp) _;clear hr HF HR hx;go_wp2
   go_roundw
   case rel=>exact⟨i+1,_,by go_num,by omega,EA.out,GO.out,TB⟩
   case measure=>simp[intOf]<;>omega
  ·obtain rfl:i=n:=by omega
   have AV:¬(i:Int)<(i:Int):=by omega
   have hcv:(convert 151 9 (.slice (some ⟨w.heap.size,0,none⟩) i i)).run prog wr= .ok (.string (Dr l)) wr:=by
    have hlen:(AL l).length=i:=by rw[←HN.out];simp[AL]
    have h9:=run_convert_bytes_back (P:=prog) wr 151 9 5 ⟨w.heap.size,0,none⟩ i (AL l) underlying151 underlying5 underlying9 (fun j hj=>by
     rw[Addr.add_mid,Nat.zero_add,HR.out.c j (by omega),HF.out j (by rw[HN.out];omega) (by omega)];simp[AL])
    rw[hlen]at h9;exact h9
   go_wp2;go_ret;exact⟨rfl,hB⟩
theorem P4(v:Value)(l:List Cl)(w:World)(h:ψ w v l)(hl:l.length≤100000):
  Calls prog 193 #[v] w fun e w'=>e= .returned (.int .i64 (Ad l:Nat))∧w'=w:=by
 obtain⟨a,c,rfl,S8⟩ :=h.form;obtain⟨n,hn⟩ :∃n,l.length=n:=⟨_,rfl⟩
 have HN:=γ hn;rw[hn]at h hl⊢;have HS:=γ h;clear h hn S8
 go_enter func193,ntmps193
 go_wp2_with fail
 go_loop [3] (fun v3=>∃i:Nat,v3= .int .i64 i∧i≤n∧Hid (Ad l=if Ad (l.drop i)=0 then 0 else Ad (l.drop i)+i)) (fun v3=>n - (intOf v3).toNat)
 case atStart=>exact⟨0,rfl,ε,by show _=_;rw[List.drop_zero];split<;>omega⟩
 case round=>
  obtain⟨i,rfl,S5,HP⟩ :=hrel
  by_cases Ac:i<n
  ·have AV:(i:Int)<(n:Int):=by omega
   have h0:(0:Int)≤(i:Int):=by omega
   have BN:i<l.length:=by rw[HN.out];exact Ac
   obtain⟨-,g,o,rfl,hg,hr⟩ :=HS.out.at' i BN;obtain⟨x,hx⟩ :∃x:Nat,l[i].1.toNat=x:=⟨_,rfl⟩
   have FT:x<256:=by rw[←hx];exact l[i].1.toNat_lt
   have cx:w.cell? ⟨g,o+i*2,none⟩ =some (.int .u8 x):=by have:=hr 0 _ rfl;rw[hx]at this;simpa using this
   have HB:Hid (Ad (l.drop i)=if x=10 then 1 else if Ad (l.drop (i+1))=0 then 0 else Ad (l.drop (i+1))+1):=by
    show _=_;rw[List.drop_eq_getElem_cons BN,Ad,hx]
   clear hr hx
   by_cases Ff:x=10
   ·have aD:((x:Int)==10)=true:=by simp[Ff]
    have NH:Hid (Ad l=i+1):=by show _=_;rw[HP.out,HB.out,if_pos Ff];simp;omega
    clear Ff HB HP;go_wp2;go_ret;exact⟨H2 (by rw[NH.out];omega),rfl⟩
   ·have aD:((x:Int)==10)=false:=by simp;omega
    have NH:Hid (Ad l=if Ad (l.drop (i+1))=0 then 0 else Ad (l.drop (i+1))+(i+1)):=by
     show _=_;rw[HP.out,HB.out,if_neg Ff]
     by_cases e:Ad (l.drop (i+1))=0
     ·rw[if_pos e,if_pos rfl,if_pos e]
     ·rw[if_neg e,if_neg (by omega),if_neg e];omega
    clear Ff HB HP;go_wp2
    go_round
    case rel=>exact⟨i+1,by go_num,by omega,NH.out⟩
    case measure=>simp[intOf]<;>omega
  ·obtain rfl:i=n:=by omega
   have AV:¬(i:Int)<(i:Int):=by omega
   have NH:Hid (Ad l=0):=by
    show _=_;rw[HP.out,List.drop_of_length_le (by rw[HN.out];exact δ)];rfl
   clear HP;go_wp2;go_ret;exact⟨H2 (by rw[NH.out];rfl),rfl⟩
def YS(n:Nat):List UInt8:=if n=0 then []else Lib.decDigits n
theorem gN(n:Nat)(h:0<n):YS n=YS (n / 10)++ [UInt8.ofNat (48+n % 10)]:=by
 unfold YS;rw[if_neg (by omega)]
 by_cases h1:n<10
 ·rw[Lib.decDigits_one h1,if_pos (by omega),Nat.mod_eq_of_lt h1];rfl
 ·rw[if_neg (by omega),Lib.decDigits,dif_neg h1]
theorem Vz(n0:Nat)(w:World)(h1:1≤n0)(h2:n0≤1000000):
  Calls prog 227 #[.int .i64 (n0:Nat)] w fun e w'=>e= .returned (.string (St.itoa n0))∧Below w.heap.size w w':=by
 go_enter func227,ntmps227
 go_wp2_with fail
 go_loopw [0,3] (fun v0 v3 wr=>∃(n:Nat)(t:ByteArray),v0= .int .i64 (n:Nat)∧v3= .string t∧n≤1000000∧t.size+n≤1000000∧Hid (YS n0=YS n++t.data.toList)∧Below w.heap.size w wr) (fun v0 _ _=>(intOf v0).toNat)
 case atStart=>exact⟨n0,⟨#[]⟩,rfl,rfl,h2,by show 0+n0≤_;omega,by show _=_;simp,ζ⟩
 case round=>
  obtain⟨n,t,rfl,rfl,hn,htn,HP,hB⟩ :=hrel
  by_cases hp:0<n
  ·have fL:(0:Int)<(n:Int):=by omega
   obtain⟨c,hc,hr⟩ :=NM (48+(n:Int) % 10);have HC:Hid (c.data.toList= [UInt8.ofNat (48+n % 10)]):=by
    show _=_;rw[hc,show(48+(n:Int) % 10).toNat=48+n % 10 by omega]
   have hcz:c.size=1:=by rw[←Δ,HC.out];rfl
   have HCZ:=γ hcz;have hq:¬9223372036854775807<c.size+t.size:=by omega
   have NH:Hid (YS n0=YS (n / 10)++(c++t).data.toList):=by
    show _=_;rw[HP.out,gN n hp,C3,HC.out,List.append_assoc]
   have LW:0≤(n:Int) % 10:=by omega
   have Q3:(n:Int) % 10<10:=by omega
   have HT:Hid ((c++t).size+n / 10≤1000000):=by show _≤_;rw[ByteArray.size_append'];omega
   clear hc hcz HP;go_wp2
   go_roundw
   case rel=>exact⟨n / 10,c++t,by go_num,rfl,by omega,HT.out,NH.out,hB.alloc hB.size _⟩
   case measure=>simp[intOf]<;>omega
  ·obtain rfl:n=0:=by omega
   have NH:Hid (St.itoa n0=t):=by
    show _=_;have h3:=HP.out;unfold YS at h3;rw[if_neg (by omega),if_pos rfl,List.nil_append]at h3;unfold St.itoa;rw[h3]
   clear HP;go_wp2;go_ret;exact⟨by rw[NH.out];rfl,hB⟩
theorem bK(m:List Cl)(r:List Mk)(i:Nat)(h:i<r.length):Ai (DK (r.take (i+1))) m=Ai (DK (r.take i)) m++(if r[i].is 38 then m else [(UInt8.ofNat r[i].b,-1)]):=by
 unfold Ai DK;rw[List.take_add_one,List.getElem?_eq_getElem h,List.map_append,List.flatMap_append]
 congr 1
 show(List.map kX [r[i]]).flatMap _=_;simp only[List.map_cons,List.map_nil,List.flatMap_cons,List.flatMap_nil,List.append_nil];unfold kX;cases r[i].is 38<;>rfl
theorem gO(m:List Cl)(r:List (Option UInt8)):(Ai r m).length≤r.length*(m.length+1):=by
 induction r with
 |nil=>simp[Ai]
 |cons p r ih=>
  show(_++Ai r m).length≤_;rw[List.length_append,List.length_cons,Nat.add_mul];cases p with
  |none=>show m.length+_≤_;omega
  |some c=>show 1+_≤_;omega
theorem P5(ar:Option Addr)(cr:Nat)(r:List Mk)(vm:Value)(m:List Cl)(w:World)(hr:A7 w ar r.length r)(RE:r.length≤400)(hrb:∀q∈r,q.b<256)(hm:ψ w vm m)(XX:m.length≤256):
  Calls prog 224 #[.slice ar r.length cr,vm] w fun e w'=>LJ (Ai (DK r) m) w e w':=by
 obtain⟨am,cm,rfl,hmc⟩ :=hm.form;obtain⟨nm,CF⟩ :∃n,m.length=n:=⟨_,rfl⟩
 have Bn:=γ CF;rw[CF]at hm XX⊢;have HM:=γ hm;obtain⟨n,hn⟩ :∃n,r.length=n:=⟨_,rfl⟩
 have HN:=γ hn;have HR:Hid (∀w',Below w.heap.size w w'→A7 w' ar r.length r):=fun w' hb=>by
  have h:=hr;obtain⟨h1,h2⟩ :=h;refine⟨h1,?_⟩;rcases h2 with h2| ⟨b,off,e1,e2,e3⟩
  ·exact .inl h2
  ·refine .inr ⟨b,off,e1,by have:=hb.size;omega,fun i hi=> ?_⟩
   obtain⟨g1,g2⟩ :=e3 i hi;exact⟨(hb.cell (by exact e2)).trans g1,(hb.cell (by exact e2)).trans g2⟩
 have HRB:Hid (∀q∈r,q.b<256):=hrb;rw[hn]at RE⊢;clear hn CF hm hr hrb hmc
 go_enter func224,ntmps224
 go_wp2_with fail
 go_loopw [5,6] (fun v5 v6 wr=>∃i:Nat,v6= .int .i64 i∧i≤n∧wr.ownsRow w.heap.size 120 2 v5 (Ai (DK (r.take i)) m).length (Cn (Ai (DK (r.take i)) m))∧Below w.heap.size w wr) (fun _ v6 _=>n - (intOf v6).toNat)
 case atStart=>exact⟨0,rfl,ε,World.ownsRow_nil _ _ _ _,ζ⟩
 case round=>
  obtain⟨i,rfl,S5,ν,hB⟩ :=hrel;obtain⟨av,cv,CX⟩ :=κ ν;subst CX;have K1:=hB.size;obtain⟨nl,Im⟩ :∃k,(Ai (DK (r.take i)) m).length=k:=⟨_,rfl⟩
  have Ce:Hid (nl≤102800):=by
   show _≤_;have h1:=gO m (DK (r.take i));have h2:(DK (r.take i)).length≤400:=by unfold DK;rw[List.length_map,List.length_take];have:=HN.out;omega
   rw[Im]at h1;have h3:=Nat.mul_le_mul h2 (show m.length+1≤257 by rw[Bn.out];omega);omega
  have zK:=γ Im;rw[Im]at ν⊢;clear Im
  by_cases Ac:i<n
  ·have AV:(i:Int)<(n:Int):=by omega
   have h0:(0:Int)≤(i:Int):=by omega
   have BN:i<r.length:=by rw[HN.out];exact Ac
   obtain⟨b',off,rfl,eC,c0,c1⟩ :=(HR.out wr hB).get BN;have CR:=γ (bK m r i BN);have NP:r[i].b<256:=HRB.out _ (List.getElem_mem _);generalize r[i]=q at*
   go_wp2_with fail
   refine(CV q 38 _).mono ?_;rintro e w2 ⟨rfl,B2⟩;have hw2:=B2.size;have TB:Below w.heap.size w w2:=hB.trans (B2.mono K1);have Bl:=Ξ ν B2;have d0:=(B2.cell (by exact eC)).trans c0;have d1:=(B2.cell (by exact eC)).trans c1;have CJ:b'<w2.heap.size:=by omega
   have Kb:=HM.out.below TB;clear c0 c1 ν;cases hq:q.is 38 with
   |true=>
    have U8:Hid (Ai (DK (r.take (i+1))) m=Ai (DK (r.take i)) m++m):=by show _=_;rw[CR.out,if_pos hq]
    clear CR hq d0 d1
    go_wp2_with(refine PR Bl Kb (by have:=Ce.out;rw[Bn.out];omega) (by omega) rfl _ _ rfl rfl rfl ?_
                intro v3 w3 Γ VK;rw[Bn.out]at Γ;have Hx:=TB.trans (Ci (B:=w.heap.size) VK (by omega) (fun k hk=>(Bl.lt k hk).1));obtain⟨a3,c3,Ei⟩ :=κ Γ;subst Ei)
    go_roundw
    case rel=>
     refine⟨i+1,by go_num,by omega,?_,Hx⟩;rw[U8.out,List.length_append,zK.out,Bn.out,Cf];exact Γ
    case measure=>simp[intOf]<;>omega
   |false=>
    have U8:Hid (Ai (DK (r.take (i+1))) m=Ai (DK (r.take i)) m++ [(UInt8.ofNat q.b,-1)]):=by show _=_;rw[CR.out,if_neg (by rw[hq];decide)]
    obtain⟨x,hx⟩ :∃x:Nat,q.b=x:=⟨_,rfl⟩
    rw[hx]at d0 NP U8;have Ms:Hid (Cn [(UInt8.ofNat x,-1)]= [.int .u8 (x:Nat),.int .i64 (-1)]):=by
     show _=_;have:(UInt8.ofNat x).toNat=x:=by simp;omega
     show [Value.int .u8 ((UInt8.ofNat x).toNat:Int),.int .i64 (-1)]=_;rw[this]
    clear CR hq hx
    go_wp2_with(first
     |refine Bz SK rfl _ rfl [.int .u8 x,.int .i64 (-1)] rfl rfl ?_
     | (refine A8 SK (Bl.alloc _) w2.heap.size [.int .u8 x,.int .i64 (-1)] (heap_alloc_new w2 _) rfl (by simp[Value.oneCell']) (by have:=Ce.out;omega) (by simp;omega) rfl _ _ rfl rfl rfl ?_
        intro v3 w3 Γ VK;have Hx:Below w.heap.size w w3:=(TB.alloc (by omega) _).grown VK (by simp;omega) (fun k hk=>(Bl.lt k hk).1);obtain⟨a3,c3,Ei⟩ :=κ Γ;subst Ei;clear VK))
    go_roundw
    case rel=>
     refine⟨i+1,by go_num,by omega,?_,Hx⟩;rw[U8.out,List.length_append,zK.out,Cf,Ms.out];exact Γ
    case measure=>simp[intOf]<;>omega
  ·obtain rfl:i=n:=by omega
   have AV:¬(i:Int)<(i:Int):=by omega
   have iy:Hid (r.take i=r):=by show _=_;exact List.take_of_length_le (by rw[HN.out];exact δ)
   rw[iy.out]at ν zK;go_wp2;go_ret;exact⟨_,rfl,by rw[zK.out];exact ν,hB⟩
end Go.Proofs.YtlppphmnegdhoabGreatDoor
