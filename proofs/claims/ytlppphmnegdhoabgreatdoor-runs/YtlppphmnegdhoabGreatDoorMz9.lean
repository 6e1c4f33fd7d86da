import Derived.Great.BuildSlice
import Derived.Test.YtlppphmnegdhoabGreatDoorMz8
set_option maxRecDepth 100000
set_option linter.unusedVariables false
set_option maxHeartbeats 4000000
namespace Go.Proofs.YtlppphmnegdhoabGreatDoor
open M
namespace M
def DJ(c:Nat):Bool:=decide (48≤c) && decide (c≤57)
def CG(c:Nat):Bool:=decide (49≤c) && decide (c≤57)
def At:Nat→List UInt8→Nat
 |0,_=>0
 |_+1,[]=>0
 |n+1,c::t=>if DJ c.toNat then At n t+1 else 0
def I5:Option (List Mk×List UInt8)→Option (Nat×List UInt8)
 |none=>none
 |some p=>if(Cv p.1).isSome then some (3,p.2)else none
def Bu:List UInt8→Option (Nat×List UInt8)
 | []=>some (0,[])
 |c::r=>if c.toNat=36 then some (2,r)
  else if c.toNat=47 then I5 (Ψ r)
  else if CG c.toNat then(if 4<At 5 (c::r)then none else some (1,(c::r).drop (At 5 (c::r))))
  else some (0,c::r)
def Dk(p:Nat→Bool):List UInt8→List UInt8
 | []=> []
 |c::r=>if p c.toNat then r else c::r
def ES(t:List UInt8):Bool:=(Dk (· ==112) (Dk (· ==103) (Dk CG t))).isEmpty
def FD:List Mk→Bool
 | []=>false
 |k::m=>m.any (fun q=>q.b==k.b) || FD m
def Ot(name:Nat)(m:List Mk):Option (List Mk×List UInt8)→Bool
 |none=>false
 |some q=>if name=115 then(Cv m).isSome && ES q.2 else !FD m && (!m.isEmpty && (m.length==q.1.length && q.2.isEmpty))
def Zy(name:Nat):Option (List Mk×List UInt8)→Bool
 |none=>false
 |some p=>Ot name p.1 (Ψ p.2)
def AA(name:Nat):List UInt8→Bool
 | []=>false
 |c::r=>if c.toNat=47 then Zy name (Ψ r)else false
def Cc:List UInt8→Bool
 | [c]=>decide (97≤c.toNat) && decide (c.toNat≤122)
 |_=>false
def Kr:List UInt8:= [112,100,68,80,110,78,104,72,103,71,120,113,61,123]
def AF(kind name:Nat)(t:List UInt8):Bool:=
 if name=125 then decide (kind=0) && t.isEmpty
 else if name=58 then decide (kind=0) && Cc t
 else if name=98∨name=116 then t.isEmpty || Cc t
 else if name=97∨name=105∨name=99 then true
 else if name=115∨name=121 then AA name t
 else Kr.any (fun d=>d.toNat==name) && t.isEmpty
def labelled(name:Nat):Bool:=name==58 || (name==98 || name==116)
def eo:Option (Nat×List UInt8)→Option (List UInt8)
 |none=>none
 |some p=>if p.1=0 then none else some p.2
def Mi(k:Nat)(t:List UInt8):Option (List UInt8):=if k≠0∧CH t 44=true then eo (Bu (t.drop 1))else some t
def notM(k:Nat)(t:List UInt8):List UInt8:=if k≠0∧CH t 33=true then t.drop 1 else t
def Cz(k:Nat):List UInt8→Option (Nat×List UInt8)
 | []=>none
 |c::r=>if AF k c.toNat r then some (c.toNat,if labelled c.toNat then r else [])else none
def Zz(k:Nat):Option (List UInt8)→Option (Nat×List UInt8)
 |none=>none
 |some t=>Cz k (notM k t)
def ACi:Option (Nat×List UInt8)→Option (Nat×List UInt8)
 |none=>none
 |some p=>Zz p.1 (Mi p.1 p.2)
def EH(t:List UInt8):Option (Nat×List UInt8):=ACi (Bu t)
def AR:List UInt8→List UInt8→List (List UInt8)
 |acc,[]=>if acc= []then []else [acc]
 |acc,c::t=>if c.toNat=10 then(if acc= []then AR [] t else acc::AR [] t)else AR (acc++ [c]) t
def CW:List (List UInt8)→Option (List (Nat×List UInt8))
 | []=>some []
 |t::l=>(EH t).bind (fun c=>(CW l).map (c::·))
def BD:List (Nat×List UInt8)→List UInt8→Option Nat
 | [],_=>none
 | (n,l)::t,s=>if n=58∧l=s then some 1 else(BD t s).map (· +1)
def pJ:List (Nat×List UInt8)→Nat→Bool
 | [],d=>d==0
 | (n,_)::t,d=>if n=123 then pJ t (d+1)else if n=125 then(if d=0 then false else pJ t (d - 1))else pJ t d
def LZ:List (Nat×List UInt8)→Nat→Bool
 | [],_=>false
 | (n,_)::t,d=>if n=123 then LZ t (d+1)else if n=125 then(if d=1 then true else LZ t (d - 1))else LZ t d
def Fi:List (Nat×List UInt8)→Nat→Bool
 | [],_=>true
 | (n,_)::t,d=>if n=123 then LZ t 1 && Fi t (d+1)else if n=125 then(if d=0 then false else Fi t (d - 1))else Fi t d
theorem kF(l:List (Nat×List UInt8)):∀d,LZ l (d+2)=true→LZ l (d+1)=true:=by
 induction l with
 |nil=>intro d h;cases h
 |cons x l ih=>
  obtain⟨n,s⟩ :=x;intro d h;rw[LZ]at h⊢
  by_cases h1:n=123
  ·rw[if_pos h1]at h⊢;exact ih (d+1) h
  ·rw[if_neg h1]at h⊢
   by_cases h2:n=125
   ·rw[if_pos h2]at h⊢
    rw[if_neg (by omega)]at h;cases d with
    |zero=>rw[if_pos rfl]
    |succ d=>rw[if_neg (by omega)];exact ih d h
   ·rw[if_neg h2]at h⊢;exact ih d h
theorem qN(l:List (Nat×List UInt8))(d:Nat)(h:LZ l (d+1)=true):LZ l 1=true:=by
 induction d with
 |zero=>exact h
 |succ d ih=>exact ih (kF l d h)
theorem kG(l:List (Nat×List UInt8)):∀d,pJ l d=(Fi l d && (d==0 || LZ l d)):=by
 induction l with
 |nil=>intro d;simp[pJ,Fi,LZ]
 |cons x l ih=>
  obtain⟨n,s⟩ :=x;intro d;rw[pJ,Fi,LZ]
  by_cases h1:n=123
  ·rw[if_pos h1,if_pos h1,if_pos h1,ih]
   cases hc:LZ l (d+1)
   ·cases d with
    |zero=>rw[hc];simp
    |succ d=>simp
   ·rw[qN l d hc];simp
  ·rw[if_neg h1,if_neg h1,if_neg h1]
   by_cases h2:n=125
   ·rw[if_pos h2,if_pos h2,if_pos h2]
    cases d with
    |zero=>simp
    |succ d=>
     rw[if_neg (by omega),if_neg (by omega),Nat.add_sub_cancel,ih];cases d with
     |zero=>simp
     |succ d=>simp
   ·rw[if_neg h2,if_neg h2,if_neg h2,ih]
def kH(l:List (Nat×List UInt8)):Prop:=∀i(h:i<l.length),(l[i].1=58→BD l l[i].2=some (i+1))∧(l[i].1=98∨l[i].1=116→l[i].2≠ []→BD l l[i].2≠none)
def Cd(l:List (Nat×List UInt8)):Prop:=pJ l 0=true∧kH l
def La(s:ByteArray)(n e:Int):Prop:=
 (400<s.size∧n=0∧e=1)∨(s.size≤400∧(((∀l,CW (AR [] s.data.toList)=some l→¬Cd l)∧n=0∧e=2)∨∃l,CW (AR [] s.data.toList)=some l∧Cd l∧n=l.length∧e=0))
end M
end Go.Proofs.YtlppphmnegdhoabGreatDoor
namespace Go.Proofs.YtlppphmnegdhoabGreatDoor
open Go.RowKit
open M
structure DT(b:Nat)(w:World)(h t:Bool)(v:Value):Prop where
 c0:w.cell? ⟨b,0,none⟩ =some (.bool h)
 c1:w.cell? ⟨b,1,none⟩ =some (.bool t)
 c2:w.cell? ⟨b,2,none⟩ =some v
 f0:w.frozen? ⟨b,0,none⟩ =false
 f1:w.frozen? ⟨b,1,none⟩ =false
 f2:w.frozen? ⟨b,2,none⟩ =false
theorem DT.keep{b:Nat}{w w':World}{h t:Bool}{v:Value}(e:DT b w h t v)(hk:w'.heap[b]? =w.heap[b]?):DT b w' h t v:=by
 have hc:∀o,w'.cell? ⟨b,o,none⟩ =w.cell? ⟨b,o,none⟩ :=fun o=>World.cell?_of_block hk
 have hf:∀o,w'.frozen? ⟨b,o,none⟩ =w.frozen? ⟨b,o,none⟩ :=fun o=>World.frozen?_of_block hk
 exact⟨(hc _).trans e.c0,(hc _).trans e.c1,(hc _).trans e.c2,(hf _).trans e.f0,(hf _).trans e.f1,(hf _).trans e.f2⟩
theorem DT.RP{b:Nat}{w:World}{h t:Bool}{v:Value}(e:DT b w h t v)(u:Bool):DT b (w.setCell ⟨b,0,none⟩ (.bool u)) u t v:=by
 obtain⟨c0,c1,c2,f0,f1,f2⟩ :=e;refine⟨?_,?_,?_,?_,?_,?_⟩
 all_goals first| (simp[go_sem, *];done) | (rw[World.cell?_setCell_other (by simp)];assumption) |exact World.cell?_setCell_same c0
theorem DT.RN{b:Nat}{w:World}{h t:Bool}{v:Value}(e:DT b w h t v)(u:Bool):DT b (w.setCell ⟨b,1,none⟩ (.bool u)) h u v:=by
 obtain⟨c0,c1,c2,f0,f1,f2⟩ :=e;refine⟨?_,?_,?_,?_,?_,?_⟩
 all_goals first| (simp[go_sem, *];done) | (rw[World.cell?_setCell_other (by simp)];assumption) |exact World.cell?_setCell_same c1
theorem DT.VG{b:Nat}{w:World}{h t:Bool}{v:Value}(e:DT b w h t v)(u:Value):DT b (w.setCell ⟨b,2,none⟩ u) h t u:=by
 obtain⟨c0,c1,c2,f0,f1,f2⟩ :=e;refine⟨?_,?_,?_,?_,?_,?_⟩
 all_goals first| (simp[go_sem, *];done) | (rw[World.cell?_setCell_other (by simp)];assumption) |exact World.cell?_setCell_same c2
structure KL(w wr:World)(hd tl:Bool)(v:Value)(L:List IV):Prop where
 res:DT w.heap.size wr false false (.slice none 0 0)
 box:DT (w.heap.size+1) wr hd tl v
 own:wr.ownsRow (w.heap.size+2) 219 5 v L.length (Ko L)
 ok:∀x∈L,Lt (w.heap.size+2) wr x
 below:Below w.heap.size w wr
 size:w.heap.size+2≤wr.heap.size
theorem Lt.below{B:Nat}{w w':World}{x:IV}(h:Lt B w x)(hb:Below w.heap.size w w'):Lt B w' x:=⟨Ξ h.f hb,Ξ h.k hb,h.ap⟩
theorem KL.keep{w wr w':World}{hd tl:Bool}{v:Value}{L:List IV}(h:KL w wr hd tl v L)(hb:Below wr.heap.size wr w'):KL w w' hd tl v L:=by
 have hs:=h.size;have Fw:=hb.size;exact⟨h.res.keep (hb.block _ (by omega)),h.box.keep (hb.block _ (by omega)),Ξ h.own hb,fun x hx=>(h.ok x hx).below hb,h.below.trans (hb.mono (by omega)),by omega⟩
theorem KL.RP{w wr:World}{hd tl:Bool}{v:Value}{L:List IV}(h:KL w wr hd tl v L)(u:Bool):KL w (wr.setCell ⟨w.heap.size+1,0,none⟩ (.bool u)) u tl v L:=
 ⟨h.res.keep (heap_setCell_other _ _ _ _ (by simp)),h.box.RP u,ownsRow_setCell_below h.own (by simp) _,fun x hx=>(h.ok x hx).set (by simp) _,h.below.setCell (by simp) _,by simpa using h.size⟩
theorem KL.RN{w wr:World}{hd tl:Bool}{v:Value}{L:List IV}(h:KL w wr hd tl v L)(u:Bool):KL w (wr.setCell ⟨w.heap.size+1,1,none⟩ (.bool u)) hd u v L:=
 ⟨h.res.keep (heap_setCell_other _ _ _ _ (by simp)),h.box.RN u,ownsRow_setCell_below h.own (by simp) _,fun x hx=>(h.ok x hx).set (by simp) _,h.below.setCell (by simp) _,by simpa using h.size⟩
theorem KL.grow{w wr w3:World}{hd tl:Bool}{v v':Value}{L:List IV}{o:Obj}{x:IV}(h:KL w wr hd tl v L)(hx:Lt (w.heap.size+2) wr x)
  (ν:w3.ownsRow (w.heap.size+2) 219 5 v' (L.length+1) (Ko L++Zt x)) (hg:(wr.alloc o).grownBy w3 v.ownBlock):
  DT (w.heap.size+1) w3 hd tl v∧KL w (w3.setCell ⟨w.heap.size+1,2,none⟩ v') hd tl v' (L++ [x]):=by
 have hs:=h.size;have H4:=hg.size;simp at H4;have hk:∀k,k<w.heap.size+2→w3.heap[k]? =wr.heap[k]? :=fun k hk=>by
  rw[hg.block k (by simp;omega) (fun e=>by have:=(h.own.lt k e.symm).1;omega),Below.heap_alloc _ _ _ (by omega)]
 have hb:=h.box.keep (hk _ (by omega));have hr:=h.res.keep (hk _ (by omega));have hiv:∀y,Lt (w.heap.size+2) wr y→Lt (w.heap.size+2) w3 y:=fun y hy=>
  ⟨(hy.f.alloc o).kept hg (Pp hy.f h.own (by decide)),(hy.k.alloc o).kept hg (Pp hy.k h.own (by decide)),hy.ap⟩
 refine⟨hb,hr.keep (heap_setCell_other _ _ _ _ (by simp)),hb.VG _,?_,?_,?_,by simp;omega⟩
 ·rw[←eZ]at ν
  rw[List.length_append];exact ownsRow_setCell_below ν (by simp) _
 ·intro y hy
  rcases List.mem_append.1 hy with hy|hy
  ·exact(hiv y (h.ok y hy)).set (by simp) _
  ·simp at hy;rw[hy];exact(hiv x hx).set (by simp) _
 ·exact((h.below.alloc (by omega) _).grown hg (by simp;omega) (fun k hk=>by have:=(h.own.lt k hk).1;omega)).setCell (by simp) _
theorem KL.fin{w wr:World}{hd tl:Bool}{v:Value}{L:List IV}(h:KL w wr hd tl v L):
  ((((wr.setCell ⟨w.heap.size,0,none⟩ (.bool hd)).setCell ⟨w.heap.size,1,none⟩ (.bool tl)).setCell ⟨w.heap.size,2,none⟩ v)).ownsRow w.heap.size 219 5 v L.length (Ko L)∧
  (∀x∈L,Lt w.heap.size (((wr.setCell ⟨w.heap.size,0,none⟩ (.bool hd)).setCell ⟨w.heap.size,1,none⟩ (.bool tl)).setCell ⟨w.heap.size,2,none⟩ v) x)∧
  Below w.heap.size w (((wr.setCell ⟨w.heap.size,0,none⟩ (.bool hd)).setCell ⟨w.heap.size,1,none⟩ (.bool tl)).setCell ⟨w.heap.size,2,none⟩ v):=by
 refine⟨AH (ownsRow_setCell_below (ownsRow_setCell_below (ownsRow_setCell_below h.own (by simp) _) (by simp) _) (by simp) _) (by omega),fun x hx=> ?_,((h.below.setCell (by simp) _).setCell (by simp) _).setCell (by simp) _⟩;have t:=(((h.ok x hx).set (a:=⟨w.heap.size,0,none⟩) (by simp) (.bool hd)).set (a:=⟨w.heap.size,1,none⟩) (by simp) (.bool tl)).set (a:=⟨w.heap.size,2,none⟩) (by simp) v;exact⟨AH t.f (by omega),AH t.k (by omega),t.ap⟩
def qO(l:List Mk)(w w':World)(e:Ending):Prop:=
 ∃(hd tl:Bool)(a:Option Addr)(n c:Nat),Below w.heap.size w w'∧
  ((Cv l=none∧e= .returned (.tuple #[.agg #[.bool hd,.bool tl,.slice a n c],.bool false]))∨
   ∃L:List IV,Cv l=some ⟨hd,tl,L.map IV.it⟩∧n=L.length∧e= .returned (.tuple #[.agg #[.bool hd,.bool tl,.slice a n c],.bool true])∧w'.ownsRow w.heap.size 219 5 (.slice a n c) L.length (Ko L)∧(∀x∈L,Lt w.heap.size w' x)∧L.length≤l.length)
end Go.Proofs.YtlppphmnegdhoabGreatDoor
namespace Go.Proofs.YtlppphmnegdhoabGreatDoor
open Go.Proofs.Tryz
open Go.RowKit
open M
theorem cY:(prog.info? 211).map (fun i=>(i.zero,i.size,i.bytes))=some (some (.agg (Array.replicate 257 (.bool false))),257,257):=by kernel_rfl
theorem kI:prog.underlying 135=some (.slice 211):=by kernel_rfl
def TW(L:List It):List Value:=(L.map (fun x=>bC 257 (IQ x))).flatten
theorem et(L:List It)(x:It):TW (L++ [x])=TW L++bC 257 (IQ x):=by simp[TW]
theorem qP(f:Nat→Bool)(Z:Array Value)(hZ:Z.size=257):Instr.fill (fun i=>some (i*257,257)) Z [(0,JT f)]=some (bC 257 f).toArray:=by
 have hc:(JT f).cells=(bC 257 f).toArray:=rfl;have hcs:(JT f).cells.size=257:=by rw[hc,List.size_toArray,GR]
 obtain⟨r,h1,h2,h3⟩ :=Great.fill_dense (s:=257) (by decide) [JT f] 0 Z (fun v hv=>by simp at hv;rw[hv];exact hcs) (by rw[hZ];exact Nat.le_refl 257);have h1':Instr.fill (fun i=>some (i*257,257)) Z [(0,JT f)]=some r:=h1;rw[h1']
 congr 1
 apply Array.ext_getElem?;intro k;rw[h3 k]
 by_cases hk:k<257
 ·rw[if_pos (by simp;omega)]
  have e1:k / 257=0:=Nat.div_eq_of_lt hk;have e2:k % 257=k:=Nat.mod_eq_of_lt hk;rw[e1,e2];show(JT f).cells[k]? =_;rw[hc]
 ·rw[if_neg (by simp;omega)]
  rw[Array.getElem?_eq_none (by omega),Array.getElem?_eq_none (by rw[List.size_toArray,GR];omega)]
theorem kJ{ops:Array Oper}{rest:List Oper}{op:Oper}{a:Act}{w:World}{Q:Exit→Act→World→Prop}(Fv:op.guard=none)(x:Operand)(ho:op.op= .buildSlice 135 1 #[(0,x)])(f:Nat→Bool)(hx:a.eval x=JT f)
  (h:wpList prog ops Q rest (a.put op.dst (.slice (some ⟨w.heap.size,0,none⟩) 1 1)) (w.alloc (.cells (bC 257 f).toArray 211))):wpList prog ops Q (op::rest) a w:=by
 obtain⟨i0,hi,DF,CN,Dq⟩ :=info_parts cY;refine wpList_buildSlice Fv _ _ 1 _ ho (bC 257 f).toArray i0 _ kI hi DF (by rw[CN];decide) (by rw[CN];decide) ?_ h;rw[CN];have e:(#[((0:Nat),x)].map fun(p:Nat×Operand)=>(p.1,a.eval p.2)).toList= [(0,JT f)]:=by simp[hx]
 have e':(#[((0:Nat),x)].map fun((i,x):Nat×Operand)=>(i,a.eval x)).toList= [(0,JT f)]:=e;rw[e'];exact qP f _ (by simp)
theorem eu{ops:Array Oper}{rest:List Oper}{o:Oper}{a:Act}{w:World}{Q:Exit→Act→World→Prop}{B:Nat}{v:Value}{n:Nat}{xs:List Value}(ν:w.ownsRow B 211 257 v n xs)(g:Nat)(f:Nat→Bool)(hg:w.heap[g]? =some (.cells (bC 257 f).toArray 211))(hn:n≤8192)(hB:B≤w.heap.size)(Fv:o.guard=none)(s x:Operand)
  (ho:o.op= .call {callee:= .builtin .append,args:= #[s,x],argTypes:= #[135,135]}) (hs:a.eval s=v) (hx:a.eval x= .slice (some ⟨g,0,none⟩) 1 1)
  (h:∀v' w',w'.ownsRow B 211 257 v' (n+1) (xs++bC 257 f)→w.grownBy w' v.ownBlock→wpList prog ops Q rest (a.put o.dst v') w'):wpList prog ops Q (o::rest) a w:=by
 obtain⟨i0,hi,DF,CN,Dq⟩ :=info_parts cY;refine wpList_append_own w Fv s x _ ho B _ i0 _ 257 257 kI hi DF CN Dq (by simp[Value.cells]) (by decide) v n xs hs ν ⟨g,0,none⟩ 1 1 (bC 257 f) hx (by rw[GR]) ?_ (Zg _ _) (by unfold maxLen;omega) (by omega) hB (fun v' w' h1 h2 _=>h v' w' h1 h2);intro j u hu;rw[Addr.add_mid,cell_of_row _ _ _ _ _ _ hg]
 simpa using hu
theorem RT{w w':World}{base:Nat}{e:TypeId}{size:Nat}{v:Value}{n:Nat}{xs:List Value}(h:w.ownsRow base e size v n xs)(hk:∀k,base≤k→w'.heap[k]? =w.heap[k]?):w'.ownsRow base e size v n xs:=by
 obtain⟨h1,h2⟩ :=h;refine⟨h1,?_⟩;rcases h2 with h2| ⟨g,cap,cur,e1,e2,e3,e4⟩
 ·exact .inl h2
 ·exact .inr ⟨g,cap,cur,e1,e2,by rw[hk g e2];exact e3,e4⟩
structure Lu(h0 g9:Nat)(w wr:World)(hd tl:Bool)(v:Value)(L:List It)(f:Nat→Bool):Prop where
 res:DT h0 wr false false (.slice none 0 0)
 box:DT (h0+1) wr hd tl v
 it:BR wr g9 257 f
 own:wr.ownsRow (g9+1) 211 257 v L.length (TW L)
 below:Below h0 w wr
 size:g9+1≤wr.heap.size
 TX:h0+2≤g9
theorem Lu.keep{h0 g9:Nat}{w wr w':World}{hd tl:Bool}{v:Value}{L:List It}{f:Nat→Bool}(h:Lu h0 g9 w wr hd tl v L f)(hb:Below wr.heap.size wr w'):Lu h0 g9 w w' hd tl v L f:=by
 have hs:=h.size;have hf:=h.TX;have Fw:=hb.size;exact⟨h.res.keep (hb.block _ (by omega)),h.box.keep (hb.block _ (by omega)),h.it.below hb (by omega),Ξ h.own hb,h.below.trans (hb.mono (by omega)),by omega,h.TX⟩
theorem Lu.sto{h0 g9:Nat}{w wr w':World}{hd tl:Bool}{v:Value}{L:List It}{f f':Nat→Bool}(h:Lu h0 g9 w wr hd tl v L f)(ho:AQ g9 wr w')(hb:BR w' g9 257 f'):Lu h0 g9 w w' hd tl v L f':=by
 have hf:=h.TX;exact⟨h.res.keep (ho.block _ (by omega)),h.box.keep (ho.block _ (by omega)),hb,RT h.own (fun k hk=>ho.block k (by omega)),h.below.trans (ho.below (by omega)),by rw[ho.size];exact h.size,h.TX⟩
theorem Lu.RN{h0 g9:Nat}{w wr:World}{hd tl:Bool}{v:Value}{L:List It}{f:Nat→Bool}(h:Lu h0 g9 w wr hd tl v L f)(u:Bool):Lu h0 g9 w (wr.setCell ⟨h0+1,1,none⟩ (.bool u)) hd u v L f:=by
 have hf:=h.TX;exact⟨h.res.keep (heap_setCell_other _ _ _ _ (by simp)),h.box.RN u,h.it.keep (heap_setCell_other _ _ _ _ (by simp;omega)) (by simp),ownsRow_setCell_below h.own (by simp;omega) _,h.below.setCell (by simp) _,by simpa using h.size,h.TX⟩
theorem Lu.grow{h0 g9:Nat}{w wr w3:World}{hd tl:Bool}{v v':Value}{L:List It}{f:Nat→Bool}{o:Obj}{x:It}(h:Lu h0 g9 w wr hd tl v L f)
  (ν:w3.ownsRow (g9+1) 211 257 v' (L.length+1) (TW L++bC 257 (IQ x))) (hg:(wr.alloc o).grownBy w3 v.ownBlock):
  DT (h0+1) w3 hd tl v∧Lu h0 g9 w (w3.setCell ⟨h0+1,2,none⟩ v') hd tl v' (L++ [x]) f:=by
 have hs:=h.size;have hf:=h.TX;have H4:=hg.size;simp at H4;have hk:∀k,k<g9+1→w3.heap[k]? =wr.heap[k]? :=fun k hk=>by
  rw[hg.block k (by simp;omega) (fun e=>by have:=(h.own.lt k e.symm).1;omega),Below.heap_alloc _ _ _ (by omega)]
 have hb:=h.box.keep (hk _ (by omega));have hr:=h.res.keep (hk _ (by omega));refine⟨hb,hr.keep (heap_setCell_other _ _ _ _ (by simp)),hb.VG _,?_,?_,?_,by simp;omega,h.TX⟩
 ·exact(h.it.keep (hk _ (by omega)) (by omega)).keep (heap_setCell_other _ _ _ _ (by simp;omega)) (by simp)
 ·rw[←et]at ν
  rw[List.length_append];exact ownsRow_setCell_below ν (by simp;omega) _
 ·exact((h.below.alloc (by omega) _).grown hg (by simp;omega) (fun k hk=>by have:=(h.own.lt k hk).1;omega)).setCell (by simp) _
theorem Lu.fin{h0 g9:Nat}{w wr:World}{hd tl:Bool}{v:Value}{L:List It}{f:Nat→Bool}(h:Lu h0 g9 w wr hd tl v L f):
  (((wr.setCell ⟨h0,0,none⟩ (.bool hd)).setCell ⟨h0,1,none⟩ (.bool tl)).setCell ⟨h0,2,none⟩ v).ownsRow h0 211 257 v L.length (TW L)∧
  Below h0 w (((wr.setCell ⟨h0,0,none⟩ (.bool hd)).setCell ⟨h0,1,none⟩ (.bool tl)).setCell ⟨h0,2,none⟩ v):=by
 have hf:=h.TX;exact⟨AH (ownsRow_setCell_below (ownsRow_setCell_below (ownsRow_setCell_below h.own (by simp;omega) _) (by simp;omega) _) (by simp;omega) _) (by omega),((h.below.setCell (by simp) _).setCell (by simp) _).setCell (by simp) _⟩
def Z0(s:ByteArray)(k:Nat)(m:List Mk)(r:List UInt8)(w w':World)(e:Ending):Prop:=
 ∃(hd tl:Bool)(L:List It)(m3:List Mk)(n:Nat)(a:Option Addr)(c:Nat),e= .returned (.tuple #[.agg #[.bool hd,.bool tl,.slice a L.length c],.int .i64 n,.bool (decide (k<n))])∧k≤n∧n≤s.size∧Ah (s.data.toList.drop n)=(m3,r)∧
  w'.ownsRow w.heap.size 211 257 (.slice a L.length c) L.length (TW L)∧Below w.heap.size w w'∧L.length≤s.size∧(m≠ []→m3= []→Cv m=some ⟨hd,tl,L⟩)∧(m3≠ []→Cv m=none)
theorem kK(s:ByteArray)(k:Nat)(m:List Mk)(r:List UInt8)(w:World)(pK:s.size≤8192)(hk:k≤s.size)(hm:Ah (s.data.toList.drop k)=(m,r)):
  Calls prog 101 #[.string s,.int .i64 k] w fun e w'=>Z0 s k m r w w' e:=by
 have hs:s.size≤maxLen:=by unfold maxLen;omega
 obtain⟨Wy,jU⟩ :=JY _ 94 _ _ hm (by decide) (by decide) (by decide);obtain⟨hd,kD⟩ :∃b,CH (s.data.toList.drop k) 94=b:=⟨_,rfl⟩
 have HHD:=γ (kD.symm.trans Wy);obtain⟨p,hp⟩ :∃p:Nat,p=if hd then k+1 else k:=⟨_,rfl⟩
 obtain⟨m0,OO⟩ :∃m0:List Mk,m0=if hd then m.drop 1 else m:=⟨_,rfl⟩
 have ACj:=γ OO;have iV:p≤s.size:=by
  cases hd
  ·rw[hp];exact hk
  ·rw[hp];exact BG s k 94 kD
 have hkp:k≤p:=by rw[hp];cases hd<;>simp
 have HM0:Hid (Ah (s.data.toList.drop p)=(m0,r)):=by
  show _=_;rw[hp,OO];cases hd
  ·exact hm
  ·obtain⟨q,m1,e1,e2⟩ :=jU kD
   rw[List.drop_drop]at e2;rw[e1];exact e2
 have HP:=γ hp;have wH:=γ kD;clear Wy jU hm hp OO kD;have ZF:=(zero_of_info Jb).1;have Mj:DT w.heap.size ((w.alloc (.cells #[.bool false,.bool false,.slice none 0 0] 137)).alloc (.cells #[.bool false,.bool false,.slice none 0 0] 137)) false false (.slice none 0 0):=by constructor<;>simp[go_sem]
 have cZ:DT (w.heap.size+1) ((w.alloc (.cells #[.bool false,.bool false,.slice none 0 0] 137)).alloc (.cells #[.bool false,.bool false,.slice none 0 0] 137)) false false (.slice none 0 0):=by constructor<;>simp[go_sem]
 have B0:Below w.heap.size w ((w.alloc (.cells #[.bool false,.bool false,.slice none 0 0] 137)).alloc (.cells #[.bool false,.bool false,.slice none 0 0] 137)):=(ζ.alloc δ _).alloc (by simp) _;have I0:((w.alloc (.cells #[.bool false,.bool false,.slice none 0 0] 137)).alloc (.cells #[.bool false,.bool false,.slice none 0 0] 137)).heap.size=w.heap.size+2:=by simp
 go_enter func101,ntmps101
 go_wp2_with fail
 generalize((w.alloc (.cells #[.bool false,.bool false,.slice none 0 0] 137)).alloc (.cells #[.bool false,.bool false,.slice none 0 0] 137))=W at*;refine(AY s k 94 _ hs hk (by decide)).mono ?_;rintro e w2 ⟨rfl,rfl⟩;rw[wH.out]
 go_upto_if 15 with fail
 go_cut [8] (fun v wx=>v= .int .i64 p∧DT w.heap.size wx false false (.slice none 0 0)∧DT (w.heap.size+1) wx hd false (.slice none 0 0)∧Below w.heap.size w wx∧wx.heap.size=w.heap.size+2)
 case first=>
  cases hd
  ·obtain rfl:p=k:=HP.out
   go_wp2
   go_meet
   exact⟨rfl,Mj,cZ,B0,I0⟩
  ·obtain rfl:p=k+1:=HP.out
   have pE:=cZ.RP true;have RU:=Mj.keep (heap_setCell_other w2 ⟨w.heap.size+1,0,none⟩ w.heap.size (.bool true) (by simp));have B1:=B0.setCell (p:=⟨w.heap.size+1,0,none⟩) (by simp) (.bool true);obtain⟨x0,x1,x2,p0,p1,p2⟩ :=cZ;go_wp2
   go_meet
   exact⟨rfl,RU,pE,B1,by simpa using I0⟩
 case rest=>
  clear Mj cZ B0 I0;obtain⟨rfl,Mj,cZ,B0,I0⟩ :=hcut
  go_wp2_with fail
  refine(Kg s p m0 r _ hs iV HM0.out).mono ?_;rintro e w3 ⟨⟨f,v2,v3,rfl,Dt⟩,B3⟩;have HPO:=γ Dt;clear Dt;have H4:=B3.size;have Cq:BR (w3.alloc (.cells (Array.replicate 257 (.bool false)) 211)) w3.heap.size 257 (fun _=>false):=BR.new w3 _ 257;have hP0:Lu w.heap.size w3.heap.size w (w3.alloc (.cells (Array.replicate 257 (.bool false)) 211)) hd false (.slice none 0 0) [] (fun _=>false):=by
   have Nf:=Mj.keep (B3.block _ (by omega));have hx3:=cZ.keep (B3.block _ (by omega));have B4:=B0.trans (B3.mono (by omega));exact⟨Nf.keep (Below.heap_alloc _ _ _ (by omega)),hx3.keep (Below.heap_alloc _ _ _ (by omega)),Cq,World.ownsRow_nil _ _ _ _,B4.alloc (by omega) _,by simp,by omega⟩
  obtain⟨g9,hg9⟩ :∃g,w3.heap.size=g:=⟨_,rfl⟩
  rw[hg9]at hP0 Cq;clear Mj cZ B0 B3 H4 I0
  go_wp2_with(refine CT Cq rfl _ _ rfl rfl _ rfl ?_;intro w5 BP O5)
  have hP5:=hP0.sto O5 BP;clear hP0 BP O5 Cq
  go_loopw [8,10,11] (fun v8 v10 v11 wr=>∃(n:Nat)(L:List It)(m1:List Mk)(f:Nat→Bool)(v:Value),v8= .int .i64 n∧p≤n∧n≤s.size∧L.length≤n∧Hid (Ah (s.data.toList.drop n)=(m1,r))∧Hid (MJ m0 L m1)∧Hid (Je s n m1 r f v10 v11)∧Lu w.heap.size g9 w wr hd false v L f) (fun v8 _ _ _=>s.size - (intOf v8).toNat)
  case atStart=>
   exact⟨p,[],m0,f,_,rfl,δ,iV,ε,HM0,rfl,HPO,hP5⟩
  case round=>
   clear hP5;obtain⟨n,L,m1,f,v,rfl,hpn,TP,hLn,Of,HRU,qQ,hP⟩ :=hrel;obtain⟨av,cv,CX⟩ :=κ hP.own;generalize Ej:L.length=nL at CX;have Ce:=γ Ej;rw[Ej]at hLn;clear Ej;subst CX;have EV:=hP.size;have QL:=hP.TX;rcases qQ.out with⟨x,m2,n2,Dz,NN,jY,Q3,hfx,rfl,rfl⟩ | ⟨Dz,n2,rfl,rfl⟩
   ·have Kb:Hid (Ah (s.data.toList.drop n2)=(m2,r)):=Q3
    have ACk:=γ (eh L m0 m1 m2 x HRU.out Dz);clear Dz Q3 HRU qQ Of;subst hfx;have hbi:=hP.it;obtain⟨x0,x1,x2,p0,p1,p2⟩ :=hP.box;have j9:w.heap.size+1<wr.heap.size:=by omega
    have ν:=hP.own;rw[Ce.out]at ν
    go_wp2_with(first
     |refine E9 hbi rfl _ rfl rfl ?_
     |refine kJ rfl _ rfl _ rfl ?_
     | (refine eu (ν.alloc _) wr.heap.size (IQ x) (heap_alloc_new wr _) (by omega) (by simp;omega) rfl _ _ rfl rfl rfl ?_
        intro v' w3 Γ D0;rw[←Ce.out]at Γ;have VK:=hP.grow Γ D0;obtain⟨CM,hP3⟩ :=VK;obtain⟨y0,y1,y2,e0,e1,e2⟩ :=CM;obtain⟨NF,JV,CX⟩ :=κ Γ;rw[Ce.out]at CX;subst CX;have ew:w.heap.size+1<w3.heap.size:=by have:=D0.size;simp at this;omega
        clear x0 x1 x2 p0 p1 p2 Γ D0))
    obtain⟨W3,jc⟩ :∃W3,w3.setCell ⟨w.heap.size+1,2,none⟩ (.slice NF (nL+1) JV)=W3:=⟨_,rfl⟩
    rw[jc]at hP3
    try rw[jc]
    clear jc y0 y1 y2 e0 e1 e2 ew;refine(Kg s n2 m2 r _ hs jY Kb.out).mono ?_;rintro e w4 ⟨⟨f4,v24,v34,rfl,Dt⟩,B4⟩;have ACl:=γ Dt;have hP4:=hP3.keep B4;clear Dt hP3 B4 hP hbi ν;have IU:=hP4.it
    go_wp2_with(refine CT IU rfl _ _ rfl rfl _ rfl ?_;intro w5 BP O5)
    have hP6:=hP4.sto O5 BP
    go_roundw
    case rel=>exact⟨n2,L++ [x],m2,f4,_,rfl,by omega,jY,by rw[List.length_append,Ce.out];simp;omega,Kb,ACk,ACl,hP6⟩
    case measure=>simp[intOf];omega
   ·obtain⟨hA,hB,hC⟩ :=kE m hd HHD.out L m1 (by rw[←ACj.out];exact HRU.out) Dz
    have HA:Hid (m≠ []→m1= []→Cv m=some ⟨hd,false,L⟩):=hA;have HB:Hid (∀d,m1= [d]→d.is 36=true→Cv m=some ⟨hd,true,L⟩):=hB;have HC:Hid (m1≠ []→(∀d,m1= [d]→d.is 36=false)→Cv m=none):=hC;clear hA hB hC Dz qQ HRU
    go_wp2_with fail
    refine(AY s n 36 _ hs TP (by decide)).mono ?_;rintro e w4 ⟨rfl,rfl⟩;obtain⟨Jk,xA⟩ :=JY _ 36 _ _ Of.out (by decide) (by decide) (by decide);cases hb:CH (s.data.toList.drop n) 36
    ·have HF:Hid (∀e' w',e'= .returned (.tuple #[.agg #[.bool hd,.bool false,.slice av nL cv],.int .i64 n,.bool (decide (k<n))])→w'.ownsRow w.heap.size 211 257 (.slice av nL cv) L.length (TW L)→Below w.heap.size w w'→Z0 s k m r w w' e'):=fun e' w' he ho Bq=>
      ⟨hd,false,L,m1,n,av,cv,by rw[he,Ce.out],by omega,TP,Of.out,by rw[Ce.out]at ho⊢;exact ho,Bq,by rw[Ce.out];omega,HA.out,fun h1=>HC.out h1 (fun d uV=>by
       rw[uV]at Jk;rw[hb]at Jk;exact Jk.symm)⟩
     obtain⟨x0,x1,x2,p0,p1,p2⟩ :=hP.box;obtain⟨r0,r1,r2,o0,o1,o2⟩ :=hP.res;have KM:=hP.fin;clear Jk xA hb HA HB HC Of hP
     by_cases Ez:k<n
     ·have Z1:(k:Int)<(n:Int):=by omega
      rw[decide_eq_true Ez]at HF;go_wp2;refine bodyPost_ret (v:= .tuple #[.agg #[.bool hd,.bool false,.slice av nL cv],.int .i64 n,.bool true]) (by simp[results,Tryz.results101,go_sem,r0,r1,r2]) rfl (HF.out _ _ rfl KM.1 KM.2)
     ·have Z1:¬(k:Int)<(n:Int):=by omega
      rw[decide_eq_false Ez]at HF;go_wp2;refine bodyPost_ret (v:= .tuple #[.agg #[.bool hd,.bool false,.slice av nL cv],.int .i64 n,.bool false]) (by simp[results,Tryz.results101,go_sem,r0,r1,r2]) rfl (HF.out _ _ rfl KM.1 KM.2)
    ·obtain⟨q,m3,hq,Q9⟩ :=xA hb
     have NC:=BG s n 36 hb;rw[List.drop_drop]at Q9;have AAV:q.is 36=true:=by rw[hb,hq]at Jk;exact Jk.symm
     have HF:Hid (∀e' w',e'= .returned (.tuple #[.agg #[.bool hd,.bool true,.slice av nL cv],.int .i64 ((n+1:Nat):Int),.bool true])→w'.ownsRow w.heap.size 211 257 (.slice av nL cv) L.length (TW L)→Below w.heap.size w w'→Z0 s k m r w w' e'):=fun e' w' he ho Bq=>
      ⟨hd,true,L,m3,n+1,av,cv,by rw[he,Ce.out,decide_eq_true (show k<n+1 by omega)],by omega,NC,Q9,by rw[Ce.out]at ho⊢;exact ho,Bq,by rw[Ce.out];omega,fun _ h3=>HB.out q (by rw[hq,h3]) AAV,fun h3=>HC.out (by rw[hq];simp) (fun d uV=>by
       rw[hq]at uV;simp at uV;exact absurd uV.2 h3)⟩
     have hP6:=hP.RN true;have KM:=hP6.fin;obtain⟨z0,z1,z2,q0,q1,q2⟩ :=hP6.res;obtain⟨x0,x1,x2,p0,p1,p2⟩ :=hP.box;obtain⟨y0,y1,y2,t0,t1,t2⟩ :=hP6.box;have Z1:(k:Int)<(n:Int)+1:=by omega
     clear Jk xA hb HA HB HC Of hP hq Q9 AAV hP6;go_wp2;refine bodyPost_ret (v:= .tuple #[.agg #[.bool hd,.bool true,.slice av nL cv],.int .i64 ((n+1:Nat):Int),.bool true]) (by simp[results,Tryz.results101,go_sem,z0,z1,z2]) rfl (HF.out _ _ rfl KM.1 KM.2)
structure CB(w:World)(b:Nat)(cs:List Value):Prop where
 lt:b<w.heap.size
 c:∀j v,cs[j]? =some v→w.cell? ⟨b,j,none⟩ =some v
 fz:∀j,j<cs.length→w.frozen? ⟨b,j,none⟩ =false
 one:∀v∈cs,v.oneCell'=true
theorem CB.keep{w w':World}{b:Nat}{cs:List Value}(h:CB w b cs)(hk:w'.heap[b]? =w.heap[b]?)(hs:w.heap.size≤w'.heap.size):CB w' b cs:=
 ⟨by have:=h.lt;omega,fun j v hv=>(World.cell?_of_block hk).trans (h.c j v hv),fun j hj=>(World.frozen?_of_block hk).trans (h.fz j hj),h.one⟩
theorem CB.below{w w':World}{b B:Nat}{cs:List Value}(h:CB w b cs)(hb:Below B w w')(hB:b<B):CB w' b cs:=h.keep (hb.block b hB) hb.size
theorem CB.set{w:World}{b:Nat}{cs:List Value}(h:CB w b cs)(j:Nat)(hj:j<cs.length)(u:Value)(hu:u.oneCell'=true):CB (w.setCell ⟨b,j,none⟩ u) b (cs.set j u):=by
 refine⟨by simpa using h.lt,fun i v hv=> ?_,fun i hi=>by simpa using h.fz i (by simpa using hi),fun v hv=> ?_⟩
 ·rw[List.getElem?_set]at hv
  by_cases e:j=i
  ·subst e
   rw[if_pos rfl,if_pos hj]at hv;simp at hv;subst hv;exact World.cell?_setCell_same' _ _ _ (by rw[h.c j _ (List.getElem?_eq_getElem hj)];rfl)
  ·rw[if_neg e]at hv
   rw[World.cell?_setCell_other _ _ _ _ (fun e'=>e (congrArg Addr.off e'))];exact h.c i v hv
 ·rcases List.mem_or_eq_of_mem_set hv with hv|hv
  ·exact h.one v hv
  ·rw[hv];exact hu
theorem CB.range{w:World}{b:Nat}{cs:List Value}(h:CB w b cs)(o n:Nat):w.rangeAt b o ((cs.drop o).take n):=fun j v hv=>by
 rw[List.getElem?_take]at hv;split at hv
 ·rw[List.getElem?_drop]at hv
  exact h.c _ v hv
 ·cases hv
theorem CB.there{w:World}{b:Nat}{cs:List Value}(h:CB w b cs)(o n:Nat)(hn:o+n≤cs.length):w.there b o n:=fun j hj=>
 ⟨by rw[h.c (o+j) _ (List.getElem?_eq_getElem (by omega))];rfl,h.fz (o+j) (by omega)⟩
theorem CB.store{w:World}{b:Nat}{cs:List Value}(h:CB w b cs)(o:Nat)(vs:List Value)(hn:o+vs.length≤cs.length)(h1:∀v∈vs,v.oneCell'=true):CB (w.setCells b o vs) b (cs.take o++vs++cs.drop (o+vs.length)):=by
 have ht:=h.there o vs.length hn;have hr:=World.rangeAt_setCells_same w b o vs ht;refine⟨by rw[(G5 b _ o w).2.2.2];exact h.lt,fun i v hv=> ?_,fun i hi=> ?_,fun v hv=> ?_⟩
 ·by_cases e1:i<o
  ·rw[List.append_assoc,List.getElem?_append_left (by rw[List.length_take];omega),List.getElem?_take,if_pos e1]at hv
   rw[World.cell?_setCells_out b vs o w ⟨b,i,none⟩ (fun _ _=> .inl (by exact e1))];exact h.c i v hv
  ·by_cases e2:i<o+vs.length
   ·rw[List.append_assoc,List.getElem?_append_right (by rw[List.length_take];omega),List.length_take,Nat.min_eq_left (by omega),List.getElem?_append_left (by omega)]at hv
    have:=hr (i - o) v hv
    rwa [show o+(i - o)=i by omega]at this
   ·rw[List.getElem?_append_right (by rw[List.length_append,List.length_take];omega),List.length_append,List.length_take,Nat.min_eq_left (by omega),List.getElem?_drop]at hv
    rw[World.cell?_setCells_out b vs o w ⟨b,i,none⟩ (fun _ _=> .inr (by show o+vs.length≤i;omega))];refine h.c i v ?_
    rwa [show o+vs.length+(i - (o+vs.length))=i by omega]at hv
 ·rw[World.frozen?_setCells]
  exact h.fz i (by simp at hi;omega)
 ·rcases List.mem_append.1 hv with hv|hv
  ·rcases List.mem_append.1 hv with hv|hv
   ·exact h.one v (List.mem_of_mem_take hv)
   ·exact h1 v hv
  ·exact h.one v (List.mem_of_mem_drop hv)
theorem CB.new(w:World)(t:TypeId)(C:Array Value)(h1:∀v∈C.toList,v.oneCell'=true):CB (w.alloc (.cells C t)) w.heap.size C.toList:=by
 refine⟨by simp,fun j v hv=> ?_,fun j hj=>by simp[go_sem],h1⟩;rw[cell_of_row _ _ _ _ _ _ (heap_alloc_new w _)]
 simpa using hv
def EE(T:TypeId)(n:Nat):Prop:=(∃d,prog.underlying T=some d∧d.isRow=true)∧(prog.info? T).map (·.size)=some n
theorem D7{ops:Array Oper}{rest:List Oper}{op:Oper}{a:Act}{w:World}{Q:Exit→Act→World→Prop}{g o n:Nat}{cs vs:List Value}{T:TypeId}(hT:EE T n)(hb:CB w g cs)(Fb:(cs.drop o).take n=vs)(hl:vs.length=n)(Fv:op.guard=none)(x:Operand)(ho:op.op= .load T x)(hx:a.eval x= .pointer (some ⟨g,o,none⟩))
  (h:wpList prog ops Q rest (a.put op.dst (.agg vs.toArray)) w):wpList prog ops Q (op::rest) a w:=by
 obtain⟨⟨d,hu,hd⟩,hi⟩ :=hT;have hr:=hb.range o n;rw[Fb]at hr;exact wpList_load_mid Fv T x ho g o hx vs d hr hu hd (by rw[hl];exact hi) h
theorem RX{ops:Array Oper}{rest:List Oper}{op:Oper}{a:Act}{w:World}{Q:Exit→Act→World→Prop}{g o n:Nat}{cs vs:List Value}{T:TypeId}(hT:EE T n)(hb:CB w g cs)(hl:vs.length=n)(hn:o+n≤cs.length)(h1:∀v∈vs,v.oneCell'=true)(Fv:op.guard=none)(x y:Operand)(ho:op.op= .store T x y)(hx:a.eval x= .pointer (some ⟨g,o,none⟩))(hy:a.eval y= .agg vs.toArray)
  (h:∀w',CB w' g (cs.take o++vs++cs.drop (o+n))→AQ g w w'→wpList prog ops Q rest (a.put op.dst undef) w'):wpList prog ops Q (op::rest) a w:=by
 subst hl;obtain⟨_,hi⟩ :=hT;have:=h _ (hb.store o vs hn h1) (AQ.setCells g o vs w);exact wpList_store_mid Fv T x y ho g o vs.toArray hx hy (by rw[List.size_toArray];exact hb.there o vs.length hn) (by rw[List.size_toArray];exact hi) (all_oneCell_toArray h1) this
theorem ω{ops:Array Oper}{rest:List Oper}{op:Oper}{a:Act}{w:World}{Q:Exit→Act→World→Prop}{g n:Nat}{cs:List Value}{T:TypeId}(hT:EE T n)(hb:CB w g cs)(hl:cs.length=n)(Fv:op.guard=none)(x:Operand)(ho:op.op= .load T x)(hx:a.eval x= .pointer (some ⟨g,0,none⟩))
  (h:wpList prog ops Q rest (a.put op.dst (.agg cs.toArray)) w):wpList prog ops Q (op::rest) a w:=
 D7 hT hb (by rw[List.drop_zero,←hl,List.take_length]) hl Fv x ho hx h
theorem θ{ops:Array Oper}{rest:List Oper}{op:Oper}{a:Act}{w:World}{Q:Exit→Act→World→Prop}{g n:Nat}{cs vs:List Value}{T:TypeId}(hT:EE T n)(hb:CB w g cs)(S8:cs.length=n)(Fv:op.guard=none)(x y:Operand)(ho:op.op= .store T x y)(hx:a.eval x= .pointer (some ⟨g,0,none⟩))(hy:a.eval y= .agg vs.toArray)(hl:vs.length=n)(h1:∀v∈vs,v.oneCell'=true)
  (h:∀w',CB w' g vs→AQ g w w'→wpList prog ops Q rest (a.put op.dst undef) w'):wpList prog ops Q (op::rest) a w:=
 RX hT hb hl (by omega) h1 Fv x y ho hx hy (fun w' hc ho=>h w' (by rw[List.take_zero,List.nil_append,List.drop_of_length_le (by omega),List.append_nil]at hc;exact hc) ho)
theorem Z2{w:World}{g n:Nat}{cs:List Value}{T:TypeId}(hT:EE T n)(hb:CB w g cs)(hl:cs.length=n):(loadVar T ⟨g,0,none⟩).run prog w= .ok (.agg cs.toArray) w:=by
 obtain⟨⟨d,hu,hd⟩,hi⟩ :=hT;have hr:=hb.range 0 n;rw[List.drop_zero,←hl,List.take_length]at hr;exact run_loadVar_mid w g 0 T cs d hr hu hd (by rw[hl];exact hi)
theorem Ω{fn:Func}{p u:Tmp}{T:TypeId}{n:Nat}(h:fn.results= #[.cell p T,.tmp u])(tmps:Array Value)(w:World)(g:Nat)(cs:List Value)(hp:tmps.getD p undef= .pointer (some ⟨g,0,none⟩))(hT:EE T n)(hb:CB w g cs)(hl:cs.length=n):
  (results fn tmps).run prog w= .ok (.tuple #[.agg cs.toArray,tmps.getD u undef]) w:=by
 have wG:tmps[p]?.getD undef= .pointer (some ⟨g,0,none⟩):=by simpa using hp
 simp[results,h,wG,asAddr,Z2 hT hb hl,Result.andThen]
theorem Bx{fn:Func}{p u v:Tmp}{T:TypeId}{n:Nat}(h:fn.results= #[.cell p T,.tmp u,.tmp v])(tmps:Array Value)(w:World)(g:Nat)(cs:List Value)(hp:tmps.getD p undef= .pointer (some ⟨g,0,none⟩))(hT:EE T n)(hb:CB w g cs)(hl:cs.length=n):
  (results fn tmps).run prog w= .ok (.tuple #[.agg cs.toArray,tmps.getD u undef,tmps.getD v undef]) w:=by
 have wG:tmps[p]?.getD undef= .pointer (some ⟨g,0,none⟩):=by simpa using hp
 simp[results,h,wG,asAddr,Z2 hT hb hl,Result.andThen]
end Go.Proofs.YtlppphmnegdhoabGreatDoor
