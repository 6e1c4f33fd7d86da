import Derived.Test.YtlppphmnegdhoabGreatDoorMz13
set_option maxRecDepth 100000
set_option linter.unusedVariables false
namespace Go.Proofs.YtlppphmnegdhoabGreatDoor
namespace M
def Xg(t:List UInt8)(c:Cl):Prop:=c.2= -1∨∃k,∃h:k<t.length,c.2=(k:Int)∧t[k]=c.1
def Ax(t:List UInt8)(l:List Cl):Prop:=∀c∈l,Xg t c
def Bnd(c:Cl):Prop:= -1≤c.2∧c.2<4096
def EI(l:List Cl):Prop:=∀c∈l,Bnd c
structure DZ(c:Cm):Prop where
 tx:c.text.size≤400
 rp:c.sub.rep.length≤400
 i1:c.a1.ex.l.length≤400
 i2:c.a2.ex.l.length≤400
 i3:c.sub.ex.l.length≤400
 fr:c.UO.size≤400
 Kv:c.Kv.size≤400
 nm:c.name<256
 nx:c.next≤400
 ct:c.sub.count≤9
 n1:c.a1.line≤9999
 n2:c.a2.line≤9999
 k1:c.a1.kind≤3
 k2:c.a2.kind≤3
 cn:c.cnt≤2
structure WF(S:St):Prop where
 nc:S.cs.length≤400
 cm:∀c∈S.cs,DZ c
 rg:S.AM.length=S.cs.length
 st:S.steps≤5000
 rm:S.room≤256
 tx:S.text.size≤4096
 bh:S.behind≤S.text.size
 nl:Bnd (C4 S.nl)
 ou:S.out.length≤4096
 pa:S.pat.length≤256
 ho:S.hold.length≤256
 li:S.line≤S.behind
 qu:S.queue.length+S.steps≤5000
 qt:∀t∈S.queue,t.size≤400
 oo:EI S.out
 op:EI S.pat
 oh:EI S.hold
 ak:S.asks≤3
 nx:S.next≤400
 de:S.AB≤6
theorem Ax.app{t:List UInt8}{a b:List Cl}(h:Ax t a)(k:Ax t b):Ax t (a++b):=fun c hc=>by
 rcases List.mem_append.1 hc with hc|hc
 ·exact h c hc
 ·exact k c hc
theorem Ax.nil(t:List UInt8):Ax t []:=fun c hc=>by cases hc
theorem Ax.join{t:List UInt8}{a b:List Cl}{c:Cl}(h:Ax t a)(hc:Xg t c)(k:Ax t b):Ax t (AJ a c b):=by
 unfold AJ;refine(h.app fun d hd=> ?_).app k;rw[List.mem_singleton]at hd;rw[hd];exact hc
theorem Ax.part{t:List UInt8}{l:List Cl}(h:Ax t l)(i j:Nat):Ax t (τ l i j):=fun c hc=>h c (List.mem_of_mem_drop (List.mem_of_mem_take hc))
theorem Ax.fresh(t s:List UInt8):Ax t (BJ s):=fun c hc=>by
 obtain⟨d,_,rfl⟩ :=List.mem_map.1 hc;exact .inl rfl
theorem Gy(t:List UInt8)(b:UInt8):Xg t (b,-1):= .inl rfl
theorem EI.app{a b:List Cl}(h:EI a)(k:EI b):EI (a++b):=fun c hc=>by
 rcases List.mem_append.1 hc with hc|hc
 ·exact h c hc
 ·exact k c hc
theorem EI.nil:EI []:=fun c hc=>by cases hc
theorem EI.join{a b:List Cl}{c:Cl}(h:EI a)(hc:Bnd c)(k:EI b):EI (AJ a c b):=by
 unfold AJ;refine(h.app fun d hd=> ?_).app k;rw[List.mem_singleton]at hd;rw[hd];exact hc
theorem EI.part{l:List Cl}(h:EI l)(i j:Nat):EI (τ l i j):=fun c hc=>h c (List.mem_of_mem_drop (List.mem_of_mem_take hc))
theorem EI.fresh(s:List UInt8):EI (BJ s):=fun c hc=>by
 obtain⟨d,_,rfl⟩ :=List.mem_map.1 hc;exact⟨Int.le_refl _,by show(-1:Int)<4096;decide⟩
theorem I9(b:UInt8):Bnd (b,-1):=⟨Int.le_refl _,by show(-1:Int)<4096;decide⟩
namespace WF
theorem die{S:St}(h:WF S)(e:Nat)(he:e≤6):WF (S.die e):=by
 refine{h with de:= ?_};show(if S.AB=0 then e else S.AB)≤6;split
 ·exact he
 ·exact h.de
theorem put{S:St}(h:WF S)(l:List Cl)(hl:EI l):WF (S.put l):=by
 unfold St.put;split
 ·exact h
 split
 ·exact h.die 6 δ
 ·refine{h with ou:= ?_,oo:=h.oo.app hl}
  show(S.out++l).length≤4096;have:=h.ou;rw[List.length_append];omega
theorem Φ{S:St}(h:WF S)(t:ByteArray):WF (S.Φ t):=h.put _ ((EI.fresh _).join (I9 _) EI.nil)
theorem BU{S:St}(h:WF S):WF S.BU:=h.put _ (h.op.join h.nl EI.nil)
theorem Ar{S:St}(h:WF S):WF S.Ar:=by unfold St.Ar;split;exact h;exact h.BU
theorem Ak{S:St}(h:WF S):WF S.Ak:=by unfold St.Ak;split;exact h.BU;exact h.put _ (h.op.part _ _)
theorem fold(l:List ByteArray):∀{S:St},WF S→WF (l.foldl St.Φ S):=by
 induction l with
 |nil=>intro S h;exact h
 |cons x l ih=>intro S h;exact ih (h.Φ x)
theorem φ{S:St}(h:WF S):WF S.φ:=by
 have h1:=fold S.queue h;have k:=St.Ld S.queue S;refine{h1 with qu:= ?_,qt:=fun t ht=>by cases ht};show 0+(S.queue.foldl St.Φ S).steps≤5000;rw[k.2.2.2.2.2.2.2.2.1];have:=h.st;omega
theorem AO{S:St}(h:WF S):WF S.AO:= {h.φ with nx:=ε,ak:=by show 1≤3;omega}
theorem Am{S:St}(h:WF S):WF S.Am:= {h.Ar.φ with}
theorem Ae{S:St}(h:WF S):WF S.Ae:=by
 unfold St.Ae;split
 ·exact h.AO
 ·have h1:WF {S with pat:=τ S.pat (Ad S.pat) S.pat.length}:=by
   refine{h with pa:= ?_,op:=h.op.part _ _};show(τ S.pat _ _).length≤256;unfold τ;rw[List.length_take,List.length_drop];have:=h.pa;omega
  exact{h1.φ with nx:=ε}
theorem Bw{S:St}(h:WF S)(c:Cm)(hc:DZ c)(hq:S.queue.length+S.steps<5000):WF (S.Bw c):=by
 unfold St.Bw;split
 ·exact h.BU
 split
 ·exact h.Ak
 split
 ·exact h.Φ _
 split
 ·exact h.Φ _
 ·refine{h with qu:= ?_,qt:=fun t ht=> ?_}
  ·show(S.queue++ [c.text]).length+S.steps≤5000
   rw[List.length_append];simp;omega
  ·rcases List.mem_append.1 ht with ht|ht
   ·exact h.qt t ht
   ·rw[List.mem_singleton]at ht;rw[ht];exact hc.tx
theorem fill(rep:List (Option UInt8)){m:List Cl}(h:EI m):EI (Ai rep m):=fun c hc=>by
 unfold Ai at hc;obtain⟨p,_,hp⟩ :=List.mem_flatMap.1 hc;cases p with
 |none=>exact h c hp
 |some b=>rw[List.mem_singleton]at hp;rw[hp];exact I9 _
theorem qX{l:List Cl}(s:Lx)(h:EI l):∀(ms:List (Nat×Nat))(k b:Nat),EI (Au l s ms k b):=by
 intro ms
 induction ms with
 |nil=>intro k b c hc;exact h c (List.mem_of_mem_drop hc)
 |cons m ms ih=>
  intro k b;unfold Au;split
  ·exact((h.part _ _).app (fill s.rep (h.part _ _))).app (ih _ _)
  ·exact ih _ _
theorem subst{S:St}(h:WF S)(s:Lx):WF (S.subst s):=by
 unfold St.subst;simp only;split
 ·exact h
 split
 ·rename_i hf
  have h1:WF {S with pat:=Au S.pat s (CP s.ex (AL S.pat)) 1 0,mark:=true}:=by
   refine{h with pa:= ?_,op:=qX s h.op _ _ _};show(Au S.pat s (CP s.ex (AL S.pat)) 1 0).length≤256;have h2:=of_decide_eq_true hf;have:=h.rm;omega
  split
  ·exact h1.BU
  ·exact h1
 ·exact h.die 5 (by decide)
theorem xF{l:List Cl}(f g:List UInt8)(h:EI l):EI (l.map (BQ f g)):=fun c hc=>by
 obtain⟨d,hd,rfl⟩ :=List.mem_map.1 hc;unfold BQ;split
 ·exact h d hd
 ·split
  ·exact h d hd
  ·exact I9 _
theorem change{S:St}(h:WF S)(c:Cm):WF (S.change c):=by
 unfold St.change;simp only;split
 ·exact{h with ho:=h.pa,oh:=h.op}
 split
 ·exact{h with pa:=h.ho,op:=h.oh}
 split
 ·exact{h with pa:=h.ho,op:=h.oh,ho:=h.pa,oh:=h.op}
 split
 ·split
  ·rename_i hf
   have h2:=of_decide_eq_true hf;have:=h.rm;exact{h with ho:=Nat.le_trans h2 this,oh:=h.oh.join (I9 _) h.op}
  ·exact h.die 5 (by decide)
 split
 ·split
  ·rename_i hf
   have h2:=of_decide_eq_true hf;have:=h.rm;exact{h with pa:=Nat.le_trans h2 this,op:=h.op.join (I9 _) h.oh}
  ·exact h.die 5 (by decide)
 split
 ·exact h.subst _
 ·refine{h with pa:= ?_,op:=xF _ _ h.op}
  show(S.pat.map _).length≤256;rw[List.length_map];exact h.pa
theorem lead{S:St}(h:WF S)(c:Cm)(hc:DZ c):WF (S.lead c):=by
 unfold St.lead;split
 ·exact h.AO
 split
 ·exact h.Ae
 split
 ·exact(h.Φ _).AO
 split
 ·exact{h with ak:=by show 2≤3;omega}
 split
 ·exact{h with ak:=by show 3≤3;omega}
 split
 ·exact h.Am
 split
 ·exact{h with nx:=hc.nx}
 split
 ·exact{h with nx:=hc.nx}
 ·exact h
theorem does{S:St}(h:WF S)(c:Cm)(hc:DZ c)(hq:S.queue.length+S.steps<5000):WF (S.does c):=by
 unfold St.does;split
 ·exact h.Bw c hc hq
 split
 ·exact h.change c
 split
 ·exact h.lead c hc
 ·exact h
theorem AG{S:St}(h:WF S)(k:Nat)(c:Cm):WF (S.AG k c).2∧(S.AG k c).2.queue=S.queue∧(S.AG k c).2.steps=S.steps∧(S.AG k c).2.cs=S.cs:=by
 unfold St.AG;split
 all_goals
  refine⟨{h with rg:= ?_},rfl,rfl,rfl⟩;show(S.AM.set _ _).length=_;rw[List.length_set];exact h.rg
theorem AI{S:St}(h:WF S)(k:Nat)(c:Cm):WF (S.AI k c).2∧(S.AI k c).2.queue=S.queue∧(S.AI k c).2.steps=S.steps∧(S.AI k c).2.cs=S.cs:=by
 unfold St.AI;split
 ·exact⟨h,rfl,rfl,rfl⟩
 split
 ·exact⟨h,rfl,rfl,rfl⟩
 ·exact h.AG k c
theorem reach{S:St}(h:WF S):WF S.reach:=by
 unfold St.reach;cases hc:S.cs[S.next]? with
 |none=>exact h.Ar.AO
 |some c=>
  have hk:=h.cm c (List.mem_of_getElem? hc);have Ac:=(List.getElem?_eq_some_iff.1 hc).1;simp only;split
  ·exact h.die 4 (by decide)
  ·rename_i h0
   have h1:WF {S with steps:=S.steps - 1,next:=S.next+1}:=by
    refine{h with st:= ?_,nx:= ?_,qu:= ?_}
    ·show S.steps - 1≤5000;have:=h.st;omega
    ·show S.queue.length+(S.steps - 1)≤5000;have:=h.qu;omega
    ·show S.next+1≤400;have:=h.nc;omega
   obtain⟨h2,h3,h4,h5⟩ :=h1.AI S.next c;split
   ·refine h2.does c hk ?_
    rw[h3,h4];show S.queue.length+(S.steps - 1)<5000;have:=h.qu;omega
   split
   ·exact{h2 with nx:=hk.nx}
   ·exact h2
theorem Θ{S:St}(h:WF S):EI S.Θ:=fun c hc=>by
 unfold St.Θ at hc;obtain⟨p,hp,rfl⟩ :=List.mem_map.1 hc;obtain⟨b,i⟩ :=p;obtain⟨h1,h2,h3⟩ :=List.mem_zipIdx hp;rw[List.length_take,List.length_drop]at h2;have e:S.text.data.toList.length=S.text.size:=Array.length_toList;have:=h.tx;show -1≤((i:Nat):Int)∧((i:Nat):Int)<4096;omega
theorem Rh{α:Type}(p:α→Bool):∀(l:List α)(h:(l.takeWhile p).length<l.length),p (l[(l.takeWhile p).length])=false:=by
 intro l
 induction l with
 |nil=>intro h;simp at h
 |cons x l ih=>
  intro h;cases hp:p x
  ·simp[hp]
  ·have e:(x::l).takeWhile p=x::l.takeWhile p:=by rw[List.takeWhile_cons,hp];rfl
   have h':(l.takeWhile p).length<l.length:=by rw[e]at h;simpa using h
   have:=ih h';simp only[e,List.length_cons,List.getElem_cons_succ];exact this
theorem qY(S:St)(h:S.Bj<S.text.size):S.text.data.toList[S.Bj]'(by rw[Array.length_toList];exact h)=10:=by
 have hl:((S.text.data.toList.drop S.behind).takeWhile (fun c=>c.toNat !=10)).length<(S.text.data.toList.drop S.behind).length:=by
  have e0:S.text.data.toList.length=S.text.size:=Array.length_toList;rw[List.length_drop,e0];unfold St.Bj at h;omega
 have:=Rh _ _ hl;rw[List.getElem_drop]at this;have e:(S.text.data.toList[S.Bj]'(by rw[Array.length_toList];exact h)).toNat=10:=by
  have h9:∀k(hk:k<S.text.data.toList.length),k=S.Bj→(S.text.data.toList[k].toNat !=10)=false→(S.text.data.toList[S.Bj]'(by rw[Array.length_toList];exact h)).toNat=10:=fun k hk e h=>by
   subst e
   simpa using h
  exact h9 _ _ rfl this
 exact UInt8.toNat_inj.1 e
theorem took{S:St}(h:WF S):Bnd (C4 S.took.nl)∧S.took.behind≤S.text.size∧(S.behind<S.text.size→S.line+1≤S.took.behind):=by
 have hl:=St.Nj S h.bh;have ck:=h.li;have ML:=h.tx;unfold St.took;split
 ·rename_i Ac
  refine⟨?_,by show S.Bj+1≤_;omega,fun hr=>by show S.line+1≤S.Bj+1;omega⟩;show -1≤((S.Bj:Nat):Int)∧((S.Bj:Nat):Int)<4096;omega
 ·rename_i hge
  exact⟨I9 _,by show S.Bj≤_;omega,fun hr=>by show S.line+1≤S.Bj;omega⟩
theorem Aq{S:St}(h:WF S):WF S.Aq:=by
 unfold St.Aq;have h0:WF {S with asks:=0}:= {h with ak:=ε}
 split
 ·exact h0.Ar.φ
 ·exact h0.φ
theorem take{S:St}(h:WF S)(hr:S.behind<S.text.size):WF S.take:=by
 rw[St.IA];have h1:=h.Aq;have hs:St.Dl S S.Aq:=by
  unfold St.Aq;have h0:St.Dl S {S with asks:=0}:=⟨rfl,rfl,rfl,rfl,rfl,rfl,rfl,rfl⟩
  exact St.Dl.trans (.ite (fun _=>h0.trans (St.El _)) (fun _=>h0)) (St.Ch _)
 obtain⟨t1,t2,t3⟩ :=h.took;have h2:WF {S.Aq with nl:=S.took.nl,behind:=S.took.behind,line:=S.line+1,mark:=false}:=by
  refine{h1 with nl:=t1,bh:= ?_,li:=t3 hr};show S.took.behind≤S.Aq.text.size;rw[hs.text];exact t2
 split
 ·rename_i hf
  refine{h2 with pa:=Nat.le_trans (of_decide_eq_true hf) h.rm,op:= ?_};show EI S.Dv;unfold St.Dv;split
  ·exact h.op.join h.nl h.Θ
  ·exact h.Θ
 ·exact h2.die 5 (by decide)
theorem AW{S:St}(h:WF S):WF S.AW:=by
 unfold St.AW;split
 ·exact{h with}
 ·exact h.Am
theorem move{S:St}(h:WF S):WF S.move:=by
 unfold St.move;split
 ·exact h.reach
 split
 ·exact h
 split
 ·exact h.AW
 ·rename_i h1 h2 h3
  refine h.take ?_;unfold St.ask at h2 h3
  by_cases hb:S.text.size≤S.behind
  ·split at h3
   ·rw[if_pos ‹_›]at h2;exact absurd rfl h2
   ·exact absurd rfl h3
  ·omega
theorem goes{S T:St}(hg:Goes S T):WF S→WF T:=by
 induction hg with
 |stop _=>exact id
 |step _ _ ih=>exact fun h=>ih h.move
theorem ext{S:St}(h:WF S)(u:ByteArray)(c:Bool)(hu:(S.text++u).size≤4096):WF (S.ext (S.text++u) c):=by
 have hs:(S.text++u).size=S.text.size+u.size:=by simp
 refine{h with tx:=hu,bh:= ?_};show S.behind≤(S.text++u).size;have:=h.bh;omega
end WF
end M
namespace M
namespace St
structure Gr(S T:St):Prop where
 steps:T.steps=S.steps
 out:S.out<+:T.out
theorem Gr.refl(S:St):Gr S S:=⟨rfl,List.prefix_refl _⟩
theorem Gr.trans{S T U:St}(h:Gr S T)(k:Gr T U):Gr S U:=⟨k.steps.trans h.steps,h.out.trans k.out⟩
theorem Gr.ite{S T U:St}{p:Prop} [Decidable p](h:p→Gr S T)(k:¬p→Gr S U):Gr S (if p then T else U):=by
 split
 ·exact h ‹_›
 ·exact k ‹_›
theorem V7(S:St)(e:Nat):Gr S (S.die e):=⟨rfl,List.prefix_refl _⟩
theorem Jz(S:St)(l:List Cl):Gr S (S.put l):=by
 unfold put;exact .ite (fun _=> .refl S) (fun _=> .ite (fun _=>V7 S 6) (fun _=>⟨rfl,List.prefix_append _ _⟩))
theorem sg(l:List ByteArray):∀S:St,Gr S (l.foldl Φ S):=by
 induction l with
 |nil=>intro S;exact .refl S
 |cons x l ih=>intro S;exact(Jz S _).trans (ih _)
theorem II(S:St):Gr S S.φ:=(sg S.queue S).trans ⟨rfl,List.prefix_refl _⟩
theorem SM(S:St):Gr S S.Ar:=by unfold Ar;exact .ite (fun _=> .refl S) (fun _=>Jz S _)
theorem YT(S:St):Gr S S.Ak:=by unfold Ak;exact .ite (fun _=>Jz S _) (fun _=>Jz S _)
theorem IJ(S:St):Gr S S.AO:=(II S).trans ⟨rfl,List.prefix_refl _⟩
theorem P6(S:St):Gr S S.Am:=((SM S).trans (II _)).trans ⟨rfl,List.prefix_refl _⟩
theorem V8(S:St):Gr S S.Ae:=by
 unfold Ae;refine .ite (fun _=>IJ S) (fun _=> ?_);have h1:Gr S {S with pat:=τ S.pat (Ad S.pat) S.pat.length}:=⟨rfl,List.prefix_refl _⟩
 have h2:=h1.trans (II _);exact⟨h2.steps,h2.out⟩
theorem si(S:St)(c:Cm):Gr S (S.Bw c):=by
 unfold Bw;exact .ite (fun _=>Jz S _) (fun _=> .ite (fun _=>YT S) (fun _=> .ite (fun _=>Jz S _) (fun _=> .ite (fun _=>Jz S _) (fun _=>⟨rfl,List.prefix_refl _⟩))))
theorem nK(S:St)(s:Lx):Gr S (S.subst s):=by
 unfold subst;simp only;refine .ite (fun _=> .refl S) (fun _=> .ite (fun _=> .ite (fun _=> ?_) (fun _=>⟨rfl,List.prefix_refl _⟩)) (fun _=>V7 S 5));have h1:Gr S {S with pat:=Au S.pat s (CP s.ex (AL S.pat)) 1 0,mark:=true}:=⟨rfl,List.prefix_refl _⟩
 exact h1.trans (Jz _ _)
theorem gP(S:St)(c:Cm):Gr S (S.change c):=by
 unfold change;simp only;refine .ite (fun _=>⟨rfl,List.prefix_refl _⟩) (fun _=> .ite (fun _=>⟨rfl,List.prefix_refl _⟩) (fun _=> .ite (fun _=>⟨rfl,List.prefix_refl _⟩) (fun _=> .ite (fun _=> .ite (fun _=>⟨rfl,List.prefix_refl _⟩) (fun _=>V7 S 5)) (fun _=> .ite (fun _=> .ite (fun _=>⟨rfl,List.prefix_refl _⟩) (fun _=>V7 S 5)) (fun _=> .ite (fun _=>nK S _) (fun _=>⟨rfl,List.prefix_refl _⟩))))))
theorem sj(S:St)(c:Cm):Gr S (S.lead c):=by
 unfold lead;refine .ite (fun _=>IJ S) (fun _=> .ite (fun _=>V8 S) (fun _=> .ite (fun _=>(Jz S _).trans (IJ _)) (fun _=> .ite (fun _=>⟨rfl,List.prefix_refl _⟩) (fun _=> .ite (fun _=>⟨rfl,List.prefix_refl _⟩) (fun _=> .ite (fun _=>P6 S) (fun _=> .ite (fun _=>⟨rfl,List.prefix_refl _⟩) (fun _=> .ite (fun _=>⟨rfl,List.prefix_refl _⟩) (fun _=> .refl S))))))))
theorem sk(S:St)(c:Cm):Gr S (S.does c):=by
 unfold does;exact .ite (fun _=>si S c) (fun _=> .ite (fun _=>gP S c) (fun _=> .ite (fun _=>sj S c) (fun _=> .refl S)))
theorem gQ(S:St)(k:Nat)(c:Cm):Gr S (S.AG k c).2:=by
 unfold AG;split<;>exact⟨rfl,List.prefix_refl _⟩
theorem bL(S:St)(k:Nat)(c:Cm):Gr S (S.AI k c).2:=by
 unfold AI;split
 ·exact .refl S
 split
 ·exact .refl S
 ·exact gQ S k c
theorem Uj(S:St):S.out<+:S.reach.out∧(S.reach.steps=S.steps∨S.reach.steps+1=S.steps)∧((S.cs[S.next]? =none∧S.reach.asks=1)∨(S.reach.over=true∧S.reach.asks=S.asks∧S.reach.steps=S.steps)∨S.reach.steps+1=S.steps):=by
 unfold reach;cases S.cs[S.next]? with
 |none=>
  have h:=(SM S).trans (IJ _);exact⟨h.out,.inl h.steps,.inl ⟨rfl,rfl⟩⟩
 |some c=>
  simp only;split
  ·exact⟨List.prefix_refl _,.inl rfl,.inr (.inl ⟨rfl,rfl,rfl⟩)⟩
  ·rename_i h0
   have h1:=bL {S with steps:=S.steps - 1,next:=S.next+1} S.next c;have e1:(({S with steps:=S.steps - 1,next:=S.next+1}:St).AI S.next c).2.steps+1=S.steps:=by
    rw[h1.steps];show S.steps - 1+1=S.steps;omega
   split
   ·have h2:=sk (({S with steps:=S.steps - 1,next:=S.next+1}:St).AI S.next c).2 c
    have h3:((({S with steps:=S.steps - 1,next:=S.next+1}:St).AI S.next c).2.does c).steps+1=S.steps:=by rw[h2.steps];exact e1
    exact⟨h1.out.trans h2.out,.inr h3,.inr (.inr h3)⟩
   split
   all_goals
    exact⟨h1.out,.inr e1,.inr (.inr e1)⟩
theorem bM(S:St):Gr S S.Aq:=by
 unfold Aq;have h0:Gr S {S with asks:=0}:=⟨rfl,List.prefix_refl _⟩
 exact Gr.trans (.ite (fun _=>h0.trans (SM _)) (fun _=>h0)) (II _)
theorem WA(S:St):S.Aq.asks=0:=by
 unfold Aq;have hq:∀T:St,T.φ.asks=T.asks:=fun T=>(Ld T.queue T).2.2.2.2.2.2.2.2.2.2.2.1
 split
 ·rw[hq]
  unfold Ar;split
  ·rfl
  ·exact(Kw _ _).2.2.2.2.2.2.2.2.2.2.2.1
 ·rw[hq]
theorem dY(S:St):Gr S S.take∧S.take.asks=0:=by
 rw[IA];have h:=bM S;have ha:=WA S;split
 all_goals
  exact⟨⟨h.steps,h.out⟩,ha⟩
theorem N8(S:St):Gr S S.AW:=by
 unfold AW;split
 ·exact⟨rfl,List.prefix_refl _⟩
 ·exact P6 S
theorem YU(S:St):S.out<+:S.move.out:=by
 unfold move;split
 ·exact(Uj S).1
 split
 ·exact List.prefix_refl _
 split
 ·exact(N8 S).out
 ·exact(dY S).1.out
def mz(S:St):Nat:=3*S.steps+2*(S.text.size - S.behind)+(if S.asks=0 then 1 else 0)+(if S.over then 0 else 1)
theorem SN(S:St):S.AW.over=true∧S.AW.asks=S.asks:=by
 unfold AW;split
 ·exact⟨rfl,rfl⟩
 ·refine⟨rfl,?_⟩
  have hq:∀T:St,T.φ.asks=T.asks:=fun T=>(Ld T.queue T).2.2.2.2.2.2.2.2.2.2.2.1
  show S.Ar.φ.asks=S.asks;rw[hq];unfold Ar;split
  ·rfl
  ·exact(Kw _ _).2.2.2.2.2.2.2.2.2.2.2.1
theorem gR(S:St)(h:WF S)(ho:S.over=false)(hs:S.stuck=false):S.move.mz<S.mz:=by
 have key:∀T:St,T.text=S.text→(if T.asks=0 then 1 else 0)≤1∧(if T.over then 0 else 1)≤1:=fun T _=>⟨by split<;>omega,by split<;>omega⟩
 unfold move;split
 all_goals
  rename_i ha
 ·have hr:=HU S
  obtain⟨_,BZ,EK⟩ :=Uj S;have hk:=key S.reach hr.text;unfold mz;rw[hr.text,hr.behind,ho,if_pos ha];rcases EK with⟨_,h1⟩ | ⟨h1,h2,h3⟩ |h1
  ·have e1:(if S.reach.asks=0 then 1 else 0)=0:=by rw[h1];rfl
   rw[e1];have:=hk.2;rcases BZ with h|h<;> (generalize(if S.reach.over=true then 0 else 1)=u at*;simp only[Bool.false_eq_true,if_false];omega)
  ·rw[h1,h2,h3,if_pos ha];simp
  ·generalize(if S.reach.over=true then 0 else 1)=u at*
   generalize(if S.reach.asks=0 then 1 else 0)=v at*;simp only[Bool.false_eq_true,if_false];omega
 ·have h2:S.ask≠2:=fun e=>by
   unfold stuck at hs;rw[e,decide_eq_true ha]at hs;cases hs
  rw[if_neg h2];split
  ·have hd:=N8 S
   obtain⟨d1,d2⟩ :=SN S;have vQ:Dl S S.AW:=by
    unfold AW;split
    ·exact⟨rfl,rfl,rfl,rfl,rfl,rfl,rfl,rfl⟩
    ·exact IZ S
   unfold mz;rw[hd.steps,vQ.text,vQ.behind,d1,d2,ho];simp
  ·rename_i h3
   have hb:S.behind<S.text.size:=by
    by_cases hb:S.text.size≤S.behind
    ·unfold ask at h2 h3
     split at h3
     ·rw[if_pos ‹_›]at h2;exact absurd rfl h2
     ·exact absurd rfl h3
    ·omega
   obtain⟨ht,hta⟩ :=dY S;have hk:=I8 S;have hl:=Nj S h.bh;unfold mz;rw[ht.steps,hk.1,hk.2.2.1,hta,ho,if_neg ha,if_pos rfl];have h9:(if S.take.over then 0 else 1)≤1:=by split<;>omega
   generalize(if S.take.over=true then 0 else 1)=u at*;have h8:S.behind+1≤(if S.Bj<S.text.size then S.Bj+1 else S.Bj):=by split<;>omega
   generalize(if S.Bj<S.text.size then S.Bj+1 else S.Bj)=q at*;simp only[Bool.false_eq_true,if_false];omega
end St
theorem Goes.out{S T:St}(h:Goes S T):S.out<+:T.out:=by
 induction h with
 |stop _=>exact List.prefix_refl _
 |step _ _ ih=>exact(St.YU _).trans ih
end M
namespace M
structure DS where
 text:ByteArray
 closed:Bool
 quiet:Bool
 steps:Nat
 room:Nat
 AM:List Bool
 pat:List Cl
 hold:List Cl
 line:Nat
 last:Bool
 nl:Int
 at':Nat
 queue:List ByteArray
 mark:Bool
 used:Nat
 out:List Cl
 state:Nat
 err:Nat
namespace DS
def die(D:DS)(e:Nat):DS:= {D with state:=3,err:=e}
def put(D:DS)(l:List Cl):DS:=if D.state≠0 then D else if 4096<D.out.length+l.length then D.die 6 else{D with out:=D.out++l}
def GL(D:DS):DS:=D.put (AJ D.pat (C4 D.nl) [])
def tell(D:DS)(s:ByteArray):DS:=D.put (AJ (BJ s.data.toList) (C4 (-1)) [])
def flush(D:DS):DS:= {D.queue.foldl tell D with queue:= []}
def ο(D:DS)(b:Bool):DS:=(if b && !D.quiet then D.GL else D).flush
def early(D:DS):DS:=if(D.ο true).state=0 then{D.ο true with state:=2}else D.ο true
def Cx(D:DS):Nat:=D.at'+((D.text.data.toList.drop D.at').takeWhile (fun c=>c.toNat !=10)).length
def ask(D:DS):Bool×DS:=if D.closed then(decide (D.at'<D.text.size),D)else if D.text.size≤D.Cx+1 then(false,{D with state:=1})else(decide (D.state=0),D)
def Θ(D:DS):List Cl:=(((D.text.data.toList.drop D.at').take (D.Cx - D.at')).zipIdx D.at').map (fun p=>(p.1,(p.2:Int)))
def take(D:DS):DS:=
 if D.Cx<D.text.size then{D with line:=D.line+1,mark:=false,nl:=(D.Cx:Nat),at':=D.Cx+1,last:=D.closed && decide (D.text.size≤D.Cx+1)}
 else{D with line:=D.line+1,mark:=false,nl:= -1,at':=D.Cx,last:=D.closed && decide (D.text.size≤D.Cx)}
def pattern(D:DS)(l:List Cl):DS:=if D.room<l.length then D.die 5 else{D with pat:=l}
def Ca(D:DS)(l:List Cl):DS:=if D.room<l.length then D.die 5 else{D with hold:=l}
def holds(D:DS)(A:Ku):Bool:=if A.kind=1 then A.line==D.line else if A.kind=2 then D.last else Ni A.ex (AL D.pat)
def Fm(D:DS)(A:Ku):Bool:=decide (A.kind=1) && decide (A.line≤D.line)
def AG(D:DS)(k:Nat)(c:Cm):Bool×DS:=
 if D.AM.getD k false then(true,{D with AM:=D.AM.set k (!(D.Fm c.a2 || D.holds c.a2))})
 else(D.holds c.a1,if D.holds c.a1 then{D with AM:=D.AM.set k (!D.Fm c.a2)}else D)
def AX(D:DS)(k:Nat)(c:Cm):Bool×DS:=
 if c.a1.kind=0 then(true,D)else if c.a2.kind=0 then(D.holds c.a1 !=c.no,D)else((D.AG k c).1 !=c.no,(D.AG k c).2)
def subst(D:DS)(s:Lx):DS:=
 if(CP s.ex (AL D.pat)).length<s.count then D else
 let D1:=D.pattern (Au D.pat s (CP s.ex (AL D.pat)) 1 0)
 if D1.state=0 then(if s.Pt then DS.GL {D1 with mark:=true}else{D1 with mark:=true})else D1
def turned(D:DS)(c:Cm):DS:= {D with pat:=D.pat.map (BQ c.UO.data.toList c.Kv.data.toList)}
def De(D:DS)(nm:Nat):DS:=
 if D.ask.2.state=1 then D.ask.2 else if D.ask.1=false then D.ask.2.early else
 let B:=D.ask.2.ο (nm==110)
 if B.state≠0 then B else B.take.pattern (if nm=78 then AJ B.pat (C4 B.nl) B.Θ else B.Θ)
def Da(D:DS)(nm:Nat):DS:=
 if nm=104 then D.Ca D.pat else if nm=72 then D.Ca (AJ D.hold (C4 (-1)) D.pat)else if nm=103 then D.pattern D.hold else if nm=71 then D.pattern (AJ D.pat (C4 (-1)) D.hold)
 else if nm=120 then{D with pat:=D.hold,hold:=D.pat}else D
def says(D:DS)(c:Cm):DS:=
 if c.name=112 then D.GL else if c.name=61 then D.tell (St.itoa D.line)else if c.name=80 then(if Ad D.pat=0 then D.GL else D.put (D.pat.take (Ad D.pat)))
 else if c.name=97 then{D with queue:=D.queue++ [c.text]}else if c.name=105∨c.name=99 then D.tell c.text else D
def does(D:DS)(k:Nat)(c:Cm):DS×Int:=
 if c.name=100 then(D,-1)
 else if c.name=68 then(if Ad D.pat=0 then(D,-1)else({D with pat:=D.pat.drop (Ad D.pat)},-2))
 else if c.name=113 then(D.early,(k:Int)+1)
 else if c.name=98 then(D,(c.next:Int))
 else if c.name=116 then(if D.mark then({D with mark:=false},(c.next:Int))else(D,(k:Int)+1))
 else if c.name=110∨c.name=78 then(D.De c.name,(k:Int)+1)
 else if c.name=115 then(D.subst c.sub,(k:Int)+1)
 else if c.name=121 then(D.turned c,(k:Int)+1)
 else if c.name=104∨c.name=72∨c.name=103∨c.name=71∨c.name=120 then(D.Da c.name,(k:Int)+1)
 else(D.says c,if c.name=99 then -1 else(k:Int)+1)
def step(D:DS)(k:Nat)(c:Cm):DS×Int:=
 let s:=DS.AX {D with used:=D.used+1} k c
 if s.1 then s.2.does k c else if c.name=123 then(s.2,(c.next:Int))else(s.2,(k:Int)+1)
def Bd(cs:List Cm):Nat→DS→Nat→DS×Bool
 |0,D,k=>if k<cs.length then(D.die 4,false)else(D.ο true,false)
 |f+1,D,k=>match cs[k]? with
  |none=>(D.ο true,false)
  |some c=>if(D.step k c).1.state≠0 then((D.step k c).1,false)else if(D.step k c).2<0 then((D.step k c).1.flush,(D.step k c).2== -2)else Bd cs f (D.step k c).1 (D.step k c).2.toNat
def A6(cs:List Cm)(D:DS):DS×Bool:=Bd cs (D.steps - D.used) D 0
def By(cs:List Cm):Nat→DS→Bool→DS
 |0,D,_=>D
 |f+1,D,again=>if D.state≠0 then D else if again then By cs f (D.A6 cs).1 (D.A6 cs).2
  else if D.ask.1=false then(if D.ask.2.state=0 then{D.ask.2 with state:=2}else D.ask.2)
  else if(D.ask.2.take.pattern D.ask.2.Θ).state≠0 then D.ask.2.take.pattern D.ask.2.Θ
  else By cs f ((D.ask.2.take.pattern D.ask.2.Θ).A6 cs).1 ((D.ask.2.take.pattern D.ask.2.Θ).A6 cs).2
end DS
end M
namespace M
theorem J2(D:DS)(l:List Cl):D.put l=D∨D.put l=D.die 6∨(D.put l= {D with out:=D.out++l}∧D.out.length+l.length≤4096):=by
 unfold DS.put;split
 ·exact .inl rfl
 ·split
  ·exact .inr (.inl rfl)
  ·exact .inr (.inr ⟨rfl,by omega⟩)
structure JJ(A B:DS):Prop where
 text:B.text=A.text
 closed:B.closed=A.closed
 quiet:B.quiet=A.quiet
 steps:B.steps=A.steps
 room:B.room=A.room
 AM:B.AM=A.AM
 pat:B.pat=A.pat
 hold:B.hold=A.hold
 line:B.line=A.line
 last:B.last=A.last
 nl:B.nl=A.nl
 at':B.at'=A.at'
 queue:B.queue=A.queue
 mark:B.mark=A.mark
 used:B.used=A.used
theorem JJ.refl(A:DS):JJ A A:=⟨rfl,rfl,rfl,rfl,rfl,rfl,rfl,rfl,rfl,rfl,rfl,rfl,rfl,rfl,rfl⟩
theorem JJ.trans{A B C:DS}(h:JJ A B)(g:JJ B C):JJ A C:=
 ⟨g.text.trans h.text,g.closed.trans h.closed,g.quiet.trans h.quiet,g.steps.trans h.steps,g.room.trans h.room,g.AM.trans h.AM,g.pat.trans h.pat,g.hold.trans h.hold,g.line.trans h.line,g.last.trans h.last,g.nl.trans h.nl,g.at'.trans h.at',g.queue.trans h.queue,g.mark.trans h.mark,g.used.trans h.used⟩
theorem G1(D:DS)(l:List Cl):JJ D (D.put l):=by
 rcases J2 D l with e|e | ⟨e,hl⟩ <;>rw[e]
 ·exact .refl D
 all_goals
  exact⟨rfl,rfl,rfl,rfl,rfl,rfl,rfl,rfl,rfl,rfl,rfl,rfl,rfl,rfl,rfl⟩
theorem SQ(q:List ByteArray):∀D:DS,JJ D (q.foldl DS.tell D):=by
 induction q with
 |nil=>intro D;exact .refl D
 |cons x q ih=>intro D;exact(G1 D _).trans (ih _)
theorem Df(D:DS):JJ D {D.flush with queue:=D.queue}:=by
 have h:=SQ D.queue D;exact⟨h.text,h.closed,h.quiet,h.steps,h.room,h.AM,h.pat,h.hold,h.line,h.last,h.nl,h.at',rfl,h.mark,h.used⟩
namespace DS
def Aj(D:DS)(cs:List Cm)(n a:Nat):St:= {cs:=cs,AM:=D.AM,quiet:=D.quiet,steps:=D.steps - D.used,room:=D.room,text:=D.text,closed:=D.closed,behind:=D.at',nl:=D.nl,out:=D.out,pat:=D.pat,hold:=D.hold,line:=D.line,queue:=D.queue,mark:=D.mark,next:=n,asks:=a,over:=decide (2≤D.state),AB:=D.err}
structure Al(D:DS):Prop where
 ou:D.out.length≤4096
 st:(D.state=0∧D.err=0)∨(D.state=3∧D.err≠0)
theorem Lh{D:DS}(h:Al D)(cs:List Cm)(n a:Nat)(l:List Cl):(D.Aj cs n a).put l=(D.put l).Aj cs n a:=by
 rcases h.st with⟨hs,he⟩ | ⟨hs,he⟩
 all_goals
  unfold St.put DS.put
 ·rw[if_neg (show¬(D.Aj cs n a).AB≠0 by show¬D.err≠0;simp[he]),if_neg (show¬D.state≠0 by simp[hs])]
  have Nn:=h.ou
  by_cases hc:4096<D.out.length+l.length
  ·rw[if_pos (show 4096 - (D.Aj cs n a).out.length<l.length by show 4096 - D.out.length<l.length;omega),if_pos hc]
   unfold St.die DS.die Aj;simp[he]
  ·rw[if_neg (show¬4096 - (D.Aj cs n a).out.length<l.length by show¬4096 - D.out.length<l.length;omega),if_neg hc]
   rfl
 ·rw[if_pos (show(D.Aj cs n a).AB≠0 from he),if_pos (show D.state≠0 by simp[hs])]
theorem Al.put{D:DS}(h:Al D)(l:List Cl):Al (D.put l):=by
 rcases J2 D l with e|e | ⟨e,hl⟩ <;>rw[e]
 ·exact h
 ·exact⟨h.ou,.inr ⟨rfl,by show 6≠0;decide⟩⟩
 ·exact⟨by show(D.out++l).length≤4096;rw[List.length_append];exact hl,h.st⟩
theorem Al.fold(q:List ByteArray):∀{D:DS},Al D→Al (q.foldl DS.tell D):=by
 induction q with
 |nil=>intro D h;exact h
 |cons x q ih=>intro D h;exact ih (h.put _)
theorem Al.flush{D:DS}(h:Al D):Al D.flush:=⟨(h.fold D.queue).ou,(h.fold D.queue).st⟩
theorem Al.ο{D:DS}(h:Al D)(b:Bool):Al (D.ο b):=by
 unfold DS.ο;split
 ·exact(h.put _).flush
 ·exact h.flush
theorem nN(cs:List Cm)(n a:Nat)(q:List ByteArray):∀{D:DS},Al D→q.foldl St.Φ (D.Aj cs n a)=(q.foldl DS.tell D).Aj cs n a:=by
 induction q with
 |nil=>intro D h;rfl
 |cons x q ih=>
  intro D h;rw[List.foldl_cons,List.foldl_cons,show(D.Aj cs n a).Φ x=(D.tell x).Aj cs n a from Lh h cs n a _];exact ih (h.put _)
theorem G2{D:DS}(h:Al D)(cs:List Cm)(n a:Nat):(D.Aj cs n a).φ=D.flush.Aj cs n a:=by
 unfold St.φ;rw[show(D.Aj cs n a).queue=D.queue from rfl,nN cs n a D.queue h]
 rfl
theorem N9{D:DS}(h:Al D)(cs:List Cm)(n a:Nat):(D.Aj cs n a).BU=D.GL.Aj cs n a:=Lh h cs n a _
theorem WC{D:DS}(h:Al D)(cs:List Cm)(n a:Nat):(D.Aj cs n a).Ar.φ=(D.ο true).Aj cs n a:=by
 unfold St.Ar DS.ο;rw[show(D.Aj cs n a).quiet=D.quiet from rfl];cases D.quiet with
 |true=>exact G2 h cs n a
 |false=>
  show((D.Aj cs n a).BU).φ=_;rw[N9 h];exact G2 (h.put _) cs n a
theorem PU{D:DS}(h:Al D)(cs:List Cm)(n:Nat):(D.Aj cs n 0).AO=D.flush.Aj cs 0 1:=by
 unfold St.AO;rw[G2 h]
 rfl
theorem LK{D:DS}(h:D.state=0∧D.err=0)(cs:List Cm)(n a:Nat)(l:List Cl):(if(D.Aj cs n a).fits l.length then{D.Aj cs n a with pat:=l}else(D.Aj cs n a).die 5)=(D.pattern l).Aj cs n a:=by
 unfold St.fits DS.pattern
 by_cases hc:D.room<l.length
 ·rw[if_pos hc,if_neg (by show¬decide (l.length≤D.room)=true;simp;omega)]
  unfold St.die DS.die Aj;simp[h.2]
 ·rw[if_neg hc,if_pos (by show decide (l.length≤D.room)=true;simp;omega)]
  rfl
theorem nO{D:DS}(h:D.state=0∧D.err=0)(cs:List Cm)(n a:Nat)(l:List Cl):(if(D.Aj cs n a).fits l.length then{D.Aj cs n a with hold:=l}else(D.Aj cs n a).die 5)=(D.Ca l).Aj cs n a:=by
 unfold St.fits DS.Ca
 by_cases hc:D.room<l.length
 ·rw[if_pos hc,if_neg (by show¬decide (l.length≤D.room)=true;simp;omega)]
  unfold St.die DS.die Aj;simp[h.2]
 ·rw[if_neg hc,if_pos (by show decide (l.length≤D.room)=true;simp;omega)]
  rfl
theorem Mz{D:DS}(h:Al D)(l:List Cl)(hs:D.state=0):Al (D.pattern l):=by
 unfold DS.pattern;split
 ·exact⟨h.ou,.inr ⟨rfl,by show 5≠0;decide⟩⟩
 ·exact⟨h.ou,h.st⟩
theorem sw{D:DS}(h:Al D)(l:List Cl)(hs:D.state=0):Al (D.Ca l):=by
 unfold DS.Ca;split
 ·exact⟨h.ou,.inr ⟨rfl,by show 5≠0;decide⟩⟩
 ·exact⟨h.ou,h.st⟩
theorem bN{D:DS}(h:D.state≠0):D.flush.out=D.out∧D.flush.err=D.err∧D.flush.state=D.state:=by
 have key:∀(q:List ByteArray),q.foldl DS.tell D=D:=by
  intro q
  induction q with
  |nil=>rfl
  |cons x q ih=>
   rw[List.foldl_cons,show D.tell x=D by unfold DS.tell DS.put;rw[if_pos h]];exact ih
 unfold DS.flush;rw[key];exact⟨rfl,rfl,rfl⟩
end DS
def Mv(S T:St):Prop:=∀R,Goes T R→Goes S R
theorem Mv.refl(S:St):Mv S S:=fun _ h=>h
theorem Mv.trans{S T U:St}(h:Mv S T)(g:Mv T U):Mv S U:=fun R k=>h R (g R k)
theorem Mv.move{S:St}(h:S.still=false):Mv S S.move:=fun R g=> .step h g
structure nP(cs:List Cm)(S:St)(r:DS×Int):Prop where
 bad:r.1.state≠0→∃R,Goes S R∧R.out=r.1.out∧R.AB=r.1.err
 on:r.1.state=0→0≤r.2→Mv S (r.1.Aj cs r.2.toNat 0)
 cyc:r.1.state=0→r.2<0→Mv S (r.1.flush.Aj cs 0 (if r.2= -2 then 0 else 1))
theorem nP.pre{cs:List Cm}{S T:St}{r:DS×Int}(h:Mv S T)(g:nP cs T r):nP cs S r:=
 ⟨fun e=>by obtain⟨R,h1,h2⟩ :=g.bad e;exact⟨R,h R h1,h2⟩,fun e e2=>h.trans (g.on e e2),fun e e2=>h.trans (g.cyc e e2)⟩
theorem Ct{S:St}(h:S.over=true):Goes S S:= .stop (by unfold St.still;rw[h];rfl)
theorem PV{cs:List Cm}{D:DS}{k:Nat}{i:Int}(h:D.Al)(hi:i=(k:Int)):nP cs (D.Aj cs k 0) (D,i):=by
 refine⟨fun e=> ?_,fun e e2=> ?_,fun e e2=> ?_⟩
 ·rcases h.st with⟨hs,he⟩ | ⟨hs,he⟩
  ·exact absurd hs e
  ·exact⟨_,Ct (by show decide (2≤D.state)=true;rw[hs];rfl),rfl,rfl⟩
 ·subst hi
  exact .refl _
 ·exact absurd e2 (by show¬i<0;omega)
end M
end Go.Proofs.YtlppphmnegdhoabGreatDoor
