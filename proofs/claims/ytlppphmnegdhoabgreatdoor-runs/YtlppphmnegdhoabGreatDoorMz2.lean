import Derived.Deep.QuietTactic
import Derived.BigQuiet
import Derived.Lib.Strings
import Derived.Laws.BytesArg
import Derived.Test.YtlppphmnegdhoabGreatDoorMz1
set_option maxRecDepth 100000
set_option linter.unusedVariables false
set_option maxHeartbeats 400000
namespace Go.Proofs.YtlppphmnegdhoabGreatDoor
namespace M
namespace St
def ext(S:St)(t:ByteArray)(c:Bool):St:= {S with text:=t,closed:=c}
theorem VO(S:St)(t:ByteArray)(c:Bool)(l:List Cl):(S.ext t c).put l=(S.put l).ext t c:=by
 have h:(S.ext t c).put l=if S.AB≠0 then S.ext t c else if 4096 - S.out.length<l.length then(S.die 6).ext t c else{S with out:=S.out++l}.ext t c:=rfl;rw[h];unfold put;split
 ·rfl
 ·split<;>rfl
theorem H8(S:St)(t:ByteArray)(c:Bool)(x:ByteArray):(S.ext t c).Φ x=(S.Φ x).ext t c:=VO S t c _
theorem Jm(S:St)(t:ByteArray)(c:Bool):(S.ext t c).BU=S.BU.ext t c:=VO S t c _
theorem Ow(S:St)(t:ByteArray)(c:Bool):(S.ext t c).Ar=S.Ar.ext t c:=by
 have h:(S.ext t c).Ar=if S.quiet then S.ext t c else(S.ext t c).BU:=rfl;rw[h,Jm];unfold Ar;split<;>rfl
theorem VP(S:St)(t:ByteArray)(c:Bool):(S.ext t c).Ak=S.Ak.ext t c:=by
 have h:(S.ext t c).Ak=if Ad S.pat=0 then(S.ext t c).BU else(S.ext t c).put (τ S.pat 0 (Ad S.pat)):=rfl;rw[h,Jm,VO];unfold Ak;split<;>rfl
theorem kQ(l:List ByteArray)(t:ByteArray)(c:Bool):∀S:St,l.foldl Φ (S.ext t c)=(l.foldl Φ S).ext t c:=by
 induction l with
 |nil=>intro S;rfl
 |cons x l ih=>intro S;rw[List.foldl_cons,List.foldl_cons,H8,ih]
theorem FE(S:St)(t:ByteArray)(c:Bool):(S.ext t c).φ=S.φ.ext t c:=by
 have h:(S.ext t c).φ= {S.queue.foldl Φ (S.ext t c)with queue:= []}:=rfl;rw[h,kQ]
 rfl
theorem Gg(S:St)(t:ByteArray)(c:Bool):(S.ext t c).AO=S.AO.ext t c:=by
 unfold AO;rw[FE]
 rfl
theorem VQ(S:St)(t:ByteArray)(c:Bool):(S.ext t c).Am=S.Am.ext t c:=by
 unfold Am;rw[Ow,FE]
 rfl
theorem Ta(S:St)(t:ByteArray)(c:Bool):(S.ext t c).Ae=S.Ae.ext t c:=by
 have h:(S.ext t c).Ae=if Ad S.pat=0 then(S.ext t c).AO else{({S with pat:=τ S.pat (Ad S.pat) S.pat.length}.ext t c).φ with next:=0}:=rfl;rw[h,Gg,FE];unfold Ae;split<;>rfl
theorem kR(S:St)(t:ByteArray)(c:Bool)(k:Cm):(S.ext t c).Bw k=(S.Bw k).ext t c:=by
 have h:(S.ext t c).Bw k=if k.name=112 then(S.ext t c).BU else if k.name=80 then(S.ext t c).Ak else if k.name=61 then(S.ext t c).Φ (itoa S.line)else if k.name=105 then(S.ext t c).Φ k.text else{S with queue:=S.queue++ [k.text]}.ext t c:=rfl;rw[h,Jm,VP,H8,H8];unfold Bw;split
 ·rfl
 split
 ·rfl
 split
 ·rfl
 split<;>rfl
theorem fC(S:St)(t:ByteArray)(c:Bool)(s:Lx):(S.ext t c).subst s=(S.subst s).ext t c:=by
 have h:(S.ext t c).subst s=if(CP s.ex (AL S.pat)).length<s.count then S.ext t c else if S.fits (Au S.pat s (CP s.ex (AL S.pat)) 1 0).length then(if s.Pt then({S with pat:=Au S.pat s (CP s.ex (AL S.pat)) 1 0,mark:=true}.ext t c).BU else{S with pat:=Au S.pat s (CP s.ex (AL S.pat)) 1 0,mark:=true}.ext t c)else(S.die 5).ext t c:=rfl;rw[h,Jm];unfold subst;simp only;split
 ·rfl
 split
 ·split<;>rfl
 ·rfl
theorem Z6(S:St)(t:ByteArray)(c:Bool)(k:Cm):(S.ext t c).change k=(S.change k).ext t c:=by
 have h:(S.ext t c).change k=if k.name=104 then{S with hold:=S.pat}.ext t c else if k.name=103 then{S with pat:=S.hold}.ext t c else if k.name=120 then{S with pat:=S.hold,hold:=S.pat}.ext t c
  else if k.name=72 then(if S.fits (AJ S.hold (C4 (-1)) S.pat).length then{S with hold:=AJ S.hold (C4 (-1)) S.pat}.ext t c else(S.die 5).ext t c)
  else if k.name=71 then(if S.fits (AJ S.pat (C4 (-1)) S.hold).length then{S with pat:=AJ S.pat (C4 (-1)) S.hold}.ext t c else(S.die 5).ext t c)
  else if k.name=115 then(S.ext t c).subst k.sub else{S with pat:=S.pat.map (BQ k.UO.data.toList k.Kv.data.toList)}.ext t c:=rfl
 rw[h,fC];unfold change;simp only;split
 ·rfl
 split
 ·rfl
 split
 ·rfl
 split
 ·split<;>rfl
 split
 ·split<;>rfl
 split<;>rfl
theorem kS(S:St)(t:ByteArray)(c:Bool)(k:Cm):(S.ext t c).lead k=(S.lead k).ext t c:=by
 have h:(S.ext t c).lead k=if k.name=100 then(S.ext t c).AO else if k.name=68 then(S.ext t c).Ae else if k.name=99 then((S.ext t c).Φ k.text).AO else if k.name=110 then{S with asks:=2}.ext t c else if k.name=78 then{S with asks:=3}.ext t c
  else if k.name=113 then(S.ext t c).Am else if k.name=98 then{S with next:=k.next}.ext t c else if S.mark then{S with mark:=false,next:=k.next}.ext t c else S.ext t c:=rfl
 rw[h,Gg,Ta,H8,Gg,VQ];unfold lead;split
 ·rfl
 split
 ·rfl
 split
 ·rfl
 split
 ·rfl
 split
 ·rfl
 split
 ·rfl
 split
 ·rfl
 split<;>rfl
theorem kT(S:St)(t:ByteArray)(c:Bool)(k:Cm):(S.ext t c).does k=(S.does k).ext t c:=by
 unfold does;rw[kR,Z6,kS];split
 ·rfl
 split
 ·rfl
 split<;>rfl
theorem Ox(S:St)(t:ByteArray)(c:Bool)(a:Ku)(h:decide (t.size≤S.behind)=decide (S.text.size≤S.behind)):(S.ext t c).holds a=S.holds a:=by
 have h1:(S.ext t c).holds a=if a.kind=1 then a.line==S.line else if a.kind=2 then decide (t.size≤S.behind)else if a.kind=3 then Ni a.ex (AL S.pat)else false:=rfl;rw[h1,h]
 rfl
theorem Z7(S:St)(t:ByteArray)(c:Bool)(k:Nat)(a:Cm)(h:decide (t.size≤S.behind)=decide (S.text.size≤S.behind)):(S.ext t c).AG k a=((S.AG k a).1,(S.AG k a).2.ext t c):=by
 unfold AG;rw[Ox S t c _ h,Ox S t c _ h];have e:(S.ext t c).AM=S.AM:=rfl;rw[e];split<;>rfl
theorem Xb(S:St)(t:ByteArray)(c:Bool)(k:Nat)(a:Cm)(h:decide (t.size≤S.behind)=decide (S.text.size≤S.behind)):(S.ext t c).AI k a=((S.AI k a).1,(S.AI k a).2.ext t c):=by
 unfold AI;rw[Z7 S t c _ _ h,Ox S t c _ h];split
 ·rfl
 split<;>rfl
theorem fD(S:St)(t:ByteArray)(c:Bool)(h:decide (t.size≤S.behind)=decide (S.text.size≤S.behind)):(S.ext t c).reach=S.reach.ext t c:=by
 have e1:(S.ext t c).reach=match S.cs[S.next]? with
  |none=>(S.ext t c).Ar.AO
  |some k=>if S.steps=0 then(S.die 4).ext t c else
   let r:=({S with steps:=S.steps - 1,next:=S.next+1}.ext t c).AI S.next k
   if r.1 then r.2.does k else if k.name=123 then{r.2 with next:=k.next}else r.2:=rfl
 rw[e1];unfold reach;cases S.cs[S.next]? with
 |none=>simp only;rw[Ow,Gg]
 |some k=>
  simp only;split
  ·rfl
  ·rw[Xb _ t c _ _ (by exact h)]
   simp only;rw[kT];split
   ·rfl
   split<;>rfl
theorem Tb{α:Type}(p:α→Bool)(l r:List α)(h:(l.takeWhile p).length<l.length):(l++r).takeWhile p=l.takeWhile p:=by
 induction l with
 |nil=>simp at h
 |cons x l ih=>
  rw[List.cons_append,List.takeWhile_cons,List.takeWhile_cons];cases hp:p x
  ·rfl
  ·rw[List.takeWhile_cons,hp]at h
   simp only[if_true];rw[ih (by simpa using h)]
theorem Nj(S:St)(h:S.behind≤S.text.size):S.behind≤S.Bj∧S.Bj≤S.text.size:=by
 unfold Bj;have:=(List.takeWhile_prefix (fun c:UInt8=>c.toNat !=10) (l:=S.text.data.toList.drop S.behind)).length_le;rw[List.length_drop]at this;have e:S.text.data.toList.length=S.text.size:=Array.length_toList;omega
theorem Re(S:St)(u:ByteArray)(c:Bool)(h:S.Bj<S.text.size):(S.ext (S.text++u) c).Bj=S.Bj:=by
 have e:S.text.data.toList.length=S.text.size:=Array.length_toList;have e0:(S.ext (S.text++u) c).Bj=S.behind+(((S.text++u).data.toList.drop S.behind).takeWhile (fun c=>c.toNat !=10)).length:=rfl;have hb:S.behind≤S.text.size:=by unfold Bj at h;omega
 have e1:(S.text++u).data.toList=S.text.data.toList++u.data.toList:=by simp
 rw[e0,e1,List.drop_append_of_le_length (by omega),Tb _ _ _ (by rw[List.length_drop];unfold Bj at h;omega)]
 rfl
theorem kU(S:St)(u:ByteArray)(c:Bool)(h:S.Bj<S.text.size):(S.ext (S.text++u) c).took=S.took.ext (S.text++u) c:=by
 unfold took;rw[Re S u c h];have e:(S.ext (S.text++u) c).text.size=S.text.size+u.size:=by show(S.text++u).size=_;simp
 rw[if_pos h,if_pos (by rw[e];omega)]
 rfl
theorem fE(S:St)(u:ByteArray)(c:Bool)(h:S.Bj<S.text.size):(S.ext (S.text++u) c).Θ=S.Θ:=by
 unfold Θ;rw[Re S u c h];have e1:(S.ext (S.text++u) c).text.data.toList=S.text.data.toList++u.data.toList:=by show(S.text++u).data.toList=_;simp
 have e2:(S.ext (S.text++u) c).behind=S.behind:=rfl;have e:S.text.data.toList.length=S.text.size:=Array.length_toList;have hb:S.behind≤S.text.size:=by unfold Bj at h;omega
 rw[e1,e2,List.drop_append_of_le_length (by omega),List.take_append_of_le_length (by rw[List.length_drop];omega)]
theorem Kw(S:St)(l:List Cl):(S.put l).text=S.text∧(S.put l).behind=S.behind∧(S.put l).closed=S.closed∧(S.put l).pat=S.pat∧(S.put l).hold=S.hold∧(S.put l).nl=S.nl∧(S.put l).line=S.line∧(S.put l).room=S.room∧(S.put l).steps=S.steps∧(S.put l).cs=S.cs∧(S.put l).AM=S.AM∧(S.put l).asks=S.asks∧(S.put l).next=S.next∧(S.put l).quiet=S.quiet∧(S.put l).queue=S.queue∧(S.put l).mark=S.mark:=by
 unfold put;split
 ·simp
 split<;>simp[die]
theorem Ld(l:List ByteArray):∀S:St,(l.foldl Φ S).text=S.text∧(l.foldl Φ S).behind=S.behind∧(l.foldl Φ S).closed=S.closed∧(l.foldl Φ S).pat=S.pat∧(l.foldl Φ S).hold=S.hold∧(l.foldl Φ S).nl=S.nl∧(l.foldl Φ S).line=S.line∧(l.foldl Φ S).room=S.room∧(l.foldl Φ S).steps=S.steps∧(l.foldl Φ S).cs=S.cs∧(l.foldl Φ S).AM=S.AM∧(l.foldl Φ S).asks=S.asks∧(l.foldl Φ S).next=S.next∧(l.foldl Φ S).quiet=S.quiet∧(l.foldl Φ S).mark=S.mark:=by
 induction l with
 |nil=>intro S;simp
 |cons x l ih=>
  intro S;rw[List.foldl_cons];have h:=ih (S.Φ x);have k:=Kw S (AJ (BJ x.data.toList) (C4 (-1)) []);have e:S.Φ x=S.put (AJ (BJ x.data.toList) (C4 (-1)) []):=rfl;rw[←e]at k;simp only[k]at h;exact h
end St
end M
namespace M
namespace St
structure Dl(S T:St):Prop where
 text:T.text=S.text
 behind:T.behind=S.behind
 closed:T.closed=S.closed
 nl:T.nl=S.nl
 line:T.line=S.line
 cs:T.cs=S.cs
 room:T.room=S.room
 quiet:T.quiet=S.quiet
theorem Dl.refl(S:St):Dl S S:=⟨rfl,rfl,rfl,rfl,rfl,rfl,rfl,rfl⟩
theorem Dl.trans{S T U:St}(h:Dl S T)(k:Dl T U):Dl S U:=⟨k.text.trans h.text,k.behind.trans h.behind,k.closed.trans h.closed,k.nl.trans h.nl,k.line.trans h.line,k.cs.trans h.cs,k.room.trans h.room,k.quiet.trans h.quiet⟩
theorem Dl.ite{S T U:St}{p:Prop} [Decidable p](h:p→Dl S T)(k:¬p→Dl S U):Dl S (if p then T else U):=by
 split
 ·exact h ‹_›
 ·exact k ‹_›
theorem Ky(S:St)(e:Nat):Dl S (S.die e):=⟨rfl,rfl,rfl,rfl,rfl,rfl,rfl,rfl⟩
theorem FF(S:St)(l:List Cl):Dl S (S.put l):=by
 unfold put;exact .ite (fun _=> .refl S) (fun _=> .ite (fun _=>Ky S 6) (fun _=>⟨rfl,rfl,rfl,rfl,rfl,rfl,rfl,rfl⟩))
theorem fF(l:List ByteArray):∀S:St,Dl S (l.foldl Φ S):=by
 induction l with
 |nil=>intro S;exact .refl S
 |cons x l ih=>intro S;exact(FF S _).trans (ih _)
theorem Ch(S:St):Dl S S.φ:=(fF S.queue S).trans ⟨rfl,rfl,rfl,rfl,rfl,rfl,rfl,rfl⟩
theorem El(S:St):Dl S S.Ar:=by unfold Ar;exact .ite (fun _=> .refl S) (fun _=>FF S _)
theorem Tc(S:St):Dl S S.Ak:=by unfold Ak;exact .ite (fun _=>FF S _) (fun _=>FF S _)
theorem F3(S:St):Dl S S.AO:=(Ch S).trans ⟨rfl,rfl,rfl,rfl,rfl,rfl,rfl,rfl⟩
theorem IZ(S:St):Dl S S.Am:=((El S).trans (Ch _)).trans ⟨rfl,rfl,rfl,rfl,rfl,rfl,rfl,rfl⟩
theorem Rg(S:St):Dl S S.Ae:=by
 unfold Ae;refine .ite (fun _=>F3 S) (fun _=> ?_);have h1:Dl S {S with pat:=τ S.pat (Ad S.pat) S.pat.length}:=⟨rfl,rfl,rfl,rfl,rfl,rfl,rfl,rfl⟩
 have h2:=h1.trans (Ch _);exact⟨h2.text,h2.behind,h2.closed,h2.nl,h2.line,h2.cs,h2.room,h2.quiet⟩
theorem fG(S:St)(c:Cm):Dl S (S.Bw c):=by
 unfold Bw;exact .ite (fun _=>FF S _) (fun _=> .ite (fun _=>Tc S) (fun _=> .ite (fun _=>FF S _) (fun _=> .ite (fun _=>FF S _) (fun _=>⟨rfl,rfl,rfl,rfl,rfl,rfl,rfl,rfl⟩))))
theorem Z8(S:St)(s:Lx):Dl S (S.subst s):=by
 unfold subst;simp only;refine .ite (fun _=> .refl S) (fun _=> .ite (fun _=> .ite (fun _=> ?_) (fun _=>⟨rfl,rfl,rfl,rfl,rfl,rfl,rfl,rfl⟩)) (fun _=>Ky S 5));have h1:Dl S {S with pat:=Au S.pat s (CP s.ex (AL S.pat)) 1 0,mark:=true}:=⟨rfl,rfl,rfl,rfl,rfl,rfl,rfl,rfl⟩
 exact h1.trans (FF _ _)
theorem Xc(S:St)(c:Cm):Dl S (S.change c):=by
 unfold change;simp only;refine .ite (fun _=>⟨rfl,rfl,rfl,rfl,rfl,rfl,rfl,rfl⟩) (fun _=> .ite (fun _=>⟨rfl,rfl,rfl,rfl,rfl,rfl,rfl,rfl⟩) (fun _=> .ite (fun _=>⟨rfl,rfl,rfl,rfl,rfl,rfl,rfl,rfl⟩) (fun _=> .ite (fun _=> .ite (fun _=>⟨rfl,rfl,rfl,rfl,rfl,rfl,rfl,rfl⟩) (fun _=>Ky S 5)) (fun _=> .ite (fun _=> .ite (fun _=>⟨rfl,rfl,rfl,rfl,rfl,rfl,rfl,rfl⟩) (fun _=>Ky S 5)) (fun _=> .ite (fun _=>Z8 S _) (fun _=>⟨rfl,rfl,rfl,rfl,rfl,rfl,rfl,rfl⟩))))))
theorem fH(S:St)(c:Cm):Dl S (S.lead c):=by
 unfold lead;refine .ite (fun _=>F3 S) (fun _=> .ite (fun _=>Rg S) (fun _=> .ite (fun _=>(FF S _).trans (F3 _)) (fun _=> .ite (fun _=>⟨rfl,rfl,rfl,rfl,rfl,rfl,rfl,rfl⟩) (fun _=> .ite (fun _=>⟨rfl,rfl,rfl,rfl,rfl,rfl,rfl,rfl⟩) (fun _=> .ite (fun _=>IZ S) (fun _=> .ite (fun _=>⟨rfl,rfl,rfl,rfl,rfl,rfl,rfl,rfl⟩) (fun _=> .ite (fun _=>⟨rfl,rfl,rfl,rfl,rfl,rfl,rfl,rfl⟩) (fun _=> .refl S))))))))
theorem fI(S:St)(c:Cm):Dl S (S.does c):=by
 unfold does;exact .ite (fun _=>fG S c) (fun _=> .ite (fun _=>Xc S c) (fun _=> .ite (fun _=>fH S c) (fun _=> .refl S)))
theorem Xd(S:St)(k:Nat)(c:Cm):Dl S (S.AG k c).2:=by
 unfold AG;split<;>exact⟨rfl,rfl,rfl,rfl,rfl,rfl,rfl,rfl⟩
theorem VR(S:St)(k:Nat)(c:Cm):Dl S (S.AI k c).2:=by
 unfold AI;split
 ·exact .refl S
 split
 ·exact .refl S
 ·exact Xd S k c
theorem HU(S:St):Dl S S.reach:=by
 unfold reach;cases S.cs[S.next]? with
 |none=>exact(El S).trans (F3 _)
 |some c=>
  simp only;refine .ite (fun _=>Ky S 4) (fun _=> ?_);have h0:Dl S {S with steps:=S.steps - 1,next:=S.next+1}:=⟨rfl,rfl,rfl,rfl,rfl,rfl,rfl,rfl⟩
  have h1:=h0.trans (VR _ S.next c);refine .ite (fun _=>h1.trans (fI _ c)) (fun _=> .ite (fun _=>h1.trans ⟨rfl,rfl,rfl,rfl,rfl,rfl,rfl,rfl⟩) (fun _=>h1))
structure uY(S:St):Prop where
 closed:S.closed=false
 beh:S.behind≤S.text.size
 AAX:S.asks=0→S.behind<S.text.size
def Aq(S:St):St:=(if S.asks=2 then{S with asks:=0}.Ar else{S with asks:=0}).φ
def Dv(S:St):List Cl:=if S.asks=3 then AJ S.pat (C4 S.nl) S.Θ else S.Θ
theorem IA(S:St):S.take=(if S.fits S.Dv.length then
  {S.Aq with nl:=S.took.nl,behind:=S.took.behind,line:=S.line+1,mark:=false,pat:=S.Dv}
  else St.die {S.Aq with nl:=S.took.nl,behind:=S.took.behind,line:=S.line+1,mark:=false} 5):=by
 have key:∀T:St,T.text=S.text→T.behind=S.behind→T.pat=S.pat→T.nl=S.nl→T.line=S.line→T.room=S.room→
   (if({T.took with line:=T.line+1,mark:=false}:St).fits (if S.asks=3 then AJ T.pat (C4 T.nl) T.Θ else T.Θ).length then({({T.took with line:=T.line+1,mark:=false}:St)with pat:=(if S.asks=3 then AJ T.pat (C4 T.nl) T.Θ else T.Θ)}:St)else({T.took with line:=T.line+1,mark:=false}:St).die 5)=
   (if S.fits (if S.asks=3 then AJ S.pat (C4 S.nl) S.Θ else S.Θ).length then{T with nl:=S.took.nl,behind:=S.took.behind,line:=S.line+1,mark:=false,pat:=(if S.asks=3 then AJ S.pat (C4 S.nl) S.Θ else S.Θ)}else St.die {T with nl:=S.took.nl,behind:=S.took.behind,line:=S.line+1,mark:=false} 5):=by
  intro T h1 h2 h3 h4 h5 h6;have e1:T.Bj=S.Bj:=by unfold Bj;rw[h1,h2]
  have e2:T.Θ=S.Θ:=by unfold Θ;rw[e1,h1,h2]
  have e3:T.took= {T with nl:=S.took.nl,behind:=S.took.behind}:=by
   unfold took;rw[e1,h1];split<;>rfl
  simp only[e2,e3,h3,h4,h5,fits,h6]
 unfold take Aq Dv;simp only;have hk:∀T:St,T.text=S.text→T.behind=S.behind→T.pat=S.pat→T.nl=S.nl→T.line=S.line→T.room=S.room→T.φ.text=S.text∧T.φ.behind=S.behind∧T.φ.pat=S.pat∧T.φ.nl=S.nl∧T.φ.line=S.line∧T.φ.room=S.room:=by
  intro T h1 h2 h3 h4 h5 h6;have k:=Ld T.queue T;exact⟨k.1.trans h1,k.2.1.trans h2,k.2.2.2.1.trans h3,k.2.2.2.2.2.1.trans h4,k.2.2.2.2.2.2.1.trans h5,k.2.2.2.2.2.2.2.1.trans h6⟩
 have hq:∀T:St,T.text=S.text→T.behind=S.behind→T.pat=S.pat→T.nl=S.nl→T.line=S.line→T.room=S.room→T.Ar.text=S.text∧T.Ar.behind=S.behind∧T.Ar.pat=S.pat∧T.Ar.nl=S.nl∧T.Ar.line=S.line∧T.Ar.room=S.room:=by
  intro T h1 h2 h3 h4 h5 h6;unfold Ar;split
  ·exact⟨h1,h2,h3,h4,h5,h6⟩
  ·have k:=Kw T (AJ T.pat (C4 T.nl) [])
   exact⟨k.1.trans h1,k.2.1.trans h2,k.2.2.2.1.trans h3,k.2.2.2.2.2.1.trans h4,k.2.2.2.2.2.2.1.trans h5,k.2.2.2.2.2.2.2.1.trans h6⟩
 split
 ·obtain⟨a1,a2,a3,a4,a5,a6⟩ :=hq {S with asks:=0} rfl rfl rfl rfl rfl rfl
  obtain⟨b1,b2,b3,b4,b5,b6⟩ :=hk _ a1 a2 a3 a4 a5 a6;exact key _ b1 b2 b3 b4 b5 b6
 ·obtain⟨b1,b2,b3,b4,b5,b6⟩ :=hk {S with asks:=0} rfl rfl rfl rfl rfl rfl
  exact key _ b1 b2 b3 b4 b5 b6
end St
end M
namespace M
structure SL where
 out:List Rec
 m:Nat
 d:Nat
 s:List UInt8
def SL.fin(S:SL):List Rec:=S.out++(DR S.m++(CU S.d++Cp S.s))
def SL.add(S:SL)(r:Rec):SL:=
 if r.kind=0 then(if 0<S.d∨S.s≠ []then⟨S.fin,r.n.toNat,0,[]⟩else⟨S.out,S.m+r.n.toNat,S.d,S.s⟩)
 else if r.kind=1 then⟨S.out,S.m,S.d+r.n.toNat,S.s⟩else⟨S.out,S.m,S.d,S.s++r.s.data.toList⟩
def gS(m d:Nat)(s:List UInt8)(es:List Ev):List Rec:=if d=0∧s= []then EZ (nb 0 [] m es)else DR m++EZ (nb d s 0 es)
def SL.Is(S:SL)(es:List Ev):Prop:=∀rest,norm (es++rest)=S.out++gS S.m S.d S.s rest
theorem SL.zR:SL.Is ⟨[],0,0,[]⟩ []:=by intro rest;simp[gS,norm]
theorem ABi(es:List Ev)(n:Nat):∀d s m,nb d s m (List.replicate n .k++es)=nb d s (m+n) es:=by
 induction n with
 |zero=>intro d s m;rfl
 |succ n ih=>intro d s m;rw[List.replicate_succ,List.cons_append,nb,ih];congr 1;omega
theorem zT(es:List Ev)(n:Nat):∀d s,nb d s 0 (List.replicate n .d++es)=nb (d+n) s 0 es:=by
 induction n with
 |zero=>intro d s;rfl
 |succ n ih=>intro d s;rw[List.replicate_succ,List.cons_append,nb,if_pos rfl,ih];congr 1;omega
theorem zU(es:List Ev)(t:List UInt8):∀d s,nb d s 0 (t.map .r++es)=nb d (s++t) 0 es:=by
 induction t with
 |nil=>intro d s;simp
 |cons c t ih=>intro d s;rw[List.map_cons,List.cons_append,nb,if_pos rfl,ih];simp
theorem tD(es:List Ev):∀d s m,0<m→EZ (nb d s m es)=CU d++(Cp s++EZ (nb 0 [] m es)):=by
 induction es with
 |nil=>
  intro d s m hm;have h1:¬(d=0∧s= []∧m=0):=by omega
  simp only[nb];rw[if_neg h1,if_neg (by simp;omega)];simp[EZ,NW,CU,Cp]
 |cons e es ih=>
  intro d s m hm;have h0:¬m=0:=by omega
  cases e with
  |k=>simp only[nb];exact ih d s (m+1) (by omega)
  |d=>simp only[nb];rw[if_neg h0,if_neg h0];simp[EZ,NW,CU,Cp]
  |r c=>simp only[nb];rw[if_neg h0,if_neg h0];simp[EZ,NW,CU,Cp]
theorem tE(m d:Nat)(s:List UInt8)(n:Nat)(hn:0<n)(es:List Ev):gS m d s (List.replicate n .d++es)=gS m (d+n) s es:=by
 have h2:¬(d+n=0∧s= []):=by omega
 unfold gS;rw[if_neg h2];split
 ·rename_i h
  obtain⟨rfl,rfl⟩ :=h;obtain⟨n,rfl⟩ :∃k,n=k+1:=⟨n - 1,by omega⟩
  rw[List.replicate_succ,List.cons_append];simp only[nb]
  by_cases hm:m=0
  ·rw[if_pos hm,zT,hm,show 0+1+n=0+(n+1)by omega];simp[DR]
  ·rw[if_neg hm,zT,show 1+n=0+(n+1)by omega];simp[EZ,NW,CU,Cp]
 ·rw[zT]
theorem tF(m d:Nat)(s t:List UInt8)(ht:t≠ [])(es:List Ev):gS m d s (t.map .r++es)=gS m d (s++t) es:=by
 have h2:¬(d=0∧s++t= []):=by intro h;exact ht (List.append_eq_nil_iff.1 h.2).2
 unfold gS;rw[if_neg h2];split
 ·rename_i h
  obtain⟨rfl,rfl⟩ :=h;obtain⟨c,t,rfl⟩ :∃c u,t=c::u:=by cases t with|nil=>exact absurd rfl ht|cons c u=>exact⟨c,u,rfl⟩
  rw[List.map_cons,List.cons_append];simp only[nb]
  by_cases hm:m=0
  ·rw[if_pos hm,zU,hm];simp[DR]
  ·rw[if_neg hm,zU];simp[EZ,NW,CU,Cp]
 ·rw[zU]
theorem tG(m d:Nat)(s:List UInt8)(n:Nat)(hn:0<n)(es:List Ev):
  gS m d s (List.replicate n .k++es)=if 0<d∨s≠ []then DR m++(CU d++(Cp s++gS n 0 [] es))else gS (m+n) d s es:=by
 unfold gS;split
 ·rename_i h
  rw[ABi,if_neg (by rintro(h1|h1);·omega
                    ·exact h1 h.2)]
 ·rename_i h
  rw[ABi,Nat.zero_add,tD _ _ _ _ hn,if_pos,if_pos ⟨rfl,rfl⟩]
  by_cases hd:d=0
  ·exact .inr fun hs=>h ⟨hd,hs⟩
  ·exact .inl (by omega)
theorem zV(m d:Nat)(s:List UInt8):gS m d s []=DR m++(CU d++Cp s):=by
 unfold gS;split
 ·rename_i h
  obtain⟨rfl,rfl⟩ :=h;simp only[nb];split
  ·rename_i h;simp[h.2.2,DR,CU,Cp,EZ]
  ·simp[EZ,NW,CU,Cp]
 ·rename_i h
  simp only[nb];rw[if_neg (fun g=>h ⟨g.1,g.2.1⟩)];simp[EZ,NW,DR]
theorem SL.nu{S:SL}{es:List Ev}(h:S.Is es):S.fin=norm es:=by
 have:=h [];rw[List.append_nil,zV]at this;rw[this];rfl
theorem SL.zW{S:SL}{es:List Ev}(h:S.Is es){r:Rec}(hr:H3 r=true):(S.add r).Is (es++KI r):=by
 intro rest;have hk:=(CO r).1 hr;have hl:=Δ r.s;rw[List.append_assoc,h];unfold SL.add KI
 by_cases h0:r.kind=0
 ·simp only[if_pos h0]
  rw[tG _ _ _ _ (by omega)];split
  ·simp[SL.fin]
  ·rfl
 ·simp only[if_neg h0]
  by_cases h1:r.kind=1
  ·simp only[if_pos h1]
   rw[tE _ _ _ _ (by omega)]
  ·simp only[if_neg h1]
   rw[tF _ _ _ _ (by intro h2;rw[h2]at hl;simp at hl;omega)]
theorem zX(m:Nat):DG (DR m)=m∧DH (DR m)=m:=by
 unfold DR;split
 ·rename_i h;simp[h,DG,DH]
 ·simp[DG,DH,ZD,cN]
theorem zY(m:Nat):DG (CU m)=0∧DH (CU m)=m:=by
 unfold CU;split
 ·rename_i h;simp[h,DG,DH]
 ·simp[DG,DH,ZD,cN]
theorem zZ(s:List UInt8):DG (Cp s)=s.length∧DH (Cp s)=0:=by
 unfold Cp;split
 ·rename_i h;simp[h,DG,DH]
 ·simp[DG,DH,ZD,cN]
theorem SL.lens(S:SL):DG S.fin=DG S.out+S.m+S.s.length∧DH S.fin=DH S.out+S.m+S.d:=by
 unfold SL.fin;simp only[Ph,Pj,zX,zY,zZ];omega
end M
namespace M
def Fq:List Ev→List UInt8→List UInt8→Prop
 | [],a,b=>a= []∧b= []
 | .k::es,a,b=>∃c a' b',a=c::a'∧b=c::b'∧Fq es a' b'
 | .d::es,a,b=>∃c b',b=c::b'∧Fq es a b'
 | .r c::es,a,b=>∃a',a=c::a'∧Fq es a' b
end M
end Go.Proofs.YtlppphmnegdhoabGreatDoor
namespace Go.Proofs.YtlppphmnegdhoabGreatDoor
open M
namespace M
def KG(m:Mk)(r:List Mk×List UInt8):List Mk×List UInt8:=(m::r.1,r.2)
def Ah:List UInt8→List Mk×List UInt8
 | []=>([],[])
 | [c]=>if c.toNat=47∨c.toNat=10∨c.toNat=92 then([],[c])else([⟨c.toNat,true⟩],[])
 |c::d::t=>if c.toNat=47∨c.toNat=10 then([],c::d::t)else if c.toNat=92 then(if d.toNat=10 then([],c::d::t)else KG ⟨Iu d,false⟩ (Ah t))else KG ⟨c.toNat,true⟩ (Ah (d::t))
theorem Iv(c:UInt8)(t:List UInt8)(h:c.toNat=47∨c.toNat=10):Ah (c::t)=([],c::t):=by
 cases t with
 |nil=>rw[Ah,if_pos (by omega)]
 |cons d t=>rw[Ah,if_pos h]
theorem Iw(c:UInt8)(t:List UInt8)(h:c.toNat≠47)(h1:c.toNat≠10)(h2:c.toNat≠92):Ah (c::t)=KG ⟨c.toNat,true⟩ (Ah t):=by
 cases t with
 |nil=>show(if c.toNat=47∨c.toNat=10∨c.toNat=92 then(([],[c]):List Mk×List UInt8)else([⟨c.toNat,true⟩],[]))=_;rw[if_neg (by omega)];rfl
 |cons d t=>rw[Ah,if_neg (by omega),if_neg h2]
theorem U1(c d:UInt8)(t:List UInt8)(h:c.toNat=92)(h1:d.toNat≠10):Ah (c::d::t)=KG ⟨Iu d,false⟩ (Ah t):=by
 rw[Ah,if_neg (by omega),if_pos h,if_neg h1]
theorem UB(c d:UInt8)(t:List UInt8)(h:c.toNat=92)(h1:d.toNat=10):Ah (c::d::t)=([],c::d::t):=by
 rw[Ah,if_neg (by omega),if_pos h,if_pos h1]
theorem U2(c:UInt8)(h:c.toNat=92):Ah [c]=([],[c]):=by
 rw[Ah,if_pos (by omega)]
def CH(t:List UInt8)(c:Nat):Bool:=match t with
 | []=>false
 |d::_=>d.toNat==c
def Dh(m:List Mk)(c:Nat):Bool:=match m with
 | []=>false
 |k::_=>k.is c
theorem JY(t:List UInt8)(c:Nat)(m:List Mk)(r:List UInt8)(h:Ah t=(m,r))(Fa:c≠47)(Ff:c≠10)(jJ:c≠92):
  CH t c=Dh m c∧(CH t c=true→∃k m',m=k::m'∧Ah (t.drop 1)=(m',r)):=by
 match t with
 | []=>rw[Ah]at h;simp at h;rw[h.1];exact⟨rfl,fun e=>by cases e⟩
 |d::t=>
  by_cases e1:d.toNat=47∨d.toNat=10
  ·rw[Iv d t e1]at h
   simp at h;have e:CH (d::t) c=false:=by show(d.toNat==c)=false;simp;omega
   rw[h.1,e];exact⟨rfl,fun e=>by cases e⟩
  ·by_cases e2:d.toNat=92
   ·have e:CH (d::t) c=false:=by show(d.toNat==c)=false;simp;omega
    rw[e];refine⟨?_,fun e=>by cases e⟩
    match t with
    | []=>rw[U2 d e2]at h;simp at h;rw[h.1];rfl
    |f::t=>
     by_cases e3:f.toNat=10
     ·rw[UB d f t e2 e3]at h;simp at h;rw[h.1];rfl
     ·rw[U1 d f t e2 e3]at h
      simp[KG]at h;rw[←h.1];rfl
   ·rw[Iw d t (by omega) (by omega) e2]at h
    simp[KG]at h;rw[←h.1];refine⟨?_,fun _=>⟨_,_,rfl,?_⟩⟩
    ·show(d.toNat==c)=(true && d.toNat==c)
     rw[Bool.true_and]
    ·rw[←h.2];rfl
theorem Ix(t:List UInt8)(m:List Mk)(r:List UInt8)(h:Ah t=(m,r)):CH t 47=true↔(m= []∧∃r',r=47::r'∧t=47::r'):=by
 match t with
 | []=>rw[Ah]at h;simp at h;rw[h.1,h.2];simp[CH]
 |d::t=>
  have hd:∀d:UInt8,d.toNat=47→d=47:=fun d h=>UInt8.toNat_inj.1 h
  constructor
  ·intro e
   have e1:d.toNat=47:=by simpa[CH]using e
   rw[Iv d t (.inl e1)]at h;simp at h;rw[h.1,←h.2,hd d e1];exact⟨rfl,t,rfl,rfl⟩
  ·rintro⟨_,r',_,e⟩
   simp at e;rw[e.1];rfl
theorem jK(t:List UInt8):∀k∈(Ah t).1,k.b<256:=by
 match t with
 | []=>intro k h;simp[Ah]at h
 | [c]=>
   intro k h;rw[Ah]at h;split at h
   ·simp at h
   ·simp at h;rw[h];exact c.toNat_lt
 |c::d::t=>
  intro k h;rw[Ah]at h;split at h
  ·simp at h
  ·split at h
   ·split at h
    ·simp at h
    ·simp[KG]at h
     rcases h with h|h
     ·rw[h]
      show Iu d<256;unfold Iu;have:=d.toNat_lt;split<;>omega
     ·exact jK t k h
   ·simp[KG]at h
    rcases h with h|h
    ·rw[h];exact c.toNat_lt
    ·exact jK (d::t) k h
theorem Q5(t:List UInt8)(hn:∀c∈t,c.toNat≠10):Ψ t=match(Ah t).2 with
  |47::r=>some ((Ah t).1,r)
  |_=>none:=by
 have hd:∀d:UInt8,d.toNat=47→d=47:=fun d h=>UInt8.toNat_inj.1 h
 match t with
 | []=>simp[Ψ,Ah]
 | [c]=>
   by_cases e1:c.toNat=47
   ·rw[Iv c [] (.inl e1),MY c [] e1,hd c e1];rfl
   ·by_cases e2:c.toNat=92
    ·rw[U2 c e2,Wt c e2]
     have:c≠47:=fun e=>e1 (by rw[e];rfl)
     split
     ·rename_i h;simp at h;exact absurd h.1 this
     ·rfl
    ·rw[Iw c [] e1 (hn c (by simp)) e2,MZ c [] e1 e2]
     simp[Ψ,Ah,KG]
 |c::d::t=>
  by_cases e1:c.toNat=47
  ·rw[Iv c _ (.inl e1),MY c _ e1,hd c e1];rfl
  ·by_cases e2:c.toNat=92
   ·rw[U1 c d t e2 (hn d (by simp)),Ws c d t e2,Q5 t (fun x hx=>hn x (by simp[hx]))]
    simp only[KG];split<;>simp_all[Wr]
   ·rw[Iw c _ e1 (hn c (by simp)) e2,MZ c _ e1 e2,Q5 (d::t) (fun x hx=>hn x (List.mem_cons_of_mem _ hx))]
    simp only[KG];split<;>simp_all[Wr]
def Di:List Mk→Option (Nat×Nat×List Mk)
 | []=>none
 | [k]=>if k.is 93 || k.is 45 then none else some (k.b,k.b,[])
 | [k,d]=>if k.is 93 || k.is 45 then none else if d.is 45 then none else some (k.b,k.b,[d])
 |k::d::h::v=>if k.is 93 || k.is 45 then none else if d.is 45 then(if h.is 93 || h.is 45 || decide (h.b<k.b)then none else some (k.b,h.b,v))else some (k.b,k.b,d::h::v)
theorem eA(m:List Mk)(lo hi:Nat)(m':List Mk)(h:Di m=some (lo,hi,m')):m'.length<m.length:=by
 match m with
 | []=>simp[Di]at h
 | [k]=>rw[Di]at h;split at h<;>simp at h;rw[←h.2.2];simp
 | [k,d]=>
   rw[Di]at h;split at h
   ·cases h
   ·split at h<;>simp at h
    rw[←h.2.2];simp
 |k::d::e::v=>
  rw[Di]at h;split at h
  ·cases h
  ·split at h
   ·split at h<;>simp at h
    rw[←h.2.2];simp;omega
   ·simp at h;rw[←h.2.2];simp
theorem E6(m:List Mk)(acc:List (Nat×Nat)):υ m acc=match Di m with
  |some (lo,hi,m')=>υ m' (acc++ [(lo,hi)])
  |none=>match m with
   | []=>none
   |k::m'=>if k.is 93 then(if acc= []then none else some (acc,m'))else none:=by
 match m with
 | []=>simp[υ,Di]
 | [k]=>
   cases h1:k.is 93
   ·cases h2:k.is 45
    all_goals
     simp[υ,Di,h1,h2]
   ·simp[υ,Di,h1]
 | [k,d]=>
   cases h1:k.is 93
   ·cases h2:k.is 45
    ·cases h3:d.is 45
     all_goals
      rw[υ];simp[Di,h1,h2,h3]
    ·rw[υ];simp[Di,h1,h2]
   ·rw[υ];simp[Di,h1]
 |k::d::e::v=>
  cases h1:k.is 93
  ·cases h2:k.is 45
   ·cases h3:d.is 45
    ·rw[υ];simp[Di,h1,h2,h3]
    ·cases h4:(e.is 93 || e.is 45 || decide (e.b<k.b))
     all_goals
      rw[υ];simp only[Di,h1,h2,h3,h4];rfl
   ·rw[υ];simp[Di,h1,h2]
  ·rw[υ];simp[Di,h1]
end M
end Go.Proofs.YtlppphmnegdhoabGreatDoor
namespace Go.Proofs.YtlppphmnegdhoabGreatDoor
open Go.RowKit
open M
theorem Ap(s:ByteArray)(p:Nat)(h:p<s.size):s.data.toList.drop p=s[p]::s.data.toList.drop (p+1):=by
 rw[List.drop_eq_getElem_cons (by simpa using h)];rfl
theorem ι{a b:Bool}(h:a=b):Ending.returned (.bool a)= .returned (.bool b):=by rw[h]
theorem Dy(s:ByteArray):s.toList.isEmpty=decide (s.size=0):=by
 have h:s.toList.length=s.size:=by rw[ByteArray.toList_eq];exact Δ s
 rw[Bool.eq_iff_iff,List.isEmpty_iff,decide_eq_true_iff,←h,List.length_eq_zero_iff]
theorem Q6{W w1:World}(hb:Below W.heap.size W w1):(∀b o,b<W.heap.size→w1.cell? ⟨b,o,none⟩ =W.cell? ⟨b,o,none⟩)∧(∀b o,b<W.heap.size→w1.frozen? ⟨b,o,none⟩ =W.frozen? ⟨b,o,none⟩):=
 ⟨fun b o h=>hb.cell (p:=⟨b,o,none⟩) h,fun b o h=>hb.frozen (p:=⟨b,o,none⟩) h⟩
end Go.Proofs.YtlppphmnegdhoabGreatDoor
namespace Go.Proofs.YtlppphmnegdhoabGreatDoor
open Go.Proofs.Tryz
open Go.RowKit
open M
theorem Tryz.jN:(prog.info? 69).map (fun i=>(i.zero,i.size,i.bytes))=some (some (.agg #[.int .i64 0,.int .i64 0,.string ⟨#[]⟩]),3,32):=by kernel_rfl
def recC(r:M.Rec):List Value:= [.int .i64 r.kind,.int .i64 r.n,.string r.s]
def C6(l:List M.Rec):List Value:=(l.map recC).flatten
theorem JZ(l:List M.Rec)(r:M.Rec):C6 (l++ [r])=C6 l++recC r:=by simp[C6]
theorem Ξ{w w':World}{base:Nat}{e:TypeId}{size:Nat}{v:Value}{n:Nat}{xs:List Value}(h:w.ownsRow base e size v n xs)(hb:Below w.heap.size w w'):w'.ownsRow base e size v n xs:=
 h.kept (row:=none) ⟨hb.os,hb.tape,hb.output,hb.size,fun k hk _=>hb.block k hk⟩ (by cases v.ownBlock<;>simp)
theorem NL(w:World)(r:M.Rec)(t:TypeId):∀j u,(recC r)[j]? =some u→(w.alloc (.cells #[.int .i64 r.kind,.int .i64 r.n,.string r.s] t)).cell? ((⟨w.heap.size,0,none⟩ :Addr).add j)=some u:=by
 intro j u h
 match j,h with
 |0,h=>simp[recC]at h;subst h;simp[Addr.add]
 |1,h=>simp[recC]at h;subst h;simp[Addr.add]
 |2,h=>simp[recC]at h;subst h;simp[Addr.add]
 |n+3,h=>simp[recC]at h
theorem Iy(r:M.Rec):∀u∈recC r,u.oneCell'=true:=by
 intro u h;simp[recC]at h;rcases h with rfl|rfl|rfl<;>rfl
end Go.Proofs.YtlppphmnegdhoabGreatDoor
namespace Go.Proofs.YtlppphmnegdhoabGreatDoor
open Go.RowKit
open M
theorem AH{w:World}{base uQ:Nat}{e:TypeId}{size:Nat}{v:Value}{n:Nat}{xs:List Value}(h:w.ownsRow base e size v n xs)(hb:uQ≤base):w.ownsRow uQ e size v n xs:=by
 obtain⟨h1,h2| ⟨g,cap,cur,h3,h4,h5⟩⟩ :=h
 ·exact⟨h1,.inl h2⟩
 ·exact⟨h1,.inr ⟨g,cap,cur,h3,by omega,h5⟩⟩
end Go.Proofs.YtlppphmnegdhoabGreatDoor
namespace Go.Proofs.YtlppphmnegdhoabGreatDoor
open Go.Proofs.Tryz
open Go.RowKit
open M
theorem C3(a b:ByteArray):(a++b).data.toList=a.data.toList++b.data.toList:=by simp[ByteArray.data_append]
theorem UC(x:Nat)(h:128≤x)(hx:x<2097152):EY x= [UInt8.ofNat (128+x % 128)]++EY (x / 128):=by
 unfold EY;rw[if_neg (by omega)]
 by_cases h2:x<16384
 ·rw[if_pos h2,if_pos (by omega)];rfl
 ·rw[if_neg h2,if_neg (by omega),if_pos (by omega)]
  have e:x / 16384=x / 128 / 128:=by omega
  rw[e];rfl
theorem NM(a:Int):∃t:ByteArray,t.data.toList= [UInt8.ofNat a.toNat]∧∀u:World,(convert 151 9 (.slice (some ⟨u.heap.size,0,none⟩) 1 1)).run prog (u.alloc (.cells #[.int .u8 a] 5))= .ok (.string t) (u.alloc (.cells #[.int .u8 a] 5)):=by
 refine⟨strOfNums [a],rfl,fun u=> ?_⟩;refine run_convert_bytes_arg _ 151 5 underlying151 underlying5 _ 0 1 1 [a] rfl (fun i hi=> ?_) 9 underlying9;obtain rfl:i=0:=by omega
 simp
theorem Wu(a b:Int):∃t:ByteArray,t.data.toList= [UInt8.ofNat a.toNat,UInt8.ofNat b.toNat]∧∀u:World,(convert 151 9 (.slice (some ⟨u.heap.size,0,none⟩) 2 2)).run prog (u.alloc (.cells #[.int .u8 a,.int .u8 b] 5))= .ok (.string t) (u.alloc (.cells #[.int .u8 a,.int .u8 b] 5)):=by
 refine⟨strOfNums [a,b],rfl,fun u=> ?_⟩;refine run_convert_bytes_arg _ 151 5 underlying151 underlying5 _ 0 2 2 [a,b] rfl (fun i hi=> ?_) 9 underlying9;obtain rfl|rfl:i=0∨i=1:=by omega
 ·simp
 ·simp
theorem Ma(v:Nat)(w:World)(hv:v<65536):
  Calls prog 120 #[.int .i64 v] w fun e w'=>(∃t:ByteArray,e= .returned (.string t)∧t.data.toList=Lo v)∧Below w.heap.size w w':=by
 obtain⟨t,ht,hr⟩ :=Wu ((v:Int) / 256) ((v:Int) % 256);have HT:Hid (t.data.toList=Lo v):=by
  show t.data.toList=Lo v;have e1:((v:Int) / 256).toNat=v / 256:=by omega
  have e2:((v:Int) % 256).toNat=v % 256:=by omega
  rw[ht,Lo,e1,e2]
 clear ht
 go_enter func120,ntmps120
 go_wp2;go_ret;exact⟨⟨t,rfl,HT.out⟩,ζ.alloc δ _⟩
theorem Od(v:Nat)(w:World)(hv:v<65536):
  Calls prog 129 #[.int .i64 v] w fun e w'=>(∃t:ByteArray,e= .returned (.string t)∧t.data.toList=Lo v)∧Below w.heap.size w w':=by
 obtain⟨t,ht,hr⟩ :=Wu ((v:Int) / 256) ((v:Int) % 256);have HT:Hid (t.data.toList=Lo v):=by
  show t.data.toList=Lo v;have e1:((v:Int) / 256).toNat=v / 256:=by omega
  have e2:((v:Int) % 256).toNat=v % 256:=by omega
  rw[ht,Lo,e1,e2]
 clear ht
 go_enter func129,ntmps129
 go_wp2;go_ret;exact⟨⟨t,rfl,HT.out⟩,ζ.alloc δ _⟩
theorem IP(v:Nat)(w:World)(hv:v<2097152):
  Calls prog 119 #[.int .i64 v] w fun e w'=>(∃t:ByteArray,e= .returned (.string t)∧t.data.toList=EY v)∧Below w.heap.size w w':=by
 go_enter func119,ntmps119
 go_wp2
 go_loopw [0,3] (fun vv t wr=>∃(x:Nat)(s:ByteArray),vv= .int .i64 x∧t= .string s∧x<2097152∧Hid (s.data.toList++EY x=EY v)∧(s.size=0∨s.size=1∧x<16384∨s.size=2∧x<128)∧Below w.heap.size w wr) (fun vv _ _=>(intOf vv).toNat)
 case atStart=>exact⟨v,⟨#[]⟩,rfl,rfl,hv,rfl,.inl rfl,ζ⟩
 case round=>
  obtain⟨x,s,rfl,rfl,hx,H,EV,hb⟩ :=hrel
  by_cases Ac:x<128
  ·obtain⟨t,ht,hr⟩ :=NM (x:Int)
   have LV:=hr wr;clear hr;have Q7:t.size=1:=by rw[←Δ,ht];rfl
   have hss:s.size+t.size≤9223372036854775807:=by omega
   have HT:Hid ((s++t).data.toList=EY v):=by
    show(s++t).data.toList=EY v;rw[C3,ht,←H.out];simp[EY,Ac]
   clear ht Q7;go_wp2;go_ret;exact⟨⟨_,rfl,HT.out⟩,hb.alloc hb.size _⟩
  ·obtain⟨t,ht,hr⟩ :=NM (128+(x:Int) % 128)
   have LV:=hr wr;clear hr;have Q7:t.size=1:=by rw[←Δ,ht];rfl
   have hss:s.size+t.size≤9223372036854775807:=by omega
   have HT:Hid ((s++t).data.toList++EY (x / 128)=EY v):=by
    show(s++t).data.toList++EY (x / 128)=EY v;have e1:(128+(x:Int) % 128).toNat=128+x % 128:=by omega
    rw[C3,ht,←H.out,e1,List.append_assoc]
    congr 1
    exact(UC x (by omega) hx).symm
   have HS:Hid ((s++t).size=s.size+1):=by
    show(s++t).size=s.size+1;rw[←Δ,C3,List.length_append,Δ,Δ,Q7]
   clear ht Q7;go_wp2
   go_roundw
   case rel=>exact⟨x / 128,s++t,by go_num,rfl,by omega,HT.out,by rw[HS.out];omega,hb.alloc hb.size _⟩
   case measure=>simp[intOf];omega
end Go.Proofs.YtlppphmnegdhoabGreatDoor
