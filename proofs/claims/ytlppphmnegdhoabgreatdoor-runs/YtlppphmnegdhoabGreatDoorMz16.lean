import Derived.Test.YtlppphmnegdhoabGreatDoorMz15
set_option maxRecDepth 100000
set_option linter.unusedVariables false
namespace Go.Proofs.YtlppphmnegdhoabGreatDoor
namespace M
structure Gl(D E:DS):Prop where
 text:E.text=D.text
 closed:E.closed=D.closed
 quiet:E.quiet=D.quiet
 steps:E.steps=D.steps
 room:E.room=D.room
 used:D.used≤E.used
 at':D.at'≤E.at'
 AM:E.AM.length=D.AM.length
 line:D.line≤E.line∧E.line+D.at'≤D.line+E.at'
theorem Gw.gl{D E:DS}(s:Gw D E):Gl D E:=⟨s.text,s.closed,s.quiet,s.steps,s.room,by rw[s.used];exact δ,s.at',s.AM,s.line⟩
theorem Gl.trans{D E F:DS}(h:Gl D E)(g:Gl E F):Gl D F:=⟨g.text.trans h.text,g.closed.trans h.closed,g.quiet.trans h.quiet,g.steps.trans h.steps,g.room.trans h.room,Nat.le_trans h.used g.used,Nat.le_trans h.at' g.at',g.AM.trans h.AM,by have:=h.line;have:=g.line;omega⟩
theorem s9(D:DS):Gl D {D with used:=D.used+1}:=⟨rfl,rfl,rfl,rfl,rfl,Nat.le_succ _,δ,rfl,⟨δ,δ⟩⟩
theorem Gp(D:DS)(k:Nat)(c:Cm):Gl D (D.step k c).1∧(D.step k c).1.used=D.used+1:=⟨(s9 D).trans (WE D k c).gl,(WE D k c).used⟩
theorem Hn(cs:List Cm):∀(f:Nat)(D:DS)(k:Nat),Gl D (DS.Bd cs f D k).1∧(k<cs.length→(DS.Bd cs f D k).1.state=0→D.used<(DS.Bd cs f D k).1.used)∧(¬k<cs.length→(DS.Bd cs f D k).2=false)
 |0,D,k=>by
  rw[DS.Bd];split
  ·exact⟨⟨rfl,rfl,rfl,rfl,rfl,δ,δ,rfl,⟨δ,δ⟩⟩,fun _ e=>absurd e (by show¬3=0;decide),fun h=>by contradiction⟩
  ·exact⟨(Cg D true).gl,fun h=>by contradiction,fun _=>rfl⟩
 |f+1,D,k=>by
  rw[DS.Bd];cases hk:cs[k]? with
  |none=>exact⟨(Cg D true).gl,fun h=>(by rw[List.getElem?_eq_getElem h]at hk;cases hk),fun _=>rfl⟩
  |some c=>
   simp only;obtain⟨g1,g2⟩ :=Gp D k c;have Lv:k<cs.length:=by
    rcases Nat.lt_or_ge k cs.length with h|h
    ·exact h
    ·rw[List.getElem?_eq_none h]at hk;cases hk
   obtain⟨r,hr⟩ :∃r,D.step k c=r:=⟨_,rfl⟩
   rw[hr]at g1 g2⊢;split
   ·exact⟨g1,fun _ _=>by show D.used<r.1.used;omega,fun h=>absurd Lv h⟩
   ·split
    ·refine⟨g1.trans (JL r.1).gl,fun _ _=> ?_,fun h=>absurd Lv h⟩
     show D.used<r.1.flush.used;rw[(JL r.1).used];omega
    ·obtain⟨h1,h2,h3⟩ :=Hn cs f r.1 r.2.toNat
     refine⟨g1.trans h1,fun _ _=> ?_,fun h=>absurd Lv h⟩;have:=h1.used;omega
theorem P9(cs:List Cm):∀(f:Nat)(D:DS)(k:Nat),(DS.Bd cs f D k).1.state=0→(DS.Bd cs f D k).1.queue= []
 |0,D,k,h=>by
  rw[DS.Bd]at h⊢;split at h
  ·cases h
  ·rename_i hk
   rw[if_neg hk];unfold DS.ο DS.flush;rfl
 |f+1,D,k,h=>by
  rw[DS.Bd]at h⊢;cases hk:cs[k]? with
  |none=>unfold DS.ο DS.flush;rfl
  |some c=>
   rw[hk]at h;simp only at h⊢;split at h
   ·contradiction
   ·rename_i h1
    rw[if_neg h1];split at h
    all_goals
     rename_i h2
    ·rw[if_pos h2];rfl
    ·rw[if_neg h2]
     exact P9 cs f _ _ h
def DS.left(D:DS)(again:Bool):Nat:=2*(D.text.size - D.at')+2*(D.steps - D.used)+if again then 1 else 0
theorem gv(cs:List Cm)(D:DS)(hu:(D.A6 cs).1.state=0→(D.A6 cs).1.used≤(D.A6 cs).1.steps)(hs:(D.A6 cs).1.state=0):(D.A6 cs).1.left (D.A6 cs).2<D.left true:=by
 obtain⟨h1,h2,h3⟩ :=Hn cs (D.steps - D.used) D 0;have e:DS.Bd cs (D.steps - D.used) D 0=D.A6 cs:=rfl;rw[e]at h1 h2 h3;have u:=hu hs;unfold DS.left;rw[h1.text,h1.steps];rw[h1.steps]at u;have ha:=h1.at';have hb:=h1.used
 by_cases hk:0<cs.length
 ·have:=h2 hk hs
  simp only[if_true];split<;>omega
 ·rw[h3 hk]
  simp only[if_true];simp;omega
theorem SX(D E:DS)(h:Gw D E)(Ac:D.at'<E.at')(ht:D.at'<D.text.size):E.left true<D.left false:=by
 unfold DS.left;rw[h.text,h.steps,h.used];simp;omega
theorem WH(cs:List Cm):∀(f:Nat)(D:DS)(k:Nat),f=D.steps - D.used→D.used≤D.steps→(DS.Bd cs f D k).1.used≤D.steps
 |0,D,k,hf,hu=>by
  rw[DS.Bd];split
  ·exact hu
  ·rw[(Cg D true).used];exact hu
 |f+1,D,k,hf,hu=>by
  rw[DS.Bd];cases hk:cs[k]? with
  |none=>show(D.ο true).used≤_;rw[(Cg D true).used];exact hu
  |some c=>
   simp only;obtain⟨g1,g2⟩ :=Gp D k c;obtain⟨r,hr⟩ :∃r,D.step k c=r:=⟨_,rfl⟩
   rw[hr]at g1 g2⊢;split
   ·show r.1.used≤_;omega
   ·split
    ·show r.1.flush.used≤_;rw[(JL r.1).used];omega
    ·rw[←g1.steps]
     exact WH cs f r.1 r.2.toNat (by rw[g1.steps,g2];omega) (by rw[g1.steps,g2];omega)
structure Bg(D:DS)(again:Bool):Prop where
 al:D.Al
 pr:D.pat.length≤D.room
 hr:D.hold.length≤D.room
 us:D.used≤D.steps
 cy:again=true→Cy D
 qu:D.queue= []
theorem Bg.next{cs:List Cm}{D:DS}(h:Cy D)(hs:D.state=0)(hu:D.used≤D.steps)(hcs:∀c∈cs,YW c)(h0:(D.A6 cs).1.state=0):Bg (D.A6 cs).1 (D.A6 cs).2∧(D.A6 cs).1.left (D.A6 cs).2<D.left true∧Mv (D.Aj cs 0 0) ((D.A6 cs).1.Aj cs 0 (if(D.A6 cs).2 then 0 else 1)):=by
 obtain⟨g,gs⟩ :=SW cs hcs (D.steps - D.used) D 0 h hs rfl;have e:DS.Bd cs (D.steps - D.used) D 0=D.A6 cs:=rfl;have u:=WH cs (D.steps - D.used) D 0 rfl hu;rw[e]at g gs u;obtain⟨m,c⟩ :=g.on h0;have u':(D.A6 cs).1.used≤(D.A6 cs).1.steps:=by rw[gs];exact u
 exact⟨⟨c.al,c.pr,c.hr,u',fun _=>c,P9 cs _ D 0 h0⟩,gv cs D (fun _=>u') h0,m⟩
theorem Lj(cs:List Cm)(f:Nat)(D:DS)(b:Bool)(h:D.state≠0):DS.By cs f D b=D:=by
 cases f with
 |zero=>rfl
 |succ f=>rw[DS.By,if_pos h]
theorem Yf(cs:List Cm)(hcs:∀c∈cs,YW c):∀(f:Nat)(D:DS)(b:Bool),Bg D b→D.state=0→D.left b<f→
  ∃R,Goes (D.Aj cs 0 (if b then 0 else 1)) R∧R.out=(DS.By cs f D b).out∧R.AB=(DS.By cs f D b).err∧(DS.By cs f D b).state≠0
 |0,D,b,h,hs,hf=>absurd hf (Nat.not_lt_zero _)
 |f+1,D,b,h,hs,hf=>by
  rw[DS.By,if_neg (show¬D.state≠0 by simp[hs])];have go:∀(E:DS),Cy E→E.state=0→E.used≤E.steps→E.left true<f+1→∃R,Goes (E.Aj cs 0 0) R∧R.out=(DS.By cs f (E.A6 cs).1 (E.A6 cs).2).out∧R.AB=(DS.By cs f (E.A6 cs).1 (E.A6 cs).2).err∧(DS.By cs f (E.A6 cs).1 (E.A6 cs).2).state≠0:=by
   intro E hE hEs hEu hEl
   by_cases h0:(E.A6 cs).1.state=0
   ·obtain⟨n1,n2,n3⟩ :=Bg.next hE hEs hEu hcs h0
    obtain⟨R,r1,r2,r3,r4⟩ :=Yf cs hcs f (E.A6 cs).1 (E.A6 cs).2 n1 h0 (by omega);exact⟨R,n3 R r1,r2,r3,r4⟩
   ·rw[Lj cs f _ _ h0]
    obtain⟨R,r1,r2,r3⟩ :=(SW cs hcs (E.steps - E.used) E 0 hE hEs rfl).1.bad h0;exact⟨R,r1,r2,r3,h0⟩
  cases b with
  |true=>
   simp only[↓reduceIte];exact go D (h.cy rfl) hs h.us hf
  |false=>
   simp only[Bool.false_eq_true,↓reduceIte];have he:D.err=0:=by rcases h.al.st with⟨_,e⟩ | ⟨e,_⟩ <;>omega
   have ho:(D.Aj cs 0 1).over=false:=by show decide (2≤D.state)=false;rw[hs];rfl
   rcases DS.nd D cs 0 1 hs with⟨q,e,hc⟩ | ⟨q,e,hc⟩ | ⟨q,e,hc,Cw⟩
   ·rw[e,if_pos rfl,if_neg (by show¬1=0;decide)]
    refine⟨D.Aj cs 0 1,.stop ?_,rfl,rfl,by show 1≠0;decide⟩;unfold St.still St.stuck;rw[ho,q]
    rfl
   ·rw[e,if_pos rfl,if_pos hs]
    have hm:(D.Aj cs 0 1).move= {D.Aj cs 0 1 with over:=true}:=by
     unfold St.move;rw[if_neg (by show¬1=0;decide),if_neg (by rw[q];decide),if_pos q]
     rfl
    refine⟨_,.step (Hm ho (.inr (by rw[q];decide))) (Ct (by rw[hm])),?_,?_,by show 2≠0;decide⟩
    ·rw[hm];rfl
    ·rw[hm];rfl
   ·rw[e,if_neg (by show¬true=false;decide)]
    show∃R:St,_∧R.out=(if(D.take.pattern D.Θ).state≠0 then D.take.pattern D.Θ else DS.By cs f ((D.take.pattern D.Θ).A6 cs).1 ((D.take.pattern D.Θ).A6 cs).2).out∧R.AB=(if(D.take.pattern D.Θ).state≠0 then D.take.pattern D.Θ else DS.By cs f ((D.take.pattern D.Θ).A6 cs).1 ((D.take.pattern D.Θ).A6 cs).2).err∧(if(D.take.pattern D.Θ).state≠0 then D.take.pattern D.Θ else DS.By cs f ((D.take.pattern D.Θ).A6 cs).1 ((D.take.pattern D.Θ).A6 cs).2).state≠0;obtain⟨T,hT⟩ :∃T,D.take.pattern D.Θ=T:=⟨_,rfl⟩
    have VI:D.flush=D:=by
     have:({D.queue.foldl DS.tell D with queue:= []}:DS)=D:=by rw[h.qu];show({D with queue:= []}:DS)=D;rw[←h.qu]
     exact this
    have hm:(D.Aj cs 0 1).move=T.Aj cs 0 0:=by
     unfold St.move;rw[if_neg (by show¬1=0;decide),if_neg (by rw[q];decide),if_neg (by rw[q];decide)];unfold St.take;simp only;rw[if_neg (show¬(D.Aj cs 0 1).asks=2 by show¬1=2;decide),if_neg (show¬(D.Aj cs 0 1).asks=3 by show¬1=3;decide)];have e1:({D.Aj cs 0 1 with asks:=0}:St).φ=D.Aj cs 0 0:=by
      have:=DS.G2 h.al cs 0 0;rw[VI]at this;exact this
     have e2:=DS.LK (D:=D.take) ⟨(DS.OB h.al).2.1.trans hs,(DS.OB h.al).2.2.1.trans he⟩ cs 0 0 D.Θ;rw[hT,←DS.SV]at e2;rw[e1];exact e2
    have gp:=Mv.move (Hm ho (.inr (by rw[q];decide)));rw[hm]at gp;obtain⟨t1,t2⟩ :=DS.YZ h.al hs h.hr hc D.Θ;obtain⟨w1,w2⟩ :=Qx D Cw;have w3:=w1.trans (Fp D.take D.Θ);have w4:(D.take.pattern D.Θ).at'=D.take.at':=by unfold DS.pattern;split<;>rfl
    rw[hT]at t1 t2 w3 w4⊢
    by_cases hT0:T.state=0
    ·rw[if_neg (show¬T.state≠0 by simp[hT0])]
     obtain⟨R,r1,r2⟩ :=go T (t2 hT0) hT0 (by rw[w3.steps,w3.used];exact h.us) (by have:=SX D T w3 (by rw[w4];exact w2) Cw;omega);exact⟨R,gp R r1,r2⟩
    ·rw[if_pos hT0]
     have h3:=t1.st.resolve_left (fun x=>hT0 x.1);exact⟨T.Aj cs 0 0,gp _ (Ct (by show decide (2≤T.state)=true;rw[h3.1];rfl)),rfl,rfl,hT0⟩
theorem tA(S:St)(v:Int)(ha:S.asks=1)(hq:S.queue= []):St.take {S with nl:=v} =S.take:=by
 have e1:St.φ {({S with nl:=v}:St)with asks:=0} = {({S with asks:=0,queue:= []}:St)with nl:=v}:=by
  unfold St.φ;show({S.queue.foldl St.Φ _ with queue:= []}:St)=_;rw[hq]
  rfl
 have e2:St.φ {S with asks:=0} = {S with asks:=0,queue:= []}:=by
  unfold St.φ;show({S.queue.foldl St.Φ _ with queue:= []}:St)=_;rw[hq]
  rfl
 unfold St.take;simp only;rw[if_neg (show¬({S with nl:=v}:St).asks=2 by show¬S.asks=2;omega),if_neg (show¬S.asks=2 by omega),if_neg (show¬({S with nl:=v}:St).asks=3 by show¬S.asks=3;omega),if_neg (show¬S.asks=3 by omega),e2];rw[show St.φ {({S with nl:=v}:St)with asks:=0} = {({S with asks:=0,queue:= []}:St)with nl:=v}from e1];have e3:St.took {({S with asks:=0,queue:= []}:St)with nl:=v} =St.took {S with asks:=0,queue:= []}:=by
  unfold St.took;show(if S.Bj<S.text.size then _ else _)=(if S.Bj<S.text.size then _ else _);split<;>rfl
 rw[e3]
 rfl
theorem tB{S:St}(v:Int)(ha:S.asks=1)(hq:S.queue= []){R:St}(h:Goes {S with nl:=v} R):∃R',Goes S R'∧R'.out=R.out∧R'.AB=R.AB:=by
 cases h with
 |stop h=>exact⟨S,.stop h,rfl,rfl⟩
 |step hs h=>
  have OM:S.still=false:=hs
  by_cases h2:S.ask=2
  ·exfalso
   unfold St.still St.stuck at OM;rw[h2,ha]at OM;simp at OM
  by_cases h3:S.ask=3
  ·have m1:S.move= {S with over:=true}:=by
    unfold St.move;rw[if_neg (by omega),if_neg h2,if_pos h3];unfold St.AW;rw[if_pos ha]
   have m2:St.move {S with nl:=v} = {S with nl:=v,over:=true}:=by
    unfold St.move;rw[if_neg (show¬S.asks=0 by omega),if_neg (show¬St.ask {S with nl:=v} =2 from h2),if_pos (show St.ask {S with nl:=v} =3 from h3)];unfold St.AW;rw[if_pos (show({S with nl:=v}:St).asks=1 from ha)]
   rw[m2]at h;have:=h.unique (Ct (S:= {S with nl:=v,over:=true}) rfl);subst this;exact⟨_,.step OM (Ct (by rw[m1])),by rw[m1],by rw[m1]⟩
  ·have m1:S.move=S.take:=by unfold St.move;rw[if_neg (by omega),if_neg h2,if_neg h3]
   have m2:St.move {S with nl:=v} =S.take:=by
    unfold St.move;rw[if_neg (show¬S.asks=0 by omega),if_neg (show¬St.ask {S with nl:=v} =2 from h2),if_neg (show¬St.ask {S with nl:=v} =3 from h3),tA S v ha hq]
   rw[m2,←m1]at h;exact⟨R,.step OM h,rfl,rfl⟩
def ZT(n:Nat)(quiet:Bool)(steps room:Nat)(t:ByteArray)(closed:Bool):DS:=
 {text:=t,closed:=closed,quiet:=quiet,steps:=steps,room:=room,AM:=List.replicate n false,pat:= [],hold:= [],line:=0,last:=false,nl:= -1,at':=0,queue:= [],mark:=false,used:=0,out:= [],state:=0,err:=0}
theorem ZT.bg(n:Nat)(quiet:Bool)(steps room:Nat)(t:ByteArray)(closed:Bool):Bg (ZT n quiet steps room t closed) false:=
 ⟨⟨ε,.inl ⟨rfl,rfl⟩⟩,ε,ε,ε,fun e=>(by cases e),rfl⟩
def Ay(cs:List Cm)(quiet:Bool)(steps room:Nat)(t:ByteArray)(closed:Bool):DS:=DS.By cs ((ZT cs.length quiet steps room t closed).left false+1) (ZT cs.length quiet steps room t closed) false
end M
namespace M
structure DB(n:Nat)(D:DS):Prop where
 ou:D.out.length≤4096
 pa:D.pat.length≤256
 ho:D.hold.length≤256
 qt:∀t∈D.queue,t.size≤400
 qu:D.queue.length≤D.used
 at':D.at'≤D.text.size
 st:D.state≤3
 er:D.err≤6
 us:D.used≤D.steps
 sp:D.steps≤5000
 ro:D.room≤256
 tx:D.text.size≤4096
 li:D.line≤D.at'
 rn:D.AM.length=n
theorem DB.of{n:Nat}{D E:DS}(h:DB n D)(g:Gw D E)(ou:E.out.length≤4096)(pa:E.pat.length≤256)(ho:E.hold.length≤256)(qt:∀t∈E.queue,t.size≤400)(qu:E.queue.length≤D.used)(at':E.at'≤D.text.size)(st:E.state≤3)(er:E.err≤6):DB n E:=
 ⟨ou,pa,ho,qt,by rw[g.used];exact qu,by rw[g.text];exact at',st,er,by rw[g.used,g.steps];exact h.us,by rw[g.steps];exact h.sp,by rw[g.room];exact h.ro,by rw[g.text];exact h.tx,by have:=g.line;have:=h.li;omega,by rw[g.AM];exact h.rn⟩
theorem DB.same{n:Nat}{D E:DS}(h:DB n D)(s:JJ D E)(ou:E.out.length≤4096)(st:E.state≤3)(er:E.err≤6):DB n E:=
 h.of s.gw ou (by rw[s.pat];exact h.pa) (by rw[s.hold];exact h.ho) (by rw[s.queue];exact h.qt) (by rw[s.queue];exact h.qu) (by rw[s.at'];exact h.at') st er
theorem DB.put{n:Nat}{D:DS}(h:DB n D)(l:List Cl):DB n (D.put l):=by
 have s:=G1 D l;rcases J2 D l with e|e | ⟨e,hl⟩ <;>rw[e]at s⊢
 ·exact h
 ·exact h.same s h.ou (by show 3≤3;decide) (by show 6≤6;decide)
 ·exact h.same s (by show(D.out++l).length≤4096;rw[List.length_append];exact hl) h.st h.er
theorem DB.fold{n:Nat}(q:List ByteArray):∀{D:DS},DB n D→DB n (q.foldl DS.tell D):=by
 induction q with
 |nil=>intro D h;exact h
 |cons x q ih=>intro D h;exact ih (h.put _)
theorem DB.flush{n:Nat}{D:DS}(h:DB n D):DB n D.flush:=by
 have g:=h.fold D.queue;exact⟨g.ou,g.pa,g.ho,fun t ht=>(List.not_mem_nil ht).elim,ε,g.at',g.st,g.er,g.us,g.sp,g.ro,g.tx,g.li,g.rn⟩
theorem DB.ο{n:Nat}{D:DS}(h:DB n D)(b:Bool):DB n (D.ο b):=by
 unfold DS.ο;split
 ·exact(h.put _).flush
 ·exact h.flush
theorem DB.state{n:Nat}{D:DS}(h:DB n D)(k:Nat)(hk:k≤3):DB n {D with state:=k}:=⟨h.ou,h.pa,h.ho,h.qt,h.qu,h.at',hk,h.er,h.us,h.sp,h.ro,h.tx,h.li,h.rn⟩
theorem DB.die{n:Nat}{D:DS}(h:DB n D)(k:Nat)(hk:k≤6):DB n (D.die k):=⟨h.ou,h.pa,h.ho,h.qt,h.qu,h.at',Nat.le_refl 3,hk,h.us,h.sp,h.ro,h.tx,h.li,h.rn⟩
theorem DB.early{n:Nat}{D:DS}(h:DB n D):DB n D.early:=by
 have g:=h.ο true;unfold DS.early;split
 ·exact g.state 2 (by decide)
 ·exact g
theorem tC(D:DS)(h:D.at'≤D.text.size):D.Cx≤D.text.size:=by
 unfold DS.Cx;have h1:=(List.takeWhile_sublist (l:=D.text.data.toList.drop D.at') (fun c:UInt8=>c.toNat !=10)).length_le;rw[List.length_drop]at h1;have h2:D.text.data.toList.length=D.text.size:=by simp
 omega
theorem DB.take{n:Nat}{D:DS}(h:DB n D)(ht:D.at'<D.text.size):DB n D.take:=by
 have g:=(Qx D ht).1;have hl:=tC D h.at';refine h.of g ?_ ?_ ?_ ?_ ?_ ?_ ?_ ?_
 all_goals unfold DS.take;split
 ·exact h.ou
 ·exact h.ou
 ·exact h.pa
 ·exact h.pa
 ·exact h.ho
 ·exact h.ho
 ·exact h.qt
 ·exact h.qt
 ·exact h.qu
 ·exact h.qu
 ·show D.Cx+1≤_;omega
 ·exact hl
 ·exact h.st
 ·exact h.st
 ·exact h.er
 ·exact h.er
theorem DB.pattern{n:Nat}{D:DS}(h:DB n D)(l:List Cl):DB n (D.pattern l):=by
 unfold DS.pattern;split
 ·exact h.die 5 (by decide)
 ·have:=h.ro
  exact⟨h.ou,by show l.length≤256;omega,h.ho,h.qt,h.qu,h.at',h.st,h.er,h.us,h.sp,h.ro,h.tx,h.li,h.rn⟩
theorem DB.Ca{n:Nat}{D:DS}(h:DB n D)(l:List Cl):DB n (D.Ca l):=by
 unfold DS.Ca;split
 ·exact h.die 5 (by decide)
 ·have:=h.ro
  exact⟨h.ou,h.pa,by show l.length≤256;omega,h.qt,h.qu,h.at',h.st,h.er,h.us,h.sp,h.ro,h.tx,h.li,h.rn⟩
theorem DB.ask{n:Nat}{D:DS}(h:DB n D):DB n D.ask.2:=by
 unfold DS.ask;split
 ·exact h
 ·split
  ·exact h.state 1 (by decide)
  ·exact h
theorem DB.De{n:Nat}{D:DS}(h:DB n D)(nm:Nat):DB n (D.De nm):=by
 unfold DS.De;simp only;split
 ·exact h.ask
 split
 ·exact h.ask.early
 split
 ·exact h.ask.ο _
 ·rename_i h1 h2 h3
  have h2':D.ask.1=true:=by simpa using h2
  obtain⟨e,Cw,_⟩ :=EM D h2';have s:=Ga D.ask.2 (nm==110);exact((h.ask.ο _).take (by rw[s.1,s.2,e];exact Cw)).pattern _
theorem DB.mark{n:Nat}{D:DS}(h:DB n D)(b:Bool):DB n {D with mark:=b}:=⟨h.ou,h.pa,h.ho,h.qt,h.qu,h.at',h.st,h.er,h.us,h.sp,h.ro,h.tx,h.li,h.rn⟩
theorem DB.subst{n:Nat}{D:DS}(h:DB n D)(s:Lx):DB n (D.subst s):=by
 unfold DS.subst;simp only;split
 ·exact h
 split
 ·split
  ·exact((h.pattern _).mark true).put _
  ·exact(h.pattern _).mark true
 ·exact h.pattern _
theorem DB.turned{n:Nat}{D:DS}(h:DB n D)(c:Cm):DB n (D.turned c):=
 ⟨h.ou,by show(D.pat.map _).length≤256;rw[List.length_map];exact h.pa,h.ho,h.qt,h.qu,h.at',h.st,h.er,h.us,h.sp,h.ro,h.tx,h.li,h.rn⟩
theorem DB.Da{n:Nat}{D:DS}(h:DB n D)(nm:Nat):DB n (D.Da nm):=by
 unfold DS.Da;split
 ·exact h.Ca _
 split
 ·exact h.Ca _
 split
 ·exact h.pattern _
 split
 ·exact h.pattern _
 split
 ·exact⟨h.ou,h.ho,h.pa,h.qt,h.qu,h.at',h.st,h.er,h.us,h.sp,h.ro,h.tx,h.li,h.rn⟩
 ·exact h
def Qf(D:DS):Prop:=D.queue.length<D.used
theorem DB.says{n:Nat}{D:DS}(h:DB n D)(c:Cm)(hq:Qf D)(hc:c.text.size≤400):DB n (D.says c):=by
 unfold DS.says;split
 ·exact h.put _
 split
 ·exact h.put _
 split
 ·split
  all_goals
   exact h.put _
 split
 ·refine⟨h.ou,h.pa,h.ho,fun t ht=> ?_,?_,h.at',h.st,h.er,h.us,h.sp,h.ro,h.tx,h.li,h.rn⟩
  ·rcases List.mem_append.1 ht with ht|ht
   ·exact h.qt t ht
   ·simp at ht;rw[ht];exact hc
  ·show(D.queue++ [c.text]).length≤D.used
   unfold Qf at hq;simp;omega
 split
 ·exact h.put _
 ·exact h
theorem DB.does{n:Nat}{D:DS}(h:DB n D)(k:Nat)(c:Cm)(hq:Qf D)(hc:c.text.size≤400):DB n (D.does k c).1:=by
 unfold DS.does;split
 ·exact h
 split
 ·split
  ·exact h
  ·exact⟨h.ou,by show(D.pat.drop _).length≤256;rw[List.length_drop];have:=h.pa;omega,h.ho,h.qt,h.qu,h.at',h.st,h.er,h.us,h.sp,h.ro,h.tx,h.li,h.rn⟩
 split
 ·exact h.early
 split
 ·exact h
 split
 ·split
  ·exact h.mark false
  ·exact h
 split
 ·exact h.De _
 split
 ·exact h.subst _
 split
 ·exact h.turned c
 split
 ·exact h.Da _
 ·exact h.says c hq hc
theorem DB.AM{n:Nat}{D:DS}(h:DB n D)(k:Nat)(b:Bool):DB n {D with AM:=D.AM.set k b}:=⟨h.ou,h.pa,h.ho,h.qt,h.qu,h.at',h.st,h.er,h.us,h.sp,h.ro,h.tx,h.li,by show(D.AM.set k b).length=n;rw[List.length_set];exact h.rn⟩
theorem DB.AX{n:Nat}{D:DS}(h:DB n D)(k:Nat)(c:Cm):DB n (D.AX k c).2:=by
 unfold DS.AX;split
 ·exact h
 split
 ·exact h
 unfold DS.AG;split
 ·exact h.AM _ _
 ·show DB n (if D.holds c.a1 then _ else D)
  split
  ·exact h.AM _ _
  ·exact h
theorem SY(D:DS)(k:Nat)(c:Cm):(D.AX k c).2.queue=D.queue∧(D.AX k c).2.used=D.used∧(D.AX k c).2.line=D.line∧(D.AX k c).2.state=D.state:=by
 unfold DS.AX;split
 ·exact⟨rfl,rfl,rfl,rfl⟩
 split
 ·exact⟨rfl,rfl,rfl,rfl⟩
 unfold DS.AG;split
 ·exact⟨rfl,rfl,rfl,rfl⟩
 ·show(if D.holds c.a1 then _ else D).queue=D.queue∧(if D.holds c.a1 then _ else D).used=D.used∧(if D.holds c.a1 then _ else D).line=D.line∧(if D.holds c.a1 then _ else D).state=D.state
  split<;>exact⟨rfl,rfl,rfl,rfl⟩
theorem DB.used{n:Nat}{D:DS}(h:DB n D)(hu:D.used<D.steps):DB n {D with used:=D.used+1}∧Qf {D with used:=D.used+1}:=
 ⟨⟨h.ou,h.pa,h.ho,h.qt,by show D.queue.length≤D.used+1;have:=h.qu;omega,h.at',h.st,h.er,hu,h.sp,h.ro,h.tx,h.li,h.rn⟩,by show D.queue.length<D.used+1;have:=h.qu;omega⟩
theorem DB.step{n:Nat}{D:DS}(h:DB n D)(hu:D.used<D.steps)(k:Nat)(c:Cm)(hc:c.text.size≤400):DB n (D.step k c).1:=by
 obtain⟨h1,h2⟩ :=h.used hu;have h3:=h1.AX k c;have h4:=SY {D with used:=D.used+1} k c;unfold DS.step;simp only;split
 ·exact h3.does k c (by unfold Qf;rw[h4.1,h4.2.1];exact h2) hc
 ·split<;>exact h3
theorem DB.Bd{n:Nat}(cs:List Cm)(hcs:∀c∈cs,c.text.size≤400):∀(f:Nat)(D:DS)(k:Nat),DB n D→f=D.steps - D.used→DB n (DS.Bd cs f D k).1
 |0,D,k,h,hf=>by
  rw[DS.Bd];split
  ·exact h.die 4 (by decide)
  ·exact h.ο true
 |f+1,D,k,h,hf=>by
  rw[DS.Bd];cases hk:cs[k]? with
  |none=>exact h.ο true
  |some c=>
   simp only;have g:=h.step (by omega) k c (hcs c (List.mem_of_getElem? hk));have s:=Gp D k c;split
   ·exact g
   ·split
    ·exact g.flush
    ·exact DB.Bd cs hcs f _ _ g (by rw[s.1.steps,s.2];omega)
theorem DB.ADx{n:Nat}(quiet:Bool)(steps room:Nat)(t:ByteArray)(closed:Bool)(hs:steps≤5000)(hr:room≤256)(ht:t.size≤4096):DB n (ZT n quiet steps room t closed):=
 ⟨ε,ε,ε,fun t ht=>(List.not_mem_nil ht).elim,δ,ε,ε,ε,ε,hs,hr,ht,δ,by show(List.replicate n false).length=n;simp⟩
end M
namespace M
def Sa:Rec:=⟨1,1,⟨#[]⟩⟩
def LL:Rec:=⟨0,1,⟨#[]⟩⟩
def M1(t:ByteArray)(i j:Nat):Rec:=⟨2,((j - i:Nat):Int),t.extract i j⟩
def CL(t:ByteArray)(p:Nat)(c:Cl):List Rec×Nat:=
 if c.2<(p:Int)∨(t.size:Int)≤c.2 then([Sa],p)else((if(p:Int)<c.2 then [M1 t p c.2.toNat]else [])++ [LL],c.2.toNat+1)
def Be(t:ByteArray):Nat→List Cl→List Rec×Nat
 |p,[]=>([],p)
 |p,c::l=>((CL t p c).1++(Be t (CL t p c).2 l).1,(Be t (CL t p c).2 l).2)
def Ck(t:ByteArray)(l:List Cl):List Rec:=(Be t 0 l).1++(if(Be t 0 l).2<t.size then [M1 t (Be t 0 l).2 t.size]else [])
theorem Sb(t:ByteArray)(l:List Cl)(c:Cl):∀p,Be t p (l++ [c])=((Be t p l).1++(CL t (Be t p l).2 c).1,(CL t (Be t p l).2 c).2):=by
 induction l with
 |nil=>intro p;simp[Be]
 |cons d l ih=>
  intro p;rw[List.cons_append,Be,ih,Be];simp
theorem OC(t:ByteArray)(p:Nat)(c:Cl)(h:p≤t.size):(CL t p c).2≤t.size∧p≤(CL t p c).2:=by
 unfold CL;split
 ·exact⟨h,δ⟩
 ·show c.2.toNat+1≤t.size∧p≤c.2.toNat+1
  omega
theorem nv(t:ByteArray):∀(l:List Cl)(p:Nat),p≤t.size→(Be t p l).2≤t.size:=by
 intro l
 induction l with
 |nil=>intro p h;exact h
 |cons c l ih=>intro p h;exact ih _ (OC t p c h).1
theorem df(t:ByteArray)(i j:Nat)(h:i<j)(hj:j≤t.size):H3 (M1 t i j)=true:=by
 rw[CO];have:(t.extract i j).size=j - i:=by rw[ByteArray.size_extract,Nat.min_eq_left hj]
 have h9:((t.extract i j).size:Int)=((j - i:Nat):Int):=by rw[this]
 exact⟨by show(1:Int)≤((j - i:Nat):Int);omega,.inr ⟨rfl,h9⟩⟩
theorem nw(t:ByteArray)(p:Nat)(c:Cl)(h:p≤t.size):C5 (CL t p c).1:=by
 unfold CL;split
 ·intro r hr;rw[List.mem_singleton]at hr;rw[hr];rfl
 ·rename_i hn
  intro r hr;rcases List.mem_append.1 hr with hr|hr
  ·split at hr
   ·rw[List.mem_singleton]at hr;rw[hr]
    exact df t p _ (by omega) (by omega)
   ·cases hr
  ·rw[List.mem_singleton]at hr;rw[hr];rfl
theorem ny(t:ByteArray):∀(l:List Cl)(p:Nat),p≤t.size→C5 (Be t p l).1:=by
 intro l
 induction l with
 |nil=>intro p _ r hr;cases hr
 |cons c l ih=>
  intro p h r hr;rcases List.mem_append.1 hr with hr|hr
  ·exact nw t p c h r hr
  ·exact ih _ (OC t p c h).1 r hr
theorem Yg(t:ByteArray)(l:List Cl):C5 (Ck t l):=by
 intro r hr;rcases List.mem_append.1 hr with hr|hr
 ·exact ny t l 0 ε r hr
 ·split at hr
  ·rw[List.mem_singleton]at hr;rw[hr]
   exact df t _ _ (by assumption) δ
  ·cases hr
theorem Qy(t:ByteArray)(i j:Nat):KI (M1 t i j)=((t.data.toList.drop i).take (j - i)).map .r:=by
 unfold KI M1;simp only;rw[if_neg (by decide),if_neg (by decide)]
 congr 1
 exact Lib.extract_data t i j
theorem Uq(s:List UInt8)(es:List Ev)(a b:List UInt8)(h:Fq es a b):Fq (s.map .r++es) (s++a) b:=by
 induction s with
 |nil=>exact h
 |cons c s ih=>exact⟨s++a,rfl,ih⟩
theorem Yh(t:ByteArray):∀(l:List Cl)(p:Nat),p≤t.size→Ax t.data.toList l→∀tail b,Fq tail (t.data.toList.drop (Be t p l).2) b→Fq (BH (Be t p l).1++tail) (t.data.toList.drop p) (AL l++b):=by
 intro l
 induction l with
 |nil=>intro p _ _ tail b h;exact h
 |cons c l ih=>
  intro p hp ho tail b h;have hl:t.data.toList.length=t.size:=Array.length_toList;have hc:=ho c (by simp);have h1:=ih (CL t p c).2 (OC t p c hp).1 (fun d hd=>ho d (by simp[hd])) tail b h;rw[Be,CK,List.append_assoc];show Fq (BH (CL t p c).1++(BH (Be t (CL t p c).2 l).1++tail)) (t.data.toList.drop p) (c.1::(AL l++b));generalize BH (Be t (CL t p c).2 l).1++tail=es at*;unfold CL at h1⊢;split
  all_goals
   rename_i hn
  ·rw[if_pos hn]at h1
   exact⟨c.1,_,rfl,h1⟩
  ·rw[if_neg hn]at h1
   simp only at h1;obtain⟨k,hk,e1,e2⟩ :∃k,∃h:k<t.data.toList.length,c.2=(k:Int)∧t.data.toList[k]=c.1:=by
    rcases hc with hc|hc
    ·omega
    ·exact hc
   have ek:c.2.toNat=k:=by omega
   rw[ek]at h1⊢;have hdk:t.data.toList.drop k=c.1::t.data.toList.drop (k+1):=by rw[List.drop_eq_getElem_cons hk,e2]
   have vU:Fq (.k::es) (t.data.toList.drop k) (c.1::(AL l++b)):=⟨c.1,_,_,hdk,rfl,h1⟩
   by_cases Ac:(p:Int)<c.2
   ·rw[if_pos Ac]
    show Fq ((KI (M1 t p k)++ [.k])++es) _ _;rw[Qy,List.append_assoc];have dB:t.data.toList.drop p=(t.data.toList.drop p).take (k - p)++t.data.toList.drop k:=by
     have e9:t.data.toList.drop k=(t.data.toList.drop p).drop (k - p):=by rw[List.drop_drop];congr 1;omega
     rw[e9,List.take_append_drop]
    rw[dB];have e10:((t.data.toList.drop p).take (k - p)++t.data.toList.drop k).take (k - p)=(t.data.toList.drop p).take (k - p):=by rw[←dB]
    rw[e10];exact Uq _ _ _ _ vU
   ·rw[if_neg Ac]
    have:p=k:=by omega
    subst this;exact vU
theorem Yi(t:ByteArray)(l:List Cl)(ho:Ax t.data.toList l):Fq (BH (Ck t l)) t.data.toList (AL l):=by
 have hl:t.data.toList.length=t.size:=Array.length_toList;unfold Ck;rw[CK];have:=Yh t l 0 ε ho (BH (if(Be t 0 l).2<t.size then [M1 t (Be t 0 l).2 t.size]else [])) [] ?_
 ·rw[List.drop_zero,List.append_nil]at this;exact this
 ·generalize(Be t 0 l).2=q
  split
  ·show Fq (KI (M1 t q t.size)++ []) _ _
   rw[Qy];have:=Uq ((t.data.toList.drop q).take (t.size - q)) [] [] [] ⟨rfl,rfl⟩;rw[List.take_of_length_le (by rw[List.length_drop];omega)]at this⊢;simp only[List.append_nil]at this⊢;exact this
  ·rw[List.drop_of_length_le (by omega)]
   exact⟨rfl,rfl⟩
end M
namespace M
structure OG(S:St):Prop where
 nl:Xg S.text.data.toList (C4 S.nl)
 oo:Ax S.text.data.toList S.out
 op:Ax S.text.data.toList S.pat
 oh:Ax S.text.data.toList S.hold
namespace OG
theorem die{S:St}(h:OG S)(e:Nat):OG (S.die e):=⟨h.nl,h.oo,h.op,h.oh⟩
theorem put{S:St}(h:OG S)(l:List Cl)(hl:Ax S.text.data.toList l):OG (S.put l):=by
 unfold St.put;split
 ·exact h
 split
 ·exact h.die 6
 ·exact⟨h.nl,h.oo.app hl,h.op,h.oh⟩
theorem Φ{S:St}(h:OG S)(t:ByteArray):OG (S.Φ t):=h.put _ ((Ax.fresh _ _).join (Gy _ _) (Ax.nil _))
theorem BU{S:St}(h:OG S):OG S.BU:=h.put _ (h.op.join h.nl (Ax.nil _))
theorem Ar{S:St}(h:OG S):OG S.Ar:=by unfold St.Ar;split;exact h;exact h.BU
theorem Ak{S:St}(h:OG S):OG S.Ak:=by unfold St.Ak;split;exact h.BU;exact h.put _ (h.op.part _ _)
theorem fold(l:List ByteArray):∀{S:St},OG S→OG (l.foldl St.Φ S):=by
 induction l with
 |nil=>intro S h;exact h
 |cons x l ih=>intro S h;exact ih (h.Φ x)
theorem φ{S:St}(h:OG S):OG S.φ:=by
 have h1:=fold S.queue h;exact⟨h1.nl,h1.oo,h1.op,h1.oh⟩
theorem AO{S:St}(h:OG S):OG S.AO:=by
 have h1:=h.φ;exact⟨h1.nl,h1.oo,h1.op,h1.oh⟩
theorem Am{S:St}(h:OG S):OG S.Am:=by
 have h1:=h.Ar.φ;exact⟨h1.nl,h1.oo,h1.op,h1.oh⟩
theorem Ae{S:St}(h:OG S):OG S.Ae:=by
 unfold St.Ae;split
 ·exact h.AO
 ·have h1:OG {S with pat:=τ S.pat (Ad S.pat) S.pat.length}:=⟨h.nl,h.oo,h.op.part _ _,h.oh⟩
  have h2:=h1.φ;exact⟨h2.nl,h2.oo,h2.op,h2.oh⟩
theorem Bw{S:St}(h:OG S)(c:Cm):OG (S.Bw c):=by
 unfold St.Bw;split
 ·exact h.BU
 split
 ·exact h.Ak
 split
 ·exact h.Φ _
 split
 ·exact h.Φ _
 ·exact⟨h.nl,h.oo,h.op,h.oh⟩
theorem fill{t:List UInt8}(rep:List (Option UInt8)){m:List Cl}(h:Ax t m):Ax t (Ai rep m):=fun c hc=>by
 unfold Ai at hc;obtain⟨p,_,hp⟩ :=List.mem_flatMap.1 hc;cases p with
 |none=>exact h c hp
 |some b=>rw[List.mem_singleton]at hp;rw[hp];exact Gy _ _
theorem qX{t:List UInt8}{l:List Cl}(s:Lx)(h:Ax t l):∀(ms:List (Nat×Nat))(k b:Nat),Ax t (Au l s ms k b):=by
 intro ms
 induction ms with
 |nil=>intro k b c hc;exact h c (List.mem_of_mem_drop hc)
 |cons m ms ih=>
  intro k b;unfold Au;split
  ·exact((h.part _ _).app (fill s.rep (h.part _ _))).app (ih _ _)
  ·exact ih _ _
theorem subst{S:St}(h:OG S)(s:Lx):OG (S.subst s):=by
 unfold St.subst;simp only;split
 ·exact h
 split
 ·have h1:OG {S with pat:=Au S.pat s (CP s.ex (AL S.pat)) 1 0,mark:=true}:=⟨h.nl,h.oo,qX s h.op _ _ _,h.oh⟩
  split
  ·exact h1.BU
  ·exact h1
 ·exact h.die 5
theorem xF{t:List UInt8}{l:List Cl}(f g:List UInt8)(h:Ax t l):Ax t (l.map (BQ f g)):=fun c hc=>by
 obtain⟨d,hd,rfl⟩ :=List.mem_map.1 hc;unfold BQ;split
 ·exact h d hd
 ·split
  ·exact h d hd
  ·exact Gy _ _
theorem change{S:St}(h:OG S)(c:Cm):OG (S.change c):=by
 unfold St.change;simp only;split
 ·exact⟨h.nl,h.oo,h.op,h.op⟩
 split
 ·exact⟨h.nl,h.oo,h.oh,h.oh⟩
 split
 ·exact⟨h.nl,h.oo,h.oh,h.op⟩
 split
 ·split
  ·exact⟨h.nl,h.oo,h.op,h.oh.join (Gy _ _) h.op⟩
  ·exact h.die 5
 split
 ·split
  ·exact⟨h.nl,h.oo,h.op.join (Gy _ _) h.oh,h.oh⟩
  ·exact h.die 5
 split
 ·exact h.subst _
 ·exact⟨h.nl,h.oo,xF _ _ h.op,h.oh⟩
theorem lead{S:St}(h:OG S)(c:Cm):OG (S.lead c):=by
 unfold St.lead;split
 ·exact h.AO
 split
 ·exact h.Ae
 split
 ·exact(h.Φ _).AO
 split
 ·exact⟨h.nl,h.oo,h.op,h.oh⟩
 split
 ·exact⟨h.nl,h.oo,h.op,h.oh⟩
 split
 ·exact h.Am
 split
 ·exact⟨h.nl,h.oo,h.op,h.oh⟩
 split
 ·exact⟨h.nl,h.oo,h.op,h.oh⟩
 ·exact h
theorem does{S:St}(h:OG S)(c:Cm):OG (S.does c):=by
 unfold St.does;split
 ·exact h.Bw c
 split
 ·exact h.change c
 split
 ·exact h.lead c
 ·exact h
theorem AI{S:St}(h:OG S)(k:Nat)(c:Cm):OG (S.AI k c).2:=by
 unfold St.AI;split
 ·exact h
 split
 ·exact h
 ·unfold St.AG
  split<;>exact⟨h.nl,h.oo,h.op,h.oh⟩
theorem reach{S:St}(h:OG S):OG S.reach:=by
 unfold St.reach;cases hc:S.cs[S.next]? with
 |none=>exact h.Ar.AO
 |some c=>
  simp only;split
  ·exact h.die 4
  ·have h1:OG {S with steps:=S.steps - 1,next:=S.next+1}:=⟨h.nl,h.oo,h.op,h.oh⟩
   have h2:=h1.AI S.next c;split
   ·exact h2.does c
   split
   ·exact⟨h2.nl,h2.oo,h2.op,h2.oh⟩
   ·exact h2
theorem Θ(S:St):Ax S.text.data.toList S.Θ:=fun c hc=>by
 unfold St.Θ at hc;obtain⟨p,hp,rfl⟩ :=List.mem_map.1 hc;obtain⟨b,i⟩ :=p;obtain⟨h1,h2,h3⟩ :=List.mem_zipIdx hp;rw[List.length_take,List.length_drop]at h2;refine .inr ⟨i,by omega,rfl,?_⟩;show _=b;rw[h3,List.getElem_take,List.getElem_drop]
 congr 1
 omega
theorem nz(S:St):Xg S.text.data.toList (C4 S.took.nl):=by
 unfold St.took;split
 ·rename_i Ac
  exact .inr ⟨S.Bj,by rw[Array.length_toList];exact Ac,rfl,WF.qY S Ac⟩
 ·exact Gy _ _
theorem Aq{S:St}(h:OG S):OG S.Aq:=by
 unfold St.Aq;have h0:OG {S with asks:=0}:=⟨h.nl,h.oo,h.op,h.oh⟩
 split
 ·exact h0.Ar.φ
 ·exact h0.φ
theorem WI(S:St):S.Aq.text=S.text:=by
 unfold St.Aq;have h0:St.Dl S {S with asks:=0}:=⟨rfl,rfl,rfl,rfl,rfl,rfl,rfl,rfl⟩
 exact(St.Dl.trans (.ite (fun _=>h0.trans (St.El _)) (fun _=>h0)) (St.Ch _)).text
theorem take{S:St}(h:OG S):OG S.take:=by
 rw[St.IA];have h1:=h.Aq;have ht:=WI S;have hn:Xg S.Aq.text.data.toList (C4 S.took.nl):=by rw[ht];exact nz S
 split
 ·refine⟨hn,h1.oo,?_,h1.oh⟩
  show Ax S.Aq.text.data.toList S.Dv;rw[ht];unfold St.Dv;split
  ·exact h.op.join h.nl (Θ S)
  ·exact Θ S
 ·exact⟨hn,h1.oo,h1.op,h1.oh⟩
theorem AW{S:St}(h:OG S):OG S.AW:=by
 unfold St.AW;split
 ·exact⟨h.nl,h.oo,h.op,h.oh⟩
 ·exact h.Am
theorem move{S:St}(h:OG S):OG S.move:=by
 unfold St.move;split
 ·exact h.reach
 split
 ·exact h
 split
 ·exact h.AW
 ·exact h.take
theorem ext{S:St}(h:OG S)(u:ByteArray)(c:Bool):OG (S.ext (S.text++u) c):=by
 have ht:(S.text++u).data.toList=S.text.data.toList++u.data.toList:=by simp
 have ho:∀d,Xg S.text.data.toList d→Xg (S.text++u).data.toList d:=fun d hd=>by
  rcases hd with hd| ⟨k,hk,h1,h2⟩
  ·exact .inl hd
  ·refine .inr ⟨k,by rw[ht,List.length_append];omega,h1,?_⟩
   simp only[ht];rw[List.getElem_append_left hk];exact h2
 exact⟨ho _ h.nl,fun d hd=>ho d (h.oo d hd),fun d hd=>ho d (h.op d hd),fun d hd=>ho d (h.oh d hd)⟩
end OG
def OI(S:St):Prop:=S.asks=1∧S.queue= []∧S.out= []∧S.pat= []∧S.hold= []
def OD(S:St):Prop:=OG S∨OI S
theorem OD.move{S:St}(h:OD S):OD S.move:=by
 rcases h with h| ⟨h1,h2,h3,h4,h5⟩
 ·exact .inl h.move
 ·unfold St.move
  rw[if_neg (by rw[h1];decide)];split
  ·exact .inr ⟨h1,h2,h3,h4,h5⟩
  split
  ·right
   unfold St.AW;rw[if_pos h1];exact⟨h1,h2,h3,h4,h5⟩
  ·left
   rw[St.IA];have hp:S.Aq= {S with asks:=0,queue:= []}:=by
    unfold St.Aq;rw[if_neg (by rw[h1];decide)];show({S.queue.foldl St.Φ {S with asks:=0}with queue:= []}:St)=_;rw[h2];rfl
   have hn:=OG.nz S;rw[hp];split
   ·refine⟨hn,by show Ax _ S.out;rw[h3];exact Ax.nil _,?_,by show Ax _ S.hold;rw[h5];exact Ax.nil _⟩
    show Ax _ S.Dv;unfold St.Dv;rw[if_neg (by rw[h1];decide)];exact OG.Θ S
   ·exact⟨hn,by show Ax _ S.out;rw[h3];exact Ax.nil _,by show Ax _ S.pat;rw[h4];exact Ax.nil _,by show Ax _ S.hold;rw[h5];exact Ax.nil _⟩
theorem OD.goes{S T:St}(hg:Goes S T):OD S→OD T:=by
 induction hg with
 |stop _=>exact id
 |step _ _ ih=>exact fun h=>ih h.move
theorem OD.ext{S:St}(h:OD S)(u:ByteArray)(c:Bool):OD (S.ext (S.text++u) c):=by
 rcases h with h|h
 ·exact .inl (h.ext u c)
 ·exact .inr h
theorem OD.out{S:St}(h:OD S):Ax S.text.data.toList S.out:=by
 rcases h with h| ⟨_,_,h3,_⟩
 ·exact h.oo
 ·rw[h3];exact Ax.nil _
end M
namespace M
namespace St
theorem WJ(S:St)(k:Nat)(c:Cm):(S.AI k c).2.AB=S.AB∧(S.AI k c).2.room=S.room∧(S.AI k c).2.over=S.over:=by
 unfold AI;split
 ·exact⟨rfl,rfl,rfl⟩
 split
 ·exact⟨rfl,rfl,rfl⟩
 ·unfold AG
  split<;>exact⟨rfl,rfl,rfl⟩
end St
def DO(S:St):Prop:=S.AB≠0→S.over=true
namespace DO
theorem die(S:St)(e:Nat):DO (S.die e):=fun _=>rfl
theorem put{S:St}(h:DO S)(l:List Cl):DO (S.put l):=by
 unfold St.put;split
 ·exact h
 split
 ·exact die S 6
 ·exact h
theorem Ar{S:St}(h:DO S):DO S.Ar:=by unfold St.Ar;split;exact h;exact h.put _
theorem Ak{S:St}(h:DO S):DO S.Ak:=by unfold St.Ak;split;exact h.put _;exact h.put _
theorem fold(l:List ByteArray):∀{S:St},DO S→DO (l.foldl St.Φ S):=by
 induction l with
 |nil=>intro S h;exact h
 |cons x l ih=>intro S h;exact ih (h.put _)
theorem φ{S:St}(h:DO S):DO S.φ:=fold S.queue h
theorem AO{S:St}(h:DO S):DO S.AO:=h.φ
theorem Am(S:St):DO S.Am:=fun _=>rfl
theorem Ae{S:St}(h:DO S):DO S.Ae:=by
 unfold St.Ae;split
 ·exact h.AO
 ·have h1:DO {S with pat:=τ S.pat (Ad S.pat) S.pat.length}:=h
  exact h1.φ
theorem Bw{S:St}(h:DO S)(c:Cm):DO (S.Bw c):=by
 unfold St.Bw;split
 ·exact h.put _
 split
 ·exact h.Ak
 split
 ·exact h.put _
 split
 ·exact h.put _
 ·exact h
theorem subst{S:St}(h:DO S)(s:Lx):DO (S.subst s):=by
 unfold St.subst;simp only;split
 ·exact h
 split
 ·have h1:DO {S with pat:=Au S.pat s (CP s.ex (AL S.pat)) 1 0,mark:=true}:=h
  split
  ·exact h1.put _
  ·exact h1
 ·exact die S 5
theorem change{S:St}(h:DO S)(c:Cm):DO (S.change c):=by
 unfold St.change;simp only;split
 ·exact h
 split
 ·exact h
 split
 ·exact h
 split
 ·split
  ·exact h
  ·exact die S 5
 split
 ·split
  ·exact h
  ·exact die S 5
 split
 ·exact h.subst _
 ·exact h
theorem lead{S:St}(h:DO S)(c:Cm):DO (S.lead c):=by
 unfold St.lead;split
 ·exact h.AO
 split
 ·exact h.Ae
 split
 ·exact(h.put _).AO
 split
 ·exact h
 split
 ·exact h
 split
 ·exact Am S
 split
 ·exact h
 split
 ·exact h
 ·exact h
theorem does{S:St}(h:DO S)(c:Cm):DO (S.does c):=by
 unfold St.does;split
 ·exact h.Bw c
 split
 ·exact h.change c
 split
 ·exact h.lead c
 ·exact h
theorem AI{S:St}(h:DO S)(k:Nat)(c:Cm):DO (S.AI k c).2:=by
 intro hd;have hk:=St.WJ S k c;rw[hk.1]at hd;rw[hk.2.2];exact h hd
theorem reach{S:St}(h:DO S):DO S.reach:=by
 unfold St.reach;cases hc:S.cs[S.next]? with
 |none=>exact h.Ar.AO
 |some c=>
  simp only;split
  ·exact die S 4
  ·have h1:DO {S with steps:=S.steps - 1,next:=S.next+1}:=h
   have h2:=h1.AI S.next c;split
   ·exact h2.does c
   split
   ·exact h2
   ·exact h2
theorem Aq{S:St}(h:DO S):DO S.Aq:=by
 unfold St.Aq;have h0:DO {S with asks:=0}:=h;split
 ·exact h0.Ar.φ
 ·exact h0.φ
theorem take{S:St}(h:DO S):DO S.take:=by
 rw[St.IA];have h1:=h.Aq;split
 ·exact h1
 ·exact fun _=>rfl
theorem AW{S:St}(h:DO S):DO S.AW:=by
 unfold St.AW;split
 ·exact fun _=>rfl
 ·exact Am S
theorem move{S:St}(h:DO S):DO S.move:=by
 unfold St.move;split
 ·exact h.reach
 split
 ·exact h
 split
 ·exact h.AW
 ·exact h.take
theorem goes{S T:St}(hg:Goes S T):DO S→DO T:=by
 induction hg with
 |stop _=>exact fun h=>h
 |step _ _ ih=>exact fun h=>ih h.move
end DO
end M
end Go.Proofs.YtlppphmnegdhoabGreatDoor
