import Derived.Test.YtlppphmnegdhoabGreatDoorMz14
set_option maxRecDepth 100000
set_option linter.unusedVariables false
namespace Go.Proofs.YtlppphmnegdhoabGreatDoor
namespace M
structure Cy(D:DS):Prop where
 al:D.Al
 pr:D.pat.length≤D.room
 hr:D.hold.length≤D.room
 la:D.last=(D.closed && decide (D.text.size≤D.at'))
 be:D.closed=false→D.at'<D.text.size
theorem Cy.same{D E:DS}(h:Cy D)(s:JJ D E)(a:E.Al):Cy E:=
 ⟨a,by rw[s.pat,s.room];exact h.pr,by rw[s.hold,s.room];exact h.hr,by rw[s.last,s.closed,s.text,s.at'];exact h.la,fun e=>by rw[s.text,s.at'];exact h.be (by rw[←s.closed];exact e)⟩
theorem Cy.put{D:DS}(h:Cy D)(l:List Cl):Cy (D.put l):=h.same (G1 D l) (h.al.put l)
theorem Cy.flush{D:DS}(h:Cy D):Cy D.flush:=by
 have s:=Df D;have g:Cy {D.flush with queue:=D.queue}:=h.same s ⟨h.al.flush.ou,h.al.flush.st⟩;exact⟨h.al.flush,g.pr,g.hr,g.la,g.be⟩
theorem Cy.ο{D:DS}(h:Cy D)(b:Bool):Cy (D.ο b):=by
 unfold DS.ο;split
 ·exact(h.put _).flush
 ·exact h.flush
structure YW(c:Cm):Prop where
 c0:c.cnt=0↔c.a1.kind=0
 c1:c.cnt≠0→(c.cnt=1↔c.a2.kind=0)
 k1:c.a1.kind≤3
 k2:c.a2.kind≤3
namespace DS
theorem SU{D:DS}(h:Cy D)(cs:List Cm)(n a:Nat)(A:Ku)(h0:A.kind≠0)(h3:A.kind≤3):(D.Aj cs n a).holds A=D.holds A:=by
 unfold St.holds DS.holds
 by_cases h1:A.kind=1
 ·rw[if_pos h1,if_pos h1];rfl
 ·rw[if_neg h1,if_neg h1]
  by_cases h2:A.kind=2
  ·rw[if_pos h2,if_pos h2,h.la]
   show decide (D.text.size≤D.at')=_;cases hc:D.closed with
   |true=>rfl
   |false=>
    have:=h.be hc;simp;omega
  ·rw[if_neg h2,if_neg h2,if_pos (by omega)];rfl
theorem YX(l:List Bool)(k:Nat)(h:l.getD k false=false):l.set k false=l:=by
 apply List.ext_getElem?;intro i;rw[List.getElem?_set];split
 ·rename_i e
  subst e;split
  all_goals
   rename_i hl
  ·rw[List.getD_eq_getElem?_getD,List.getElem?_eq_getElem hl]at h
   rw[List.getElem?_eq_getElem hl];simp at h;rw[h]
  ·rw[List.getElem?_eq_none (by omega)]
 ·rfl
theorem gh{D:DS}(h:Cy D)(cs:List Cm)(n a k:Nat)(c:Cm)(h1:c.a1.kind≠0)(h2:c.a2.kind≠0)(hk:YW c):(D.Aj cs n a).AG k c=((D.AG k c).1,(D.AG k c).2.Aj cs n a):=by
 unfold St.AG DS.AG;rw[show(D.Aj cs n a).AM=D.AM from rfl,SU h cs n a _ h1 hk.k1,SU h cs n a _ h2 hk.k2,show(D.Aj cs n a).line=D.line from rfl]
 by_cases hr:D.AM.getD k false=true
 ·rw[if_pos hr,if_pos hr]
  have:(!D.holds c.a2 && !(decide (c.a2.kind=1) && decide (c.a2.line<D.line)))= !(D.Fm c.a2 || D.holds c.a2):=by
   unfold DS.Fm
   by_cases h1:c.a2.kind=1
   ·have:D.holds c.a2=(c.a2.line==D.line):=by unfold DS.holds;rw[if_pos h1]
    rw[this,h1,Bool.eq_iff_iff];simp;omega
   ·simp[h1]
  rw[this]
  rfl
 ·rw[if_neg hr,if_neg hr]
  have R1:D.AM.getD k false=false:=by simpa using hr
  cases hb:D.holds c.a1 with
  |true=>rfl
  |false=>
   show(false,_)=(false,D.Aj cs n a);rw[show(false && !(decide (c.a2.kind=1) && decide (c.a2.line≤D.line)))=false from rfl,YX _ _ R1]
   rfl
theorem bQ{D:DS}(h:Cy D)(cs:List Cm)(n a k:Nat)(c:Cm)(hk:YW c):(D.Aj cs n a).AI k c=((D.AX k c).1,(D.AX k c).2.Aj cs n a):=by
 unfold St.AI DS.AX
 by_cases h1:c.a1.kind=0
 ·rw[if_pos (hk.c0.2 h1),if_pos h1]
 ·have hc:=fun e=>h1 (hk.c0.1 e)
  rw[if_neg hc,if_neg h1]
  by_cases h2:c.a2.kind=0
  ·rw[if_pos ((hk.c1 hc).2 h2),if_pos h2,SU h cs n a _ h1 hk.k1]
  ·rw[if_neg (fun e=>h2 ((hk.c1 hc).1 e)),if_neg h2,gh h cs n a k c h1 h2 hk]
theorem YY{D:DS}(h:Cy D)(hs:D.state=0)(k:Nat)(c:Cm):Cy (D.AX k c).2∧(D.AX k c).2.state=0:=by
 unfold DS.AX;split
 ·exact⟨h,hs⟩
 split
 ·exact⟨h,hs⟩
 unfold DS.AG;split
 ·exact⟨⟨⟨h.al.ou,h.al.st⟩,h.pr,h.hr,h.la,h.be⟩,hs⟩
 ·show Cy (if D.holds c.a1 then _ else D)∧(if D.holds c.a1 then _ else D).state=0
  split
  ·exact⟨⟨⟨h.al.ou,h.al.st⟩,h.pr,h.hr,h.la,h.be⟩,hs⟩
  ·exact⟨h,hs⟩
theorem nd(D:DS)(cs:List Cm)(n a:Nat)(hs:D.state=0):((D.Aj cs n a).ask=2∧D.ask=(false,{D with state:=1})∧D.closed=false)∨((D.Aj cs n a).ask=3∧D.ask=(false,D)∧D.closed=true)∨((D.Aj cs n a).ask=1∧D.ask=(true,D)∧(D.closed=false→D.Cx+2≤D.text.size)∧D.at'<D.text.size):=by
 have hl:(D.Aj cs n a).Bj=D.Cx:=rfl;have hle:D.at'≤D.Cx:=Nat.le_add_right _ _;unfold St.ask DS.ask;rw[hl,show(D.Aj cs n a).text=D.text from rfl,show(D.Aj cs n a).closed=D.closed from rfl,show(D.Aj cs n a).behind=D.at' from rfl];cases hc:D.closed with
 |true=>
  rw[if_neg (fun x=>by cases x.1),if_pos rfl]
  by_cases h:D.text.size≤D.at'
  ·refine .inr (.inl ⟨by rw[if_pos h],?_,rfl⟩)
   rw[decide_eq_false (by omega)]
  ·refine .inr (.inr ⟨by rw[if_neg h],?_,fun e=>(by cases e),by omega⟩)
   rw[decide_eq_true (by omega)]
 |false=>
  by_cases h:D.text.size≤D.Cx+1
  ·refine .inl ⟨by rw[if_pos ⟨rfl,by omega⟩],?_,rfl⟩
   rw[if_neg (by decide),if_pos h]
  ·refine .inr (.inr ⟨by rw[if_neg (fun x=>by omega),if_neg (by omega)],?_,fun _=>by omega,by omega⟩)
   rw[if_neg (by decide),if_neg h,decide_eq_true hs]
theorem SV(B:DS)(cs:List Cm)(n a:Nat):({(B.Aj cs n a).took with line:=(B.Aj cs n a).line+1,mark:=false}:St)=B.take.Aj cs n a:=by
 unfold St.took DS.take;rw[show(B.Aj cs n a).Bj=B.Cx from rfl,show(B.Aj cs n a).text=B.text from rfl];split<;>rfl
theorem OB{B:DS}(h:B.Al):B.take.Al∧B.take.state=B.state∧B.take.err=B.err∧B.take.room=B.room∧B.take.hold=B.hold∧B.take.pat=B.pat∧B.take.closed=B.closed∧B.take.text=B.text∧B.take.out=B.out∧B.take.last=(B.take.closed && decide (B.take.text.size≤B.take.at'))∧B.take.at'=if B.Cx<B.text.size then B.Cx+1 else B.Cx:=by
 unfold DS.take;split
 all_goals
  exact⟨⟨h.ou,h.st⟩,rfl,rfl,rfl,rfl,rfl,rfl,rfl,rfl,rfl,rfl⟩
theorem YZ{B:DS}(h:B.Al)(hs:B.state=0)(hh:B.hold.length≤B.room)(hc:B.closed=false→B.Cx+2≤B.text.size)(l:List Cl):(B.take.pattern l).Al∧((B.take.pattern l).state=0→Cy (B.take.pattern l)):=by
 obtain⟨a,e1,e2,e3,e4,e5,e6,e7,e8,e9,e10⟩ :=OB h;refine⟨Mz a l (by rw[e1];exact hs),fun BZ=> ?_⟩;have ap:=Mz a l (by rw[e1];exact hs);unfold DS.pattern at BZ ap⊢;split at BZ
 ·cases BZ
 ·rename_i hl
  rw[if_neg hl]at ap⊢;refine⟨ap,by show l.length≤B.take.room;omega,by show B.take.hold.length≤B.take.room;rw[e3,e4];exact hh,e9,fun e=> ?_⟩;have e':B.take.closed=false:=e;rw[e6]at e';have:=hc e';show B.take.at'<B.take.text.size;rw[e10,e7,if_pos (by omega)];omega
end DS
theorem Hm{S:St}(ho:S.over=false)(h:S.asks=0∨S.ask≠2):S.still=false:=by
 unfold St.still St.stuck;rw[ho];rcases h with h|h
 ·rw[h];rfl
 ·simp[h]
theorem Ya{D:DS}(h:Cy D)(hs:D.state=0)(cs:List Cm)(k nm a:Nat)(ha:(nm=110∧a=2)∨(nm=78∧a=3)):nP cs (D.Aj cs (k+1) a) (D.De nm,(k:Int)+1)∧((D.De nm).state=0→Cy (D.De nm)):=by
 have he:D.err=0:=by rcases h.al.st with⟨_,e⟩ | ⟨e,_⟩ <;>omega
 have ho:(D.Aj cs (k+1) a).over=false:=by show decide (2≤D.state)=false;rw[hs];rfl
 have ha0:a≠0:=by omega
 have Uo:(D.Aj cs (k+1) a).asks=a:=rfl;rcases DS.nd D cs (k+1) a hs with⟨q,e,hc⟩ | ⟨q,e,hc⟩ | ⟨q,e,hc,Cw⟩
 ·have hn:D.De nm= {D with state:=1}:=by unfold DS.De;rw[e,if_pos rfl]
  rw[hn];refine⟨⟨fun _=>⟨D.Aj cs (k+1) a,.stop ?_,rfl,rfl⟩,fun e=>absurd e (by show 1≠0;decide),fun e=>absurd e (by show 1≠0;decide)⟩,fun e=>absurd e (by show 1≠0;decide)⟩;unfold St.still St.stuck;rw[ho,q,Uo];simp[ha0]
 ·have hn:D.De nm=D.early:=by unfold DS.De;rw[e,if_neg (by show¬D.state=1;omega),if_pos rfl]
  rw[hn];have hb:=h.al.ο true;have hm:(D.Aj cs (k+1) a).move= {(D.ο true).Aj cs (k+1) a with over:=true}:=by
   unfold St.move;rw[if_neg (by rw[Uo];exact ha0),if_neg (by rw[q];decide),if_pos q];unfold St.AW;rw[if_neg (by rw[Uo];omega)];unfold St.Am;rw[DS.WC h.al]
  have BZ:D.early.state≠0∧D.early.out=(D.ο true).out∧D.early.err=(D.ο true).err:=by
   unfold DS.early;split
   ·exact⟨by show 2≠0;decide,rfl,rfl⟩
   ·exact⟨by assumption,rfl,rfl⟩
  refine⟨⟨fun _=>⟨_,.step (Hm ho (.inr (by rw[q];decide))) (Ct (by rw[hm])),?_,?_⟩,fun e=>absurd e BZ.1,fun e=>absurd e BZ.1⟩,fun e=>absurd e BZ.1⟩
  ·rw[hm];exact BZ.2.1.symm
  ·rw[hm];exact BZ.2.2.symm
 ·have hm:(D.Aj cs (k+1) a).move=(D.Aj cs (k+1) a).take:=by
   unfold St.move;rw[if_neg (by rw[Uo];exact ha0),if_neg (by rw[q];decide),if_neg (by rw[q];decide)]
  have BZ:=Hm (S:=D.Aj cs (k+1) a) ho (.inr (by rw[q];decide));obtain⟨B,hB⟩ :∃B,D.ο (nm==110)=B:=⟨_,rfl⟩
  have ph:B.Al:=by rw[←hB];exact h.al.ο _
  have hBc:Cy B:=by rw[←hB];exact h.ο _
  have hBs:B.text=D.text∧B.closed=D.closed∧B.at'=D.at':=by
   rw[←hB];unfold DS.ο;split
   ·have s:=(G1 D (AJ D.pat (C4 D.nl) [])).trans (Df D.GL)
    exact⟨s.text,s.closed,s.at'⟩
   ·have s:=Df D
    exact⟨s.text,s.closed,s.at'⟩
  have hS3:(if(D.Aj cs (k+1) a).asks=2 then St.Ar {D.Aj cs (k+1) a with asks:=0}else{D.Aj cs (k+1) a with asks:=0}).φ=B.Aj cs (k+1) 0:=by
   rw[Uo,←hB];rcases ha with⟨rfl,rfl⟩ | ⟨rfl,rfl⟩
   ·rw[if_pos rfl]
    exact DS.WC h.al cs (k+1) 0
   ·rw[if_neg (by decide)]
    exact DS.G2 h.al cs (k+1) 0
  obtain⟨l,hl⟩ :∃l,(if nm=78 then AJ B.pat (C4 B.nl) B.Θ else B.Θ)=l:=⟨_,rfl⟩
  have pj:(D.Aj cs (k+1) a).take=if(B.take.Aj cs (k+1) 0).fits l.length then{B.take.Aj cs (k+1) 0 with pat:=l}else(B.take.Aj cs (k+1) 0).die 5:=by
   unfold St.take;simp only;rw[hS3,DS.SV,Uo];have:(if a=3 then AJ (B.Aj cs (k+1) 0).pat (C4 (B.Aj cs (k+1) 0).nl) (B.Aj cs (k+1) 0).Θ else(B.Aj cs (k+1) 0).Θ)=l:=by
    rw[←hl];rcases ha with⟨rfl,rfl⟩ | ⟨rfl,rfl⟩
    ·rfl
    ·rfl
   rw[this,←DS.SV]
  have hn:D.De nm=if B.state≠0 then B else B.take.pattern l:=by
   unfold DS.De;simp only;rw[e,if_neg (by show¬D.state=1;omega),if_neg (by show¬true=false;decide)];show(if(D.ο (nm==110)).state≠0 then _ else _)=_;rw[hB,hl]
  by_cases hb:B.state=0
  ·rw[if_neg (by simp[hb])]at hn
   have hbe:B.err=0:=by rcases ph.st with⟨_,e⟩ | ⟨e,_⟩ <;>omega
   obtain⟨ta,e1,e2,_⟩ :=DS.OB ph;rw[DS.LK ⟨by rw[e1];exact hb,by rw[e2];exact hbe⟩]at pj
   obtain⟨g1,g2⟩ :=DS.YZ ph hb hBc.hr (fun x=>by
    have:=hc (by rw[←hBs.2.1];exact x);have e9:B.Cx=D.Cx:=by unfold DS.Cx;rw[hBs.1,hBs.2.2]
    rw[e9,hBs.1];exact this) l
   rw[hn];refine⟨nP.pre (T:=(B.take.pattern l).Aj cs (k+1) 0) ?_ (PV g1 (by omega)),g2⟩;have:=Mv.move BZ;rw[hm,pj]at this;exact this
  ·rw[if_pos hb]at hn
   rw[hn];refine⟨⟨fun _=>⟨(D.Aj cs (k+1) a).take,?_,?_,?_⟩,fun x=>absurd x hb,fun x=>absurd x hb⟩,fun x=>absurd x hb⟩
   all_goals have CM:B.state=3∧B.err≠0:=ph.st.resolve_left (fun x=>hb x.1)
   all_goals obtain⟨ta,e1,e2,e3,e4,e5,e6,e7,e8,_⟩ :=DS.OB ph
   ·have hg:(D.Aj cs (k+1) a).take.over=true:=by
     rw[pj];split
     ·show decide (2≤B.take.state)=true;rw[e1,CM.1];rfl
     ·rfl
    exact .step BZ (by rw[hm];exact Ct hg)
   ·rw[pj]
    split
    ·exact e8
    ·exact e8
   ·rw[pj]
    split
    ·exact e2
    ·show(if B.take.err=0 then 5 else B.take.err)=_
     rw[if_neg (by rw[e2];exact CM.2)];exact e2
end M
namespace M
theorem Cy.err{D:DS}(h:Cy D)(hs:D.state=0):D.err=0:=by rcases h.al.st with⟨_,e⟩ | ⟨e,_⟩ <;>omega
theorem Up(l:List Cl)(b:Nat):τ l b l.length=l.drop b:=by
 unfold τ;rw[List.take_of_length_le (by rw[List.length_drop];exact δ)]
theorem Cy.pattern{D:DS}(h:Cy D)(hs:D.state=0)(l:List Cl):(D.pattern l).Al∧((D.pattern l).state=0→Cy (D.pattern l)):=by
 have a:=DS.Mz h.al l hs;refine⟨a,fun e=> ?_⟩;unfold DS.pattern at a e⊢;split at e
 ·cases e
 ·rename_i hl
  rw[if_neg hl]at a⊢;exact⟨a,by show l.length≤D.room;omega,h.hr,h.la,h.be⟩
theorem Cy.Ca{D:DS}(h:Cy D)(hs:D.state=0)(l:List Cl):(D.Ca l).Al∧((D.Ca l).state=0→Cy (D.Ca l)):=by
 have a:=DS.sw h.al l hs;refine⟨a,fun e=> ?_⟩;unfold DS.Ca at a e⊢;split at e
 ·cases e
 ·rename_i hl
  rw[if_neg hl]at a⊢;exact⟨a,h.pr,by show l.length≤D.room;omega,h.la,h.be⟩
theorem Em{cs:List Cm}{D:DS}{k:Nat}(h:D.Al)(hc:D.state=0→Cy D):nP cs (D.Aj cs (k+1) 0) (D,(k:Int)+1)∧(D.state=0→Cy D):=⟨PV h (by omega),hc⟩
theorem gm{D:DS}(h:Cy D)(hs:D.state=0)(cs:List Cm)(n:Nat)(s:Lx):(D.Aj cs n 0).subst s=(D.subst s).Aj cs n 0∧(D.subst s).Al∧((D.subst s).state=0→Cy (D.subst s)):=by
 unfold St.subst DS.subst;simp only;rw[show(D.Aj cs n 0).pat=D.pat from rfl];obtain⟨ms,hms⟩ :∃ms,CP s.ex (AL D.pat)=ms:=⟨_,rfl⟩
 obtain⟨r,hr⟩ :∃r,Au D.pat s ms 1 0=r:=⟨_,rfl⟩
 rw[hms,hr]
 by_cases hc:ms.length<s.count
 ·rw[if_pos hc,if_pos hc];exact⟨rfl,h.al,fun _=>h⟩
 ·rw[if_neg hc,if_neg hc]
  have hp:=h.pattern hs r
  by_cases hl:D.room<r.length
  ·have e1:D.pattern r=D.die 5:=by unfold DS.pattern;rw[if_pos hl]
   rw[e1]at hp⊢;rw[if_neg (by unfold St.fits;show¬decide (r.length≤D.room)=true;simp;omega),if_neg (by show¬3=0;decide)];refine⟨?_,hp.1,fun e=>absurd e (by show¬3=0;decide)⟩;unfold St.die DS.die DS.Aj;simp[h.err hs]
  ·have e1:D.pattern r= {D with pat:=r}:=by unfold DS.pattern;rw[if_neg hl]
   rw[e1]at hp⊢;rw[if_pos (by unfold St.fits;show decide (r.length≤D.room)=true;simp;omega),if_pos (show({D with pat:=r}:DS).state=0 from hs)];have c1:=hp.2 hs;have c2:Cy {D with pat:=r,mark:=true}:=⟨⟨c1.al.ou,c1.al.st⟩,c1.pr,c1.hr,c1.la,c1.be⟩
   cases s.Pt with
   |true=>
    refine⟨?_,(c2.put _).al,fun _=>c2.put _⟩;show St.BU (({D with pat:=r,mark:=true}:DS).Aj cs n 0)=_;rw[DS.N9 c2.al]
    rfl
   |false=>exact⟨rfl,c2.al,fun _=>c2⟩
theorem ng{D:DS}(h:Cy D)(hs:D.state=0)(cs:List Cm)(k:Nat)(c:Cm):nP cs ((D.Aj cs (k+1) 0).does c) (D.does k c)∧((D.does k c).1.state=0→Cy (D.does k c).1):=by
 have he:=h.err hs;obtain⟨nm,CF⟩ :∃nm,c.name=nm:=⟨_,rfl⟩
 unfold DS.does;simp only[CF]
 by_cases h1:nm=100
 ·rw[if_pos h1]
  have e1:(D.Aj cs (k+1) 0).does c=D.flush.Aj cs 0 1:=by unfold St.does St.lead;simp[CF,h1];exact DS.PU h.al cs (k+1)
  rw[e1];exact⟨⟨fun e=>absurd hs e,fun _ e=>absurd e (by show¬(0:Int)≤ -1;decide),fun _ _=> .refl _⟩,fun _=>h⟩
 rw[if_neg h1]
 by_cases h2:nm=68
 ·rw[if_pos h2]
  have e0:(D.Aj cs (k+1) 0).does c=(D.Aj cs (k+1) 0).Ae:=by unfold St.does St.lead;simp[CF,h2]
  rw[e0];unfold St.Ae;rw[show(D.Aj cs (k+1) 0).pat=D.pat from rfl]
  by_cases hb:Ad D.pat=0
  ·rw[if_pos hb,if_pos hb,DS.PU h.al]
   exact⟨⟨fun e=>absurd hs e,fun _ e=>absurd e (by show¬(0:Int)≤ -1;decide),fun _ _=> .refl _⟩,fun _=>h⟩
  ·rw[if_neg hb,if_neg hb,Up]
   have c1:Cy {D with pat:=D.pat.drop (Ad D.pat)}:=⟨⟨h.al.ou,h.al.st⟩,by show(D.pat.drop (Ad D.pat)).length≤D.room;rw[List.length_drop];have:=h.pr;omega,h.hr,h.la,h.be⟩
   refine⟨⟨fun e=>absurd hs e,fun _ e=>absurd e (by show¬(0:Int)≤ -2;decide),fun _ _=> ?_⟩,fun _=>c1⟩;have e2:=DS.G2 c1.al cs (k+1) 0;have e3:({D.Aj cs (k+1) 0 with pat:=D.pat.drop (Ad D.pat)}:St)=({D with pat:=D.pat.drop (Ad D.pat)}:DS).Aj cs (k+1) 0:=rfl;show Mv {St.φ {D.Aj cs (k+1) 0 with pat:=D.pat.drop (Ad D.pat)}with next:=0} _;rw[e3,e2];exact .refl _
 rw[if_neg h2]
 by_cases h3:nm=113
 ·rw[if_pos h3]
  have e0:(D.Aj cs (k+1) 0).does c= {(D.ο true).Aj cs (k+1) 0 with over:=true}:=by
   have:(D.Aj cs (k+1) 0).does c=(D.Aj cs (k+1) 0).Am:=by unfold St.does St.lead;simp[CF,h3]
   rw[this];unfold St.Am;rw[DS.WC h.al]
  have BZ:D.early.state≠0∧D.early.out=(D.ο true).out∧D.early.err=(D.ο true).err:=by
   unfold DS.early;split
   ·exact⟨by show 2≠0;decide,rfl,rfl⟩
   ·exact⟨by assumption,rfl,rfl⟩
  rw[e0];exact⟨⟨fun _=>⟨_,Ct rfl,BZ.2.1.symm,BZ.2.2.symm⟩,fun e=>absurd e BZ.1,fun e=>absurd e BZ.1⟩,fun e=>absurd e BZ.1⟩
 rw[if_neg h3]
 by_cases h4:nm=98
 ·rw[if_pos h4]
  have e0:(D.Aj cs (k+1) 0).does c=D.Aj cs c.next 0:=by unfold St.does St.lead;simp[CF,h4];rfl
  rw[e0];exact⟨PV h.al rfl,fun _=>h⟩
 rw[if_neg h4]
 by_cases h5:nm=116
 ·rw[if_pos h5]
  have e0:(D.Aj cs (k+1) 0).does c=if D.mark then{D.Aj cs (k+1) 0 with mark:=false,next:=c.next}else D.Aj cs (k+1) 0:=by unfold St.does St.lead;simp[CF,h5];rfl
  rw[e0];cases D.mark with
  |true=>
   have c1:Cy {D with mark:=false}:=⟨⟨h.al.ou,h.al.st⟩,h.pr,h.hr,h.la,h.be⟩
   exact⟨PV (D:= {D with mark:=false}) c1.al rfl,fun _=>c1⟩
  |false=>exact Em h.al (fun _=>h)
 rw[if_neg h5]
 by_cases h6:nm=110∨nm=78
 ·rw[if_pos h6]
  rcases h6 with h6|h6
  ·have e0:(D.Aj cs (k+1) 0).does c=D.Aj cs (k+1) 2:=by unfold St.does St.lead;simp[CF,h6];rfl
   rw[e0];exact Ya h hs cs k nm 2 (.inl ⟨h6,rfl⟩)
  ·have e0:(D.Aj cs (k+1) 0).does c=D.Aj cs (k+1) 3:=by unfold St.does St.lead;simp[CF,h6];rfl
   rw[e0];exact Ya h hs cs k nm 3 (.inr ⟨h6,rfl⟩)
 rw[if_neg h6]
 by_cases h7:nm=115
 ·rw[if_pos h7]
  obtain⟨e1,e2,e3⟩ :=gm h hs cs (k+1) c.sub;have e0:(D.Aj cs (k+1) 0).does c=(D.Aj cs (k+1) 0).subst c.sub:=by unfold St.does St.change;simp[CF,h7]
  rw[e0,e1];exact Em e2 e3
 rw[if_neg h7]
 by_cases h8:nm=121
 ·rw[if_pos h8]
  have e0:(D.Aj cs (k+1) 0).does c=(D.turned c).Aj cs (k+1) 0:=by unfold St.does St.change;simp[CF,h8];rfl
  rw[e0];have c1:Cy (D.turned c):=⟨⟨h.al.ou,h.al.st⟩,by show(D.pat.map _).length≤D.room;rw[List.length_map];exact h.pr,h.hr,h.la,h.be⟩
  exact Em c1.al (fun _=>c1)
 rw[if_neg h8]
 by_cases h9:nm=104∨nm=72∨nm=103∨nm=71∨nm=120
 ·rw[if_pos h9]
  have e0:(D.Aj cs (k+1) 0).does c=(D.Aj cs (k+1) 0).change c:=by
   unfold St.does;rw[CF,if_neg (by omega),if_pos (by omega)]
  rw[e0];have Gz:=h.pr;have hhr:=h.hr;unfold DS.Da;rcases h9 with e|e |e |e |e
  ·have e1:(D.Aj cs (k+1) 0).change c=(D.Ca D.pat).Aj cs (k+1) 0:=by
    unfold St.change DS.Ca;simp[CF,e];rw[if_neg (by omega)];rfl
   rw[if_pos e,e1];exact Em (h.Ca hs _).1 (h.Ca hs _).2
  ·have e1:(D.Aj cs (k+1) 0).change c=(D.Ca (AJ D.hold (C4 (-1)) D.pat)).Aj cs (k+1) 0:=by
    rw[←DS.nO ⟨hs,he⟩];unfold St.change;simp[CF,e];rfl
   rw[if_neg (by omega),if_pos e,e1];exact Em (h.Ca hs _).1 (h.Ca hs _).2
  ·have e1:(D.Aj cs (k+1) 0).change c=(D.pattern D.hold).Aj cs (k+1) 0:=by
    unfold St.change DS.pattern;simp[CF,e];rw[if_neg (by omega)];rfl
   rw[if_neg (by omega),if_neg (by omega),if_pos e,e1];exact Em (h.pattern hs _).1 (h.pattern hs _).2
  ·have e1:(D.Aj cs (k+1) 0).change c=(D.pattern (AJ D.pat (C4 (-1)) D.hold)).Aj cs (k+1) 0:=by
    rw[←DS.LK ⟨hs,he⟩];unfold St.change;simp[CF,e];rfl
   rw[if_neg (by omega),if_neg (by omega),if_neg (by omega),if_pos e,e1];exact Em (h.pattern hs _).1 (h.pattern hs _).2
  ·have e1:(D.Aj cs (k+1) 0).change c=({D with pat:=D.hold,hold:=D.pat}:DS).Aj cs (k+1) 0:=by
    unfold St.change;simp[CF,e];rfl
   rw[if_neg (by omega),if_neg (by omega),if_neg (by omega),if_neg (by omega),if_pos e,e1];have c1:Cy {D with pat:=D.hold,hold:=D.pat}:=⟨⟨h.al.ou,h.al.st⟩,h.hr,h.pr,h.la,h.be⟩
   exact Em c1.al (fun _=>c1)
 rw[if_neg h9];unfold DS.says;simp only[CF]
 by_cases g1:nm=112
 ·have e0:(D.Aj cs (k+1) 0).does c=D.GL.Aj cs (k+1) 0:=by
   rw[←DS.N9 h.al];unfold St.does St.Bw;simp[CF,g1]
  rw[if_pos g1,if_neg (by omega),e0];exact Em (h.put _).al (fun _=>h.put _)
 rw[if_neg g1]
 by_cases g2:nm=61
 ·have e0:(D.Aj cs (k+1) 0).does c=(D.tell (St.itoa D.line)).Aj cs (k+1) 0:=by
   have:=DS.Lh h.al cs (k+1) 0 (AJ (BJ (St.itoa D.line).data.toList) (C4 (-1)) []);unfold St.does St.Bw;simp[CF,g2];exact this
  rw[if_pos g2,if_neg (by omega),e0];exact Em (h.put _).al (fun _=>h.put _)
 rw[if_neg g2]
 by_cases g3:nm=80
 ·have e0:(D.Aj cs (k+1) 0).does c=(D.Aj cs (k+1) 0).Ak:=by unfold St.does St.Bw;simp[CF,g3]
  rw[if_pos g3,if_neg (show¬nm=99 by omega),e0];unfold St.Ak;rw[show(D.Aj cs (k+1) 0).pat=D.pat from rfl]
  by_cases hb:Ad D.pat=0
  ·rw[if_pos hb,if_pos hb,DS.N9 h.al]
   exact Em (h.put _).al (fun _=>h.put _)
  ·rw[if_neg hb,if_neg hb,show τ D.pat 0 (Ad D.pat)=D.pat.take (Ad D.pat)from rfl,DS.Lh h.al]
   exact Em (h.put _).al (fun _=>h.put _)
 rw[if_neg g3]
 by_cases g4:nm=97
 ·have e0:(D.Aj cs (k+1) 0).does c=({D with queue:=D.queue++ [c.text]}:DS).Aj cs (k+1) 0:=by unfold St.does St.Bw;simp[CF,g4];rfl
  rw[if_pos g4,if_neg (by omega),e0];have c1:Cy {D with queue:=D.queue++ [c.text]}:=⟨⟨h.al.ou,h.al.st⟩,h.pr,h.hr,h.la,h.be⟩
  exact Em c1.al (fun _=>c1)
 rw[if_neg g4]
 by_cases g5:nm=99
 ·have e0:(D.Aj cs (k+1) 0).does c=(D.tell c.text).flush.Aj cs 0 1:=by
   have e1:(D.Aj cs (k+1) 0).does c=((D.Aj cs (k+1) 0).Φ c.text).AO:=by unfold St.does St.lead;simp[CF,g5]
   have e2:(D.Aj cs (k+1) 0).Φ c.text=(D.tell c.text).Aj cs (k+1) 0:=DS.Lh h.al cs (k+1) 0 _;rw[e1,e2,DS.PU (D:=D.tell c.text) (h.put _).al]
  rw[if_pos (.inr g5),if_pos g5,e0];refine⟨⟨fun e=> ?_,fun _ e=>absurd e (by show¬(0:Int)≤ -1;decide),fun _ _=> .refl _⟩,fun _=>h.put _⟩;obtain⟨f1,f2,f3⟩ :=DS.bN (D:=D.tell c.text) e;refine⟨_,Ct ?_,f1,f2⟩;show decide (2≤(D.tell c.text).flush.state)=true;rw[f3];rcases(h.put (AJ (BJ c.text.data.toList) (C4 (-1)) [])).al.st with⟨x,_⟩ | ⟨x,_⟩
  ·exact absurd x e
  ·rw[show(D.tell c.text).state=3 from x];rfl
 by_cases g6:nm=105
 ·have e0:(D.Aj cs (k+1) 0).does c=(D.tell c.text).Aj cs (k+1) 0:=by
   have:=DS.Lh h.al cs (k+1) 0 (AJ (BJ c.text.data.toList) (C4 (-1)) []);unfold St.does St.Bw;simp[CF,g6];exact this
  rw[if_pos (.inl g6),if_neg g5,e0];exact Em (h.put _).al (fun _=>h.put _)
 ·have e0:(D.Aj cs (k+1) 0).does c=D.Aj cs (k+1) 0:=by
   unfold St.does;rw[CF,if_neg (by omega),if_neg (by omega),if_neg (by omega)]
  rw[if_neg (by omega),if_neg g5,e0];exact Em h.al (fun _=>h)
theorem nh{D:DS}(h:Cy D)(hs:D.state=0)(cs:List Cm)(k:Nat)(c:Cm)(hc:cs[k]? =some c)(hk:YW c)(hu:D.used<D.steps):nP cs (D.Aj cs k 0) (D.step k c)∧((D.step k c).1.state=0→Cy (D.step k c).1):=by
 have c1:Cy {D with used:=D.used+1}:=⟨⟨h.al.ou,h.al.st⟩,h.pr,h.hr,h.la,h.be⟩
 have ho:(D.Aj cs k 0).over=false:=by show decide (2≤D.state)=false;rw[hs];rfl
 have hm:(D.Aj cs k 0).move=if(DS.AX {D with used:=D.used+1} k c).1 then((DS.AX {D with used:=D.used+1} k c).2.Aj cs (k+1) 0).does c else if c.name=123 then(DS.AX {D with used:=D.used+1} k c).2.Aj cs c.next 0 else(DS.AX {D with used:=D.used+1} k c).2.Aj cs (k+1) 0:=by
  unfold St.move;rw[if_pos (show(D.Aj cs k 0).asks=0 from rfl)];unfold St.reach;rw[show(D.Aj cs k 0).cs=cs from rfl,show(D.Aj cs k 0).next=k from rfl,hc];simp only;rw[if_neg (show¬(D.Aj cs k 0).steps=0 by show¬D.steps - D.used=0;omega)];have e2:=DS.bQ c1 cs (k+1) 0 k c hk;show(if(St.AI (DS.Aj {D with used:=D.used+1} cs (k+1) 0) k c).1 then(St.AI (DS.Aj {D with used:=D.used+1} cs (k+1) 0) k c).2.does c else if c.name=123 then{(St.AI (DS.Aj {D with used:=D.used+1} cs (k+1) 0) k c).2 with next:=c.next}else(St.AI (DS.Aj {D with used:=D.used+1} cs (k+1) 0) k c).2)=_;rw[e2]
  rfl
 obtain⟨s1,s2⟩ :=DS.YY c1 hs k c;have gp:=Mv.move (Hm ho (.inl rfl));rw[hm]at gp;unfold DS.step;simp only;obtain⟨sel,ADw⟩ :∃x,DS.AX {D with used:=D.used+1} k c=x:=⟨_,rfl⟩
 rw[ADw]at s1 s2 gp⊢
 by_cases h1:sel.1=true
 ·rw[if_pos h1]at gp⊢
  obtain⟨g1,g2⟩ :=ng s1 s2 cs k c;exact⟨g1.pre gp,g2⟩
 ·rw[if_neg h1]at gp⊢
  by_cases h2:c.name=123
  ·rw[if_pos h2]at gp⊢
   exact⟨nP.pre gp (PV s1.al rfl),fun _=>s1⟩
  ·rw[if_neg h2]at gp⊢
   exact⟨nP.pre gp (PV s1.al (by omega)),fun _=>s1⟩
structure Gw(D E:DS):Prop where
 text:E.text=D.text
 closed:E.closed=D.closed
 quiet:E.quiet=D.quiet
 steps:E.steps=D.steps
 room:E.room=D.room
 used:E.used=D.used
 at':D.at'≤E.at'
 AM:E.AM.length=D.AM.length
 line:D.line≤E.line∧E.line+D.at'≤D.line+E.at'
theorem Gw.refl(D:DS):Gw D D:=⟨rfl,rfl,rfl,rfl,rfl,rfl,δ,rfl,⟨δ,δ⟩⟩
theorem Gw.trans{D E F:DS}(h:Gw D E)(g:Gw E F):Gw D F:=⟨g.text.trans h.text,g.closed.trans h.closed,g.quiet.trans h.quiet,g.steps.trans h.steps,g.room.trans h.room,g.used.trans h.used,Nat.le_trans h.at' g.at',g.AM.trans h.AM,by have:=h.line;have:=g.line;omega⟩
theorem Gw.ite{D E F:DS}{p:Prop} [Decidable p](h:p→Gw D E)(k:¬p→Gw D F):Gw D (if p then E else F):=by
 split
 ·exact h ‹_›
 ·exact k ‹_›
theorem JJ.gw{D E:DS}(s:JJ D E):Gw D E:=⟨s.text,s.closed,s.quiet,s.steps,s.room,s.used,by rw[s.at'];exact δ,by rw[s.AM],by rw[s.line,s.at'];omega⟩
theorem M0(D:DS)(l:List Cl):Gw D (D.put l):=(G1 D l).gw
theorem JL(D:DS):Gw D D.flush:=by
 have s:=(Df D).gw;exact⟨s.text,s.closed,s.quiet,s.steps,s.room,s.used,s.at',s.AM,s.line⟩
theorem Cg(D:DS)(b:Bool):Gw D (D.ο b):=by
 unfold DS.ο;split
 ·exact(M0 D _).trans (JL _)
 ·exact JL D
theorem Yb(D:DS):Gw D D.early:=by
 have s:=Cg D true;unfold DS.early;exact .ite (fun _=>⟨s.text,s.closed,s.quiet,s.steps,s.room,s.used,s.at',s.AM,s.line⟩) (fun _=>s)
theorem Fp(D:DS)(l:List Cl):Gw D (D.pattern l):=by
 unfold DS.pattern;exact .ite (fun _=>⟨rfl,rfl,rfl,rfl,rfl,rfl,δ,rfl,⟨δ,δ⟩⟩) (fun _=>⟨rfl,rfl,rfl,rfl,rfl,rfl,δ,rfl,⟨δ,δ⟩⟩)
theorem Yc(D:DS)(l:List Cl):Gw D (D.Ca l):=by
 unfold DS.Ca;exact .ite (fun _=>⟨rfl,rfl,rfl,rfl,rfl,rfl,δ,rfl,⟨δ,δ⟩⟩) (fun _=>⟨rfl,rfl,rfl,rfl,rfl,rfl,δ,rfl,⟨δ,δ⟩⟩)
theorem dZ(D:DS):D.at'≤D.Cx:=Nat.le_add_right _ _
theorem Qx(D:DS)(h:D.at'<D.text.size):Gw D D.take∧D.at'<D.take.at':=by
 have:=dZ D;unfold DS.take;split
 ·exact⟨⟨rfl,rfl,rfl,rfl,rfl,rfl,by show D.at'≤D.Cx+1;omega,rfl,⟨Nat.le_succ _,by show D.line+1+D.at'≤D.line+(D.Cx+1);omega⟩⟩,by show D.at'<D.Cx+1;omega⟩
 ·exact⟨⟨rfl,rfl,rfl,rfl,rfl,rfl,by show D.at'≤D.Cx;omega,rfl,⟨Nat.le_succ _,by show D.line+1+D.at'≤D.line+D.Cx;omega⟩⟩,by show D.at'<D.Cx;omega⟩
theorem bR(D:DS):Gw D D.ask.2:=by
 unfold DS.ask;split
 ·exact .refl D
 ·split
  ·exact⟨rfl,rfl,rfl,rfl,rfl,rfl,δ,rfl,⟨δ,δ⟩⟩
  ·exact .refl D
theorem EM(D:DS)(h:D.ask.1=true):D.ask.2=D∧D.at'<D.text.size∧(D.closed=false→D.Cx+2≤D.text.size):=by
 have:=dZ D;unfold DS.ask at h⊢;split at h
 all_goals
  rename_i hc
 ·rw[if_pos hc]
  exact⟨rfl,by simpa using h,fun e=>by rw[hc]at e;cases e⟩
 ·split at h
  ·cases h
  ·rename_i hl
   rw[if_neg hc,if_neg hl];exact⟨rfl,by omega,fun _=>by omega⟩
theorem Ga(D:DS)(b:Bool):(D.ο b).at'=D.at'∧(D.ο b).text=D.text:=by
 unfold DS.ο;split
 ·have s:=(G1 D (AJ D.pat (C4 D.nl) [])).trans (Df D.GL)
  exact⟨s.at',s.text⟩
 ·exact⟨(Df D).at',(Df D).text⟩
theorem ni(D:DS)(nm:Nat):Gw D (D.De nm):=by
 unfold DS.De;simp only;have a:=bR D;refine .ite (fun _=>a) (fun h1=> .ite (fun _=>a.trans (Yb _)) (fun h2=> .ite (fun _=>a.trans (Cg _ _)) (fun h3=> ?_)));have h2':D.ask.1=true:=by simpa using h2
 obtain⟨e,Cw,_⟩ :=EM D h2';have g:=Cg D.ask.2 (nm==110);refine(a.trans g).trans (Gw.trans (Qx _ ?_).1 (Fp _ _));have s:=Ga D.ask.2 (nm==110);rw[s.1,s.2,e];exact Cw
theorem nj(D:DS)(s:Lx):Gw D (D.subst s):=by
 unfold DS.subst;simp only;have p:=Fp D (Au D.pat s (CP s.ex (AL D.pat)) 1 0);have p2:Gw D {D.pattern (Au D.pat s (CP s.ex (AL D.pat)) 1 0)with mark:=true}:=⟨p.text,p.closed,p.quiet,p.steps,p.room,p.used,p.at',p.AM,p.line⟩
 exact .ite (fun _=> .refl D) (fun _=> .ite (fun _=> .ite (fun _=>p2.trans (M0 _ _)) (fun _=>p2)) (fun _=>p))
theorem gq(D:DS)(nm:Nat):Gw D (D.Da nm):=by
 unfold DS.Da;exact .ite (fun _=>Yc D _) (fun _=> .ite (fun _=>Yc D _) (fun _=> .ite (fun _=>Fp D _) (fun _=> .ite (fun _=>Fp D _) (fun _=> .ite (fun _=>⟨rfl,rfl,rfl,rfl,rfl,rfl,δ,rfl,⟨δ,δ⟩⟩) (fun _=> .refl D)))))
theorem s5(D:DS)(c:Cm):Gw D (D.says c):=by
 unfold DS.says;exact .ite (fun _=>M0 D _) (fun _=> .ite (fun _=>M0 D _) (fun _=> .ite (fun _=> .ite (fun _=>M0 D _) (fun _=>M0 D _)) (fun _=> .ite (fun _=>⟨rfl,rfl,rfl,rfl,rfl,rfl,δ,rfl,⟨δ,δ⟩⟩) (fun _=> .ite (fun _=>M0 D _) (fun _=> .refl D)))))
theorem s6(D:DS)(k:Nat)(c:Cm):Gw D (D.does k c).1:=by
 unfold DS.does;split
 ·exact .refl D
 split
 ·split
  ·exact .refl D
  ·exact⟨rfl,rfl,rfl,rfl,rfl,rfl,δ,rfl,⟨δ,δ⟩⟩
 split
 ·exact Yb D
 split
 ·exact .refl D
 split
 ·split
  ·exact⟨rfl,rfl,rfl,rfl,rfl,rfl,δ,rfl,⟨δ,δ⟩⟩
  ·exact .refl D
 split
 ·exact ni D _
 split
 ·exact nj D _
 split
 ·exact⟨rfl,rfl,rfl,rfl,rfl,rfl,δ,rfl,⟨δ,δ⟩⟩
 split
 ·exact gq D _
 ·exact s5 D c
theorem Yd(D:DS)(k:Nat)(c:Cm):Gw D (D.AX k c).2:=by
 unfold DS.AX;split
 ·exact .refl D
 split
 ·exact .refl D
 unfold DS.AG;split
 ·exact⟨rfl,rfl,rfl,rfl,rfl,rfl,δ,by show(D.AM.set _ _).length=_;rw[List.length_set],⟨δ,δ⟩⟩
 ·show Gw D (if D.holds c.a1 then _ else D)
  exact .ite (fun _=>⟨rfl,rfl,rfl,rfl,rfl,rfl,δ,by show(D.AM.set _ _).length=_;rw[List.length_set],⟨δ,δ⟩⟩) (fun _=> .refl D)
theorem WE(D:DS)(k:Nat)(c:Cm):Gw {D with used:=D.used+1} (D.step k c).1:=by
 have s:=Yd {D with used:=D.used+1} k c;unfold DS.step;simp only;split
 ·exact s.trans (s6 _ k c)
 ·split<;>exact s
structure WG(cs:List Cm)(S:St)(r:DS×Bool):Prop where
 bad:r.1.state≠0→∃R,Goes S R∧R.out=r.1.out∧R.AB=r.1.err
 on:r.1.state=0→Mv S (r.1.Aj cs 0 (if r.2 then 0 else 1))∧Cy r.1
theorem WG.pre{cs:List Cm}{S T:St}{r:DS×Bool}(h:Mv S T)(g:WG cs T r):WG cs S r:=
 ⟨fun e=>by obtain⟨R,h1,h2⟩ :=g.bad e;exact⟨R,h R h1,h2⟩,fun e=>⟨h.trans (g.on e).1,(g.on e).2⟩⟩
theorem dc{cs:List Cm}{D:DS}(a:Nat)(b:Bool)(h:Cy D)(ha:a=if b then 0 else 1):WG cs (D.Aj cs 0 a) (D,b):=by
 refine⟨fun e=> ?_,fun e=>⟨by subst ha;exact .refl _,h⟩⟩;rcases h.al.st with⟨hs,he⟩ | ⟨hs,he⟩
 ·exact absurd hs e
 ·exact⟨_,Ct (by show decide (2≤D.state)=true;rw[hs];rfl),rfl,rfl⟩
theorem Ye{D:DS}(h:Cy D)(hs:D.state=0)(cs:List Cm)(k:Nat)(hk:cs[k]? =none):WG cs (D.Aj cs k 0) (D.ο true,false):=by
 have ho:(D.Aj cs k 0).over=false:=by show decide (2≤D.state)=false;rw[hs];rfl
 have hm:(D.Aj cs k 0).move=(D.ο true).Aj cs 0 1:=by
  unfold St.move;rw[if_pos (show(D.Aj cs k 0).asks=0 from rfl)];unfold St.reach;rw[show(D.Aj cs k 0).cs=cs from rfl,show(D.Aj cs k 0).next=k from rfl,hk];show(D.Aj cs k 0).Ar.AO=_;unfold St.AO;rw[DS.WC h.al]
  rfl
 have:=Mv.move (Hm ho (.inl rfl));rw[hm]at this;exact WG.pre this (dc 1 false (h.ο true) rfl)
theorem SW(cs:List Cm)(hcs:∀c∈cs,YW c):∀(f:Nat)(D:DS)(k:Nat),Cy D→D.state=0→f=D.steps - D.used→WG cs (D.Aj cs k 0) (DS.Bd cs f D k)
  ∧(DS.Bd cs f D k).1.steps=D.steps
 |0,D,k,h,hs,hf=>by
  rw[DS.Bd]
  by_cases hk:k<cs.length
  ·rw[if_pos hk]
   have ho:(D.Aj cs k 0).over=false:=by show decide (2≤D.state)=false;rw[hs];rfl
   have hm:(D.Aj cs k 0).move=(D.Aj cs k 0).die 4:=by
    unfold St.move;rw[if_pos (show(D.Aj cs k 0).asks=0 from rfl)];unfold St.reach;rw[show(D.Aj cs k 0).cs=cs from rfl,show(D.Aj cs k 0).next=k from rfl,List.getElem?_eq_getElem hk];simp only;rw[if_pos (show(D.Aj cs k 0).steps=0 from hf.symm)]
   refine⟨⟨fun _=>⟨_,.step (Hm ho (.inl rfl)) (Ct (by rw[hm];rfl)),?_,?_⟩,fun e=>absurd e (by show¬3=0;decide)⟩,rfl⟩
   ·rw[hm];rfl
   ·rw[hm]
    show(if D.err=0 then 4 else D.err)=4;rw[if_pos (h.err hs)]
  ·rw[if_neg hk]
   exact⟨Ye h hs cs k (List.getElem?_eq_none (by omega)),(Cg D true).steps⟩
 |f+1,D,k,h,hs,hf=>by
  rw[DS.Bd];cases hk:cs[k]? with
  |none=>exact⟨Ye h hs cs k hk,(Cg D true).steps⟩
  |some c=>
   simp only;obtain⟨g1,g2⟩ :=nh h hs cs k c hk (hcs c (List.mem_of_getElem? hk)) (by omega);have nn:=WE D k c;have BZ:(D.step k c).1.steps=D.steps∧(D.step k c).1.used=D.used+1:=⟨nn.steps,nn.used⟩
   clear nn;obtain⟨r,hr⟩ :∃r,D.step k c=r:=⟨_,rfl⟩
   rw[hr]at g1 g2 BZ⊢
   by_cases h1:r.1.state=0
   ·rw[if_neg (by simp[h1])]
    by_cases h2:r.2<0
    ·rw[if_pos h2]
     refine⟨WG.pre (g1.cyc h1 h2) (dc _ _ (g2 h1).flush ?_),by rw[←BZ.1];exact(Df r.1).steps⟩
     by_cases h3:r.2= -2<;>simp[h3]
    ·rw[if_neg h2]
     have ih:=SW cs hcs f r.1 r.2.toNat (g2 h1) h1 (by have:=BZ.2;rw[BZ.1];omega);exact⟨WG.pre (g1.on h1 (by omega)) ih.1,by rw[ih.2,BZ.1]⟩
   ·rw[if_pos h1]
    exact⟨⟨fun _=>g1.bad h1,fun e=>absurd e h1⟩,BZ.1⟩
end M
end Go.Proofs.YtlppphmnegdhoabGreatDoor
