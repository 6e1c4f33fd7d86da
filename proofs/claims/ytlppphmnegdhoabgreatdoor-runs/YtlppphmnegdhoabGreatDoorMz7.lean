import Derived.Test.YtlppphmnegdhoabGreatDoorMz6
set_option linter.unusedVariables false
set_option maxRecDepth 100000
set_option maxHeartbeats 8000000
namespace Go.Proofs.YtlppphmnegdhoabGreatDoor
open Go.RowKit
open M
theorem Om(m:Mk)(t:List Mk)(acc:List (Nat×Nat))(h:m.is 93=true):υ (m::t) acc=if acc= []then none else some (acc,t):=by
 match t with
 | []=>simp[υ,h]
 | [d]=>simp[υ,h]
 |d::e::v=>simp[υ,h]
theorem XH(m:Mk)(t:List Mk)(acc:List (Nat×Nat))(h:m.is 93=false)(h2:m.is 45=true):υ (m::t) acc=none:=by
 match t with
 | []=>simp[υ,h]
 | [d]=>simp[υ,h,h2]
 |d::e::v=>simp[υ,h,h2]
theorem cV(m:Mk)(t:List Mk)(acc:List (Nat×Nat))(h:m.is 93=false)(h2:m.is 45=false)(h3:∀d u,t=d::u→d.is 45=false):υ (m::t) acc=υ t (acc++ [(m.b,m.b)]):=by
 match t,h3 with
 | [],_=>simp[υ,h]
 | [d],h3=>have:=h3 d [] rfl;simp[υ,h,h2,this]
 |d::e::v,h3=>have:=h3 d (e::v) rfl;simp[υ,h,h2,this]
theorem RM(m d:Mk)(acc:List (Nat×Nat))(h:m.is 93=false)(h2:m.is 45=false)(h3:d.is 45=true):υ [m,d] acc=none:=by
 simp[υ,h,h2,h3]
theorem mem_range(m d e:Mk)(v:List Mk)(acc:List (Nat×Nat))(h:m.is 93=false)(h2:m.is 45=false)(h3:d.is 45=true):υ (m::d::e::v) acc=if e.is 93 || e.is 45 || decide (e.b<m.b)then none else υ v (acc++ [(m.b,e.b)]):=by
 rw[υ];simp[h,h2,h3]
theorem Nb:∀(t:List Mk)(acc wh:List (Nat×Nat))(r:List Mk),υ t acc=some (wh,r)→∃q,q≤t.length∧r=t.drop q
 | [],acc,wh,r,h=>by simp[υ]at h
 |m::t,acc,wh,r,h=>by
  cases h1:m.is 93
  ·cases h2:m.is 45
   ·by_cases h3:∀d u,t=d::u→d.is 45=false
    ·rw[cV m t acc h1 h2 h3]at h
     obtain⟨q,hq,hr⟩ :=Nb t _ _ _ h;exact⟨q+1,by simp;omega,by rw[hr];rfl⟩
    ·match t,h3 with
     | [],h3=>exact absurd (fun d u e=>by cases e) h3
     |d::u,h3=>
      have hd:d.is 45=true:=by
       cases hd:d.is 45
       ·exact absurd (fun d' u' e=>by simp at e;rw[←e.1];exact hd) h3
       ·rfl
      match u with
      | []=>rw[RM m d acc h1 h2 hd]at h;cases h
      |e::v=>
       rw[mem_range m d e v acc h1 h2 hd]at h;split at h
       ·cases h
       ·obtain⟨q,hq,hr⟩ :=Nb v _ _ _ h
        exact⟨q+3,by simp;omega,by rw[hr];rfl⟩
   ·rw[XH m t acc h1 h2]at h;cases h
  ·rw[Om m t acc h1]at h
   split at h
   ·cases h
   ·simp at h
    exact⟨1,by simp,by rw[←h.2];rfl⟩
termination_by t=>t.length
structure DY(b:Nat)(w:World)(a n s:Bool)(vf vb:Value):Prop where
 c0:w.cell? ⟨b,0,none⟩ =some (.bool a)
 c1:w.cell? ⟨b,1,none⟩ =some (.bool n)
 c2:w.cell? ⟨b,2,none⟩ =some (.bool s)
 c3:w.cell? ⟨b,3,none⟩ =some vf
 c4:w.cell? ⟨b,4,none⟩ =some vb
 f0:w.frozen? ⟨b,0,none⟩ =false
 f1:w.frozen? ⟨b,1,none⟩ =false
 f2:w.frozen? ⟨b,2,none⟩ =false
 f3:w.frozen? ⟨b,3,none⟩ =false
 f4:w.frozen? ⟨b,4,none⟩ =false
theorem DY.keep{b:Nat}{w w':World}{a n s:Bool}{vf vb:Value}(h:DY b w a n s vf vb)(hk:w'.heap[b]? =w.heap[b]?):DY b w' a n s vf vb:=by
 have hc:∀o,w'.cell? ⟨b,o,none⟩ =w.cell? ⟨b,o,none⟩ :=fun o=>World.cell?_of_block hk
 have hf:∀o,w'.frozen? ⟨b,o,none⟩ =w.frozen? ⟨b,o,none⟩ :=fun o=>World.frozen?_of_block hk
 exact⟨(hc _).trans h.c0,(hc _).trans h.c1,(hc _).trans h.c2,(hc _).trans h.c3,(hc _).trans h.c4,(hf _).trans h.f0,(hf _).trans h.f1,(hf _).trans h.f2,(hf _).trans h.f3,(hf _).trans h.f4⟩
theorem DY.RN{b:Nat}{w:World}{a n s:Bool}{vf vb:Value}(h:DY b w a n s vf vb)(u:Bool):DY b (w.setCell ⟨b,1,none⟩ (.bool u)) a u s vf vb:=by
 obtain⟨c0,c1,c2,c3,c4,f0,f1,f2,f3,f4⟩ :=h;refine⟨?_,?_,?_,?_,?_,?_,?_,?_,?_,?_⟩
 all_goals first| (simp[go_sem, *];done) | (rw[World.cell?_setCell_other (by simp)];assumption) |exact World.cell?_setCell_same c1
theorem DY.eT{b:Nat}{w:World}{a n s:Bool}{vf vb:Value}(h:DY b w a n s vf vb)(u:Value):DY b (w.setCell ⟨b,3,none⟩ u) a n s u vb:=by
 obtain⟨c0,c1,c2,c3,c4,f0,f1,f2,f3,f4⟩ :=h;refine⟨?_,?_,?_,?_,?_,?_,?_,?_,?_,?_⟩
 all_goals first| (simp[go_sem, *];done) | (rw[World.cell?_setCell_other (by simp)];assumption) |exact World.cell?_setCell_same c3
theorem DY.wj{b:Nat}{w:World}{a n s:Bool}{vf vb:Value}(h:DY b w a n s vf vb)(u:Value):DY b (w.setCell ⟨b,4,none⟩ u) a n s vf u:=by
 obtain⟨c0,c1,c2,c3,c4,f0,f1,f2,f3,f4⟩ :=h;refine⟨?_,?_,?_,?_,?_,?_,?_,?_,?_,?_⟩
 all_goals first| (simp[go_sem, *];done) | (rw[World.cell?_setCell_other (by simp)];assumption) |exact World.cell?_setCell_same c4
def On(l:List (Nat×Nat)):List Int:=l.map fun r=>(r.1:Int)
def Pn(l:List (Nat×Nat)):List Int:=l.map fun r=>(r.2:Int)
theorem XI(l:List (Nat×Nat))(r:Nat×Nat):On (l++ [r])=On l++ [(r.1:Int)]:=by simp[On]
theorem XJ(l:List (Nat×Nat))(r:Nat×Nat):Pn (l++ [r])=Pn l++ [(r.2:Int)]:=by simp[Pn]
structure Nc(w wr:World)(nt:Bool)(vf vb:Value)(F K:List Int):Prop where
 res:DY w.heap.size wr false false false (.slice none 0 0) (.slice none 0 0)
 box:DY (w.heap.size+1) wr false nt false vf vb
 twin:Twin (w.heap.size+2) wr vf vb F K
 below:Below w.heap.size w wr
 size:w.heap.size+2≤wr.heap.size
theorem Nc.keep{w wr w':World}{nt:Bool}{vf vb:Value}{F K:List Int}(h:Nc w wr nt vf vb F K)(hb:Below wr.heap.size wr w'):Nc w w' nt vf vb F K:=by
 have hs:=h.size;have Fw:=hb.size;exact⟨h.res.keep (hb.block _ (by omega)),h.box.keep (hb.block _ (by omega)),⟨Ξ h.twin.f hb,Ξ h.twin.k hb,h.twin.ap⟩,h.below.trans (hb.mono (by omega)),by omega⟩
theorem Nc.XK{w wr w3:World}{nt:Bool}{vf vb:Value}{F K:List Int}{o:Obj}{g cap:Nat}{x:Int}(h:Nc w wr nt vf vb F K)
  (ν:w3.ownsRow (w.heap.size+2) 3 1 (.slice (some ⟨g,0,none⟩) (F.length+1) cap) (F.length+1) (Ki F++ [.int .i64 x])) (hg:(wr.alloc o).grownBy w3 vf.ownBlock) (Cw:vf.ownBlock=some g∨g=wr.heap.size+1):
  DY (w.heap.size+1) w3 false nt false vf vb∧Nc w (w3.setCell ⟨w.heap.size+1,3,none⟩ (.slice (some ⟨g,0,none⟩) (F.length+1) cap)) nt (.slice (some ⟨g,0,none⟩) (F.length+1) cap) vb (F++ [x]) K:=by
 have hk:=UH h.twin.f h.size hg;have hb:=h.box.keep (hk (w.heap.size+1) (by omega));have hr:=h.res.keep (hk w.heap.size (by omega));refine⟨hb,hr.keep (heap_setCell_other _ _ _ _ (by simp)),hb.eT _,(h.twin.grow ν hg Cw).set (by simp) _,?_,?_⟩
 ·exact((h.below.alloc (by have:=h.size;omega) _).grown hg (by have:=h.size;simp;omega) (fun k hk=>by have:=(h.twin.f.lt k hk).1;omega)).setCell (by simp) _
 ·have:=hg.size;have:=h.size;simp at*;omega
theorem Nc.UI{w wr w3:World}{nt:Bool}{vf vb:Value}{F K:List Int}{o:Obj}{g cap:Nat}{x:Int}(h:Nc w wr nt vf vb F K)
  (ν:w3.ownsRow (w.heap.size+2) 3 1 (.slice (some ⟨g,0,none⟩) (K.length+1) cap) (K.length+1) (Ki K++ [.int .i64 x])) (hg:(wr.alloc o).grownBy w3 vb.ownBlock) (Cw:vb.ownBlock=some g∨g=wr.heap.size+1):
  DY (w.heap.size+1) w3 false nt false vf vb∧Nc w (w3.setCell ⟨w.heap.size+1,4,none⟩ (.slice (some ⟨g,0,none⟩) (K.length+1) cap)) nt vf (.slice (some ⟨g,0,none⟩) (K.length+1) cap) F (K++ [x]):=by
 have hk:=UH h.twin.k h.size hg;have hb:=h.box.keep (hk (w.heap.size+1) (by omega));have hr:=h.res.keep (hk w.heap.size (by omega));refine⟨hb,hr.keep (heap_setCell_other _ _ _ _ (by simp)),hb.wj _,(h.twin.swap.grow ν hg Cw).swap.set (by simp) _,?_,?_⟩
 ·exact((h.below.alloc (by have:=h.size;omega) _).grown hg (by have:=h.size;simp;omega) (fun k hk=>by have:=(h.twin.k.lt k hk).1;omega)).setCell (by simp) _
 ·have:=hg.size;have:=h.size;simp at*;omega
end Go.Proofs.YtlppphmnegdhoabGreatDoor
namespace Go.Proofs.YtlppphmnegdhoabGreatDoor
open Go.Proofs.Tryz
open Go.RowKit
open M
theorem Nc.fin{w wr:World}{nt:Bool}{vf vb:Value}{F K:List Int}(h:Nc w wr nt vf vb F K):
  Twin w.heap.size (((((wr.setCell ⟨w.heap.size,0,none⟩ (.bool false)).setCell ⟨w.heap.size,1,none⟩ (.bool nt)).setCell ⟨w.heap.size,2,none⟩ (.bool false)).setCell ⟨w.heap.size,3,none⟩ vf).setCell ⟨w.heap.size,4,none⟩ vb) vf vb F K∧
  Below w.heap.size w (((((wr.setCell ⟨w.heap.size,0,none⟩ (.bool false)).setCell ⟨w.heap.size,1,none⟩ (.bool nt)).setCell ⟨w.heap.size,2,none⟩ (.bool false)).setCell ⟨w.heap.size,3,none⟩ vf).setCell ⟨w.heap.size,4,none⟩ vb):=by
 have t2:=((((h.twin.set (a:=⟨w.heap.size,0,none⟩) (by simp) (.bool false)).set (a:=⟨w.heap.size,1,none⟩) (by simp) (.bool nt)).set (a:=⟨w.heap.size,2,none⟩) (by simp) (.bool false)).set (a:=⟨w.heap.size,3,none⟩) (by simp) vf).set (a:=⟨w.heap.size,4,none⟩) (by simp) vb;exact⟨⟨AH t2.f (by omega),AH t2.k (by omega),t2.ap⟩,((((h.below.setCell (by simp) _).setCell (by simp) _).setCell (by simp) _).setCell (by simp) _).setCell (by simp) _⟩
def XL(l:List Mk)(k:Nat)(w w':World)(e:Ending):Prop:=
 ∃(nt:Bool)(vf vb:Value),Below w.heap.size w w'∧(∃a1 n1 c1 a2 n2 c2,vf= .slice a1 n1 c1∧vb= .slice a2 n2 c2)∧
  ((Ey (l.drop k)=none∧e= .returned (.tuple #[.agg #[.bool false,.bool nt,.bool false,vf,vb],.int .i64 (-1)]))∨
   ∃(AM:List (Nat×Nat))(q:Nat),Ey (l.drop k)=some (nt,AM,l.drop q)∧k<q∧q≤l.length∧e= .returned (.tuple #[.agg #[.bool false,.bool nt,.bool false,vf,vb],.int .i64 (q:Int)])∧Twin w.heap.size w' vf vb (On AM) (Pn AM))
def dash:List Mk→Bool
 | []=>false
 |d::_=>d.is 45
def XM(m:Mk):List Mk→Bool
 | []=>true
 |e::_=>e.is 93 || e.is 45 || decide (e.b<m.b)
def Po:List Mk→Bool
 | []=>false
 |d::_=>d.is 94
theorem Oo(t:List Mk):Ey t=if Po t then(υ (t.drop 1) []).map (fun r=>(true,r.1,r.2))else(υ t []).map (fun r=>(false,r.1,r.2)):=by
 match t with
 | []=>simp[Ey,Po,υ]
 |d::u=>simp[Ey,Po]
theorem A7.get{w:World}{ad:Option Addr}{n:Nat}{l:List Mk}(h:A7 w ad n l){k:Nat}(hk:k<l.length):∃b off,ad=some ⟨b,off,none⟩∧b<w.heap.size∧w.cell? ⟨b,off+k*2,none⟩ =some (.int .i64 l[k].b)∧w.cell? ⟨b,off+k*2+1,none⟩ =some (.bool l[k].p):=by
 have CQ:l≠ []:=fun e=>by rw[e]at hk;simp at hk
 obtain⟨b,off,h1,h2,h3⟩ :=h.cells.resolve_left CQ;exact⟨b,off,h1,h2,(h3 k hk).1,(h3 k hk).2⟩
theorem getM{l:List Mk}{k:Nat}(h:k<l.length):l.drop k=l[k]::l.drop (k+1):=List.drop_eq_getElem_cons h
theorem TT(n c:Nat)(ad:Option Addr)(l:List Mk)(k0:Nat)(w:World)(Cw:A7 w ad n l)(J9:l.length≤8192)(IW:k0≤l.length):
  Calls prog 174 #[.slice ad n c,.int .i64 k0] w fun e w'=>XL l k0 w w' e:=by
 have hn:=Cw.len;subst hn;obtain⟨i0,hi,DF,CN,Dq⟩ :=info_parts Qj
 go_enter func174,ntmps174
 go_upto_region 2 with fail
 have OO:Nc w ((w.alloc (.cells #[.bool false,.bool false,.bool false,.slice none 0 0,.slice none 0 0] 219)).alloc (.cells #[.bool false,.bool false,.bool false,.slice none 0 0,.slice none 0 0] 219)) false (.slice none 0 0) (.slice none 0 0) [] []:=by
  refine⟨?_,?_,⟨World.ownsRow_nil _ _ _ _,World.ownsRow_nil _ _ _ _,fun g h=>by cases h⟩,(ζ.alloc δ _).alloc (by simp) _,by simp⟩
  all_goals
   constructor<;>simp[go_sem]
 generalize((w.alloc (.cells #[.bool false,.bool false,.bool false,.slice none 0 0,.slice none 0 0] 219)).alloc (.cells #[.bool false,.bool false,.bool false,.slice none 0 0,.slice none 0 0] 219))=W at OO⊢;have hsW:=OO.size
 go_cut [19] (fun t wx=>t= .bool (Po (l.drop k0))∧Below W.heap.size W wx)
 case first=>
  by_cases Ac:k0<l.length
  ·have AV:(k0:Int)<(l.length:Int):=by omega
   obtain⟨b,off,rfl,hb,d0,d1⟩ :=(Cw.below OO.below).get Ac;have HC:Hid (Po (l.drop k0)=l[k0].is 94):=by show _=_;rw[getM Ac];rfl
   generalize l[k0]=m at*
   go_wp2_with fail
   refine(CV m 94 _).mono ?_;rintro e w1 ⟨rfl,b1⟩;generalize hg:m.is 94=mm at*;go_wp2
   go_meet
   exact⟨by rw[HC.out],b1⟩
  ·have AV:¬(k0:Int)<(l.length:Int):=by omega
   have HC:Hid (Po (l.drop k0)=false):=by show _=_;rw[List.drop_of_length_le (by omega)];rfl
   go_wp2
   go_meet
   exact⟨by rw[HC.out],ζ⟩
 case rest=>
  obtain⟨rfl,bc⟩ :=hcut;have LW:=OO.keep bc;clear OO bc hsW
  go_upto_if 19 with fail
  go_cut [1] (fun at' wx=>∃(nt:Bool)(k:Nat),at'= .int .i64 k∧k0≤k∧k≤l.length∧Nc w wx nt (.slice none 0 0) (.slice none 0 0) [] []∧Hid (Ey (l.drop k0)=(υ (l.drop k) []).map (fun r=>(nt,r.1,r.2))))
  case first=>
   cases hca:Po (l.drop k0)
   ·have HS:Hid (Ey (l.drop k0)=(υ (l.drop k0) []).map (fun r=>(false,r.1,r.2))):=by show _=_;rw[Oo,hca];rfl
    clear hca;go_wp2
    go_meet
    exact⟨false,k0,rfl,δ,IW,LW,HS.out⟩
   ·have Ac:k0<l.length:=by
     apply Classical.byContradiction;intro h;rw[List.drop_of_length_le (by omega)]at hca;cases hca
    have HS:Hid (Ey (l.drop k0)=(υ (l.drop (k0+1)) []).map (fun r=>(true,r.1,r.2))):=by show _=_;rw[Oo,hca,if_pos rfl,List.drop_drop]
    obtain⟨x0,x1,x2,x3,x4,p0,p1,p2,p3,p4⟩ :=LW.box;have EV:=LW.size;clear hca;go_wp2
    go_meet
    refine⟨true,k0+1,by go_num,by omega,by omega,⟨?_,LW.box.RN true,LW.twin.set (by simp) _,LW.below.setCell (by simp) _,by simpa using EV⟩,HS.out⟩;exact LW.res.keep (heap_setCell_other _ _ _ _ (by simp))
  case rest=>
   clear LW;obtain⟨nt,k1,rfl,AFF,EW,LW,HS⟩ :=hcut;go_wp2
   go_loopw [1] (fun at' wr=>∃(k:Nat)(acc:List (Nat×Nat))(vf vb:Value),at'= .int .i64 k∧k1≤k∧k≤l.length∧Nc w wr nt vf vb (On acc) (Pn acc)∧acc.length≤k∧Hid (υ (l.drop k1) []=υ (l.drop k) acc)) (fun at' _=>l.length - (intOf at').toNat)
   case atStart=>exact⟨k1,[],_,_,rfl,δ,EW,LW,ε,rfl⟩
   case round=>
    clear LW;obtain⟨k,acc,vf,vb,rfl,I2,hk,hinv,iW,HM⟩ :=hrel;obtain⟨af,cf,jw⟩ :=κ hinv.twin.f;obtain⟨ab,cb,S6⟩ :=κ hinv.twin.k;have qG:Hid ((On acc).length=acc.length):=by show _=_;simp[On]
    have eU:(On acc).length≤8192:=by rw[qG.out];omega
    have ACc:(Pn acc).length≤8192:=by simp[Pn];omega
    have EV:=hinv.size;have wk:=Cw.below hinv.below;generalize Nd:(On acc).length=nf at jw;generalize H7:(Pn acc).length=nb at S6;have RO:=γ Nd;clear Nd H7;subst jw S6
    by_cases Ac:k<l.length
    ·have AV:(k:Int)<(l.length:Int):=by omega
     obtain⟨b,off,rfl,hb,d0,d1⟩ :=wk.get Ac;obtain⟨m,pH⟩ :∃m,l[k]=m:=⟨_,rfl⟩
     have HD:Hid (l.drop k=m::l.drop (k+1)):=by show _=_;rw[←pH];exact getM Ac
     rw[pH]at d0 d1;clear pH
     go_wp2_with fail
     refine(CV m 93 _).mono ?_;rintro e w1 ⟨rfl,b1⟩;have EN:=hinv.keep b1;have eV:=wk.below b1;have ξ:b<w1.heap.size:=by have:=b1.size;omega
     have f0:=(b1.cell (by exact hb)).trans d0;have f1:=(b1.cell (by exact hb)).trans d1;clear d0 d1 b1 hinv wk hb;cases Oh:m.is 93
     ·go_wp2_with fail
      refine(CV m 45 _).mono ?_;rintro e w2 ⟨rfl,b2⟩;have S7:=EN.keep b2;have jx:=eV.below b2;have CJ:b<w2.heap.size:=by have:=b2.size;omega
      have d0:=(b2.cell (by exact ξ)).trans f0;have d1:=(b2.cell (by exact ξ)).trans f1;clear f0 f1 b2 EN eV ξ;cases qH:m.is 45
      ·go_upto_region 15 with fail
       go_cut [64] (fun t wx=>t= .bool (dash (l.drop (k+1)))∧Below w2.heap.size w2 wx)
       case first=>
        by_cases E7:k+1<l.length
        ·have TN:(k:Int)+1<(l.length:Int):=by omega
         obtain⟨b',jy,XN,eC,c0,c1⟩ :=jx.get E7;simp only[Option.some.injEq,Addr.mk.injEq,and_true]at XN;obtain⟨rfl,rfl⟩ :=XN;have HC:Hid (dash (l.drop (k+1))=l[k+1].is 45):=by show _=_;rw[getM E7];rfl
         generalize l[k+1]=d at*
         go_wp2_with fail
         refine(CV d 45 _).mono ?_;rintro e w3' ⟨rfl,b3⟩;generalize hg:d.is 45=dd at*;go_wp2
         go_meet
         exact⟨by rw[HC.out],b3⟩
        ·have TN:¬(k:Int)+1<(l.length:Int):=by omega
         have HC:Hid (dash (l.drop (k+1))=false):=by show _=_;rw[List.drop_of_length_le (by omega)];rfl
         go_wp2
         go_meet
         exact⟨by rw[HC.out],ζ⟩
       case rest=>
        obtain⟨rfl,b3⟩ :=hcut;have Ei:=S7.keep b3;have jz:=jx.below b3;have CM:b<wc.heap.size:=by have:=b3.size;omega
        clear d0 d1 b3 S7 jx CJ;cases qI:dash (l.drop (k+1))
        ·have HN:Hid (υ (l.drop k1) []=υ (l.drop (k+1)) (acc++ [(m.b,m.b)])):=by
          show _=_;rw[HM.out,HD.out,cV m _ acc Oh qH (fun d' u e=>by rw[e]at qI;exact qI)]
         clear HM HD Oh qH qI;obtain⟨x0,x1,x2,x3,x4,p0,p1,p2,p3,p4⟩ :=Ei.box;have hsv:=Ei.size
         go_wp2_with(first
          | (at_builtin;refine wpList_append_lies _ rfl (.tmp 103) (.tmp 105) 116 rfl (w.heap.size+2) 3 i0 (.int .i64 0) 1 8 Ji hi DF CN Dq rfl (by decide) _ _ _ rfl (Ei.twin.f.alloc _) ⟨wc.heap.size,0,none⟩ 1 1 [.int .i64 (m.b:Int)] rfl rfl ?k1 ?k2 (by decide) ?k3 ?k4 ?k5 (wc.heap.size+1) ?k6 ?_)
          |go_in)
         try(case k1=>first|exact fun j u h=>h|exact Fy _ _ _)
         try(case k2=>first|exact FC _|rfl)
         try(case k3=>first|omega| (unfold maxLen;omega))
         try(case k4=>omega)
         try(case k5=>first|omega| (simp;omega))
         try(case k6=>simp)
         intro g cap w3 Γ AE Ea _;obtain⟨CM,Gv⟩ :=Ei.XK Γ AE Ea;obtain⟨y0,y1,y2,y3,y4,e0,e1,e2,e3,e4⟩ :=CM;have XO:=Gv.size;simp at XO;clear Γ AE Ea x0 x1 x2 x3 x4 p0 p1 p2 p3 p4
         go_wp2_with(first
          | (at_builtin;refine wpList_append_lies _ rfl (.tmp 109) (.tmp 111) 116 rfl (w.heap.size+2) 3 i0 (.int .i64 0) 1 8 Ji hi DF CN Dq rfl (by decide) _ _ _ rfl (Gv.twin.k.alloc _) ⟨w3.heap.size,0,none⟩ 1 1 [.int .i64 (m.b:Int)] rfl rfl ?k1 ?k2 (by decide) ?k3 ?k4 ?k5 (w3.heap.size+1) ?k6 ?_)
          |go_in)
         try(case k1=>first|exact fun j u h=>h| (simpa using Fy (w3.setCell ⟨w.heap.size+1,3,none⟩ (.slice (some ⟨g,0,none⟩) ((On acc).length+1) cap)) (m.b:Int) _))
         try(case k2=>first|exact FC _|rfl)
         try(case k3=>first|omega| (unfold maxLen;omega))
         try(case k4=>omega)
         try(case k5=>first|omega| (simp;omega))
         try(case k6=>simp)
         intro g' eW w4 GA Km XP _;obtain⟨IU,iX⟩ :=Gv.UI GA Km (by simpa using XP);obtain⟨z0,z1,z2,z3,z4,q0,q1,q2,q3,q4⟩ :=IU;clear GA Km XP y0 y1 y2 y3 y4 e0 e1 e2 e3 e4;go_wp2
         go_roundw
         case rel=>exact⟨k+1,acc++ [(m.b,m.b)],_,_,by go_num,by omega,by omega,by rw[XI,XJ];exact iX,by simp;omega,HN.out⟩
         case measure=>simp[intOf];omega
        ·have E7:k+1<l.length:=by
          apply Classical.byContradiction;intro h;rw[List.drop_of_length_le (by omega)]at qI;cases qI
         obtain⟨d,hdd⟩ :∃d,l[k+1]=d:=⟨_,rfl⟩
         have I3:Hid (l.drop (k+1)=d::l.drop (k+2)):=by show _=_;rw[←hdd];exact getM E7
         have j5:d.is 45=true:=by rw[I3.out]at qI;exact qI
         clear qI hdd
         go_upto_region 17 with fail
         go_cut [93] (fun t wx=>t= .bool (XM m (l.drop (k+2)))∧Below wc.heap.size wc wx)
         case first=>
          by_cases eS:k+2<l.length
          ·have ACd:¬(l.length:Int)≤(k:Int)+2:=by omega
           have qJ:(k:Int)+2<(l.length:Int):=by omega
           obtain⟨b',jy,XN,eC,c0,c1⟩ :=jz.get eS;simp only[Option.some.injEq,Addr.mk.injEq,and_true]at XN;obtain⟨rfl,rfl⟩ :=XN;have HC:Hid (XM m (l.drop (k+2))=(l[k+2].is 93 || l[k+2].is 45 || decide (l[k+2].b<m.b))):=by show _=_;rw[getM eS];rfl
           generalize l[k+2]=ee at*
           go_wp2_with fail
           refine(CV ee 93 _).mono ?_;rintro e w4 ⟨rfl,b4⟩;have IU:=b4.size;have g0:=(b4.cell (by exact CM)).trans c0;have g1:=(b4.cell (by exact CM)).trans c1;cases h1:ee.is 93
           ·go_wp2_with fail
            refine(CV ee 45 _).mono ?_;rintro e w5 ⟨rfl,b5⟩;have g2:=(b5.cell (by simp only;omega)).trans g0;have BP:=b5.size;have B5:=b4.trans (b5.mono b4.size);cases h2:ee.is 45
            ·have Wh:Hid (XM m (l.drop (k+2))=decide (ee.b<m.b)):=by show _=_;rw[HC.out,h1,h2,Bool.false_or,Bool.false_or]
             have HE:Hid (decide ((l.length:Int)≤(k:Int)+1+1)=false):=decide_eq_false (by omega);clear HC h1 h2;go_wp2
             go_meet
             exact⟨by rw[Wh.out];first|rfl|rw[HE.out,Bool.false_or],B5⟩
            ·have Wh:Hid (XM m (l.drop (k+2))=true):=by show _=_;rw[HC.out,h1,h2];rfl
             clear HC h1 h2;go_wp2
             go_meet
             exact⟨by rw[Wh.out],B5⟩
           ·have Wh:Hid (XM m (l.drop (k+2))=true):=by show _=_;rw[HC.out,h1];rfl
            clear HC h1;go_wp2
            go_meet
            exact⟨by rw[Wh.out],b4⟩
          ·have ACd:(l.length:Int)≤(k:Int)+2:=by omega
           have HC:Hid (XM m (l.drop (k+2))=true):=by show _=_;rw[List.drop_of_length_le (by omega)];rfl
           go_wp2
           go_meet
           exact⟨by rw[HC.out],ζ⟩
         case rest=>
          obtain⟨rfl,b4⟩ :=hcut;have UJ:=Ei.keep b4;have AAT:=jz.below b4;have IU:=b4.size;clear b4 Ei jz;cases jP:XM m (l.drop (k+2))
          ·have eS:k+2<l.length:=by
            apply Classical.byContradiction;intro h;rw[List.drop_of_length_le (by omega)]at jP;cases jP
           have qJ:(k:Int)+1+1<(l.length:Int):=by omega
           obtain⟨b',jy,XN,eC,c0,c1⟩ :=AAT.get eS;simp only[Option.some.injEq,Addr.mk.injEq,and_true]at XN;obtain⟨rfl,rfl⟩ :=XN;obtain⟨ee,hee⟩ :∃ee,l[k+2]=ee:=⟨_,rfl⟩
           have HD3:Hid (l.drop (k+2)=ee::l.drop (k+3)):=by show _=_;rw[←hee];exact getM eS
           rw[hee]at c0 c1;have HN:Hid (υ (l.drop k1) []=υ (l.drop (k+3)) (acc++ [(m.b,ee.b)])):=by
            show _=_;rw[HD3.out]at jP;rw[HM.out,HD.out,I3.out,HD3.out,mem_range m d ee _ acc Oh qH j5,if_neg (by intro h;rw[show XM m (ee::l.drop (k+3))=(ee.is 93 || ee.is 45 || decide (ee.b<m.b))from rfl,h]at jP;cases jP)]
           clear HM HD I3 HD3 Oh qH j5 jP hee;obtain⟨x0,x1,x2,x3,x4,p0,p1,p2,p3,p4⟩ :=UJ.box;have hsv:=UJ.size
           go_wp2_with(first
            | (at_builtin;refine wpList_append_lies _ rfl (.tmp 103) (.tmp 105) 116 rfl (w.heap.size+2) 3 i0 (.int .i64 0) 1 8 Ji hi DF CN Dq rfl (by decide) _ _ _ rfl (UJ.twin.f.alloc _) ⟨wc.heap.size,0,none⟩ 1 1 [.int .i64 (m.b:Int)] rfl rfl ?k1 ?k2 (by decide) ?k3 ?k4 ?k5 (wc.heap.size+1) ?k6 ?_)
            |go_in)
           try(case k1=>first|exact fun j u h=>h|exact Fy _ _ _)
           try(case k2=>first|exact FC _|rfl)
           try(case k3=>first|omega| (unfold maxLen;omega))
           try(case k4=>omega)
           try(case k5=>first|omega| (simp;omega))
           try(case k6=>simp)
           intro g cap w3 Γ AE Ea _;obtain⟨CM,Gv⟩ :=UJ.XK Γ AE Ea;obtain⟨y0,y1,y2,y3,y4,e0,e1,e2,e3,e4⟩ :=CM;have XO:=Gv.size;simp at XO;clear Γ AE Ea x0 x1 x2 x3 x4 p0 p1 p2 p3 p4
           go_wp2_with(first
            | (at_builtin;refine wpList_append_lies _ rfl (.tmp 109) (.tmp 111) 116 rfl (w.heap.size+2) 3 i0 (.int .i64 0) 1 8 Ji hi DF CN Dq rfl (by decide) _ _ _ rfl (Gv.twin.k.alloc _) ⟨w3.heap.size,0,none⟩ 1 1 [.int .i64 (ee.b:Int)] rfl rfl ?k1 ?k2 (by decide) ?k3 ?k4 ?k5 (w3.heap.size+1) ?k6 ?_)
            |go_in)
           try(case k1=>first|exact fun j u h=>h| (simpa using Fy (w3.setCell ⟨w.heap.size+1,3,none⟩ (.slice (some ⟨g,0,none⟩) ((On acc).length+1) cap)) (ee.b:Int) _))
           try(case k2=>first|exact FC _|rfl)
           try(case k3=>first|omega| (unfold maxLen;omega))
           try(case k4=>omega)
           try(case k5=>first|omega| (simp;omega))
           try(case k6=>simp)
           intro g' eW w4 GA Km XP _;obtain⟨IU,iX⟩ :=Gv.UI GA Km (by simpa using XP);obtain⟨z0,z1,z2,z3,z4,q0,q1,q2,q3,q4⟩ :=IU;clear GA Km XP y0 y1 y2 y3 y4 e0 e1 e2 e3 e4;go_wp2
           go_roundw
           case rel=>exact⟨k+3,acc++ [(m.b,ee.b)],_,_,by go_num,by omega,by omega,by rw[XI,XJ];exact iX,by simp;omega,HN.out⟩
           case measure=>simp[intOf];omega
          ·have HF:Hid (Ey (l.drop k0)=none):=by
            show _=_;rw[HS.out,HM.out,HD.out,I3.out]
            match hl3:l.drop (k+2)with
            | []=>rw[RM m d acc Oh qH j5];rfl
            |ee::v=>
             rw[hl3]at jP;rw[mem_range m d ee v acc Oh qH j5,if_pos (show(ee.is 93 || ee.is 45 || decide (ee.b<m.b))=true from jP)];rfl
           clear HM HS HD I3 Oh qH j5 jP;obtain⟨x0,x1,x2,x3,x4,p0,p1,p2,p3,p4⟩ :=UJ.box;obtain⟨r0,r1,r2,r3,r4,o0,o1,o2,o3,o4⟩ :=UJ.res;go_wp2;refine bodyPost_ret (v:= .tuple #[.agg #[.bool false,.bool nt,.bool false,.slice af nf cf,.slice ab nb cb],.int .i64 (-1)]) (by simp[results,Tryz.results174,go_sem,r0,r1,r2,r3,r4]) rfl ⟨nt,.slice af nf cf,.slice ab nb cb,UJ.fin.2,⟨_,_,_,_,_,_,rfl,rfl⟩,.inl ⟨HF.out,rfl⟩⟩
      ·have HF:Hid (Ey (l.drop k0)=none):=by
        show _=_;rw[HS.out,HM.out,HD.out,XH m _ acc Oh qH];rfl
       clear HM HS HD Oh qH d0 d1;obtain⟨x0,x1,x2,x3,x4,p0,p1,p2,p3,p4⟩ :=S7.box;obtain⟨r0,r1,r2,r3,r4,o0,o1,o2,o3,o4⟩ :=S7.res;go_wp2;refine bodyPost_ret (v:= .tuple #[.agg #[.bool false,.bool nt,.bool false,.slice af nf cf,.slice ab nb cb],.int .i64 (-1)]) (by simp[results,Tryz.results174,go_sem,r0,r1,r2,r3,r4]) rfl ⟨nt,.slice af nf cf,.slice ab nb cb,S7.fin.2,⟨_,_,_,_,_,_,rfl,rfl⟩,.inl ⟨HF.out,rfl⟩⟩
     ·by_cases j6:acc= []
      ·have HF:Hid (Ey (l.drop k0)=none):=by
        show _=_;rw[HS.out,HM.out,HD.out,Om m _ acc Oh,if_pos j6];rfl
       have ACe:((nf:Int)==0)=true:=by rw[←RO.out,qG.out,j6];rfl
       clear HM HS HD Oh f0 f1;obtain⟨x0,x1,x2,x3,x4,p0,p1,p2,p3,p4⟩ :=EN.box;obtain⟨r0,r1,r2,r3,r4,o0,o1,o2,o3,o4⟩ :=EN.res;go_wp2;refine bodyPost_ret (v:= .tuple #[.agg #[.bool false,.bool nt,.bool false,.slice af nf cf,.slice ab nb cb],.int .i64 (-1)]) (by simp[results,Tryz.results174,go_sem,r0,r1,r2,r3,r4]) rfl ⟨nt,.slice af nf cf,.slice ab nb cb,EN.fin.2,⟨_,_,_,_,_,_,rfl,rfl⟩,.inl ⟨HF.out,rfl⟩⟩
      ·have HF:Hid (Ey (l.drop k0)=some (nt,acc,l.drop (k+1))):=by
        show _=_;rw[HS.out,HM.out,HD.out,Om m _ acc Oh,if_neg j6];rfl
       have Lr:=List.length_pos_iff.2 j6;have ACe:((nf:Int)==0)=false:=by have e1:=RO.out;have e2:=qG.out;simp;omega
       clear HM HS HD Oh f0 f1 j6;obtain⟨x0,x1,x2,x3,x4,p0,p1,p2,p3,p4⟩ :=EN.box;obtain⟨r0,r1,r2,r3,r4,o0,o1,o2,o3,o4⟩ :=EN.res;go_wp2;refine bodyPost_ret (v:= .tuple #[.agg #[.bool false,.bool nt,.bool false,.slice af nf cf,.slice ab nb cb],.int .i64 ((k:Int)+1)]) (by simp[results,Tryz.results174,go_sem,r0,r1,r2,r3,r4]) rfl ⟨nt,.slice af nf cf,.slice ab nb cb,EN.fin.2,⟨_,_,_,_,_,_,rfl,rfl⟩,.inr ⟨acc,k+1,HF.out,by omega,by omega,by rfl,EN.fin.1⟩⟩
    ·have AV:¬(k:Int)<(l.length:Int):=by omega
     have HF:Hid (Ey (l.drop k0)=none):=by
      show _=_;rw[HS.out,HM.out,List.drop_of_length_le (by omega)];rfl
     clear HM HS;obtain⟨x0,x1,x2,x3,x4,p0,p1,p2,p3,p4⟩ :=hinv.box;obtain⟨r0,r1,r2,r3,r4,o0,o1,o2,o3,o4⟩ :=hinv.res;go_wp2;refine bodyPost_ret (v:= .tuple #[.agg #[.bool false,.bool nt,.bool false,.slice af nf cf,.slice ab nb cb],.int .i64 (-1)]) (by simp[results,Tryz.results174,go_sem,r0,r1,r2,r3,r4]) rfl ⟨nt,.slice af nf cf,.slice ab nb cb,hinv.fin.2,⟨_,_,_,_,_,_,rfl,rfl⟩,.inl ⟨HF.out,rfl⟩⟩
end Go.Proofs.YtlppphmnegdhoabGreatDoor
namespace Go.Proofs.YtlppphmnegdhoabGreatDoor
open Go.RowKit
open M
theorem DY.RP{b:Nat}{w:World}{a n s:Bool}{vf vb:Value}(h:DY b w a n s vf vb)(u:Bool):DY b (w.setCell ⟨b,0,none⟩ (.bool u)) u n s vf vb:=by
 obtain⟨c0,c1,c2,c3,c4,f0,f1,f2,f3,f4⟩ :=h;refine⟨?_,?_,?_,?_,?_,?_,?_,?_,?_,?_⟩
 all_goals first| (simp[go_sem, *];done) | (rw[World.cell?_setCell_other (by simp)];assumption) |exact World.cell?_setCell_same c0
theorem DY.VG{b:Nat}{w:World}{a n s:Bool}{vf vb:Value}(h:DY b w a n s vf vb)(u:Bool):DY b (w.setCell ⟨b,2,none⟩ (.bool u)) a n u vf vb:=by
 obtain⟨c0,c1,c2,c3,c4,f0,f1,f2,f3,f4⟩ :=h;refine⟨?_,?_,?_,?_,?_,?_,?_,?_,?_,?_⟩
 all_goals first| (simp[go_sem, *];done) | (rw[World.cell?_setCell_other (by simp)];assumption) |exact World.cell?_setCell_same c2
structure cW(w:World)(vf vb:Value)(r:List (Nat×Nat)):Prop where
 f:∃a c,vf= .slice a r.length c∧Ok w a (On r)
 b:∃a c,vb= .slice a r.length c∧Ok w a (Pn r)
theorem j7{w:World}{B:Nat}{vf vb:Value}{r:List (Nat×Nat)}(h:Twin B w vf vb (On r) (Pn r)):cW w vf vb r:=by
 obtain⟨a,c,h1⟩ :=κ h.f;obtain⟨a',c',h2⟩ :=κ h.k;have hf:=h.f;have hk:=h.k;rw[h1]at hf;rw[h2]at hk;have e1:(On r).length=r.length:=by simp[On]
 have e2:(Pn r).length=r.length:=by simp[Pn]
 exact⟨⟨a,c,by rw[h1,e1],Na hf⟩,⟨a',c',by rw[h2,e2],Na hk⟩⟩
def j8(l:List Mk)(k:Nat)(w w':World)(e:Ending):Prop:=
 ∃(an nt st:Bool)(vf vb:Value),Below w.heap.size w w'∧(∃a1 n1 c1 a2 n2 c2,vf= .slice a1 n1 c1∧vb= .slice a2 n2 c2)∧
  ((Ba (l.drop k)=none∧e= .returned (.tuple #[.agg #[.bool an,.bool nt,.bool st,vf,vb],.int .i64 (-1)]))∨
   ∃(AM:List (Nat×Nat))(q:Nat),Ba (l.drop k)=some (⟨an,nt,st,AM⟩,l.drop q)∧k<q∧q≤l.length∧e= .returned (.tuple #[.agg #[.bool an,.bool nt,.bool st,vf,vb],.int .i64 (q:Int)])∧Twin w.heap.size w' vf vb (On AM) (Pn AM))
structure Jj(w wr:World)(an nt st:Bool)(vf vb:Value)(F K:List Int):Prop where
 res:DY w.heap.size wr false false false (.slice none 0 0) (.slice none 0 0)
 box:DY (w.heap.size+1) wr an nt st vf vb
 twin:Twin (w.heap.size+2) wr vf vb F K
 below:Below w.heap.size w wr
 size:w.heap.size+2≤wr.heap.size
theorem Jj.keep{w wr w':World}{an nt st:Bool}{vf vb:Value}{F K:List Int}(h:Jj w wr an nt st vf vb F K)(hb:Below wr.heap.size wr w'):Jj w w' an nt st vf vb F K:=by
 have hs:=h.size;have Fw:=hb.size;exact⟨h.res.keep (hb.block _ (by omega)),h.box.keep (hb.block _ (by omega)),⟨Ξ h.twin.f hb,Ξ h.twin.k hb,h.twin.ap⟩,h.below.trans (hb.mono (by omega)),by omega⟩
theorem Jj.fin{w wr:World}{an nt st:Bool}{vf vb:Value}{F K:List Int}(h:Jj w wr an nt st vf vb F K):
  Twin w.heap.size (((((wr.setCell ⟨w.heap.size,0,none⟩ (.bool an)).setCell ⟨w.heap.size,1,none⟩ (.bool nt)).setCell ⟨w.heap.size,2,none⟩ (.bool st)).setCell ⟨w.heap.size,3,none⟩ vf).setCell ⟨w.heap.size,4,none⟩ vb) vf vb F K∧
  Below w.heap.size w (((((wr.setCell ⟨w.heap.size,0,none⟩ (.bool an)).setCell ⟨w.heap.size,1,none⟩ (.bool nt)).setCell ⟨w.heap.size,2,none⟩ (.bool st)).setCell ⟨w.heap.size,3,none⟩ vf).setCell ⟨w.heap.size,4,none⟩ vb):=by
 have t2:=((((h.twin.set (a:=⟨w.heap.size,0,none⟩) (by simp) (.bool an)).set (a:=⟨w.heap.size,1,none⟩) (by simp) (.bool nt)).set (a:=⟨w.heap.size,2,none⟩) (by simp) (.bool st)).set (a:=⟨w.heap.size,3,none⟩) (by simp) vf).set (a:=⟨w.heap.size,4,none⟩) (by simp) vb;exact⟨⟨AH t2.f (by omega),AH t2.k (by omega),t2.ap⟩,((((h.below.setCell (by simp) _).setCell (by simp) _).setCell (by simp) _).setCell (by simp) _).setCell (by simp) _⟩
theorem Jj.RP{w wr:World}{an nt st:Bool}{vf vb:Value}{F K:List Int}(h:Jj w wr an nt st vf vb F K)(u:Bool):Jj w (wr.setCell ⟨w.heap.size+1,0,none⟩ (.bool u)) u nt st vf vb F K:=
 ⟨h.res.keep (heap_setCell_other _ _ _ _ (by simp)),h.box.RP u,h.twin.set (by simp) _,h.below.setCell (by simp) _,by simpa using h.size⟩
theorem Jj.VG{w wr:World}{an nt st:Bool}{vf vb:Value}{F K:List Int}(h:Jj w wr an nt st vf vb F K)(u:Bool):Jj w (wr.setCell ⟨w.heap.size+1,2,none⟩ (.bool u)) an nt u vf vb F K:=
 ⟨h.res.keep (heap_setCell_other _ _ _ _ (by simp)),h.box.VG u,h.twin.set (by simp) _,h.below.setCell (by simp) _,by simpa using h.size⟩
theorem UK(w:World)(B:Nat)(x:Int)(hB:B≤w.heap.size):(w.alloc (.cells #[.int .i64 x] 3)).ownsRow B 3 1 (.slice (some ⟨w.heap.size,0,none⟩) 1 1) 1 (Ki [x]):=
 ⟨rfl,.inr ⟨w.heap.size,1,#[.int .i64 x],rfl,hB,heap_alloc_new w _,δ,by unfold maxLen;omega,rfl,rfl⟩⟩
theorem Jj.one{w wr:World}{an nt st:Bool}(h:Jj w wr an nt st (.slice none 0 0) (.slice none 0 0) [] [])(x:Nat):
  Jj w ((((wr.setCell ⟨w.heap.size+1,3,none⟩ (.slice (some ⟨wr.heap.size,0,none⟩) 1 1)).setCell ⟨w.heap.size+1,4,none⟩ (.slice (some ⟨wr.heap.size+1,0,none⟩) 1 1)).alloc (.cells #[.int .i64 (x:Int)] 3)).alloc (.cells #[.int .i64 (x:Int)] 3)) an nt st (.slice (some ⟨wr.heap.size,0,none⟩) 1 1) (.slice (some ⟨wr.heap.size+1,0,none⟩) 1 1) (On [(x,x)]) (Pn [(x,x)]):=by
 have hs:=h.size;have r1:=(h.res.keep (heap_setCell_other wr ⟨w.heap.size+1,3,none⟩ w.heap.size (.slice (some ⟨wr.heap.size,0,none⟩) 1 1) (by simp))).keep (heap_setCell_other (wr.setCell ⟨w.heap.size+1,3,none⟩ (.slice (some ⟨wr.heap.size,0,none⟩) 1 1)) ⟨w.heap.size+1,4,none⟩ w.heap.size (.slice (some ⟨wr.heap.size+1,0,none⟩) 1 1) (by simp));have b1:=(h.box.eT (.slice (some ⟨wr.heap.size,0,none⟩) 1 1)).wj (.slice (some ⟨wr.heap.size+1,0,none⟩) 1 1);have bl:=(h.below.setCell (a:=w) (show w.heap.size≤(⟨w.heap.size+1,3,none⟩ :Addr).block by simp) (.slice (some ⟨wr.heap.size,0,none⟩) 1 1)).setCell (show w.heap.size≤(⟨w.heap.size+1,4,none⟩ :Addr).block by simp) (.slice (some ⟨wr.heap.size+1,0,none⟩) 1 1);have EV:((wr.setCell ⟨w.heap.size+1,3,none⟩ (.slice (some ⟨wr.heap.size,0,none⟩) 1 1)).setCell ⟨w.heap.size+1,4,none⟩ (.slice (some ⟨wr.heap.size+1,0,none⟩) 1 1)).heap.size=wr.heap.size:=by simp
 generalize((wr.setCell ⟨w.heap.size+1,3,none⟩ (.slice (some ⟨wr.heap.size,0,none⟩) 1 1)).setCell ⟨w.heap.size+1,4,none⟩ (.slice (some ⟨wr.heap.size+1,0,none⟩) 1 1))=V at*;have t1:=UK V (w.heap.size+2) x (by omega);have t2:=UK (V.alloc (.cells #[.int .i64 (x:Int)] 3)) (w.heap.size+2) x (by simp;omega);have e2:(V.alloc (.cells #[.int .i64 (x:Int)] 3)).heap.size=wr.heap.size+1:=by simp[EV]
 rw[e2]at t2;rw[EV]at t1;have al:∀k,k<wr.heap.size→((V.alloc (.cells #[.int .i64 (x:Int)] 3)).alloc (.cells #[.int .i64 (x:Int)] 3)).heap[k]? =V.heap[k]? :=fun k hk=>(Below.heap_alloc _ _ _ (by rw[e2];omega)).trans (Below.heap_alloc _ _ _ (by rw[EV];exact hk))
 refine⟨r1.keep (al _ (by omega)),b1.keep (al _ (by omega)),⟨t1.alloc _,t2,?_⟩,(bl.alloc (by omega) _).alloc (by rw[e2];omega) _,by rw[show((V.alloc (.cells #[.int .i64 (x:Int)] 3)).alloc (.cells #[.int .i64 (x:Int)] 3)).heap.size=wr.heap.size+2 by simp[EV]];omega⟩;intro g hg hb;simp[Value.ownBlock]at hg hb;omega
end Go.Proofs.YtlppphmnegdhoabGreatDoor
