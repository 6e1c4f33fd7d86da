import Derived.Laws.CopyOwn
import Derived.ProofKit
import Derived.OpenShut
import Derived.ShutString
import Derived.ChangeOld
import Derived.Below
import Derived.SizedLaws
import Derived.Deep.Slices
import Derived.Deep.Strs
import Derived.Test.YtlppphmnegdhoabGreatDoorCards
import Derived.Test.YtlppphmnegdhoabGreatDoorTie
import Derived.SliceStrings
import Derived.Deep.DeepHandedRow
import Derived.Lib.LaidTab
import Derived.Stop.LaidErr
import Derived.Test.YtlppphmnegdhoabGreatDoorMz45
set_option linter.unusedVariables false
set_option maxRecDepth 100000
set_option maxHeartbeats 8000000
namespace Go.Proofs.YtlppphmnegdhoabGreatDoor
open Go.Proofs.Tryz
open Go.RowKit
open M
theorem cG(cs:List Cm)(hcs:∀c∈cs,YW c)(quiet:Bool)(steps room:Nat)(t:ByteArray):Ax t.data.toList (Ay cs quiet steps room t true).out:=by
 obtain⟨R,h1,h2,_⟩ :=M3 cs hcs quiet steps room t true;have g:oA cs quiet steps room t R:=h1;have:=g.ABj;rw[g.text,h2]at this;exact this
structure ClB(lo:Nat)(s0:ByteArray)(cs:List Cm)(quiet:Bool)(steps room bx BO pb:Nat)(t:ByteArray)(T:St)(w w1:World)(txt j:ByteArray)(cd:Nat):Prop where
 size:w.heap.size≤w1.heap.size
 by_:w1.heap[BO]? =w.heap[BO]?
 pb_:w1.heap[pb]? =w.heap[pb]?
 low:Below lo w w1
 px:CB w1 bx (zE 0 true)
 ln:txt.size≤4096
 hc:cd≤6
 doc:∀(E:DE),uM E s0 quiet steps room t T→∀e2 w2 w3,du cs BO E w2 e2 w3→e2= .returned (.tuple #[.string txt,.string j,.int .i64 (cd:Nat)])∧KV BO w2 w3∧∃E',Dc w3 BO E'∧E'.closed=true
theorem o6{B lo hi:Nat}{s0:ByteArray}{cs:List Cm}{quiet:Bool}{steps room bx BO pb:Nat}{t:ByteArray}{T:St}{w:World}(h:PX B lo hi cs bx BO pb T w)(hf:Ob (JM cs quiet steps room) t T)(hcs:∀c∈cs,YW c)(hde:T.AB≤6)(Pl:lo≤hi)(ZE:hi≤bx)(h1:bx<BO)(h2:BO<pb)(h3:pb<w.heap.size):
  Calls prog 28 #[.pointer (some ⟨bx,0,none⟩)] w fun e w'=>∃txt j cd,e= .returned (.tuple #[.string txt,.string j,.int .i64 (cd:Nat)])∧ClB lo s0 cs quiet steps room bx BO pb t T w w' txt j cd:=by
 rcases h with⟨d,F,h,hy,hp⟩ | ⟨d,h⟩
 ·refine(od h t hf).mono ?_
  rintro e w1 ⟨R,g1,g2,g3,g4,g5,g6,j,rfl,j1,j2⟩;obtain⟨r1,r2⟩ :=tI hcs g1;refine⟨_,j,R.AB,rfl,g6.size,g6.block BO (by omega) hy,g6.block pb h3 hp,Sv g6 (fun k hk=>by have:=h.ft k hk;omega) (by omega),g5,?_,g3,fun E hE e2 w2 w3 hq=> ?_⟩
  ·rw[K7]
   unfold τ;rw[List.length_take,List.length_drop];omega
  ·obtain⟨e1,e2',e3,e4,e5,e6,e7,e8,e9⟩ :=hE
   obtain⟨i1,i2⟩ :=e7 d;obtain⟨ha,⟨c1,_⟩ | ⟨_,c1,_⟩ | ⟨_,c1,j',E',c2,c3,c4,c5,c6⟩⟩ :=hq
   ·rw[e5]at c1;cases c1
   ·exact absurd (by rw[e6];exact d) c1
   ·rw[e2',e3,e4,i1]at c2 c3 c4
    rw[←r1,←r2,i2,Y8 _ _ g2.length_le]at c2;rw[←r2]at c3 c4;rw[←r1]at c4;have hj:j'=j:=by
     by_cases h0:R.AB=0
     ·apply ByteArray.ext
      apply Array.toList_inj.1;rw[c4 h0,j2 h0];unfold QF;rw[g1.text]
     ·rw[c3 h0,j1 h0]
    rw[hj]at c2;exact⟨c2,ha,E',c5,c6⟩
 ·refine(cA bx T.AB w h d).mono ?_
  rintro e w1 ⟨rfl,g5,g6⟩;refine⟨⟨#[]⟩,⟨#[]⟩,T.AB,rfl,g6.size,g6.block BO (by omega) (by omega),g6.block pb h3 (by omega),Sv g6 (fun k hk=>by omega) (by omega),g5,by show 0≤4096;omega,hde,fun E hE e2 w2 w3 hq=> ?_⟩;obtain⟨e1,e2',e3,e4,e5,e6,e7,e8,e9⟩ :=hE;obtain⟨ha,⟨c1,_⟩ | ⟨_,c1,c2,c3⟩ | ⟨_,c1,_⟩⟩ :=hq
  ·rw[e5]at c1;cases c1
  ·rw[e6]at c2
   exact⟨c2,ha,_,c3,rfl⟩
  ·exact absurd (by rw[←e6];exact c1) d
structure D6(lo bx BO pb:Nat)(o:ByteArray)(w:World):Prop where
 px:CB w bx (zE 0 true)
 ed:∃E,Dc w BO E∧E.closed=true
 box:CB w pb [.pointer (some ⟨bx,0,none⟩),.pointer (some ⟨BO,0,none⟩),.string o]
 no:Wq w pb
 oo:o.size≤8192
 n1:bx<BO
 n2:BO<pb
 n3:lo≤bx
theorem T7{B lo hi:Nat}{s0:ByteArray}{cs:List Cm}{quiet:Bool}{steps room bx BO pb:Nat}{t:ByteArray}{T:St}{o:ByteArray}{w:World}(h:Ik B lo hi s0 cs quiet steps room bx BO pb t T o w):
  Calls prog 11 #[.pointer (some ⟨pb,0,none⟩)] w fun e w'=>∃j o',e= .returned (.tuple #[.string j,.bool true])∧Below lo w w'∧D6 lo bx BO pb o' w':=by
 have HH:=γ h;have Ht:=h.box.lt;have c0:=h.box.c 0 _ rfl;have HC:=o6 (s0:=s0) h.px h.fed (bU h.AZ.2.1) h.de h.n4.2 h.n3 h.n1 h.n2 Ht;have hoo:=h.oo;have Nn:=h.ou;clear h
 go_enter func11,ntmps11
 go_wp2_with fail
 refine HC.mono ?_;clear HC;rintro e w1 ⟨txt,j,cd,rfl,hB⟩;have HB:=γ hB;have Ig:=hB.hc;have GI:=HH.out.box.keep hB.pb_ hB.size;have d1:=GI.c 1 _ rfl;have pl1:=GI.lt;obtain⟨E,hE,hEO⟩ :=HH.out.ed;have TY:=hE.keep hB.by_ hB.size;have HEO:=γ hEO;have AAK:=γ GI;have hyl:BO<w1.heap.size:=TY.box.lt;have J9:=hB.ln;have HC:=Wc cs BO E w1 TY (hEO.k HH.out.AZ HH.out.de) (cG cs (bU HH.out.AZ.2.1) _ _ _ _);clear hB GI hE hEO TY
 go_wp2_with fail
 refine HC.mono ?_;clear HC;rintro e2 w2 hq;obtain⟨rfl,Jt,E',py,vy⟩ :=HB.out.doc E HEO.out e2 w1 w2 hq;have NC:=HH.out.n1;have NN:=HH.out.n2;have JD:=AAK.out.keep (Jt.block pb pl1 (by omega)) Jt.size;have d2:=JD.c 2 _ rfl;have f2:=JD.fz 2 (by simp);have pl2:=JD.lt;have AAL:Hid (CB w2 bx (zE 0 true)):=HB.out.px.keep (Jt.block bx HB.out.px.lt (by omega)) Jt.size;have Vc:=γ py;have hNP:Wq w2 pb:=(HH.out.no.keep HB.out.pb_).keep (Jt.block pb pl1 (by omega));have K9:=JD.set 2 (by simp) (.string (o++txt)) rfl;have HP:Hid (Below lo w (w2.setCell ⟨pb,2,none⟩ (.string (o++txt)))∧D6 lo bx BO pb (o++txt) (w2.setCell ⟨pb,2,none⟩ (.string (o++txt)))):=by
  have cP:=HH.out.n3;have uU:=HH.out.n4;refine⟨?_,⟨AAL.out.keep (heap_setCell_other w2 _ _ _ (by show bx≠pb;omega)) (by simp),⟨E',Vc.out.keep (heap_setCell_other w2 _ _ _ (by show BO≠pb;omega)) (by simp),vy⟩,K9,?_,?_,NC,NN,by omega⟩⟩
  ·refine(HB.out.low.trans ⟨Jt.os,Jt.tape,Jt.output,Jt.size,fun k hk=>Jt.block k (by omega) (by omega)⟩).trans ?_
   exact ζ.setCell (by show lo≤pb;omega) _
  ·exact hNP.set d2 (fun z e=>by cases e)
  ·rw[ByteArray.size_append'];omega
 have hsq:¬9223372036854775807<o.size+txt.size:=by omega
 have AEs:(txt.toList==txt.toList)=true:=by simp
 have AF0:(j.toList==j.toList)=true:=by simp
 clear JD hNP K9 Jt py vy hq;go_wp2;go_ret2;exact⟨j,_,rfl,HP.out⟩
theorem Wd(b:Nat)(E:DE)(s:ByteArray)(w:World)(hb:Dc w b E)(hc:E.closed=true):
  Calls prog 27 #[.pointer (some ⟨b,0,none⟩),.string s] w fun e w'=>e= .returned (.tuple #[.string ⟨#[]⟩,.int .i64 7])∧w'=w:=by
 have Bq:=hb.box.lt;have c6:=hb.box.c 6 _ rfl;rw[hc]at c6;clear hb hc
 go_enter func27,ntmps27
 go_wp2;go_ret2;exact⟨rfl,rfl⟩
theorem T8(b:Nat)(E:DE)(w:World)(hb:Dc w b E)(hc:E.closed=true):
  Calls prog 29 #[.pointer (some ⟨b,0,none⟩)] w fun e w'=>e= .returned (.tuple #[.string ⟨#[]⟩,.string ⟨#[]⟩,.int .i64 7])∧w'=w:=by
 have Bq:=hb.box.lt;have c6:=hb.box.c 6 _ rfl;rw[hc]at c6;clear hb hc
 go_enter func29,ntmps29
 go_wp2;go_ret3;exact⟨rfl,rfl⟩
theorem D6.below{lo bx BO pb:Nat}{o:ByteArray}{w w':World}(h:D6 lo bx BO pb o w)(hb:Below w.heap.size w w'):D6 lo bx BO pb o w':=
 ⟨h.px.below hb h.px.lt,by obtain⟨E,h1,h2⟩ :=h.ed;exact⟨E,h1.below hb,h2⟩,h.box.below hb h.box.lt,h.no.keep (hb.block pb h.box.lt),h.oo,h.n1,h.n2,h.n3⟩
theorem D6.o7{lo bx BO pb:Nat}{o:ByteArray}{w:World}(h:D6 lo bx BO pb o w)(s:ByteArray)(hs:s.size≤8192):D6 lo bx BO pb s (w.setCell ⟨pb,2,none⟩ (.string s)):=by
 have h1:=h.n1;have h2:=h.n2;refine⟨h.px.keep (heap_setCell_other w _ _ _ (by show bx≠pb;omega)) (by simp),?_,h.box.set 2 (by simp) (.string s) rfl,h.no.set (h.box.c 2 _ rfl) (fun z e=>by cases e),hs,h1,h2,h.n3⟩;obtain⟨E,h3,h4⟩ :=h.ed;exact⟨E,h3.keep (heap_setCell_other w _ _ _ (by show BO≠pb;omega)) (by simp),h4⟩
theorem iQ{lo bx BO pb:Nat}{o:ByteArray}{w:World}(h:D6 lo bx BO pb o w)(s:ByteArray):
  Calls prog 10 #[.pointer (some ⟨pb,0,none⟩),.string s] w fun e w'=>∃o',e= .returned (.bool true)∧Below lo w w'∧D6 lo bx BO pb o' w':=by
 have HH:=γ h;have Ht:=h.box.lt;have c0:=h.box.c 0 _ rfl;have HC:=iH bx s w h.px;have hoo:=h.oo;clear h
 go_enter func10,ntmps10
 go_wp2_with fail
 refine HC.mono ?_;clear HC;rintro e w1 ⟨rfl,B1⟩;have h1:=HH.out.below B1;have H1:=γ h1;have pL:lo≤pb:=by have:=h1.n1;have:=h1.n2;have:=h1.n3;omega
 have L6:Hid (Below lo w w1):=B1.mono (by omega);have d1:=h1.box.c 1 _ rfl;have pl1:=h1.box.lt;have d2:=h1.box.c 2 _ rfl;have f2:=h1.box.fz 2 (by simp);obtain⟨E,hE,vy⟩ :=h1.ed;have HC:=Wd BO E s w1 hE vy;clear h1 hE vy B1
 go_wp2_with fail
 refine HC.mono ?_;clear HC;rintro e2 w2 ⟨rfl,rfl⟩;have EV:o.size+(⟨#[]⟩ :ByteArray).size=o.size:=rfl;have hsq:¬9223372036854775807<o.size+(⟨#[]⟩ :ByteArray).size:=by omega
 have Jt:(o++(⟨#[]⟩ :ByteArray)).size≤8192:=by rw[ByteArray.size_append',EV];exact hoo
 go_wp2;go_ret;exact⟨_,rfl,L6.out.setCell (by show lo≤pb;omega) _,H1.out.o7 _ Jt⟩
theorem We{lo bx BO pb:Nat}{o:ByteArray}{w:World}(h:D6 lo bx BO pb o w):
  Calls prog 11 #[.pointer (some ⟨pb,0,none⟩)] w fun e w'=>∃o',e= .returned (.tuple #[.string ⟨#[]⟩,.bool true])∧Below lo w w'∧D6 lo bx BO pb o' w':=by
 have HH:=γ h;have Ht:=h.box.lt;have c0:=h.box.c 0 _ rfl;have HC:=b7 bx w h.px;have hoo:=h.oo;clear h
 go_enter func11,ntmps11
 go_wp2_with fail
 refine HC.mono ?_;clear HC;rintro e w1 ⟨rfl,B1⟩;have h1:=HH.out.below B1;have H1:=γ h1;have pL:lo≤pb:=by have:=h1.n1;have:=h1.n2;have:=h1.n3;omega
 have L6:Hid (Below lo w w1):=B1.mono (by omega);have d1:=h1.box.c 1 _ rfl;have pl1:=h1.box.lt;have d2:=h1.box.c 2 _ rfl;have f2:=h1.box.fz 2 (by simp);obtain⟨E,hE,vy⟩ :=h1.ed;have HC:=T8 BO E w1 hE vy;clear h1 hE vy B1
 go_wp2_with fail
 refine HC.mono ?_;clear HC;rintro e2 w2 ⟨rfl,rfl⟩;have EV:o.size+(⟨#[]⟩ :ByteArray).size=o.size:=rfl;have hsq:¬9223372036854775807<o.size+(⟨#[]⟩ :ByteArray).size:=by omega
 have Jt:(o++(⟨#[]⟩ :ByteArray)).size≤8192:=by rw[ByteArray.size_append',EV];exact hoo
 go_wp2;go_ret2;exact⟨_,rfl,L6.out.setCell (by show lo≤pb;omega) _,H1.out.o7 _ Jt⟩
def o8(B:Nat)(s:ByteArray)(quiet:Bool)(steps room:Int)(w:World)(e:Ending)(w':World):Prop:=
 Below w.heap.size w w'∧(e= .returned (.tuple #[.pointer none,.bool true])∨∃(cs:List Cm)(hi bx BO pb:Nat),e= .returned (.tuple #[.pointer (some ⟨pb,0,none⟩),.bool true])∧Ik B w.heap.size hi s cs quiet steps.toNat room.toNat bx BO pb ⟨#[]⟩ (JM cs quiet steps.toNat room.toNat) ⟨#[]⟩ w')
theorem Live.flt{B lo hi:Nat}{cs:List Cm}{b:Nat}{F:Nat→Prop}{T:St}{w:World}(h:Live B lo hi cs b F T w)(k:Nat)(hk:F k):k<w.heap.size:=by
 obtain⟨V,Ec,w0,h1,h2,_⟩ :=h.ex;rw[h2]at hk;exact FM h1 k hk
theorem Wf(B:Nat)(s:ByteArray)(quiet:Bool)(steps room:Int)(w:World)(hs:s.size≤maxLen)(hT:OH B w)(RU: -9223372036854775808≤steps)(LV:steps≤9223372036854775807)(Nf: -9223372036854775808≤room)(dG:room≤9223372036854775807):
  Calls prog 9 #[.string s,.bool quiet,.int .i64 steps,.int .i64 room] w fun e w'=>o8 B s quiet steps room w e w':=by
 have hBw:B≤w.heap.size:=hT.1;have HC:=cB B s quiet steps room w hs hT RU LV Nf dG;clear hT
 go_enter func9,ntmps9
 go_wp2_with fail
 refine HC.mono ?_;clear HC;rintro e w1 ⟨B1,h⟩;have HC:=Y7 s quiet steps room w1 hs RU LV Nf dG;rcases h with⟨n,x,F6,cZ,rfl⟩ | ⟨cs,h4,hsc,OK,rfl⟩ | ⟨cs,bx,hi,F,h4,hsc,OK,rfl,ZE,hLv⟩
 ·have hx:=F6.x
  have ZV:=γ F6;clear F6
  go_wp2_with fail
  refine HC.mono ?_;clear HC;rintro e w2 ⟨B2,⟨n',x',iR,uP,rfl⟩ | ⟨cs,h4,hsc,OK,rfl⟩ | ⟨cs,BO,h4,hsc,OK,rfl,hyl,hE⟩⟩
  ·obtain⟨_,rfl⟩ :=ZV.out.same iR
   have hne:(x !=x)=false:=by simp
   have AF1:(x !=0)=true:=by simp;exact cZ
   clear iR;go_wp2;go_ret2;exact⟨B1.trans (B2.mono B1.size),.inl rfl⟩
  all_goals
   exact absurd (Qz ZV.out h4 hsc) cZ
 ·have Ip:Hid (s.size≤400∧Ef s.data.toList cs∧DA steps room):=⟨h4,hsc,OK⟩
  clear hsc OK
  go_wp2_with fail
  refine HC.mono ?_;clear HC;rintro e w2 ⟨B2,⟨n',x',iR,uP,rfl⟩ | ⟨cs',h4',o9,Sz,rfl⟩ | ⟨cs',BO,h4',o9,Sz,rfl,hyl,hE⟩⟩
  ·exact absurd (Qz iR Ip.out.1 Ip.out.2.1) uP
  ·clear o9 Sz
   go_wp2;go_ret2;exact⟨B1.trans (B2.mono B1.size),.inl rfl⟩
  ·exact absurd Ip.out.2.2 Sz
 ·have Ip:Hid (s.size≤400∧Ef s.data.toList cs∧¬DA steps room):=⟨h4,hsc,OK⟩
  have HLV:=γ hLv;have Bq:=hLv.lt;have km:=hLv.ft bx hLv.fb;clear hsc OK hLv
  go_wp2_with fail
  refine HC.mono ?_;clear HC;rintro e w2 ⟨B2,⟨n',x',iR,uP,rfl⟩ | ⟨cs',h4',o9,Sz,rfl⟩ | ⟨cs',BO,h4',o9,Sz,rfl,hyl,hE⟩⟩
  ·exact absurd (Qz iR Ip.out.1 Ip.out.2.1) uP
  ·exact absurd Sz Ip.out.2.2
  ·clear o9 Sz
   have HE:=γ hE;have AEt:=hE.box.lt;clear hE;have Cq:CB (w2.alloc (.cells #[.pointer (some ⟨bx,0,none⟩),.pointer (some ⟨BO,0,none⟩),.string ⟨#[]⟩] 63)) w2.heap.size [.pointer (some ⟨bx,0,none⟩),.pointer (some ⟨BO,0,none⟩),.string ⟨#[]⟩]:=CB.new w2 63 #[.pointer (some ⟨bx,0,none⟩),.pointer (some ⟨BO,0,none⟩),.string ⟨#[]⟩] (by simp[Value.oneCell']);have ph:Below w2.heap.size w2 (w2.alloc (.cells #[.pointer (some ⟨bx,0,none⟩),.pointer (some ⟨BO,0,none⟩),.string ⟨#[]⟩] 63)):=ζ.alloc δ _;have HP:Hid (o8 B s quiet steps room w (.returned (.tuple #[.pointer (some ⟨w2.heap.size,0,none⟩),.bool true])) (w2.alloc (.cells #[.pointer (some ⟨bx,0,none⟩),.pointer (some ⟨BO,0,none⟩),.string ⟨#[]⟩] 63))):=by
    refine⟨(B1.trans (B2.mono B1.size)).trans (ph.mono (by have:=B1.size;have:=B2.size;omega)),.inr ⟨cs,hi,bx,BO,w2.heap.size,rfl,?_⟩⟩;have BZ:steps.toNat≤5000∧room.toNat≤256:=by
     have h9:=Ip.out.2.2;unfold DA at h9;omega
    refine⟨.inl ⟨rfl,F,(HLV.out.below B2).below ph,fun hf=> ?_,fun hf=> ?_⟩,⟨_,HE.out.below ph,?_⟩,Cq,?_,Ob.start _ _ _ _,ε,ε,fun _=>ε,ε,⟨Ip.out.1,Ip.out.2.1,BZ.1,BZ.2⟩,by omega,AEt,km,⟨hBw,ZE⟩⟩
    ·have:=HLV.out.flt _ hf;omega
    ·have:=HLV.out.flt _ hf;have:=B2.size;omega
    ·exact⟨rfl,rfl,rfl,rfl,rfl,rfl,fun _=>⟨rfl,rfl⟩,ε,ε⟩
    ·exact Wq.oc (heap_alloc_new w2 _) (by simp)
   clear Cq ph;go_wp2;go_ret2;exact HP.out
theorem iT(B:Nat)(s:ByteArray)(quiet:Bool)(steps room:Int)(ap:Option Addr)(cp:Nat)(L:List ByteArray)(w:World)(hs:s.size≤maxLen)(hT:OH B w)(RU: -9223372036854775808≤steps)(LV:steps≤9223372036854775807)(Nf: -9223372036854775808≤room)(dG:room≤9223372036854775807)(hL:Pe w ap L)(hLn:L.length≤9223372036854775807)(hLs:∀x∈L,x.size≤maxLen):
  Calls prog 3 #[.string s,.bool quiet,.int .i64 steps,.int .i64 room,.slice ap L.length cp] w fun e w'=>e= .returned (.bool true)∧Below w.heap.size w w':=by
 obtain⟨n,hn⟩ :∃n,L.length=n:=⟨_,rfl⟩
 have HN:=γ hn;rw[hn]at hLn⊢;have HL:=γ hL;have HLS:Hid (∀x∈L,x.size≤maxLen):=hLs;have HC:=Wf B s quiet steps room w hs hT RU LV Nf dG;clear hn hL hT hLs
 go_enter func3,ntmps3
 go_wp2_with fail
 refine HC.mono ?_;clear HC;rintro e w1 ⟨B1,rfl| ⟨cs,hi,bx,BO,pb,rfl,hP⟩⟩
 ·go_wp2
  go_ret;exact⟨rfl,B1⟩
 obtain⟨st,BZ⟩ :∃k,steps.toNat=k:=⟨_,rfl⟩
 obtain⟨rm,ZK⟩ :∃k,room.toNat=k:=⟨_,rfl⟩
 rw[BZ,ZK]at hP;obtain⟨lo,Pl⟩ :∃k,w.heap.size=k:=⟨_,rfl⟩
 rw[Pl]at hP B1;have HP:=γ hP;clear hP
 go_wp2_with fail
 go_loopw [13] (fun Zh wr=>∃(i:Nat)(t:ByteArray)(T:St)(o:ByteArray),Zh= .int .i64 i∧i≤n∧Hid (Ik B lo hi s cs quiet st rm bx BO pb t T o wr)∧Below lo w wr) (fun Zh _=>n - (intOf Zh).toNat)
 case atStart=>exact⟨0,_,_,_,rfl,ε,HP.out,B1⟩
 case round=>
  clear HP B1;obtain⟨i,t,T,o,rfl,JC,HP,hB⟩ :=hrel;have Ht:=HP.out.box.lt
  by_cases Ac:i<n
  ·have AV:(i:Int)<(n:Int):=by omega
   have Zs:(0:Int)≤(i:Int):=by omega
   have BN:i<L.length:=by rw[HN.out];exact Ac
   obtain⟨g,o',Jt,Rp,hcell⟩ :∃g o,ap=some ⟨g,o,none⟩∧g<w.heap.size∧∀i(h:i<L.length),w.cell? ⟨g,o+i,none⟩ =some (.string L[i]):=by
    rcases HL.out.at' with h|h
    ·rw[h]at BN;simp at BN
    ·exact h
   subst Jt;have d0:wr.cell? ⟨g,o'+i,none⟩ =some (.string L[i]):=(hB.cell (by rw[←Pl];exact Rp)).trans (hcell i BN);have xc:g<wr.heap.size:=by have:=hB.size;omega
   have hpz:L[i].size≤maxLen:=HLS.out _ (List.getElem_mem BN);generalize L[i]=pc at*;clear hcell;have HC:=cF HP.out pc hpz
   go_wp2_with fail
   refine HC.mono ?_;clear HC;rintro e w3 ⟨rfl,B3,t',T',o3,hP3⟩;have uo:=γ hP3;have Hx:=hB.trans B3;clear hP3 B3;go_wp2
   go_roundw
   case rel=>exact⟨i+1,t',T',o3,by go_num,by omega,uo.out,Hx⟩
   case measure=>simp[intOf]<;>omega
  ·obtain rfl:i=n:=by omega
   have AV:¬(i:Int)<(i:Int):=by omega
   have HC:=T7 HP.out
   go_wp2_with fail
   refine HC.mono ?_;clear HC;rintro e w3 ⟨j,o3,rfl,B3,hD3⟩;have HD3:=γ hD3;have Hx:=hB.trans B3;clear hD3 B3;have HC:=iQ HD3.out ⟨#[97,10,98]⟩
   go_wp2_with fail
   refine HC.mono ?_;clear HC;rintro e w4 ⟨o4,rfl,B4,hD4⟩;have HD4:=γ hD4;have hB4:=Hx.trans B4;clear hD4 B4;have HC:=We HD4.out
   go_wp2_with fail
   refine HC.mono ?_;clear HC;rintro e w5 ⟨o5,rfl,B5,hD5⟩;have aF:=hB4.trans B5;clear hD5 B5;go_wp2;go_ret;exact⟨rfl,by rw[Pl];exact aF⟩
end Go.Proofs.YtlppphmnegdhoabGreatDoor
namespace Go.Proofs.YtlppphmnegdhoabGreatDoor
open Go.RowKit
open M
attribute [local go_sem ↓] Go.wp_at_zero Go.wp_at_succ
theorem YX(w:World)(a:Addr)(v u:Value)(h:w.cell? a=some u):(w.setCell a v).cell? a=some v:=World.cell?_setCell_same' w a v (by rw[h];rfl)
end Go.Proofs.YtlppphmnegdhoabGreatDoor
namespace Go.Proofs.YtlppphmnegdhoabGreatDoor
open Go.ChangeMaps (open_string shut_string)
open Go.ChangeShapes Go.WideShapes Go.ChangeAt Go.RowKit
open Go.Proofs.Tryz
open M
theorem laidOut:laidOutB prog=true:=by kernel_rfl
theorem AAM:ownKnob prog.godebug=none:=by kernel_rfl
theorem AEu:prog.globalNamed "internal/strconv.uint64pow10" =some 0:=by kernel_rfl
theorem ACR:(prog.globals[0]?).map (·.type)=some 303:=by kernel_rfl
theorem pA:prog.cellsOf 303=20:=by kernel_rfl
theorem pB:prog.cellsOf 297=1:=by kernel_rfl
theorem pC:prog.cellsOf 9=1:=by kernel_rfl
def vz:List (String×DataW Unit):=Rows.restoredRow.laid
theorem ZB{W:World}(h:laidMetH prog vz W):dp W:=
 Lib.tabIs_of_head (k:= .u64) (zs:=Lib.pow10Tab) (rest:= []) AEu ACR underlying303 underlying297 pB pA (laidMet.tail (laidMet.tail h))
def obC(C:Array Value):Obj→Obj
 | .cells _ t frozen=> .cells C t frozen
 |o=>o
noncomputable def Pg (os:Os):World:=
 {World.holding prog os ⟨#[],#[],[]⟩with heap:=(((World.holding prog os ⟨#[],#[],[]⟩).heap.modify 0 (obC #[.int .u64 1,.int .u64 10,.int .u64 100,.int .u64 1000,.int .u64 10000,.int .u64 100000,.int .u64 1000000,.int .u64 10000000,.int .u64 100000000,.int .u64 1000000000,.int .u64 10000000000,.int .u64 100000000000,.int .u64 1000000000000,.int .u64 10000000000000,.int .u64 100000000000000,.int .u64 1000000000000000,.int .u64 10000000000000000,.int .u64 100000000000000000,.int .u64 1000000000000000000,.int .u64 10000000000000000000])).modify 1 (obC #[.int .u8 0,.int .u8 1,.int .u8 28,.int .u8 2,.int .u8 29,.int .u8 14,.int .u8 24,.int .u8 3,.int .u8 30,.int .u8 22,.int .u8 20,.int .u8 15,.int .u8 25,.int .u8 17,.int .u8 4,.int .u8 8,.int .u8 31,.int .u8 27,.int .u8 13,.int .u8 23,.int .u8 21,.int .u8 19,.int .u8 16,.int .u8 7,.int .u8 26,.int .u8 12,.int .u8 18,.int .u8 6,.int .u8 11,.int .u8 5,.int .u8 10,.int .u8 9])).modify 2 (obC #[.int .u8 0,.int .u8 1,.int .u8 56,.int .u8 2,.int .u8 57,.int .u8 49,.int .u8 28,.int .u8 3,.int .u8 61,.int .u8 58,.int .u8 42,.int .u8 50,.int .u8 38,.int .u8 29,.int .u8 17,.int .u8 4,.int .u8 62,.int .u8 47,.int .u8 59,.int .u8 36,.int .u8 45,.int .u8 43,.int .u8 51,.int .u8 22,.int .u8 53,.int .u8 39,.int .u8 33,.int .u8 30,.int .u8 24,.int .u8 18,.int .u8 12,.int .u8 5,.int .u8 63,.int .u8 55,.int .u8 48,.int .u8 27,.int .u8 60,.int .u8 41,.int .u8 37,.int .u8 16,.int .u8 46,.int .u8 35,.int .u8 44,.int .u8 21,.int .u8 52,.int .u8 32,.int .u8 23,.int .u8 11,.int .u8 54,.int .u8 26,.int .u8 40,.int .u8 15,.int .u8 34,.int .u8 20,.int .u8 31,.int .u8 10,.int .u8 25,.int .u8 14,.int .u8 19,.int .u8 9,.int .u8 13,.int .u8 8,.int .u8 7,.int .u8 6])}
theorem J7{k:Int}(h:(Lit.int .i64 k).wf=true): -9223372036854775808≤k∧k≤9223372036854775807:=by
 simpa[Lit.wf,IntKind.min,IntKind.max,IntKind.signed,IntKind.bits]using h
theorem cH{H:Type}{enc:TypeId×Value→H}{W:World}{v:Value}{d:DataW H}{p:List MemPlace}{base:Nat}(Fx:Value.okWide prog W .any base 22 v)(h:DataW.Trod enc prog W 0 (fun _=>true) true 22 v d p):
  ∃(a:Option Addr)(cap:Nat)(L:List ByteArray),v= .slice a L.length cap∧Pe W a L∧L.length≤9223372036854775807∧∀x∈L,x.size≤maxLen:=by
 obtain⟨a,len,cap,rfl⟩ :=okWide_slice underlying22 Fx;obtain⟨fuel,hf⟩ :=h;rcases open_strings underlying22 underlying9 pC hf with⟨hcs,hx⟩ | ⟨x,AF2,eW,ss,hcs,_,hl,hm,hz,hx,hcell,hws⟩
 all_goals
  simp[Value.cells]at hcs;obtain⟨rfl,rfl,rfl⟩ :=hcs
 ·exact⟨none,0,[],rfl,⟨.inl rfl⟩,by simp,fun x h=>by cases h⟩
 ·have hzl:len≤ss.length:=by rw[hz];split<;>omega
  have Hv:(ss.take len).length=len:=by rw[List.length_take];omega
  refine⟨some x,cap,ss.take len,by rw[Hv],⟨?_⟩,?_⟩
  ·by_cases h0:len=0
   ·subst h0;exact .inl (by simp)
   ·right
    obtain⟨b,off,spot⟩ :=x;have Vw:=hcell 0 (by omega);have ACS:spot=none:=by
     have:=World.cell?_spot Vw
     simpa[Addr.add]using this
    subst ACS;have e:∀j,(⟨b,off,none⟩ :Addr).add j=⟨b,off+j,none⟩ :=fun j=>by unfold Addr.add;split<;>simp_all
    refine⟨b,off,rfl,?_,fun i hi=> ?_⟩
    ·have:=World.block_lt_of_cell? W _ Vw
     rw[e]at this;exact this
    ·have JC:i<ss.length:=by omega
     have h1:=hcell i JC;rw[e]at h1;rw[h1,List.getElem_take,List.getD_eq_getElem?_getD,List.getElem?_eq_getElem JC]
     rfl
  ·rw[Hv];unfold maxLen at hm;exact⟨by omega,fun x hx=>hws x (List.mem_of_mem_take hx)⟩
theorem T9(H:Type)(enc:TypeId×Value→H)(W:World)(base:Nat)(args:Array Value)(ds gs:List (DataW H))(before:List MemPlace)
  (hval:∀(j:Nat) t v,Tryz.f3.params[j]? =some t→args[j]? =some v→Value.okWide prog W .any base t v)
  (hW:DataW.Whole enc prog Tryz.f3.params.toList Rows.runsSpec.vars false W args.toList ds gs before) (hL:laidMetH prog vz W):
  Calls prog 3 args W fun e W'=>∃v,e= .returned v∧Rows.runsSpec.post enc prog Tryz.f3 false true false false W args v W':=by
 have hW':=hW;obtain⟨p,q,hA0,hV,rfl,hfz,hnd⟩ :=hW;have hA:DataW.TrodAll enc prog W 0 (fun _=>true) true Tryz.f3.params.toList args.toList ds p:=hA0;rw[Tryz.params3]at hA hval;obtain⟨v0,vs0,d0,ds0,p0,q0,AEz,rfl,rfl,h0,r0⟩ :=trodAll_cons hA;obtain⟨v1,vs1,d1,ds1,p1,q1,rfl,rfl,rfl,h1,r1⟩ :=trodAll_cons r0;obtain⟨v2,vs2,d2,ds2,p2,q2,rfl,rfl,rfl,h2,r2⟩ :=trodAll_cons r1;obtain⟨v3,vs3,d3,ds3,p3,q3,rfl,rfl,rfl,h3,r3⟩ :=trodAll_cons r2;obtain⟨v4,vs4,d4,ds4,p4,q4,rfl,rfl,rfl,h4,r4⟩ :=trodAll_cons r3;obtain⟨rfl,rfl,rfl⟩ :=trodAll_nil r4;obtain rfl:args= #[v0,v1,v2,v3,v4]:=by cases args;simp_all
 obtain⟨rfl,rfl⟩ :=trodVars_none hV;have k4:=h4;have lt4:∀x∈p4,x.block<W.heap.size:=by obtain⟨m,hm⟩ :=k4;exact DataW.trod_lt m _ _ _ hm
 obtain⟨a0,rfl,rfl,rfl,w0⟩ :=open_string underlying9 (hval 0 9 v0 rfl rfl) h0;obtain⟨a1,rfl,rfl,rfl⟩ :=Go.RowKit.open_bool underlying4 (hval 1 4 v1 rfl rfl) h1;obtain⟨a2,rfl,rfl,rfl,w2⟩ :=open_int underlying3 (hval 2 3 v2 rfl rfl) h2;obtain⟨a3,rfl,rfl,rfl,w3⟩ :=open_int underlying3 (hval 3 3 v3 rfl rfl) h3;obtain⟨ad4,AEv,L4,rfl,at4,IU⟩ :=cH (hval 4 22 v4 rfl rfl) h4;have hT:OH W.heap.size W:=(ZB hL).toB;clear hA0;refine(iT W.heap.size a0 a1 a2 a3 ad4 AEv L4 W w0 hT (J7 w2).1 (J7 w2).2 (J7 w3).1 (J7 w3).2 at4 IU.1 IU.2).mono fun e W' ⟨he,bel⟩ => ?_
 subst he;exact⟨_,rfl,_,_,_,[],_,[],hW',trodAll_mk1 (shut_bool underlying4 _),(trodAll_cons_mk (shut_string underlying9 w0) (trodAll_cons_mk (shut_bool underlying4 _) (trodAll_cons_mk (shut_int underlying3 w2) (trodAll_cons_mk (shut_int underlying3 w3) (trodAll_cons_mk (Below.trod laidOut (by kernel_rfl) (of_decide_eq_true (by kernel_rfl)) k4 bel lt4) trodAll_mk0))))),rfl,bel.frame _,fun h=>by cases h⟩
theorem pD(os:Os):laidMet prog Rows.runsRow.laid ((Pg os).forCall (fun _ _=>0) ⟨#[],#[.string ByteArray.empty,.bool false,.int .i64 0,.int .i64 0,.slice none 0 0],[]⟩).memory:=
 laidMet_of_run' 8 (by kernel_rfl) (by kernel_rfl)
theorem cI(os:Os){H:Type}(enc:TypeId×Value→H):∃places,DataW.whole enc prog ((Pg os).forCall (fun _ _=>0) ⟨#[],#[.string ByteArray.empty,.bool false,.int .i64 0,.int .i64 0,.slice none 0 0],[]⟩).memory Tryz.f3.params.toList Rows.runsSpec.vars false (#[.string ByteArray.empty,.bool false,.int .i64 0,.int .i64 0,.slice none 0 0]:Array Value).toList 8=some ([.lit (.string []),.lit (.bool false),.lit (.int .i64 0),.lit (.int .i64 0),.nil],[],places):=
 ⟨[],by kernel_rfl⟩
theorem ZC(os:Os)(started:os.Started)(H:Type)(enc:TypeId×Value→H)(F:Stop.Interp):
  ReturnsInHanded {} Tryz.checked os 3 .any ((OpenSpec.ofChange Rows.runsSpec).preRow enc prog Tryz.f3 Rows.runsRow.domain false Rows.runsRow.laid) (((OpenSpec.ofChange Rows.runsSpec).at F).post enc prog Tryz.f3 false true false false):=by
 obtain⟨places,hx⟩ :=cI os enc;refine returnsInHanded_of_row (C:=Tryz.checked) (s:=OpenSpec.ofChange Rows.runsSpec) AAM started (by kernel_rfl) func3
  (witness_row_at (enc:=enc) (C:=Tryz.checked) false (Pg os) #[.string ByteArray.empty,.bool false,.int .i64 0,.int .i64 0,.slice none 0 0] rfl (by kernel_rfl) (by kernel_rfl) (by kernel_rfl)
   (OpenSpec.preRow_of_cond 8 hx (by kernel_rfl) (fun k hk=>by cases hk) (by kernel_rfl) (pD os))) ?_
 intro W base args ds gs before hval hW _ mI _ hL _ _;exact T9 H enc W base args ds gs before hval hW hL
theorem iU:Rows.RunsSaid:=
 OpenClaim.holds_of_cond 3 Tryz.f3 rfl rfl rfl rfl rfl rfl rfl ⟨rfl,rfl,rfl,rfl,rfl⟩ rfl rfl rfl rfl rfl (by kernel_rfl) func3 (by kernel_rfl)
  (of_decide_eq_true (by kernel_rfl)) (by unfold Func.isWrapper;first| (rw[if_pos (by decide+kernel)];kernel_rfl) | (rw[if_neg (by decide+kernel)];exact⟨rfl,rfl⟩))
  (fun os started H enc _ F=>by rw[OpenClaim.pre_eq_preRow];exact ZC os started H enc F)
theorem cJ(f:FuncId)(fn:Func)(hf:Tryz.pinned.checked.prog.funcNamed "retrace/retracelaw.Runs" =some f)(hfn:Tryz.pinned.checked.prog.funcs[f]? =some fn):
  false=Tryz.pinned.checked.prog.looks []∧∀(j:Nat) t,fn.params[j]? =some t→Tryz.pinned.checked.prog.wantsStandIn t=false:=by
 obtain rfl:f=3:=Option.some.inj ((show prog.funcNamed "retrace/retracelaw.Runs" =some 3 by kernel_rfl).symm.trans hf) |>.symm
 obtain rfl:fn=Tryz.f3:=(Option.some.inj (func3.symm.trans hfn)).symm;refine⟨by kernel_rfl,fun j t ht=> ?_⟩;rw[Tryz.params3]at ht;have hm:=Array.mem_of_getElem? ht;have Co:(Tryz.f3.params.all fun t=> !prog.wantsStandIn t)=true:=by kernel_rfl
 rw[Tryz.params3]at Co;have h9:=Array.all_eq_true_iff_forall_mem.1 Co t hm;have h8:prog.wantsStandIn t=false:=by simpa using h9
 exact h8
theorem runs_card:Rows.RunsCardSaid:=
 Claim7.holds_tied_plain_at .later [] _ _ _ _ iU (fun _ h=>by cases h) (by kernel_rfl) (fun _ h=>by cases h) runs_row_tie rfl ⟨rfl,rfl⟩ (by kernel_rfl) rfl cJ (by kernel_rfl)
end Go.Proofs.YtlppphmnegdhoabGreatDoor
