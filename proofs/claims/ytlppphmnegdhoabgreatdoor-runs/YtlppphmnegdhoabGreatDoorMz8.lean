import Derived.Test.YtlppphmnegdhoabGreatDoorMz7
set_option linter.unusedVariables false
set_option maxRecDepth 100000
set_option maxHeartbeats 8000000
namespace Go.Proofs.YtlppphmnegdhoabGreatDoor
open Go.Proofs.Tryz
open Go.RowKit
open M
def TU(m:Mk):Bool:=m.is 42 || m.is 93 || m.is 94 || m.is 36
theorem XQ(m:Mk)(t:List Mk)(h:m.is 46=true):Bt (m::t)=some (⟨true,false,false,[]⟩,t):=by simp[Bt,h]
theorem RQ(m:Mk)(t:List Mk)(h:m.is 46=false)(h2:m.is 91=true):Bt (m::t)=(Ey t).map (fun r=>(⟨false,r.1,false,r.2.1⟩,r.2.2)):=by simp[Bt,h,h2]
theorem Kn(m:Mk)(t:List Mk)(h:m.is 46=false)(h2:m.is 91=false)(h3:TU m=true):Bt (m::t)=none:=by
 have e:Bt (m::t)=if TU m then none else some (⟨false,false,false,[(m.b,m.b)]⟩,t):=by simp only[Bt,h,h2];rfl
 rw[e,h3];rfl
theorem XR(m:Mk)(t:List Mk)(h:m.is 46=false)(h2:m.is 91=false)(h3:TU m=false):Bt (m::t)=some (⟨false,false,false,[(m.b,m.b)]⟩,t):=by
 have e:Bt (m::t)=if TU m then none else some (⟨false,false,false,[(m.b,m.b)]⟩,t):=by simp only[Bt,h,h2];rfl
 rw[e,h3];rfl
theorem eX(l:List Mk)(k q:Nat)(an nt:Bool)(AM:List (Nat×Nat))(h:Bt (l.drop k)=some (⟨an,nt,false,AM⟩,l.drop q))(hq:q<l.length)(hs:l[q].is 42=true):Ba (l.drop k)=some (⟨an,nt,true,AM⟩,l.drop (q+1)):=by
 have e:=getM hq;unfold Ba;rw[h];simp only[Option.map_some,Q4,e,hs,if_true]
theorem RR(l:List Mk)(k q:Nat)(an nt:Bool)(AM:List (Nat×Nat))(h:Bt (l.drop k)=some (⟨an,nt,false,AM⟩,l.drop q))(hs:∀hq:q<l.length,l[q].is 42=false):Ba (l.drop k)=some (⟨an,nt,false,AM⟩,l.drop q):=by
 unfold Ba;rw[h]
 by_cases hq:q<l.length
 ·have e:=getM hq
  have e2:=hs hq;simp only[Option.map_some,Q4,e,e2]
  rfl
 ·have e:l.drop q= []:=List.drop_of_length_le (by omega)
  simp only[Option.map_some,Q4,e]
theorem I4(l:List Mk)(k:Nat)(h:Bt (l.drop k)=none):Ba (l.drop k)=none:=by unfold Ba;rw[h];rfl
def eY(w:World)(b:Nat)(a n s:Bool)(vf vb:Value):World:=((((w.setCell ⟨b,0,none⟩ (.bool a)).setCell ⟨b,1,none⟩ (.bool n)).setCell ⟨b,2,none⟩ (.bool s)).setCell ⟨b,3,none⟩ vf).setCell ⟨b,4,none⟩ vb
theorem DY.put{b:Nat}{w:World}{a n s:Bool}{vf vb:Value}(h:DY b w a n s vf vb)(a' n' s':Bool)(vf' vb':Value):DY b (eY w b a' n' s' vf' vb') a' n' s' vf' vb':=((((h.RP a').RN n').VG s').eT vf').wj vb'
theorem XS{b k:Nat}(w:World)(a n s:Bool)(vf vb:Value)(h:k≠b):(eY w b a n s vf vb).heap[k]? =w.heap[k]? :=by
 unfold eY;rw[heap_setCell_other _ _ _ _ h,heap_setCell_other _ _ _ _ h,heap_setCell_other _ _ _ _ h,heap_setCell_other _ _ _ _ h,heap_setCell_other _ _ _ _ h]
theorem Me{B b:Nat}{w0 w:World}(h:Below B w0 w)(a n s:Bool)(vf vb:Value)(hb:B≤b):Below B w0 (eY w b a n s vf vb):=
 ((((h.setCell (by exact hb) _).setCell (by exact hb) _).setCell (by exact hb) _).setCell (by exact hb) _).setCell (by exact hb) _
theorem Jj.put{w wr:World}{vf vb:Value}{F K:List Int}{a0 n0 s0:Bool}{v0 v1:Value}{F0 K0:List Int}(h:Jj w wr a0 n0 s0 v0 v1 F0 K0)(t:Twin (w.heap.size+2) wr vf vb F K)(a n s:Bool):Jj w (eY wr (w.heap.size+1) a n s vf vb) a n s vf vb F K:=by
 refine⟨h.res.keep (XS _ _ _ _ _ _ (by omega)),h.box.put a n s vf vb,?_,Me h.below a n s vf vb (by omega),?_⟩
 ·exact((((t.set (by simp) _).set (by simp) _).set (by simp) _).set (by simp) _).set (by simp) _
 ·have:=h.size;unfold eY;simpa using this
theorem Zr(n c:Nat)(ad:Option Addr)(l:List Mk)(k:Nat)(w:World)(Cw:A7 w ad n l)(J9:l.length≤8192)(hk:k<l.length):
  Calls prog 145 #[.slice ad n c,.int .i64 k] w fun e w'=>j8 l k w w' e:=by
 have hn:=Cw.len;subst hn;have EW:(k:Int)<(l.length:Int):=by omega
 obtain⟨b,off,rfl,hb,d0,d1⟩ :=Cw.get hk;obtain⟨m,pH⟩ :∃m,l[k]=m:=⟨_,rfl⟩
 have HD:Hid (l.drop k=m::l.drop (k+1)):=by show _=_;rw[←pH];exact getM hk
 rw[pH]at d0 d1;clear pH
 go_enter func145,ntmps145
 go_upto_block 0 with fail
 have Zs:Jj w (((w.alloc (.cells #[.bool false,.bool false,.bool false,.slice none 0 0,.slice none 0 0] 219)).alloc (.cells #[.bool false,.bool false,.bool false,.slice none 0 0,.slice none 0 0] 219)).alloc (.cells #[.int .i64 (m.b:Int),.bool m.p] 216)) false false false (.slice none 0 0) (.slice none 0 0) [] []:=by
  refine⟨?_,?_,⟨World.ownsRow_nil _ _ _ _,World.ownsRow_nil _ _ _ _,fun g h=>by cases h⟩,((ζ.alloc δ _).alloc (by simp) _).alloc (by simp;omega) _,by simp⟩
  all_goals
   constructor<;>simp[go_sem]
 have j0:(((w.alloc (.cells #[.bool false,.bool false,.bool false,.slice none 0 0,.slice none 0 0] 219)).alloc (.cells #[.bool false,.bool false,.bool false,.slice none 0 0,.slice none 0 0] 219)).alloc (.cells #[.int .i64 (m.b:Int),.bool m.p] 216)).cell? ⟨w.heap.size+1+1,0,none⟩ =some (.int .i64 (m.b:Int)):=by simp[go_sem]
 have j1:(((w.alloc (.cells #[.bool false,.bool false,.bool false,.slice none 0 0,.slice none 0 0] 219)).alloc (.cells #[.bool false,.bool false,.bool false,.slice none 0 0,.slice none 0 0] 219)).alloc (.cells #[.int .i64 (m.b:Int),.bool m.p] 216)).cell? ⟨w.heap.size+1+1,1,none⟩ =some (.bool m.p):=by simp[go_sem]
 have TV:w.heap.size+1+1<(((w.alloc (.cells #[.bool false,.bool false,.bool false,.slice none 0 0,.slice none 0 0] 219)).alloc (.cells #[.bool false,.bool false,.bool false,.slice none 0 0,.slice none 0 0] 219)).alloc (.cells #[.int .i64 (m.b:Int),.bool m.p] 216)).heap.size:=by simp
 generalize(((w.alloc (.cells #[.bool false,.bool false,.bool false,.slice none 0 0,.slice none 0 0] 219)).alloc (.cells #[.bool false,.bool false,.bool false,.slice none 0 0,.slice none 0 0] 219)).alloc (.cells #[.int .i64 (m.b:Int),.bool m.p] 216))=W at Zs j0 j1 TV⊢;clear d0 d1
 go_cut [7] (fun nx wx=>∃(an nt:Bool)(vf vb:Value)(AM:List (Nat×Nat))(q:Nat),nx= .int .i64 q∧k<q∧q≤l.length∧Jj w wx an nt false vf vb (On AM) (Pn AM)∧Hid (Bt (l.drop k)=some (⟨an,nt,false,AM⟩,l.drop q)))
 case first=>
  have i00:=j0;have i10:=j1;clear j0 j1
  go_wp2_with fail
  refine(CV m 46 _).mono ?_;rintro e w1 ⟨rfl,b1⟩;have XT:=Zs.keep b1;have i01:=(b1.cell (by exact TV)).trans i00;have i11:=(b1.cell (by exact TV)).trans i10;have CE:w.heap.size+1+1<w1.heap.size:=by have:=b1.size;omega
  clear Zs i00 i10 TV b1;cases MH:m.is 46
  ·go_wp2_with fail
   refine(CV m 91 _).mono ?_;rintro e w2 ⟨rfl,b2⟩;have QJ:=XT.keep b2;have i02:=(b2.cell (by exact CE)).trans i01;have i12:=(b2.cell (by exact CE)).trans i11;have Fw:w.heap.size+1+1<w2.heap.size:=by have:=b2.size;omega
   clear XT i01 i11 CE b2;cases MG:m.is 91
   ·go_wp2_with fail
    refine(CV m 42 _).mono ?_;rintro e w3 ⟨rfl,b3⟩;have Gv:=QJ.keep b3;have i03:=(b3.cell (by exact Fw)).trans i02;have i13:=(b3.cell (by exact Fw)).trans i12;have H4:w.heap.size+1+1<w3.heap.size:=by have:=b3.size;omega
    clear QJ i02 i12 Fw b3;cases Zj:m.is 42
    ·go_wp2_with fail
     refine(CV m 93 _).mono ?_;rintro e w4 ⟨rfl,b4⟩;have iX:=Gv.keep b4;have i04:=(b4.cell (by exact H4)).trans i03;have i14:=(b4.cell (by exact H4)).trans i13;have Kh:w.heap.size+1+1<w4.heap.size:=by have:=b4.size;omega
     clear Gv i03 i13 H4 b4;cases Oh:m.is 93
     ·go_wp2_with fail
      refine(CV m 94 _).mono ?_;rintro e w5 ⟨rfl,b5⟩;have hi5:=iX.keep b5;have i05:=(b5.cell (by exact Kh)).trans i04;have i15:=(b5.cell (by exact Kh)).trans i14;have Qk:w.heap.size+1+1<w5.heap.size:=by have:=b5.size;omega
      clear iX i04 i14 Kh b5;cases Wy:m.is 94
      ·go_wp2_with fail
       refine(CV m 36 _).mono ?_;rintro e w6 ⟨rfl,b6⟩;have wo:=hi5.keep b6;have i06:=(b6.cell (by exact Qk)).trans i05;have i16:=(b6.cell (by exact Qk)).trans i15;have LY:w.heap.size+1+1<w6.heap.size:=by have:=b6.size;omega
       clear hi5 i05 i15 Qk b6;cases Jk:m.is 36
       ·have HB:Hid (Bt (l.drop k)=some (⟨false,false,false,[(m.b,m.b)]⟩,l.drop (k+1))):=by
         show _=_;rw[HD.out,XR m _ MH MG (by simp[TU,Zj,Oh,Wy,Jk])]
        have ho:=wo.one m.b;obtain⟨x0,x1,x2,x3,x4,p0,p1,p2,p3,p4⟩ :=wo.box;have VH:=wo.size;have AFG:w.heap.size+1<w6.heap.size:=by omega
        have j9:w.heap.size+1<w6.heap.size+1:=by omega
        clear HD MH MG Zj Oh Wy Jk;go_wp2
        go_meet
        exact⟨false,false,_,_,[(m.b,m.b)],k+1,by go_num,by omega,by omega,ho,HB.out⟩
       ·have HF:Hid (Ba (l.drop k)=none):=I4 l k (by rw[HD.out];exact Kn m _ MH MG (by simp[TU,Jk]))
        obtain⟨x0,x1,x2,x3,x4,p0,p1,p2,p3,p4⟩ :=wo.box;obtain⟨r0,r1,r2,r3,r4,o0,o1,o2,o3,o4⟩ :=wo.res;have VH:=wo.size;clear HD;go_wp2;refine bodyPost_ret (v:= .tuple #[.agg #[.bool false,.bool false,.bool false,.slice none 0 0,.slice none 0 0],.int .i64 (-1)]) (by simp[results,Tryz.results145,go_sem,r0,r1,r2,r3,r4]) rfl ⟨false,false,false,.slice none 0 0,.slice none 0 0,wo.fin.2,⟨_,_,_,_,_,_,rfl,rfl⟩,.inl ⟨HF.out,rfl⟩⟩
      ·have HF:Hid (Ba (l.drop k)=none):=I4 l k (by rw[HD.out];exact Kn m _ MH MG (by simp[TU,Wy]))
       obtain⟨x0,x1,x2,x3,x4,p0,p1,p2,p3,p4⟩ :=hi5.box;obtain⟨r0,r1,r2,r3,r4,o0,o1,o2,o3,o4⟩ :=hi5.res;have VH:=hi5.size;clear HD;go_wp2;refine bodyPost_ret (v:= .tuple #[.agg #[.bool false,.bool false,.bool false,.slice none 0 0,.slice none 0 0],.int .i64 (-1)]) (by simp[results,Tryz.results145,go_sem,r0,r1,r2,r3,r4]) rfl ⟨false,false,false,.slice none 0 0,.slice none 0 0,hi5.fin.2,⟨_,_,_,_,_,_,rfl,rfl⟩,.inl ⟨HF.out,rfl⟩⟩
     ·have HF:Hid (Ba (l.drop k)=none):=I4 l k (by rw[HD.out];exact Kn m _ MH MG (by simp[TU,Oh]))
      obtain⟨x0,x1,x2,x3,x4,p0,p1,p2,p3,p4⟩ :=iX.box;obtain⟨r0,r1,r2,r3,r4,o0,o1,o2,o3,o4⟩ :=iX.res;have VH:=iX.size;clear HD;go_wp2;refine bodyPost_ret (v:= .tuple #[.agg #[.bool false,.bool false,.bool false,.slice none 0 0,.slice none 0 0],.int .i64 (-1)]) (by simp[results,Tryz.results145,go_sem,r0,r1,r2,r3,r4]) rfl ⟨false,false,false,.slice none 0 0,.slice none 0 0,iX.fin.2,⟨_,_,_,_,_,_,rfl,rfl⟩,.inl ⟨HF.out,rfl⟩⟩
    ·have HF:Hid (Ba (l.drop k)=none):=I4 l k (by rw[HD.out];exact Kn m _ MH MG (by simp[TU,Zj]))
     obtain⟨x0,x1,x2,x3,x4,p0,p1,p2,p3,p4⟩ :=Gv.box;obtain⟨r0,r1,r2,r3,r4,o0,o1,o2,o3,o4⟩ :=Gv.res;have VH:=Gv.size;clear HD;go_wp2;refine bodyPost_ret (v:= .tuple #[.agg #[.bool false,.bool false,.bool false,.slice none 0 0,.slice none 0 0],.int .i64 (-1)]) (by simp[results,Tryz.results145,go_sem,r0,r1,r2,r3,r4]) rfl ⟨false,false,false,.slice none 0 0,.slice none 0 0,Gv.fin.2,⟨_,_,_,_,_,_,rfl,rfl⟩,.inl ⟨HF.out,rfl⟩⟩
   ·have jx:=Cw.below QJ.below
    have VH:=QJ.size
    go_wp2_with fail
    refine(TT _ _ _ l (k+1) _ jx J9 (by omega)).mono ?_;rintro e w3 ⟨nt,vf,vb,b3,⟨a1,n1,c1,a2,n2,c2,rfl,rfl⟩,⟨CQ,rfl⟩ | ⟨AM,q,BW,VI,Lq,rfl,tw⟩⟩
    ·have HF:Hid (Ba (l.drop k)=none):=I4 l k (by rw[HD.out,RQ m _ MH MG,CQ];rfl)
     have Gv:=QJ.keep b3;have Eo:=Gv.box.put false nt false (.slice a1 n1 c1) (.slice a2 n2 c2);have hrs:=Gv.res.keep (XS (b:=w.heap.size+1) w3 false nt false (.slice a1 n1 c1) (.slice a2 n2 c2) (by omega));have Bq:=Me (Me Gv.below false nt false (.slice a1 n1 c1) (.slice a2 n2 c2) (show w.heap.size≤w.heap.size+1 by omega)) false nt false (.slice a1 n1 c1) (.slice a2 n2 c2) (Nat.le_refl w.heap.size);obtain⟨x0,x1,x2,x3,x4,p0,p1,p2,p3,p4⟩ :=Gv.box;obtain⟨r0,r1,r2,r3,r4,o0,o1,o2,o3,o4⟩ :=Gv.res;have qK:=Gv.size;clear HD MH MG CQ;go_wp2;refine bodyPost_ret (v:= .tuple #[.agg #[.bool false,.bool nt,.bool false,.slice a1 n1 c1,.slice a2 n2 c2],.int .i64 (-1)]) (by simp[results,Tryz.results145,go_sem,r0,r1,r2,r3,r4]) rfl ⟨false,nt,false,.slice a1 n1 c1,.slice a2 n2 c2,Bq,⟨_,_,_,_,_,_,rfl,rfl⟩,.inl ⟨HF.out,rfl⟩⟩
    ·have HB:Hid (Bt (l.drop k)=some (⟨false,nt,false,AM⟩,l.drop q)):=by
      show _=_;rw[HD.out,RQ m _ MH MG,BW];rfl
     have Gv:=QJ.keep b3;have ACf:=Gv.put ⟨AH tw.f (by omega),AH tw.k (by omega),tw.ap⟩ false nt false;obtain⟨x0,x1,x2,x3,x4,p0,p1,p2,p3,p4⟩ :=Gv.box;have qK:=Gv.size;have NP:¬(q:Int)<0:=by omega
     clear HD MH MG BW;go_wp2
     go_meet
     exact⟨false,nt,_,_,AM,q,rfl,by omega,Lq,ACf,HB.out⟩
  ·have HB:Hid (Bt (l.drop k)=some (⟨true,false,false,[]⟩,l.drop (k+1))):=by show _=_;rw[HD.out,XQ m _ MH]
   have QJ:=XT.RP true;obtain⟨x0,x1,x2,x3,x4,p0,p1,p2,p3,p4⟩ :=XT.box;have VJ:=XT.size;clear HD MH;go_wp2
   go_meet
   exact⟨true,false,_,_,[],k+1,by go_num,by omega,by omega,QJ,HB.out⟩
 case rest=>
  clear Zs j0 j1 TV;obtain⟨an,nt,vf,vb,AM,q,rfl,hkq,hql,QJ,HB⟩ :=hcut;obtain⟨af,cf,jw⟩ :=κ QJ.twin.f;obtain⟨ab,cb,S6⟩ :=κ QJ.twin.k;generalize Nd:(On AM).length=nf at jw;generalize H7:(Pn AM).length=nb at S6;clear Nd H7;subst jw S6;have ACg:=Cw.below QJ.below;have AFH:=QJ.size
  by_cases hqS:q<l.length
  ·have ACh:(q:Int)<(l.length:Int):=by omega
   obtain⟨b',jy,XN,eC,s0,s1⟩ :=ACg.get hqS;simp only[Option.some.injEq,Addr.mk.injEq,and_true]at XN;obtain⟨rfl,rfl⟩ :=XN;have CR:Hid (l[q].is 42=true→Ba (l.drop k)=some (⟨an,nt,true,AM⟩,l.drop (q+1))):=fun hs=>eX l k _ _ _ _ HB.out hqS hs
   have QK:Hid (l[q].is 42=false→Ba (l.drop k)=some (⟨an,nt,false,AM⟩,l.drop q)):=fun hs=>RR l k _ _ _ _ HB.out (fun _=>hs)
   generalize l[q]=ms at*
   go_wp2_with fail
   refine(CV ms 42 _).mono ?_;rintro e wS ⟨rfl,bS⟩;have pI:=QJ.keep bS;have hzS:=bS.size;cases FV:ms.is 42
   ·have Ls:Hid (Ba (l.drop k)=some (⟨an,nt,false,AM⟩,l.drop q)):=QK.out FV
    clear CR QK FV s0 s1 HB;obtain⟨x0,x1,x2,x3,x4,p0,p1,p2,p3,p4⟩ :=pI.box;obtain⟨r0,r1,r2,r3,r4,o0,o1,o2,o3,o4⟩ :=pI.res;go_wp2;refine bodyPost_ret (v:= .tuple #[.agg #[.bool an,.bool nt,.bool false,.slice af nf cf,.slice ab nb cb],.int .i64 (q:Int)]) (by simp[results,Tryz.results145,go_sem,r0,r1,r2,r3,r4]) rfl ⟨an,nt,false,.slice af nf cf,.slice ab nb cb,pI.fin.2,⟨_,_,_,_,_,_,rfl,rfl⟩,.inr ⟨AM,q,Ls.out,by omega,by omega,rfl,pI.fin.1⟩⟩
   ·have Ls:Hid (Ba (l.drop k)=some (⟨an,nt,true,AM⟩,l.drop (q+1))):=CR.out FV
    clear CR QK FV s0 s1 HB;have hiT:=pI.VG true;obtain⟨x0,x1,x2,x3,x4,p0,p1,p2,p3,p4⟩ :=pI.box;obtain⟨r0,r1,r2,r3,r4,o0,o1,o2,o3,o4⟩ :=pI.res;go_wp2;refine bodyPost_ret (v:= .tuple #[.agg #[.bool an,.bool nt,.bool true,.slice af nf cf,.slice ab nb cb],.int .i64 ((q:Int)+1)]) (by simp[results,Tryz.results145,go_sem,r0,r1,r2,r3,r4]) rfl ⟨an,nt,true,.slice af nf cf,.slice ab nb cb,hiT.fin.2,⟨_,_,_,_,_,_,rfl,rfl⟩,.inr ⟨AM,q+1,Ls.out,by omega,by omega,rfl,hiT.fin.1⟩⟩
  ·have ACh:¬(q:Int)<(l.length:Int):=by omega
   have Ls:Hid (Ba (l.drop k)=some (⟨an,nt,false,AM⟩,l.drop q)):=RR l k _ _ _ _ HB.out (fun h=>absurd h hqS);clear HB;obtain⟨x0,x1,x2,x3,x4,p0,p1,p2,p3,p4⟩ :=QJ.box;obtain⟨r0,r1,r2,r3,r4,o0,o1,o2,o3,o4⟩ :=QJ.res;go_wp2;refine bodyPost_ret (v:= .tuple #[.agg #[.bool an,.bool nt,.bool false,.slice af nf cf,.slice ab nb cb],.int .i64 (q:Int)]) (by simp[results,Tryz.results145,go_sem,r0,r1,r2,r3,r4]) rfl ⟨an,nt,false,.slice af nf cf,.slice ab nb cb,QJ.fin.2,⟨_,_,_,_,_,_,rfl,rfl⟩,.inr ⟨AM,q,Ls.out,by omega,by omega,rfl,QJ.fin.1⟩⟩
theorem kA:(prog.info? 219).map (fun i=>(i.zero,i.size,i.bytes))=some (some (.agg #[.bool false,.bool false,.bool false,.slice none 0 0,.slice none 0 0]),5,56):=by kernel_rfl
theorem kB:prog.underlying 167=some (.slice 219):=by kernel_rfl
theorem Pp{w:World}{B1 B2:Nat}{e1 e2:TypeId}{s1 s2:Nat}{v1 v2:Value}{n1 n2:Nat}{x1 x2:List Value}(h1:w.ownsRow B1 e1 s1 v1 n1 x1)(h2:w.ownsRow B2 e2 s2 v2 n2 x2)(hne:e1≠e2):v1.ownBlock=none∨v1.ownBlock≠v2.ownBlock:=by
 rcases h1.2 with⟨rfl,_⟩ | ⟨g,cap,cur,rfl,hb,hg,_⟩
 ·exact .inl rfl
 ·right
  rcases h2.2 with⟨rfl,_⟩ | ⟨g',eW,AAU,rfl,eC,XU,_⟩
  ·simp[Value.ownBlock]
  ·intro e
   simp[Value.ownBlock]at e;subst e;rw[hg]at XU;simp at XU;exact hne XU.2
structure IV where
 it:It
 f:Value
 b:Value
def Zt(x:IV):List Value:= [.bool x.it.any,.bool x.it.not,.bool x.it.star,x.f,x.b]
def Ko(l:List IV):List Value:=(l.map Zt).flatten
theorem eZ(l:List IV)(x:IV):Ko (l++ [x])=Ko l++Zt x:=by simp[Ko]
def Lt(B:Nat)(w:World)(x:IV):Prop:=Twin B w x.f x.b (On x.it.AM) (Pn x.it.AM)
theorem qL{B:Nat}{w:World}{x:IV}(h:Lt B w x):∀u∈Zt x,u.oneCell'=true:=by
 obtain⟨a,c,h1⟩ :=κ h.f;obtain⟨a',c',h2⟩ :=κ h.k;intro u hu;simp[Zt]at hu;rcases hu with rfl|rfl|rfl|rfl|rfl
 ·rfl
 ·rfl
 ·rfl
 ·rw[h1];rfl
 ·rw[h2];rfl
theorem wu(w:World)(x:IV)(t:TypeId):∀j u,(Zt x)[j]? =some u→(w.alloc (.cells #[.bool x.it.any,.bool x.it.not,.bool x.it.star,x.f,x.b] t)).cell? ((⟨w.heap.size,0,none⟩ :Addr).add j)=some u:=by
 intro j u h
 match j,h with
 |0,h=>simp[Zt]at h;subst h;simp[Addr.add]
 |1,h=>simp[Zt]at h;subst h;simp[Addr.add]
 |2,h=>simp[Zt]at h;subst h;simp[Addr.add]
 |3,h=>simp[Zt]at h;subst h;simp[Addr.add]
 |4,h=>simp[Zt]at h;subst h;simp[Addr.add]
 |n+5,h=>simp[Zt]at h
theorem A7.take{w:World}{a:Option Addr}{n:Nat}{l:List Mk}(h:A7 w a n l)(e:Nat)(he:e≤l.length):A7 w a e (l.take e):=by
 refine⟨by rw[List.length_take];omega,?_⟩;rcases h.cells with h0| ⟨b,off,ha,Ac,hc⟩
 ·left;rw[h0];simp
 ·right
  refine⟨b,off,ha,Ac,fun i hi=> ?_⟩;have QJ:i<l.length:=by rw[List.length_take]at hi;omega
  rw[List.getElem_take];exact hc i QJ
theorem ef(m:List Mk)(x:It)(r:List Mk)(h:Bt m=some (x,r)):r.length<m.length:=by
 match m with
 | []=>simp[Bt]at h
 |c::t=>
  cases MH:c.is 46
  ·cases MG:c.is 91
   ·cases hb:TU c
    ·rw[XR c t MH MG hb]at h
     simp at h;rw[←h.2];simp
    ·rw[Kn c t MH MG hb]at h;cases h
   ·rw[RQ c t MH MG,Oo]at h
    cases hc:Po t
    ·rw[hc]at h
     simp only[Bool.false_eq_true,if_false]at h;cases hm:υ t []with
     |none=>rw[hm]at h;cases h
     |some p=>
      obtain⟨q,hq,hr⟩ :=Nb t _ _ _ hm;rw[hm]at h;simp at h;rw[←h.2,hr,List.length_drop];simp;omega
    ·rw[hc]at h
     simp only[if_true]at h;cases hm:υ (t.drop 1) []with
     |none=>rw[hm]at h;cases h
     |some p=>
      obtain⟨q,hq,hr⟩ :=Nb (t.drop 1) _ _ _ hm;rw[hm]at h;simp at h;rw[←h.2,hr,List.length_drop,List.length_drop];simp;omega
  ·rw[XQ c t MH]at h
   simp at h;rw[←h.2];simp
theorem UL(m:List Mk)(x:It)(r:List Mk)(h:Ba m=some (x,r)):r.length<m.length:=by
 unfold Ba at h;cases hb:Bt m with
 |none=>rw[hb]at h;cases h
 |some p=>
  have h1:=ef m p.1 p.2 hb;rw[hb]at h;simp only[Option.map_some,Option.some.injEq]at h;unfold Q4 at h
  match hp:p.2 with
  | []=>rw[hp]at h;simp only at h;rw[h]at h1;exact h1
  |d::u=>
   rw[hp]at h h1;simp only at h;split at h
   ·simp at h
    rw[←h.2];simp at h1;omega
   ·rw[h]at hp
    simp only at hp;rw[hp];exact h1
theorem Zu:∀(n k:Nat)(m:List Mk),m.length≤n→m.length≤k→EP n m=EP k m:=by
 intro n
 induction n with
 |zero=>intro k m h _;cases m with
  |nil=>simp[EP]
  |cons a t=>simp at h
 |succ n ih=>
  intro k m h hk;cases m with
  |nil=>simp[EP]
  |cons a t=>
   simp only[List.length_cons]at h hk;obtain⟨k,rfl⟩ :∃k',k=k'+1:=⟨k - 1,by omega⟩
   simp only[EP];cases hi:Ba (a::t)with
   |none=>rfl
   |some p=>
    have hl:=UL (a::t) p.1 p.2 hi;simp only[List.length_cons]at hl;simp only;rw[ih k p.2 (by omega) (by omega)]
def C1(m:List Mk):Option (List It):=EP m.length m
theorem Mf:C1 []=some []:=by simp[C1,EP]
theorem Kq(m:List Mk)(hm:m≠ [])(h:Ba m=none):C1 m=none:=by
 match m with
 | []=>exact absurd rfl hm
 |a::t=>simp[C1,EP,h]
theorem Pq(m:List Mk)(x:It)(r:List Mk)(hm:m≠ [])(h:Ba m=some (x,r)):C1 m=(C1 r).map (x::·):=by
 match m with
 | []=>exact absurd rfl hm
 |a::t=>
  have hl:=UL _ _ _ h;simp only[List.length_cons]at hl;simp only[C1,List.length_cons,EP,h];rw[Zu t.length r.length r (by omega) δ]
theorem wy(L:List It)(x:It)(o:Option (List It)):(o.map (x::·)).map (L++ ·)=o.map ((L++ [x])++ ·):=by
 cases o<;>simp
theorem cX(m:List Mk)(hm:m≠ [])(hd tl:Bool)(at' en:Nat)(h0:0<m.length)(h1:hd=m[0].is 94)(h2:at'=if hd then 1 else 0)(h3:tl=(decide (at'<m.length) && (m[m.length - 1]'(by omega)).is 36))(h4:en=if tl then m.length - 1 else m.length):
  Cv m=(C1 ((m.take en).drop at')).map (fun l=>⟨hd,tl,l⟩):=by
 have e1:(m.head?.map (·.is 94)).getD false=hd:=by
  rw[h1]
  match m,h0 with
  |a::t,_=>rfl
 have e2:(m.getLast?.map (·.is 36)).getD false=(m[m.length - 1]'(by omega)).is 36:=by
  rw[List.getLast?_eq_getElem?,List.getElem?_eq_getElem (by omega)];rfl
 unfold Cv;rw[if_neg hm];simp only[e1,e2];rw[←h2,←h3];unfold C1;have e3:(if tl=true then m.take (m.length - 1)else m)=m.take en:=by
  rw[h4];cases tl
  ·simp
  ·simp
 rw[e3]
end Go.Proofs.YtlppphmnegdhoabGreatDoor
namespace Go.Proofs.YtlppphmnegdhoabGreatDoor
open M
theorem Oq(a b:List Mk)(c:Nat)(h:a≠ []):Dh (a++b) c=Dh a c:=by
 match a,h with
 |x::t,_=>rfl
theorem XV(k:Mk)(a b:Nat)(h:k.is a=true)(hab:a≠b):k.is b=false:=by
 obtain⟨x,p⟩ :=k;cases p
 ·rfl
 ·simp[Mk.is]at h⊢;omega
theorem kC(m:List Mk)(lo hi:Nat)(m1:List Mk)(h:Di m=some (lo,hi,m1)):(∃q,m=q::m1∧(q.is 93 || q.is 45)=false∧Dh m1 45=false∧lo=q.b∧hi=q.b)∨(∃q d f,m=q::d::f::m1∧∀m',Di (q::d::f::m')=some (lo,hi,m')):=by
 match m with
 | []=>simp[Di]at h
 |q::m'=>
  cases hq:(q.is 93 || q.is 45)
  ·cases hd:Dh m' 45
   ·rw[Q8 q m' hq hd]at h
    simp at h;obtain⟨rfl,rfl,rfl⟩ :=h;exact .inl ⟨q,rfl,hq,hd,rfl,rfl⟩
   ·match m',hd with
    |d::m'',hd=>
     have uV:d.is 45=true:=hd;rw[Ke q d m'' hq uV]at h
     match m'' with
     | []=>cases h
     |f::v=>
      have h':(if(f.is 93 || f.is 45 || decide (f.b<q.b))=true then none else some (q.b,f.b,v))=some (lo,hi,m1):=h;split at h'
      ·cases h'
      ·rename_i hf
       simp at h';obtain⟨rfl,rfl,rfl⟩ :=h';refine .inr ⟨q,d,f,rfl,fun m'=> ?_⟩;rw[Ke q d _ hq uV];show(if(f.is 93 || f.is 45 || decide (f.b<q.b))=true then none else some (q.b,f.b,m'))=_;rw[if_neg hf]
  ·rw[Oe q m' hq]at h;cases h
theorem MI:∀(n:Nat)(m:List Mk)(acc a:List (Nat×Nat))(r:List Mk),m.length≤n→υ m acc=some (a,r)→∃sp,m=sp++r∧sp≠ []∧(∃k,sp.getLast? =some k∧k.is 93=true)∧∀r2,υ (sp++r2) acc=some (a,r2):=by
 intro n
 induction n with
 |zero=>
  intro m acc a r hl h
  match m with
  | []=>simp[υ]at h
  |q::t=>simp at hl
 |succ n ih=>
  intro m acc a r hl h;cases Kf:Di m with
  |none=>
   obtain⟨s1,s2⟩ :=Jc m acc Kf
   by_cases hc:Dh m 93=false∨acc= []
   ·rw[s2 hc]at h;cases h
   ·have Oh:Dh m 93=true:=by
     cases e:Dh m 93
     ·exact absurd (.inl e) hc
     ·rfl
    have hne:acc≠ []:=fun e=>hc (.inr e)
    match m,Oh,Kf,h,s1 with
    |k::m',Oh,Kf,h,s1=>
     rw[s1 Oh hne k m' rfl]at h;simp at h;obtain⟨rfl,rfl⟩ :=h;have hk:k.is 93=true:=Oh;refine⟨[k],rfl,by simp,⟨k,rfl,hk⟩,fun r2=> ?_⟩;exact(Jc (k::r2) acc (Oe k r2 (by rw[hk];rfl))).1 hk hne k r2 rfl
  |some p=>
   obtain⟨lo,hi,m1⟩ :=p;have AEw:=eA m lo hi m1 Kf;rw[E6,Kf]at h;obtain⟨sp,e1,e2,e3,e4⟩ :=ih m1 _ a r (by omega) h;rcases kC m lo hi m1 Kf with⟨q,rfl,hq,hd,rfl,rfl⟩ | ⟨q,d,f,rfl,hf⟩
   ·refine⟨q::sp,by rw[e1];rfl,by simp,?_,fun r2=> ?_⟩
    ·obtain⟨k,h1,h2⟩ :=e3
     refine⟨k,?_,h2⟩;rw[List.getLast?_cons,h1];rfl
    ·show υ (q::(sp++r2)) acc=_
     have hd2:Dh (sp++r2) 45=false:=by
      rw[Oq sp r2 45 e2];rw[e1,Oq sp r 45 e2]at hd;exact hd
     rw[E6,Q8 q _ hq hd2];exact e4 r2
   ·refine⟨q::d::f::sp,by rw[e1];rfl,by simp,?_,fun r2=> ?_⟩
    ·obtain⟨k,h1,h2⟩ :=e3
     refine⟨k,?_,h2⟩;rw[List.getLast?_cons,List.getLast?_cons,List.getLast?_cons,h1];rfl
    ·show υ (q::d::f::(sp++r2)) acc=_
     rw[E6,hf];exact e4 r2
theorem Zv(m:List Mk)(x:It)(r:List Mk)(h:Bt m=some (x,r)):∃sp,m=sp++r∧sp≠ []∧(∃k,sp.getLast? =some k∧k.is 36=false)∧∀r2,Bt (sp++r2)=some (x,r2):=by
 match m with
 | []=>simp[Bt]at h
 |c::t=>
  cases MH:c.is 46
  ·cases MG:c.is 91
   ·rw[VC (c::t) MG MH]at h
    have h':(if(c.is 42 || c.is 93 || c.is 94 || c.is 36)=true then none else some ((⟨false,false,false,[(c.b,c.b)]⟩ :It),t))=some (x,r):=h;split at h'
    ·cases h'
    ·rename_i hc
     simp only[Option.some.injEq,Prod.mk.injEq]at h';obtain⟨rfl,rfl⟩ :=h';refine⟨[c],rfl,by simp,⟨c,rfl,?_⟩,fun r2=> ?_⟩
     ·cases e:c.is 36
      ·rfl
      ·rw[e]at hc;simp at hc
     ·show Bt (c::r2)=_
      rw[VC (c::r2) MG MH];show(if(c.is 42 || c.is 93 || c.is 94 || c.is 36)=true then none else some ((⟨false,false,false,[(c.b,c.b)]⟩ :It),r2))=_;rw[if_neg hc]
   ·rw[Qi c t MG]at h
    cases Jd:Ey t with
    |none=>rw[Jd]at h;cases h
    |some p=>
     obtain⟨no,acc,r0⟩ :=p;rw[Jd]at h;simp only[Option.map_some,Option.some.injEq,Prod.mk.injEq]at h;obtain⟨rfl,rfl⟩ :=h;rw[VA t (Dh t 94) rfl]at Jd;cases Wy:Dh t 94
     all_goals
      rw[Wy]at Jd
     ·cases hm:υ t []with
      |none=>
       have:(υ t []).map (fun r=>(false,r.1,r.2))=some (no,acc,r0):=Jd;rw[hm]at this;cases this
      |some p=>
       have h1:(υ t []).map (fun r=>(false,r.1,r.2))=some (no,acc,r0):=Jd;rw[hm]at h1;simp only[Option.map_some,Option.some.injEq,Prod.mk.injEq]at h1;obtain⟨rfl,h2,h3⟩ :=h1;obtain⟨sp,e1,e2,⟨k,e3,e3'⟩,e4⟩ :=MI t.length t [] p.1 p.2 δ hm;rw[h2]at e4;rw[h3]at e1;refine⟨c::sp,by rw[e1];rfl,by simp,⟨k,by rw[List.getLast?_cons,e3];rfl,XV k 93 36 e3' (by decide)⟩,fun r2=> ?_⟩;show Bt (c::(sp++r2))=_;have hh:Dh (sp++r2) 94=false:=by
        rw[Oq sp r2 94 e2];rw[e1,Oq sp r0 94 e2]at Wy;exact Wy
       rw[Qi c _ MG,VA (sp++r2) false hh.symm];show(Option.map _ (Option.map _ (υ (sp++r2) [])))=_;rw[e4 r2];rfl
     ·match t,Wy,Jd with
      |d::u,Wy,Jd=>
       have h1:(υ u []).map (fun r=>(true,r.1,r.2))=some (no,acc,r0):=Jd;cases hm:υ u []with
       |none=>rw[hm]at h1;cases h1
       |some p=>
        rw[hm]at h1;simp only[Option.map_some,Option.some.injEq,Prod.mk.injEq]at h1;obtain⟨rfl,h2,h3⟩ :=h1;obtain⟨sp,e1,e2,⟨k,e3,e3'⟩,e4⟩ :=MI u.length u [] p.1 p.2 δ hm;rw[h2]at e4;rw[h3]at e1;refine⟨c::d::sp,by rw[e1];rfl,by simp,⟨k,by rw[List.getLast?_cons,List.getLast?_cons,e3];rfl,XV k 93 36 e3' (by decide)⟩,fun r2=> ?_⟩;show Bt (c::d::(sp++r2))=_;rw[Qi c _ MG,VA (d::(sp++r2)) true (show true=d.is 94 from Eq.symm Wy)];show(Option.map _ (Option.map _ (υ (sp++r2) [])))=_;rw[e4 r2];rfl
  ·rw[VD c t MH]at h
   simp only[Option.some.injEq,Prod.mk.injEq]at h;obtain⟨rfl,rfl⟩ :=h;exact⟨[c],rfl,by simp,⟨c,rfl,XV c 46 36 MH (by decide)⟩,fun r2=>VD c r2 MH⟩
theorem Mg(m:List Mk)(x:It)(r:List Mk)(h:Ba m=some (x,r)):∃sp,m=sp++r∧sp≠ []∧(∃k,sp.getLast? =some k∧k.is 36=false)∧∀r2,(Dh r2 42=false∨Dh r2 42=Dh r 42)→Ba (sp++r2)=some (x,r2):=by
 cases hb:Bt m with
 |none=>unfold Ba at h;rw[hb]at h;cases h
 |some p=>
  obtain⟨x0,r0⟩ :=p;obtain⟨sp,e1,e2,e3,e4⟩ :=Zv m x0 r0 hb;rw[NT m r0 x0 hb]at h;cases Zj:Dh r0 42
  ·rw[Zj]at h
   simp only[Bool.false_eq_true,if_false,Option.some.injEq,Prod.mk.injEq]at h;obtain⟨rfl,rfl⟩ :=h;refine⟨sp,e1,e2,e3,fun r2 hr=> ?_⟩;have:Dh r2 42=false:=by
    rcases hr with hr|hr
    ·exact hr
    ·rw[hr];exact Zj
   rw[NT _ r2 x0 (e4 r2),this];rfl
  ·rw[Zj]at h
   simp only[if_true,Option.some.injEq,Prod.mk.injEq]at h;obtain⟨rfl,rfl⟩ :=h
   match r0,Zj with
   |d::u,Zj=>
    have eJ:d.is 42=true:=Zj;refine⟨sp++ [d],by rw[e1];simp,by simp,⟨d,by simp,XV d 42 36 eJ (by decide)⟩,fun r2 hr=> ?_⟩;rw[List.append_assoc];rw[NT _ _ x0 (e4 ([d]++r2))];show some (if d.is 42 then _ else _)=_;rw[eJ];rfl
def MJ:List Mk→List It→List Mk→Prop
 |m,[],m'=>m=m'
 |m,x::L,m'=>∃m1,Ba m=some (x,m1)∧MJ m1 L m'
theorem eh:∀(L:List It)(m m1 m2:List Mk)(x:It),MJ m L m1→Ba m1=some (x,m2)→MJ m (L++ [x]) m2:=by
 intro L
 induction L with
 |nil=>intro m m1 m2 x h g;exact⟨m2,by rw[show m=m1 from h];exact g,rfl⟩
 |cons y L ih=>
  intro m m1 m2 x h g;obtain⟨m3,h1,h2⟩ :=h;exact⟨m3,h1,ih m3 m1 m2 x h2 g⟩
theorem qM(m:List Mk)(p:It×List Mk)(h:Ba m=some p):m≠ []:=by
 rintro rfl;simp[Ba,Bt]at h
theorem Mh:∀(L:List It)(m m':List Mk),MJ m L m'→C1 m=(C1 m').map (L++ ·):=by
 intro L
 induction L with
 |nil=>intro m m' h;rw[show m=m' from h];cases C1 m'<;>rfl
 |cons y L ih=>
  intro m m' h;obtain⟨m3,h1,h2⟩ :=h;rw[Pq m y m3 (qM _ _ h1) h1,ih m3 m' h2];cases C1 m'<;>rfl
theorem XW:∀(L:List It)(m m':List Mk)(d:Mk),d.is 36=true→MJ m L (m'++ [d])→∃m1,m=m1++ [d]∧MJ m1 L m':=by
 intro L
 induction L with
 |nil=>intro m m' d hd h;exact⟨m',h,rfl⟩
 |cons y L ih=>
  intro m m' d hd h;obtain⟨m3,h1,h2⟩ :=h;obtain⟨m4,e,h4⟩ :=ih m3 m' d hd h2;obtain⟨sp,e1,e2,e3,e5⟩ :=Mg m y m3 h1;refine⟨sp++m4,by rw[e1,e,List.append_assoc],m4,e5 m4 ?_,h4⟩
  by_cases h0:m4= []
  ·subst h0;exact .inl rfl
  ·exact .inr (by rw[e,Oq m4 [d] 42 h0])
theorem UM:∀(L:List It)(m m':List Mk),MJ m L m'→∃p,m=p++m'∧(p= []∨∃k,p.getLast? =some k∧k.is 36=false):=by
 intro L
 induction L with
 |nil=>intro m m' h;exact⟨[],h,.inl rfl⟩
 |cons y L ih=>
  intro m m' h;obtain⟨m3,h1,h2⟩ :=h;obtain⟨p,e,h4⟩ :=ih m3 m' h2;obtain⟨sp,e1,e2,⟨k,e3,e3'⟩,e5⟩ :=Mg m y m3 h1;refine⟨sp++p,by rw[e1,e,List.append_assoc],.inr ?_⟩;rcases h4 with rfl| ⟨k2,h4,h5⟩
  ·exact⟨k,by rw[List.append_nil];exact e3,e3'⟩
  ·exact⟨k2,by rw[List.getLast?_append,h4];rfl,h5⟩
theorem ei(m:List Mk)(x:It)(r:List Mk)(d:Mk)(hd:d.is 36=true)(h:Ba m=some (x,r)):Ba (m++ [d])=some (x,r++ [d]):=by
 obtain⟨sp,e1,e2,e3,e4⟩ :=Mg m x r h
 have:=e4 (r++ [d]) (by
  by_cases h0:r= []
  ·subst h0;exact .inl (XV d 36 42 hd (by decide))
  ·exact .inr (Oq r [d] 42 h0))
 rw[e1,List.append_assoc];exact this
def G7(m:List Mk):Bool:=(m.getLast?.map (·.is 36)).getD false
theorem Zw(m:List Mk)(hm:m≠ [])(hd:Bool)(kD:hd=Dh m 94)(m1:List Mk)(h1:m1=if hd then m.drop 1 else m):Cv m=if G7 m1 then(C1 m1.dropLast).map (fun l=>⟨hd,true,l⟩)else(C1 m1).map (fun l=>⟨hd,false,l⟩):=by
 have hl:0<m.length:=List.length_pos_iff.2 hm;have e0:hd=m[0].is 94:=by
  rw[kD]
  match m,hl with
  |a::t,_=>rfl
 rw[cX m hm hd (decide ((if hd then 1 else 0)<m.length) && (m[m.length - 1]'(by omega)).is 36) (if hd then 1 else 0) _ hl e0 rfl rfl rfl];have uW:m.getLast? =some (m[m.length - 1]'(by omega)):=by rw[List.getLast?_eq_getElem?,List.getElem?_eq_getElem (by omega)]
 cases hd
 ·have e1:m1=m:=h1
  have e2:G7 m1=(m[m.length - 1]'(by omega)).is 36:=by unfold G7;rw[e1,uW];rfl
  rw[e2,e1];simp only[Bool.false_eq_true,if_false,hl,decide_true,Bool.true_and,List.drop_zero];cases Jk:(m[m.length - 1]'(by omega)).is 36
  ·simp
  ·simp[List.dropLast_eq_take]
 ·have e1:m1=m.drop 1:=h1
  simp only[if_true]
  by_cases h0:1<m.length
  ·have e2:G7 m1=(m[m.length - 1]'(by omega)).is 36:=by
    unfold G7;rw[e1,List.getLast?_drop,if_neg (by omega),uW];rfl
   rw[e2,e1];simp only[h0,decide_true,Bool.true_and];cases Jk:(m[m.length - 1]'(by omega)).is 36
   ·simp
   ·simp only[if_true]
    congr 2
    rw[List.dropLast_eq_take,List.length_drop,List.drop_take]
  ·have e2:m1= []:=by rw[e1,List.drop_of_length_le (by omega)]
   have e3:decide (1<m.length)=false:=by simpa using h0
   rw[e2];simp only[e3,Bool.false_and,Bool.false_eq_true,if_false,List.take_length];rw[List.drop_of_length_le (by omega)];rfl
theorem kE(m:List Mk)(hd:Bool)(kD:hd=Dh m 94)(L:List It)(m2:List Mk)(hr:MJ (if hd then m.drop 1 else m) L m2)(hn:Ba m2=none):
  (m≠ []→m2= []→Cv m=some ⟨hd,false,L⟩)∧(∀d,m2= [d]→d.is 36=true→Cv m=some ⟨hd,true,L⟩)∧(m2≠ []→(∀d,m2= [d]→d.is 36=false)→Cv m=none):=by
 obtain⟨m1,h1⟩ :∃m1:List Mk,m1=if hd then m.drop 1 else m:=⟨_,rfl⟩
 rw[←h1]at hr;have hne:∀m':List Mk,m1≠ []→m≠ []:=fun _ h e=>h (by rw[h1,e];cases hd<;>rfl)
 have hi:=Mh L m1 m2 hr;refine⟨fun hm e=> ?_,fun d e Zx=> ?_,fun h2 h3=> ?_⟩
 ·subst e
  rw[Zw m hm hd kD m1 h1];have hl:G7 m1=false:=by
   obtain⟨p,e,hp⟩ :=UM L m1 [] hr;rw[List.append_nil]at e;rw[e];rcases hp with rfl| ⟨k,hk,Ep⟩
   ·rfl
   ·unfold G7;rw[hk];exact Ep
  rw[hl,hi,Mf];simp
 ·subst e
  obtain⟨m3,e,Nf⟩ :=XW L m1 [] d Zx hr;have hm:m≠ []:=hne m1 (by rw[e];simp);rw[Zw m hm hd kD m1 h1];have hl:G7 m1=true:=by unfold G7;rw[e];simp[Zx]
  rw[hl,e];simp only[if_true,List.dropLast_concat];rw[Mh L m3 [] Nf,Mf];simp
 ·obtain⟨p,e,hp⟩ :=UM L m1 m2 hr
  have hm:m≠ []:=hne m1 (by rw[e];simp[h2]);rw[Zw m hm hd kD m1 h1];cases hl:G7 m1
  ·simp only[Bool.false_eq_true,if_false]
   rw[hi,Kq m2 h2 hn];rfl
  ·simp only[if_true]
   obtain⟨wz,d,rfl⟩ :∃m' d,m2=m'++ [d]:=⟨m2.dropLast,m2.getLast h2,(List.dropLast_concat_getLast h2).symm⟩
   have Zx:d.is 36=true:=by
    unfold G7 at hl;rw[e,←List.append_assoc]at hl
    simpa using hl
   have h2':wz≠ []:=fun e0=>by
    subst e0;rw[h3 d rfl]at Zx;cases Zx
   obtain⟨m3,e3,Nf⟩ :=XW L m1 wz d Zx hr;rw[e3,List.dropLast_concat,Mh L m3 wz Nf];have hn':Ba wz=none:=by
    cases QJ:Ba wz with
    |none=>rfl
    |some q=>rw[ei wz q.1 q.2 d Zx QJ]at hn;cases hn
   rw[Kq wz h2' hn'];rfl
end Go.Proofs.YtlppphmnegdhoabGreatDoor
