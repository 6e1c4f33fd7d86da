import Derived.Test.YtlppphmnegdhoabGreatDoorMz19
set_option linter.unusedVariables false
set_option maxRecDepth 100000
set_option maxHeartbeats 4000000
namespace Go.Proofs.YtlppphmnegdhoabGreatDoor
open Go.Proofs.Tryz
open Go.RowKit
open M
structure IR(w:World)(g n:Nat)(e:Nat→Int):Prop where
 lt:g<w.heap.size
 c:∀i,i<n→w.cell? ⟨g,i,none⟩ =some (.int .i64 (e i))
 fz:∀i,i<n→w.frozen? ⟨g,i,none⟩ =false
theorem IR.keep{w w':World}{g n:Nat}{e:Nat→Int}(h:IR w g n e)(hk:w'.heap[g]? =w.heap[g]?)(hs:w.heap.size≤w'.heap.size):IR w' g n e:=
 ⟨by have:=h.lt;omega,fun i hi=>(World.cell?_of_block hk).trans (h.c i hi),fun i hi=>(World.frozen?_of_block hk).trans (h.fz i hi)⟩
theorem IR.congr{w:World}{g n:Nat}{e e':Nat→Int}(h:IR w g n e)(he:∀i,i<n→e i=e' i):IR w g n e':=
 ⟨h.lt,fun i hi=>by rw[←he i hi];exact h.c i hi,h.fz⟩
theorem IR.set{w:World}{g n:Nat}{e:Nat→Int}(h:IR w g n e)(q:Nat)(hq:q<n)(b:Int):IR (w.setCell ⟨g,q,none⟩ (.int .i64 b)) g n (fun i=>if i=q then b else e i):=by
 refine⟨by simpa using h.lt,fun i hi=> ?_,fun i hi=>by simpa using h.fz i hi⟩
 by_cases QG:i=q
 ·subst QG
  rw[if_pos rfl];exact World.cell?_setCell_same' _ _ _ (by rw[h.c i hi];rfl)
 ·rw[if_neg QG]
  rw[World.cell?_setCell_other _ _ _ _ (fun e=>QG (congrArg Addr.off e).symm)];exact h.c i hi
theorem IR.drew{w:World}{g n:Nat}{e:Nat→Int}(h:IR w g n e):IR w.drew g n e:=h.keep rfl δ
structure Cs(g:Nat)(w w':World):Prop where
 os:w'.os=w.os
 tape:w'.tape=w.tape
 output:w'.output=w.output
 size:w.heap.size≤w'.heap.size
 block:∀k,k<w.heap.size→k≠g→w'.heap[k]? =w.heap[k]?
theorem Cs.trans{g:Nat}{a b c:World}(h:Cs g a b)(k:Cs g b c):Cs g a c:=
 ⟨k.os.trans h.os,k.tape.trans h.tape,k.output.trans h.output,Nat.le_trans h.size k.size,fun i hi hg=>(k.block i (Nat.lt_of_lt_of_le hi h.size) hg).trans (h.block i hi hg)⟩
theorem Cs.η{g:Nat}{w w':World}(h:Below w.heap.size w w'):Cs g w w':=⟨h.os,h.tape,h.output,h.size,fun k hk _=>h.block k hk⟩
theorem Cs.Aw{g:Nat}{w w':World}(h:AQ g w w'):Cs g w w':=⟨h.os,h.tape,h.output,by rw[h.size];exact δ,fun k _ hk=>h.block k hk⟩
theorem Cs.below{g B:Nat}{w w':World}(h:Cs g w w')(hB:B≤g)(hw:B≤w.heap.size):Below B w w':=⟨h.os,h.tape,h.output,h.size,fun k hk=>h.block k (by omega) (by omega)⟩
structure MB(w:World)(b:Nat)(s:ByteArray)(v:Value):Prop where
 lt:b<w.heap.size
 c0:w.cell? ⟨b,0,none⟩ =some (.string s)
 c1:w.cell? ⟨b,1,none⟩ =some v
theorem MB.keep{w w':World}{b:Nat}{s:ByteArray}{v:Value}(h:MB w b s v)(hk:w'.heap[b]? =w.heap[b]?)(hs:w.heap.size≤w'.heap.size):MB w' b s v:=
 ⟨by have:=h.lt;omega,(World.cell?_of_block hk).trans h.c0,(World.cell?_of_block hk).trans h.c1⟩
theorem aU{ops:Array Oper}{rest:List Oper}{op:Oper}{a:Act}{w:World}{Q:Exit→Act→World→Prop}(Fv:op.guard=none)(x:Operand)(ho:op.op= .box 211 x)(f:Nat→Bool)(hx:a.eval x=JT f)
  (h:∀w',BR w' w.heap.size 257 f→Below w.heap.size w w'→w'.heap.size=w.heap.size+1→wpList prog ops Q rest (a.put op.dst (.pointer (some ⟨w.heap.size,0,none⟩))) w'):wpList prog ops Q (op::rest) a w:=by
 have hw:=h (w.alloc (.cells (bC 257 f).toArray 211)) ?_ (ζ.alloc δ _) (by simp)
 ·refine wpList_plain Fv fun _ hK=> ?_
  unfold Oper.wp execOp;have hc:(JT f).cells=(bC 257 f).toArray:=rfl;have hr:(Instr.box 211 (JT f)).run prog w= .ok (.pointer (some ⟨w.heap.size,0,none⟩)) (w.alloc (.cells (bC 257 f).toArray 211)):=by
   simp[Instr.box,newVar,newRow,hc]
  simp only[ho,hx,Sem.run_bind,hr,Result.andThen_ok];exact hK _ _ hw
 ·refine⟨by simp,fun i hi=> ?_,fun i hi=>by simp[go_sem]⟩
  rw[cell_of_row _ _ _ _ _ _ (heap_alloc_new w _)];have:=Zf 257 f i hi
  simpa using this
def Ru(f:Nat→Bool)(s:List UInt8)(e:Nat→Int)(p:Nat):Int:=if h:p<s.length then(if f s[p].toNat then e (p+1)else -1)else -1
theorem VZ(b g c:Nat)(s:ByteArray)(f:Nat→Bool)(e:Nat→Int)(w:World)(hs:s.size≤256)(hb:MB w b s (.slice (some ⟨g,0,none⟩) (s.size+1) c))(hr:IR w g (s.size+1) e)(Va:b≠g):
  Calls prog 213 #[.pointer (some ⟨b,0,none⟩),JT f] w fun x w'=>x= .returned (.tuple #[])∧IR w' g (s.size+1) (Ru f s.data.toList e)∧Cs g w w':=by
 have hl:=Δ s
 go_enter func213,ntmps213
 go_wp2_with(refine aU rfl _ rfl f rfl ?_;intro w1 ξ B1 CE)
 have Rp:=hr.lt;have Bq:=hb.lt;obtain⟨gi,dF⟩ :∃gi,w.heap.size=gi:=⟨_,rfl⟩
 have Xw:Hid (MB w1 b s (.slice (some ⟨g,0,none⟩) (s.size+1) c)∧IR w1 g (s.size+1) e∧BR w1 gi 257 f∧Cs g w w1):=
  ⟨hb.keep (B1.block _ Bq) (by omega),hr.keep (B1.block _ Rp) (by omega),by rw[←dF];exact ξ,Cs.η B1⟩
 rw[dF]at Rp Bq;clear hb hr ξ B1 CE
 go_loopw [4] (fun v4 wr=>∃p:Nat,p≤s.size∧v4= .int .i64 p∧Hid (MB wr b s (.slice (some ⟨g,0,none⟩) (s.size+1) c)∧IR wr g (s.size+1) (fun q=>if q<p then Ru f s.data.toList e q else e q)∧BR wr gi 257 f∧Cs g w wr)) (fun v4 _=>s.size - (intOf v4).toNat)
 case atStart=>exact⟨0,ε,rfl,Xw.out.1,Xw.out.2.1.congr (fun i _=>by rw[if_neg (by omega)]),Xw.out.2.2⟩
 case round=>
  clear Xw;obtain⟨p,iV,rfl,HB⟩ :=hrel;obtain⟨y0,y1⟩ :=HB.out.1;have z0:=HB.out.2.1.c p (by omega);have z1:=HB.out.2.1.fz p (by omega);rw[if_neg (Nat.lt_irrefl _)]at z0
  by_cases Ac:p<s.size
  ·have AV:(p:Int)<(s.size:Int):=by omega
   have E7:(p:Int)<(s.size:Int)+1:=by omega
   have TN:(p:Int)+1<(s.size:Int)+1:=by omega
   have z2:=HB.out.2.1.c (p+1) (by omega);rw[if_neg (by omega)]at z2;obtain⟨x,hx⟩ :∃x:Nat,s[p].toNat=x:=⟨_,rfl⟩
   have FT:x<256:=by rw[←hx];exact s[p].toNat_lt
   have AAf:(x:Int)<256:=by omega
   have z3:=HB.out.2.2.1.c x (by omega);have hP:p<s.data.toList.length:=by omega
   have HX:Hid (Ru f s.data.toList e p=if f x then e (p+1)else -1):=by
    show _=_;unfold Ru;rw[dif_pos hP,←hx];rfl
   cases hf:f x
   all_goals
    rw[hf]at z3
   ·have fT:Hid (Ru f s.data.toList e p= -1):=by show _=_;rw[HX.out,hf];rfl
    clear HX hf;go_wp2
    go_roundw
    case rel=>
     refine⟨p+1,by omega,by go_num,HB.out.1.keep (heap_setCell_other _ _ _ _ Va) (by simp),(HB.out.2.1.set p (by omega) (-1)).congr (fun i _=> ?_),HB.out.2.2.1.keep (heap_setCell_other _ _ _ _ (by simp;omega)) (by simp),HB.out.2.2.2.trans (Cs.Aw (AQ.set _ _ _ _))⟩
     by_cases e1:i=p
     ·rw[if_pos e1,if_pos (by omega),e1];exact fT.out.symm
     ·rw[if_neg e1]
      by_cases e2:i<p
      ·rw[if_pos e2,if_pos (by omega)]
      ·rw[if_neg e2,if_neg (by omega)]
    case measure=>simp[intOf];omega
   ·have fT:Hid (Ru f s.data.toList e p=e (p+1)):=by show _=_;rw[HX.out,hf];rfl
    clear HX hf
    go_wp2_with fail
    go_region
    go_wp2
    go_roundw
    case rel=>
     refine⟨p+1,by omega,by go_num,HB.out.1.keep (heap_setCell_other _ _ _ _ Va) (by simp),(HB.out.2.1.drew.set p (by omega) (e (p+1))).congr (fun i _=> ?_),HB.out.2.2.1.keep (heap_setCell_other _ _ _ _ (by simp;omega)) (by simp),HB.out.2.2.2.trans (Cs.Aw ((AQ.refl g wr).drew.trans (AQ.set _ _ _ _)))⟩
     by_cases e1:i=p
     ·rw[if_pos e1,if_pos (by omega),e1];exact fT.out.symm
     ·rw[if_neg e1]
      by_cases e2:i<p
      ·rw[if_pos e2,if_pos (by omega)]
      ·rw[if_neg e2,if_neg (by omega)]
    case measure=>simp[intOf];omega
  ·obtain rfl:p=s.size:=by omega
   have E7:(s.size:Int)<(s.size:Int)+1:=by omega
   go_wp2_with fail
   go_region
   go_wp2
   go_end0
   refine⟨rfl,(HB.out.2.1.drew.set s.size (by omega) (-1)).congr (fun i hi=> ?_),HB.out.2.2.2.trans (Cs.Aw ((AQ.refl g wr).drew.trans (AQ.set _ _ _ _)))⟩
   by_cases e1:i=s.size
   ·rw[if_pos e1,e1]
    unfold Ru;rw[dif_neg (by omega)]
   ·rw[if_neg e1,if_pos (by omega)]
def Rv(f:Nat→Bool)(s:List UInt8)(e:Nat→Int):Nat→Int
 |0=>e s.length
 |d+1=>if f ((s.getD (s.length - (d+1)) 0).toNat)=true∧e (s.length - (d+1))<Rv f s e d then Rv f s e d else e (s.length - (d+1))
def Et(f:Nat→Bool)(s:List UInt8)(e:Nat→Int)(p:Nat):Int:=Rv f s e (s.length - p)
theorem UT(f:Nat→Bool)(s:List UInt8)(e:Nat→Int):Et f s e s.length=e s.length:=by unfold Et;rw[Nat.sub_self];rfl
theorem Rw(f:Nat→Bool)(s:List UInt8)(e:Nat→Int)(p:Nat)(h:p<s.length):Et f s e p=if f s[p].toNat=true∧e p<Et f s e (p+1)then Et f s e (p+1)else e p:=by
 unfold Et;obtain⟨d,hd⟩ :∃d,s.length - p=d+1:=⟨s.length - p - 1,by omega⟩
 have h1:s.length - (p+1)=d:=by omega
 have h2:s.length - (d+1)=p:=by omega
 have e1:s.getD p 0=s[p]:=by rw[List.getD_eq_getElem?_getD,List.getElem?_eq_getElem h];rfl
 rw[hd,h1];show(if f ((s.getD (s.length - (d+1)) 0).toNat)=true∧e (s.length - (d+1))<Rv f s e d then Rv f s e d else e (s.length - (d+1)))=_;rw[h2,e1]
theorem Mo(g:Nat)(w:World)(n:Nat):AQ g w (w.drewN n):=⟨rfl,rfl,rfl,rfl,fun _ _=>rfl⟩
theorem Tg(b g c:Nat)(s:ByteArray)(f:Nat→Bool)(e:Nat→Int)(w:World)(hs:s.size≤256)(hb:MB w b s (.slice (some ⟨g,0,none⟩) (s.size+1) c))(hr:IR w g (s.size+1) e)(Va:b≠g):
  Calls prog 212 #[.pointer (some ⟨b,0,none⟩),JT f] w fun x w'=>x= .returned (.tuple #[])∧IR w' g (s.size+1) (Et f s.data.toList e)∧Cs g w w':=by
 have hl:=Δ s;have HL:=γ hl;clear hl;have Rp:=hr.lt;have Bq:=hb.lt
 go_enter func212,ntmps212
 go_upto_region 1 with(refine aU rfl _ rfl f rfl ?_;intro w1 ξ B1 CE)
 obtain⟨gi,dF⟩ :∃gi,w.heap.size=gi:=⟨_,rfl⟩
 have Xw:Hid (MB w1 b s (.slice (some ⟨g,0,none⟩) (s.size+1) c)∧IR w1 g (s.size+1) e∧BR w1 gi 257 f∧Cs g w w1):=
  ⟨hb.keep (B1.block _ Bq) (by omega),hr.keep (B1.block _ Rp) (by omega),by rw[←dF];exact ξ,Cs.η B1⟩
 rw[dF]at Rp Bq;clear hb hr ξ B1 CE;obtain⟨LW,Q3,Q9⟩ :=Xw.out.1
 go_wp2_with fail
 go_loopw [4] (fun v4 wr=>∃p:Nat,p≤s.size∧v4= .int .i64 ((p:Int) - 1)∧Hid (MB wr b s (.slice (some ⟨g,0,none⟩) (s.size+1) c)∧IR wr g (s.size+1) (fun q=>if p≤q then Et f s.data.toList e q else e q)∧BR wr gi 257 f∧Cs g w wr)) (fun v4 _=>(intOf v4+1).toNat)
 case atStart=>
  refine⟨s.size,δ,rfl,Xw.out.1,Xw.out.2.1.congr (fun i hi=> ?_),Xw.out.2.2⟩
  by_cases h:s.size≤i
  ·rw[if_pos h]
   obtain rfl:i=s.size:=by omega
   have:=UT f s.data.toList e;rw[HL.out]at this;exact this.symm
  ·rw[if_neg h]
 case round=>
  clear Xw LW Q3 Q9;obtain⟨pp,iV,rfl,HB⟩ :=hrel;obtain⟨hy,y0,y1⟩ :=HB.out.1
  by_cases Ac:0<pp
  ·obtain⟨p,rfl⟩ :∃p,pp=p+1:=⟨pp - 1,by omega⟩
   have ep:(((p+1:Nat):Int) - 1)=(p:Int):=by omega
   rw[ep];clear ep;have h0:(0:Int)≤(p:Int):=by omega
   have AV:(p:Int)<(s.size:Int):=by omega
   have E7:(p:Int)<(s.size:Int)+1:=by omega
   have TN:(p:Int)+1<(s.size:Int)+1:=by omega
   have z0:=HB.out.2.1.c p (by omega);rw[if_neg (by omega)]at z0;have z1:=HB.out.2.1.fz p (by omega);have z2:=HB.out.2.1.c (p+1) (by omega);rw[if_pos δ]at z2;obtain⟨x,hx⟩ :∃x:Nat,s[p].toNat=x:=⟨_,rfl⟩
   have FT:x<256:=by rw[←hx];exact s[p].toNat_lt
   have AAf:(x:Int)<256:=by omega
   have z3:=HB.out.2.2.1.c x (by omega);have HX:Hid (Et f s.data.toList e p=if f x=true∧e p<Et f s.data.toList e (p+1)then Et f s.data.toList e (p+1)else e p):=by
    show _=_;rw[Rw f s.data.toList e p (by rw[HL.out];omega),←hx];rfl
   have HN:Hid (∀wx,AQ g wr wx→MB wx b s (.slice (some ⟨g,0,none⟩) (s.size+1) c)∧IR wx g (s.size+1) (fun q=>if p+1≤q then Et f s.data.toList e q else e q)→True):=fun _ _ _=>trivial
   obtain⟨E1,TY⟩ :∃E1,Et f s.data.toList e (p+1)=E1:=⟨_,rfl⟩
   obtain⟨E0,RY⟩ :∃E0,e p=E0:=⟨_,rfl⟩
   rw[TY]at z2 HX;rw[RY]at z0 HX;have HE0:=γ RY;clear RY TY HN;cases hf:f x
   all_goals
    rw[hf]at z3
   ·have fT:Hid (Et f s.data.toList e p=E0):=by show _=_;rw[HX.out,hf,if_neg (by simp)]
    clear HX hf
    go_wp2_with fail
    go_quiet(fail)
    go_wp2
    go_roundw
    case rel=>
     refine⟨p,by omega,by first|rfl|go_num,HB.out.1.keep (w':=wr.drewN nq) rfl δ,(HB.out.2.1.keep (w':=wr.drewN nq) rfl δ).congr (fun i _=> ?_),HB.out.2.2.1.keep (w':=wr.drewN nq) rfl δ,HB.out.2.2.2.trans (Cs.Aw (Mo g _ _))⟩
     by_cases e1:i=p
     ·rw[if_neg (by omega),if_pos (by omega),e1,fT.out];exact HE0.out
     ·by_cases e2:p+1≤i
      ·rw[if_pos e2,if_pos (by omega)]
      ·rw[if_neg e2,if_neg (by omega)]
    case measure=>simp[intOf]
   ·by_cases qa:E0<E1
    ·have fT:Hid (Et f s.data.toList e p=E1):=by show _=_;rw[HX.out,hf,if_pos ⟨rfl,qa⟩]
     clear HX hf
     go_wp2_with fail
     go_quiet(fail)
     have HW:Hid (MB (wr.drewN nq) b s (.slice (some ⟨g,0,none⟩) (s.size+1) c)∧IR (wr.drewN nq) g (s.size+1) (fun q=>if p+1≤q then Et f s.data.toList e q else e q)∧BR (wr.drewN nq) gi 257 f∧Cs g w (wr.drewN nq)):=
      ⟨HB.out.1.keep rfl δ,HB.out.2.1.keep rfl δ,HB.out.2.2.1.keep rfl δ,HB.out.2.2.2.trans (Cs.Aw (Mo g _ _))⟩
     have z0':(wr.drewN nq).cell? ⟨g,p,none⟩ =some (.int .i64 E0):=z0;have z1':(wr.drewN nq).frozen? ⟨g,p,none⟩ =false:=z1;have z2':(wr.drewN nq).cell? ⟨g,p+1,none⟩ =some (.int .i64 E1):=z2;have y0':(wr.drewN nq).cell? ⟨b,0,none⟩ =some (.string s):=y0;have y1':(wr.drewN nq).cell? ⟨b,1,none⟩ =some (.slice (some ⟨g,0,none⟩) (s.size+1) c):=y1;clear z0 z1 z2 z3 y0 y1 hy HB;generalize wr.drewN nq=W at*
     go_wp2_with fail
     go_region
     go_wp2
     go_roundw
     case rel=>
      refine⟨p,by omega,by first|rfl|go_num,HW.out.1.keep (heap_setCell_other _ _ _ _ Va) (by simp),(HW.out.2.1.drew.set p (by omega) E1).congr (fun i _=> ?_),HW.out.2.2.1.keep (heap_setCell_other _ _ _ _ (by simp;omega)) (by simp),HW.out.2.2.2.trans (Cs.Aw ((AQ.refl g W).drew.trans (AQ.set _ _ _ _)))⟩
      by_cases e1:i=p
      ·rw[if_pos e1,if_pos (by omega),e1,fT.out]
      ·rw[if_neg e1]
       by_cases e2:p+1≤i
       ·rw[if_pos e2,if_pos (by omega)]
       ·rw[if_neg e2,if_neg (by omega)]
     case measure=>simp[intOf]
    ·have fT:Hid (Et f s.data.toList e p=E0):=by show _=_;rw[HX.out,if_neg (fun h=>qa h.2)]
     clear HX hf
     go_wp2_with fail
     go_quiet(fail)
     go_wp2
     go_roundw
     case rel=>
      refine⟨p,by omega,by first|rfl|go_num,HB.out.1.keep (w':=wr.drewN nq) rfl δ,(HB.out.2.1.keep (w':=wr.drewN nq) rfl δ).congr (fun i _=> ?_),HB.out.2.2.1.keep (w':=wr.drewN nq) rfl δ,HB.out.2.2.2.trans (Cs.Aw (Mo g _ _))⟩
      by_cases e1:i=p
      ·rw[if_neg (by omega),if_pos (by omega),e1,fT.out];exact HE0.out
      ·by_cases e2:p+1≤i
       ·rw[if_pos e2,if_pos (by omega)]
       ·rw[if_neg e2,if_neg (by omega)]
     case measure=>simp[intOf]
  ·obtain rfl:pp=0:=by omega
   go_wp2
   go_end0
   exact⟨rfl,HB.out.2.1.congr (fun i _=>by rw[if_pos (by omega)]),HB.out.2.2.2⟩
def Th(x:It)(s:List UInt8)(e:Nat→Int):Nat→Int:=if x.star then Et (IQ x) s e else Ru (IQ x) s e
theorem Rx(b g c:Nat)(s:ByteArray)(x:It)(e:Nat→Int)(w:World)(hs:s.size≤256)(hb:MB w b s (.slice (some ⟨g,0,none⟩) (s.size+1) c))(hr:IR w g (s.size+1) e)(Va:b≠g):
  Calls prog 173 #[.pointer (some ⟨b,0,none⟩),JT (IQ x)] w fun y w'=>y= .returned (.tuple #[])∧IR w' g (s.size+1) (Th x s.data.toList e)∧Cs g w w':=by
 have Rp:=hr.lt;have Bq:=hb.lt
 go_enter func173,ntmps173
 go_upto_region 1 with(refine aU rfl _ rfl (IQ x) rfl ?_;intro w1 ξ B1 CE)
 have ND:=hb.keep (B1.block _ Bq) (by omega);have hrw:=hr.keep (B1.block _ Rp) (by omega);have BZ:=ξ.c 256 (by omega);have xW:IQ x 256=x.star:=rfl;rw[xW]at BZ;clear hb hr;cases hx:x.star
 all_goals
  rw[hx]at BZ
 ·have HL:Hid (Th x s.data.toList e=Ru (IQ x) s.data.toList e):=by show _=_;unfold Th;rw[hx];rfl
  clear hx xW
  go_wp2_with(refine E9 ξ rfl _ rfl rfl ?_)
  refine(VZ b g c s (IQ x) e w1 hs ND hrw Va).mono ?_;rintro y w2 ⟨rfl,LV,VW⟩;go_wp2
  go_end0
  exact⟨rfl,by rw[HL.out];exact LV,(Cs.η B1).trans VW⟩
 ·have HL:Hid (Th x s.data.toList e=Et (IQ x) s.data.toList e):=by show _=_;unfold Th;rw[hx];rfl
  clear hx xW
  go_wp2_with(refine E9 ξ rfl _ rfl rfl ?_)
  refine(Tg b g c s (IQ x) e w1 hs ND hrw Va).mono ?_;rintro y w2 ⟨rfl,LV,VW⟩;go_wp2
  go_end0
  exact⟨rfl,by rw[HL.out];exact LV,(Cs.η B1).trans VW⟩
theorem qk(tl:Bool)(l:List It)(s:List UInt8)(k:Nat)(hk:k<l.length)(e:Nat→Int)(h:∀p,p≤s.length→ZM tl l s (k+1) p (e p)):∀p,p≤s.length→ZM tl l s k p (Th l[k] s e p):=by
 have Dz:∀c:UInt8,IQ l[k] c.toNat=Fe l[k] c.toNat:=fun c=>by
  unfold IQ;rw[if_neg (by have:=c.toNat_lt;omega)]
 unfold Th;cases hs:l[k].star
 ·intro p hp
  show ZM tl l s k p (Ru (IQ l[k]) s e p);unfold Ru
  by_cases Ac:p<s.length
  ·rw[dif_pos Ac,Dz]
   exact qj tl l s k p _ hk hs Ac (h (p+1) Ac)
  ·rw[dif_neg Ac]
   obtain rfl:p=s.length:=by omega
   exact Xv tl l s k hk hs
 ·have main:∀d p,s.length - p=d→p≤s.length→ZM tl l s k p (Et (IQ l[k]) s e p):=by
   intro d
   induction d with
   |zero=>
    intro p hd hp;obtain rfl:p=s.length:=by omega
    rw[UT];exact VY tl l s k _ hk hs (h _ δ)
   |succ d ih=>
    intro p hd hp;rw[Rw _ s e p (by omega),Dz];exact ku tl l s k p _ _ hk hs (by omega) (h p hp) (ih (p+1) (by omega) (by omega))
  exact fun p hp=>main _ p rfl hp
structure MX(w:World)(b:Nat)(s:ByteArray)(v:Value):Prop where
 lt:b<w.heap.size
 c0:w.cell? ⟨b,0,none⟩ =some (.string s)
 c1:w.cell? ⟨b,1,none⟩ =some v
 f1:w.frozen? ⟨b,1,none⟩ =false
theorem MX.keep{w w':World}{b:Nat}{s:ByteArray}{v:Value}(h:MX w b s v)(hk:w'.heap[b]? =w.heap[b]?)(hs:w.heap.size≤w'.heap.size):MX w' b s v:=
 ⟨by have:=h.lt;omega,(World.cell?_of_block hk).trans h.c0,(World.cell?_of_block hk).trans h.c1,(World.frozen?_of_block hk).trans h.f1⟩
theorem MX.set{w:World}{b:Nat}{s:ByteArray}{v:Value}(h:MX w b s v)(u:Value):MX (w.setCell ⟨b,1,none⟩ u) b s u:=by
 obtain⟨l,c0,c1,f1⟩ :=h;refine⟨by simpa using l,?_,World.cell?_setCell_same' _ _ _ (by rw[c1];rfl),by simpa using f1⟩;rw[World.cell?_setCell_other _ _ _ _ (by simp)];exact c0
structure lA(h0:Nat)(w wr:World)(hd tl:Bool)(vi:Value)(s:ByteArray)(v:Value)(es:List Value):Prop where
 eb:DT h0 wr hd tl vi
 mx:MX wr (h0+1) s v
 own:wr.ownsRow (h0+2) 3 1 v es.length es
 below:Below h0 w wr
 size:h0+2≤wr.heap.size
theorem lA.grow{h0:Nat}{w wr w3:World}{hd tl:Bool}{vi:Value}{s:ByteArray}{v v':Value}{es:List Value}{o:Obj}{x:Value}(h:lA h0 w wr hd tl vi s v es)
  (ν:w3.ownsRow (h0+2) 3 1 v' (es.length+1) (es++ [x])) (hg:(wr.alloc o).grownBy w3 v.ownBlock):
  MX w3 (h0+1) s v∧lA h0 w (w3.setCell ⟨h0+1,1,none⟩ v') hd tl vi s v' (es++ [x]):=by
 have hs:=h.size;have H4:=hg.size;simp at H4;have hk:∀k,k<h0+2→w3.heap[k]? =wr.heap[k]? :=fun k hk=>by
  rw[hg.block k (by simp;omega) (fun e=>by have:=(h.own.lt k e.symm).1;omega),Below.heap_alloc _ _ _ (by omega)]
 have hb:=h.mx.keep (hk _ (by omega)) (by omega);refine⟨hb,(h.eb.keep (hk _ (by omega))).keep (heap_setCell_other _ _ _ _ (by simp)),hb.set _,?_,?_,by simp;omega⟩
 ·rw[List.length_append];exact ownsRow_setCell_below ν (by simp) _
 ·exact((h.below.alloc (by omega) _).grown hg (by simp;omega) (fun k hk=>by have:=(h.own.lt k hk).1;omega)).setCell (by simp) _
def e0(tl:Bool)(n p:Nat):Int:=if tl=true∧p<n then -1 else(p:Int)
def e0C(tl:Bool)(n k:Nat):List Value:=(List.range k).map (fun p=> .int .i64 (e0 tl n p))
theorem Lf(tl:Bool)(n k:Nat):(e0C tl n k).length=k:=by simp[e0C]
theorem Ry(tl:Bool)(n k:Nat):e0C tl n (k+1)=e0C tl n k++ [.int .i64 (e0 tl n k)]:=by simp[e0C,List.range_succ]
theorem xX{w:World}{B n:Nat}{v:Value}{e:Nat→Int}(h:w.ownsRow B 3 1 v (n+1) ((List.range (n+1)).map (fun p=> .int .i64 (e p)))):∃g c,v= .slice (some ⟨g,0,none⟩) (n+1) c∧B≤g∧g<w.heap.size∧IR w g (n+1) e:=by
 obtain⟨h1,⟨_,h2⟩ | ⟨g,cap,cur,e1,e2,e3,e4,e5,e6,e7⟩⟩ :=h
 ·omega
 ·have Ac:g<w.heap.size:=by
   rcases Nat.lt_or_ge g w.heap.size with h|h
   ·exact h
   ·rw[Array.getElem?_eq_none h]at e3;cases e3
  refine⟨g,cap,e1,e2,Ac,Ac,fun i hi=> ?_,fun i hi=> ?_⟩
  ·rw[cell_of_row _ _ _ _ _ _ e3]
   have h9:(cur.toList.take ((n+1)*1))[i]? =some (.int .i64 (e i)):=by rw[e7];simp[hi]
   rw[List.getElem?_take]at h9;split at h9
   ·simpa using h9
   ·cases h9
  ·simp[World.frozen?,e3]
theorem PG{ops:Array Oper}{rest:List Oper}{o:Oper}{a:Act}{w:World}{Q:Exit→Act→World→Prop}{B:Nat}{v:Value}{n:Nat}{xs:List Value}(ν:w.ownsRow B 3 1 v n xs)(g:Nat)(q:Int)(hg:w.heap[g]? =some (.cells #[.int .i64 q] 3))(hn:n≤8192)(hB:B≤w.heap.size)(Fv:o.guard=none)(s x:Operand)
  (ho:o.op= .call {callee:= .builtin .append,args:= #[s,x],argTypes:= #[116,116]}) (hs:a.eval s=v) (hx:a.eval x= .slice (some ⟨g,0,none⟩) 1 1)
  (h:∀v' w',w'.ownsRow B 3 1 v' (n+1) (xs++ [.int .i64 q])→w.grownBy w' v.ownBlock→wpList prog ops Q rest (a.put o.dst v') w'):wpList prog ops Q (o::rest) a w:=by
 obtain⟨i0,hi,DF,CN,Dq⟩ :=info_parts Qj;refine wpList_append_own w Fv s x _ ho B _ i0 _ 1 8 underlying116 hi DF CN Dq rfl (by decide) v n xs hs ν ⟨g,0,none⟩ 1 1 [.int .i64 q] hx rfl ?_ (fun u hu=>by simp at hu;rw[hu];rfl) (by unfold maxLen;omega) (by omega) hB (fun v' w' h1 h2 _=>h v' w' h1 h2);intro j u hu;rw[Addr.add_mid,cell_of_row _ _ _ _ _ _ hg]
 simpa using hu
theorem Xx{ops:Array Oper}{rest:List Oper}{op:Oper}{a:Act}{w:World}{Q:Exit→Act→World→Prop}{g o:Nat}{f:Nat→Bool}(hb:w.rangeAt g o (bC 257 f))(Fv:op.guard=none)(x:Operand)(ho:op.op= .load 211 x)(hx:a.eval x= .pointer (some ⟨g,o,none⟩))
  (h:wpList prog ops Q rest (a.put op.dst (JT f)) w):wpList prog ops Q (op::rest) a w:=by
 obtain⟨fs,hu⟩ :=jR;exact wpList_load_mid Fv _ x ho g o hx (bC 257 f) _ hb hu rfl (by rw[GR];exact(zero_of_info Jb).2) h
theorem Pw{w w':World}{B g o:Nat}{cs:List Value}(h:w.rangeAt g o cs)(hb:Below B w w')(hg:g<B):w'.rangeAt g o cs:=fun j v hv=>(hb.cell (by exact hg)).trans (h j v hv)
def lB(hd tl:Bool)(L:List It)(s:ByteArray)(w:World)(x:Ending)(w':World):Prop:=
 (∃g c' E,x= .returned (.slice (some ⟨g,0,none⟩) (s.size+1) c')∧IR w' g (s.size+1) E∧∀p,p≤s.size→Pv ⟨hd,tl,L⟩ s.data.toList p (E p))∧Below w.heap.size w w'
theorem Rz(hd tl:Bool)(a:Option Addr)(c:Nat)(L:List It)(s:ByteArray)(w:World)(hs:s.size≤256)(hL:L.length≤8192)(Dz:∀k(h:k<L.length),∃g,a=some ⟨g,0,none⟩∧g<w.heap.size∧w.rangeAt g (k*257) (bC 257 (IQ L[k]))):
  Calls prog 143 #[.agg #[.bool hd,.bool tl,.slice a L.length c],.string s] w fun x w'=>lB hd tl L s w x w':=by
 have hl:=Δ s;have HL:=γ hl;clear hl;obtain⟨i0,hi,DF,CN,Dq⟩ :=info_parts Qj
 go_enter func143,ntmps143
 go_upto_region 2 with fail
 have hK0:lA w.heap.size w ((w.alloc (.cells #[.bool hd,.bool tl,.slice a L.length c] 137)).alloc (.cells #[.string s,.slice none 0 0] 246)) hd tl (.slice a L.length c) s (.slice none 0 0) []:=by
  refine⟨?_,?_,World.ownsRow_nil _ _ _ _,(ζ.alloc δ _).alloc (by simp) _,by simp⟩
  all_goals
   constructor<;>simp[go_sem]
 generalize((w.alloc (.cells #[.bool hd,.bool tl,.slice a L.length c] 137)).alloc (.cells #[.string s,.slice none 0 0] 246))=W at*;have qQ:Hid (∀k(h:k<L.length),∃g,a=some ⟨g,0,none⟩∧g<w.heap.size∧w.rangeAt g (k*257) (bC 257 (IQ L[k]))):=Dz;clear Dz;obtain⟨h0,hh0⟩ :∃h0,w.heap.size=h0:=⟨_,rfl⟩
 rw[hh0]at hK0
 try rw[hh0]
 obtain⟨nL,Ej⟩ :∃nL,L.length=nL:=⟨_,rfl⟩
 have Ce:=γ Ej;rw[Ej]at hK0 hL⊢;have HH0:=γ hh0;clear hh0 Ej
 go_wp2_with fail
 go_loopw [6] (fun v6 wr=>∃(p:Nat)(v:Value),p≤s.size+1∧v6= .int .i64 p∧lA h0 w wr hd tl (.slice a nL c) s v (e0C tl s.size p)) (fun v6 _=>s.size+1 - (intOf v6).toNat)
 case atStart=>exact⟨0,_,ε,rfl,hK0⟩
 case round=>
  clear hK0;obtain⟨p,v,iV,rfl,hK⟩ :=hrel;obtain⟨av,cv,CX⟩ :=κ hK.own;rw[Lf]at CX;subst CX;have EV:=hK.size
  by_cases Ac:p≤s.size
  ·have AV:(p:Int)≤(s.size:Int):=by omega
   have ν:=hK.own;rw[Lf]at ν;obtain⟨x0,x1,x2,p0,p1,p2⟩ :=hK.eb;obtain⟨m0,m1,m2,m3⟩ :=hK.mx
   by_cases Nr:tl=true∧p<s.size
   ·have HE:Hid (e0 tl s.size p= -1):=by show _=_;unfold e0;rw[if_pos Nr]
    obtain⟨Hv,R0⟩ :=Nr;subst Hv;have hp3:(p:Int)<(s.size:Int):=by omega
    go_wp2_with(refine PG (ν.alloc _) wr.heap.size (-1) (heap_alloc_new wr _) (by omega) (by simp;omega) rfl _ _ rfl rfl rfl ?_
                intro v' w3 Γ D0;have VK:=hK.grow (by rw[Lf];exact Γ) D0;obtain⟨⟨y0,y1,y2,y3⟩,hK3⟩ :=VK;obtain⟨NF,JV,CX⟩ :=κ Γ;subst CX;clear m0 m1 m2 m3 Γ D0)
    go_roundw
    case rel=>exact⟨p+1,_,by omega,by go_num,by rw[Ry,HE.out];exact hK3⟩
    case measure=>simp[intOf]<;>omega
   ·have HE:Hid (e0 tl s.size p=p):=by show _=_;unfold e0;rw[if_neg Nr]
    cases Hv:tl
    ·subst Hv
     go_wp2_with(refine PG (ν.alloc _) wr.heap.size p (heap_alloc_new wr _) (by omega) (by simp;omega) rfl _ _ rfl rfl rfl ?_
                 intro v' w3 Γ D0;have VK:=hK.grow (by rw[Lf];exact Γ) D0;obtain⟨⟨y0,y1,y2,y3⟩,hK3⟩ :=VK;obtain⟨NF,JV,CX⟩ :=κ Γ;subst CX;clear m0 m1 m2 m3 Γ D0)
     go_roundw
     case rel=>exact⟨p+1,_,by omega,by go_num,by rw[Ry,HE.out];exact hK3⟩
     case measure=>simp[intOf]<;>omega
    ·subst Hv
     obtain rfl:p=s.size:=by
      by_cases hh:p<s.size
      ·exact absurd ⟨rfl,hh⟩ Nr
      ·omega
     clear Nr
     go_wp2_with(refine PG (ν.alloc _) wr.heap.size s.size (heap_alloc_new wr _) (by omega) (by simp;omega) rfl _ _ rfl rfl rfl ?_
                 intro v' w3 Γ D0;have VK:=hK.grow (by rw[Lf];exact Γ) D0;obtain⟨⟨y0,y1,y2,y3⟩,hK3⟩ :=VK;obtain⟨NF,JV,CX⟩ :=κ Γ;subst CX;clear m0 m1 m2 m3 Γ D0)
     go_roundw
     case rel=>exact⟨s.size+1,_,by omega,by go_num,by rw[Ry,HE.out];exact hK3⟩
     case measure=>simp[intOf]<;>omega
  ·obtain rfl:p=s.size+1:=by omega
   have AV:¬((s.size:Int)+1)≤(s.size:Int):=by omega
   obtain⟨g,cg,hv,hgB,Rp,hIR⟩ :=xX (e:=e0 tl s.size) (B:=h0+2) (n:=s.size) (v:= .slice av (s.size+1) cv) (by have h9:=hK.own;rw[Lf]at h9;exact h9);simp only[Value.slice.injEq]at hv;obtain⟨rfl,_,rfl⟩ :=hv;have HJ0:Hid (DT h0 wr hd tl (.slice a nL c)∧MB wr (h0+1) s (.slice (some ⟨g,0,none⟩) (s.size+1) cv)∧IR wr g (s.size+1) (e0 tl s.size)∧Below h0 w wr∧g<wr.heap.size):=⟨hK.eb,⟨hK.mx.lt,hK.mx.c0,hK.mx.c1⟩,hIR,hK.below,Rp⟩
   obtain⟨x0,x1,x2,p0,p1,p2⟩ :=hK.eb;clear hK hIR
   go_wp2_with fail
   go_loopw [7] (fun v7 wr=>∃(k:Nat)(E:Nat→Int),k≤nL∧v7= .int .i64 ((k:Int) - 1)∧Hid (∀p,p≤s.data.toList.length→ZM tl L s.data.toList k p (E p))∧Hid (DT h0 wr hd tl (.slice a nL c)∧MB wr (h0+1) s (.slice (some ⟨g,0,none⟩) (s.size+1) cv)∧IR wr g (s.size+1) E∧Below h0 w wr∧g<wr.heap.size)) (fun v7 _=>(intOf v7+1).toNat)
   case atStart=>
    refine⟨nL,e0 tl s.size,δ,by first|rfl|go_num,fun p hp=> ?_,HJ0.out⟩;have:=qi tl L s.data.toList p hp;rw[Ce.out,HL.out]at this;exact this
   case round=>
    clear HJ0 x0 x1 x2 p0 p1 p2 EV Rp;obtain⟨kk,E,Ez,rfl,HG,HJ⟩ :=hrel;obtain⟨x0,x1,x2,p0,p1,p2⟩ :=HJ.out.1;obtain⟨m0,m1,m2⟩ :=HJ.out.2.1
    by_cases Lr:0<kk
    ·obtain⟨k,rfl⟩ :∃k,kk=k+1:=⟨kk - 1,by omega⟩
     have ep:(((k+1:Nat):Int) - 1)=(k:Int):=by omega
     rw[ep];clear ep;have IW:(0:Int)≤(k:Int):=by omega
     have EW:(k:Int)<(nL:Int):=by omega
     have QR:k<L.length:=by rw[Ce.out];omega
     obtain⟨gi,rfl,dF,hrg⟩ :=qQ.out k QR;rw[HH0.out]at dF;have AAg:=Pw hrg HJ.out.2.2.2.1 dF;have HG2:Hid (∀p,p≤s.data.toList.length→ZM tl L s.data.toList k p (Th L[k] s.data.toList E p)):=qk tl L s.data.toList k QR E HG.out;generalize L[k]=xk at*;clear hrg HG
     go_wp2_with(refine Xx AAg rfl _ rfl rfl ?_)
     refine(Rx (h0+1) g cv s xk E wr hs HJ.out.2.1 HJ.out.2.2.1 (by omega)).mono ?_;rintro y w4 ⟨rfl,dG,ko⟩;have xY:=HJ.out.2.2.2.2;have HJ4:Hid (DT h0 w4 hd tl (.slice (some ⟨gi,0,none⟩) nL c)∧MB w4 (h0+1) s (.slice (some ⟨g,0,none⟩) (s.size+1) cv)∧IR w4 g (s.size+1) (Th xk s.data.toList E)∧Below h0 w w4∧g<w4.heap.size):=
      ⟨HJ.out.1.keep (ko.block _ (by omega) (by omega)),HJ.out.2.1.keep (ko.block _ (by omega) (by omega)) ko.size,dG,HJ.out.2.2.2.1.trans (ko.below (by omega) (by omega)),dG.lt⟩
     clear HJ dG ko xY x0 x1 x2 p0 p1 p2 m0 m1 m2 AAg;go_wp2
     go_roundw
     case rel=>exact⟨k,Th xk s.data.toList E,by omega,by first|rfl|go_num,HG2.out,HJ4.out⟩
     case measure=>simp[intOf]<;>omega
    ·obtain rfl:kk=0:=by omega
     have HJ1:Hid (DT h0 wr hd tl (.slice a nL c)∧MB wr (h0+1) s (.slice (some ⟨g,0,none⟩) (s.size+1) cv)∧IR wr g (s.size+1) (fun q=>if 1≤q∧q<1 then -1 else E q)∧Below h0 w wr∧g<wr.heap.size):=⟨HJ.out.1,HJ.out.2.1,HJ.out.2.2.1.congr (fun i _=>by rw[if_neg (by omega)]),HJ.out.2.2.2⟩
     clear HJ x0 x1 x2 p0 p1 p2 m0 m1 m2
     go_wp2_with fail
     go_loopw [8] (fun v8 wr=>∃p:Nat,1≤p∧p≤s.size+1∧v8= .int .i64 p∧(hd=false→p=1)∧Hid (DT h0 wr hd tl (.slice a nL c)∧MB wr (h0+1) s (.slice (some ⟨g,0,none⟩) (s.size+1) cv)∧IR wr g (s.size+1) (fun q=>if 1≤q∧q<p then -1 else E q)∧Below h0 w wr∧g<wr.heap.size)) (fun v8 _=>s.size+1 - (intOf v8).toNat)
     case atStart=>exact⟨1,δ,by omega,rfl,fun _=>rfl,HJ1.out⟩
     case round=>
      clear HJ1;obtain⟨p,fL,iV,rfl,R0,HJ⟩ :=hrel;obtain⟨x0,x1,x2,p0,p1,p2⟩ :=HJ.out.1;obtain⟨m0,m1,m2⟩ :=HJ.out.2.1;cases hd
      ·obtain rfl:p=1:=R0 rfl
       clear R0;go_wp2;go_ret;refine⟨⟨g,cv,_,rfl,HJ.out.2.2.1,fun q hq=> ?_⟩,by rw[HH0.out];exact HJ.out.2.2.2.1⟩;rw[if_neg (by omega)];exact kv _ _ _ _ (.inl rfl) (HG.out q (by rw[HL.out];exact hq))
      ·by_cases Ac:p≤s.size
       ·have AV:(p:Int)≤(s.size:Int):=by omega
        have E7:(p:Int)<(s.size:Int)+1:=by omega
        have TN:(0:Int)≤(p:Int):=by omega
        have z1:=HJ.out.2.2.1.fz p (by omega);have z0:=HJ.out.2.2.1.c p (by omega);have xY:=HJ.out.2.2.2.2;clear R0;go_wp2
        go_roundw
        case rel=>
         refine⟨p+1,by omega,by omega,by go_num,fun h=>Bool.noConfusion h,HJ.out.1.keep (heap_setCell_other _ _ _ _ (by simp;omega)),HJ.out.2.1.keep (heap_setCell_other _ _ _ _ (by simp;omega)) (by simp),(HJ.out.2.2.1.set p (by omega) (-1)).congr (fun i _=> ?_),HJ.out.2.2.2.1.setCell (by simp;omega) _,by simpa using xY⟩
         by_cases e1:i=p
         ·rw[if_pos e1,if_pos (by omega)]
         ·rw[if_neg e1]
          by_cases e2:1≤i∧i<p
          ·rw[if_pos e2,if_pos (by omega)]
          ·rw[if_neg e2,if_neg (by omega)]
        case measure=>simp[intOf]<;>omega
       ·obtain rfl:p=s.size+1:=by omega
        have AV:¬((s.size:Int)+1)≤(s.size:Int):=by omega
        clear R0;go_wp2;go_ret;refine⟨⟨g,cv,_,rfl,HJ.out.2.2.1,fun q hq=> ?_⟩,by rw[HH0.out];exact HJ.out.2.2.2.1⟩
        by_cases h1:1≤q
        ·rw[if_pos (by omega)]
         exact kx _ _ _ rfl (by omega)
        ·rw[if_neg (by omega)]
         exact kv _ _ _ _ (.inr (by omega)) (HG.out q (by rw[HL.out];exact hq))
theorem lC(x:Ex)(s:List UInt8)(n i:Nat)(e:Int)(h:Pv x s i e)(hne:e≠ -1)(hn:n≤i)(CQ:∀p d,n≤p→p<i→AP x s p d=false):Ka x s n i e:=by
 rcases h with⟨rfl,_⟩ | ⟨q,rfl,h1,h2⟩
 ·exact absurd rfl hne
 ·exact .inr ⟨i,q,rfl,rfl,hn,h1,CQ,h2⟩
theorem fV(x:Ex)(s:List UInt8)(i:Nat)(h:Pv x s i (-1))(d:Nat):AP x s i d=false:=by
 rcases h with⟨_,h⟩ | ⟨q,h,_⟩
 ·exact h d
 ·omega
theorem lD(x:Ex)(s:List UInt8)(i d:Nat)(h:s.length<i):AP x s i d=false:=by
 unfold AP
 by_cases h1:i≤d
 ·rw[decide_eq_false (show¬d≤s.length by omega)];simp
 ·rw[decide_eq_false h1];simp
def AAh(x:Ex)(s:ByteArray)(n:Nat)(w:World)(e:Ending)(w':World):Prop:=
 (∃i j:Int,e= .returned (.tuple #[.int .i64 i,.int .i64 j])∧Ka x s.data.toList n i j)∧Below w.heap.size w w'
theorem Xy(hd tl:Bool)(a:Option Addr)(c:Nat)(L:List It)(s:ByteArray)(n:Nat)(w:World)(hs:s.size≤256)(hn:n≤s.size)(hL:L.length≤8192)(Dz:∀k(h:k<L.length),∃g,a=some ⟨g,0,none⟩∧g<w.heap.size∧w.rangeAt g (k*257) (bC 257 (IQ L[k]))):
  Calls prog 102 #[.agg #[.bool hd,.bool tl,.slice a L.length c],.string s,.int .i64 n] w fun x w'=>AAh ⟨hd,tl,L⟩ s n w x w':=by
 have HL:=γ (Δ s)
 go_enter func102,ntmps102
 go_wp2_with fail
 have ξ:Below w.heap.size w (w.alloc (.cells #[.bool hd,.bool tl,.slice a L.length c] 137)):=ζ.alloc δ _
 refine(Rz hd tl a c L s _ hs hL (fun k hk=>by
  obtain⟨g,e1,e2,e3⟩ :=Dz k hk;exact⟨g,e1,by have:=ξ.size;omega,Pw e3 ξ e2⟩)).mono ?_
 rintro e w2 ⟨⟨g,c',E,rfl,hr,he⟩,B2⟩;have hB:=ξ.trans (B2.mono ξ.size);have HE:Hid (∀p,p≤s.size→Pv ⟨hd,tl,L⟩ s.data.toList p (E p)):=he;have HB:=γ hB;clear he ξ B2 hB Dz
 go_wp2_with fail
 go_loop [9] (fun v9=>∃i:Nat,n≤i∧i≤s.size+1∧v9= .int .i64 i∧Hid (∀p d,n≤p→p<i→AP ⟨hd,tl,L⟩ s.data.toList p d=false)) (fun v9=>s.size+1 - (intOf v9).toNat)
 case atStart=>exact⟨n,δ,by omega,rfl,fun p d h1 h2=>by omega⟩
 case round=>
  obtain⟨i,hni,Pn,rfl,HN⟩ :=hrel;have h0:(0:Int)≤(i:Int):=by omega
  by_cases Ac:i≤s.size
  ·have AV:(i:Int)<(s.size:Int)+1:=by omega
   have z0:=hr.c i (by omega);have HEi:=γ (HE.out i Ac);generalize E i=x at*
   by_cases hx:x= -1
   ·subst hx
    have Qo:Hid (∀p d,n≤p→p<i+1→AP ⟨hd,tl,L⟩ s.data.toList p d=false):=fun p d h1 h2=>by
     by_cases e:p=i
     ·rw[e];exact fV _ _ _ HEi.out d
     ·exact HN.out p d h1 (by omega)
    clear HN;go_wp2
    go_round
    case rel=>exact⟨i+1,by omega,by omega,by go_num,Qo.out⟩
    case measure=>simp[intOf]<;>omega
   ·have pE:(x != -1)=true:=by simpa using hx
    have HF:Hid (Ka ⟨hd,tl,L⟩ s.data.toList n i x):=lC _ _ n i x HEi.out hx hni HN.out;clear hx HN HEi
    go_wp2_with fail
    go_quiet(fail)
    go_wp2;go_ret2;exact⟨⟨i,x,rfl,HF.out⟩,below_drewN HB.out _⟩
  ·have AV:¬(i:Int)<(s.size:Int)+1:=by omega
   have HF:Hid (Ka ⟨hd,tl,L⟩ s.data.toList n (-1) (-1)):= .inl ⟨rfl,rfl,fun p d h1=>by
    by_cases e:p<i
    ·exact HN.out p d h1 e
    ·exact lD _ _ p d (by rw[HL.out];omega)⟩
   clear HN;go_wp2;go_ret2;exact⟨⟨-1,-1,rfl,HF.out⟩,HB.out⟩
end Go.Proofs.YtlppphmnegdhoabGreatDoor
