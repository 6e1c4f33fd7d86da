import Derived.Test.YtlppphmnegdhoabGreatDoorMz22
set_option linter.unusedVariables false
set_option maxRecDepth 100000
set_option maxHeartbeats 8000000
namespace Go.Proofs.YtlppphmnegdhoabGreatDoor
open Go.Proofs.Tryz
open Go.RowKit
open M
def uq(c:Cm)(p1:Option Addr)(q1:Nat)(p2:Option Addr)(q2:Nat)(p3:Option Addr)(q3:Nat)(p4:Option Addr)(q4:Nat):List Value:=
 [.int .i64 (c.cnt:Nat),.int .i64 (c.a1.kind:Nat),.int .i64 (c.a1.line:Nat),.bool c.a1.ex.head,.bool c.a1.ex.tail,.slice p1 c.a1.ex.l.length q1,.int .i64 (c.a2.kind:Nat),.int .i64 (c.a2.line:Nat),.bool c.a2.ex.head,.bool c.a2.ex.tail,.slice p2 c.a2.ex.l.length q2,.bool c.no,.int .u8 (c.name:Nat),.int .u8 (c.label:Nat),.int .i64 (c.next:Nat),.string c.text,.bool c.sub.ex.head,.bool c.sub.ex.tail,.slice p3 c.sub.ex.l.length q3,.slice p4 c.sub.rep.length q4,.int .i64 (c.sub.count:Nat),.bool c.sub.all,.bool c.sub.Pt,.string c.UO,.string c.Kv]
def BK(w:World)(vs:List Value)(c:Cm):Prop:=∃p1 q1 p2 q2 p3 q3 p4 q4,vs=uq c p1 q1 p2 q2 p3 q3 p4 q4∧EB w p1 c.a1.ex.l∧EB w p2 c.a2.ex.l∧EB w p3 c.sub.ex.l∧Ia w p4 c.sub.rep
theorem BK.below{w w':World}{vs:List Value}{c:Cm}(h:BK w vs c)(hb:Below w.heap.size w w'):BK w' vs c:=by
 obtain⟨p1,q1,p2,q2,p3,q3,p4,q4,h0,h1,h2,h3,h4⟩ :=h;exact⟨p1,q1,p2,q2,p3,q3,p4,q4,h0,h1.below hb,h2.below hb,h3.below hb,h4.below hb⟩
theorem BK.len{w:World}{vs:List Value}{c:Cm}(h:BK w vs c):vs.length=25:=by
 obtain⟨p1,q1,p2,q2,p3,q3,p4,q4,rfl,_⟩ :=h;rfl
theorem BK.one{w:World}{vs:List Value}{c:Cm}(h:BK w vs c):∀v∈vs,v.oneCell'=true:=by
 obtain⟨p1,q1,p2,q2,p3,q3,p4,q4,rfl,_⟩ :=h;simp[uq,Value.oneCell']
theorem BK.cells{w:World}{vs:List Value}{c:Cm}(h:BK w vs c):vs[12]? =some (.int .u8 (c.name:Nat))∧vs[14]? =some (.int .i64 (c.next:Nat))∧vs[15]? =some (.string c.text)∧vs[23]? =some (.string c.UO)∧vs[24]? =some (.string c.Kv)∧aV w ((vs.drop 16).take 7) c.sub:=by
 obtain⟨p1,q1,p2,q2,p3,q3,p4,q4,rfl,h1,h2,h3,h4⟩ :=h;exact⟨rfl,rfl,rfl,rfl,rfl,p3,q3,p4,q4,rfl,h3,h4⟩
theorem Gi:EE 148 25:=⟨⟨_,underlying148,rfl⟩,by kernel_rfl⟩
theorem ACw:EE 146 2:=⟨⟨_,underlying146,rfl⟩,by kernel_rfl⟩
theorem AU{ops:Array Oper}{rest:List Oper}{op:Oper}{a:Act}{w:World}{Q:Exit→Act→World→Prop}{T:TypeId}(Fv:op.guard=none)(x:Operand)(ho:op.op= .box T x)(vs:List Value)(hx:a.eval x= .agg vs.toArray)(h1:∀v∈vs,v.oneCell'=true)
  (h:∀w',CB w' w.heap.size vs→Below w.heap.size w w'→w.heap.size+1≤w'.heap.size→wpList prog ops Q rest (a.put op.dst (.pointer (some ⟨w.heap.size,0,none⟩))) w'):wpList prog ops Q (op::rest) a w:=by
 have hw:=h (w.alloc (.cells vs.toArray T)) (CB.new w T vs.toArray h1) (ζ.alloc δ _) (by simp);refine wpList_plain Fv fun _ hK=> ?_
 unfold Oper.wp execOp;have hc:(Value.agg vs.toArray).cells=vs.toArray:=rfl;have hr:(Instr.box T (Value.agg vs.toArray)).run prog w= .ok (.pointer (some ⟨w.heap.size,0,none⟩)) (w.alloc (.cells vs.toArray T)):=by
  simp[Instr.box,newVar,newRow,hc]
 simp only[ho,hx,Sem.run_bind,hr,Result.andThen_ok];exact hK _ _ hw
theorem QU(P:Value→World→Prop)(b:Nat)(tl:List Value)(V:RV)(S:St)(w:World)(h:π P b tl V S w)(hw:WF S):
  Calls prog 242 #[.pointer (some ⟨b,0,none⟩)] w fun e w'=>Hd P b tl V S.Ae w e w':=by
 have FJ:=h.cell 10 _ rfl;have Bq:=h.box.lt;have HH:=γ h;have Xj:=hw.pa;have DC:=h.pat.out;obtain⟨ap,cp,EO,_⟩ :=DC.form;rw[EO]at FJ DC;have KW:=γ DC;have Tk:=γ EO;have HQ:Hid (S.Ae=if Ad S.pat=0 then S.AO else{({S with pat:=τ S.pat (Ad S.pat) S.pat.length}:St).φ with next:=0}):=rfl;have Ce:Hid (Ad S.pat≤S.pat.length):=Np _;clear h DC EO
 go_enter func242,ntmps242
 go_wp2_with fail
 refine(Gd _ S.pat w KW.out (by omega)).mono ?_;rintro e w1 ⟨rfl,B1⟩;have h1:=HH.out.below B1;have UR:=γ h1;have s1:=KW.out.below B1;have xN:=(B1.cell (by exact Bq)).trans FJ;have f101:=h1.fz 10 (by decide);have aJ:=h1.box.lt;clear h1 FJ;have Im:=Ce.out;obtain⟨k,hk⟩ :∃k,Ad S.pat=k:=⟨_,rfl⟩
 rw[hk]at Im HQ⊢;clear hk
 by_cases h0:k=0
 ·subst h0
  go_wp2_with fail
  refine(FL P b tl V S w1 UR.out hw).mono ?_;rintro e w2 ⟨rfl,hr⟩;have HR:Hid (μ P b tl V S.Ae w w2):=by show μ _ _ _ _ _ _ _;rw[HQ.out];exact μ.trans rfl (.η B1) hr
  clear hr;go_wp2;refine bodyPost_ret (results_none rfl _ _ _) rfl ?_;exact⟨rfl,HR.out⟩
 ·have KA:((k:Int)==0)=false:=by simp;omega
  rw[if_neg h0]at HQ;clear h0;obtain⟨n,hn⟩ :∃n,S.pat.length=n:=⟨_,rfl⟩
  have HN:=γ hn;rw[hn]at xN Im Xj s1 HQ;have s1d:=s1.drew;have ld:=DM _ S.pat k n w1.drew s1d Im (by rw[hn];exact δ) (by rw[hn];omega);clear hn
  go_wp2_with fail
  go_region_with(first
    | (go_at_call 112;refine ld.mono ?_;rintro e wx ⟨Nt,v3,rfl,s3,AAx⟩;rw[Nt];clear Nt;obtain⟨a3,c3,Ei,_⟩ :=s3.form;subst Ei))
  all_goals
   have BZ:Av (ρ b V) w1 (fun w=>ψ w (.slice a3 (τ S.pat k n).length c3) (τ S.pat k n)):=fun w' q1 q2=>AAx w' (by have h9:=UR.out.pat w' q1 q2;rw[Tk.out,HN.out]at h9;exact h9)
   obtain⟨V3,H4,KP,TD⟩ :=UR.out.GX _ _ BZ;have Mr:=KP.below (ζ.drew);have Nv:Hid (Rf (ρ b V) (ρ b V3) w (w1.setCell ⟨b,10,none⟩ (.slice a3 (τ S.pat k n).length c3)).drew):=(Rf.η B1).trans (TD.trans (.η (ζ.drew)));have KY:=γ Mr;have hwP:WF {S with pat:=τ S.pat k n}:= {hw with pa:=by show(τ S.pat k n).length≤256;unfold τ;rw[List.length_take,List.length_drop];have h9:=hw.pa;omega,op:=hw.op.part k n}
   have dI:=γ H4;generalize(w1.setCell ⟨b,10,none⟩ (.slice a3 (τ S.pat k n).length c3)).drew=W4 at*;clear BZ KP TD Mr H4 s3 AAx ld s1 s1d xN f101
   go_wp2_with fail
   refine(FK P b tl V3 _ W4 KY.out hwP).mono ?_;rintro e w5 ⟨rfl,V5,Qk,MM,UX⟩;have l5:=MM.box.lt;have f15:=MM.fz 15 (by decide);have aM:=MM.cell 15 _ rfl;have hA:=MM.set 15 (by decide) (.int .i64 0) rfl {({S with pat:=τ S.pat k n}:St).φ with next:=0} rfl rfl rfl rfl rfl rfl;have HR:Hid (μ P b tl V S.Ae w (w5.setCell ⟨b,15,none⟩ (.int .i64 0))):=by
    show μ _ _ _ _ _ _ _;rw[HQ.out];exact⟨V5,Qk.trans dI.out,hA,Nv.out.trans (UX.trans (Rf.set V5 b 15 _ w5))⟩
   clear hA MM UX Qk;go_wp2
   go_end0
   exact⟨rfl,HR.out⟩
theorem EF(P:Value→World→Prop)(b:Nat)(tl:List Value)(V:RV)(S:St)(vs:List Value)(c:Cm)(w:World)(h:π P b tl V S w)(hw:WF S)(hc:BK w vs c)(hk:DZ c)(hn:c.name=100∨c.name=68∨c.name=99∨c.name=110∨c.name=78∨c.name=113∨c.name=98∨c.name=116):
  Calls prog 220 #[.pointer (some ⟨b,0,none⟩),.agg vs.toArray] w fun e w'=>Hd P b tl V (S.lead c) w e w':=by
 have HC:=γ hc;have Bc:Hid (∀v∈vs,v.oneCell'=true):=hc.one;have Bh:=γ hc.len;obtain⟨CF,OW,ML,_,_,_⟩ :=hc.cells;have Bn:=γ CF;have G0:=γ OW;have L5:=γ ML;have HH:=γ h;have Bq:=h.box.lt;have H7:=hk.nm;have htb:=hk.tx;have hxb:=hk.nx;have HL:Hid (S.lead c=if c.name=100 then S.AO else if c.name=68 then S.Ae else if c.name=99 then(S.Φ c.text).AO else if c.name=110 then{S with asks:=2}else if c.name=78 then{S with asks:=3}else if c.name=113 then S.Am else if c.name=98 then{S with next:=c.next}else if S.mark then{S with mark:=false,next:=c.next}else S):=rfl;obtain⟨nm,Wl⟩ :∃k,c.name=k:=⟨_,rfl⟩
 rw[Wl]at hn Bn HL H7;clear h hc CF OW ML Wl;rcases hn with rfl|rfl|rfl|rfl|rfl|rfl|rfl|rfl
 ·have HL:Hid (S.lead c=S.AO):=HL.out
  go_enter func220,ntmps220
  go_wp2_with(refine AU rfl _ rfl vs rfl Bc.out ?_
              intro w1 ξ B1 CE;have h1:=HH.out.below B1;have A0:=γ h1;have Bm:Hid (Rf (ρ b V) (ρ b V) w w1):= .η B1;have FU:=γ (HC.out.below B1);have L6:=γ ξ;have d12:=ξ.c 12 _ Bn.out;have d14:=ξ.c 14 _ G0.out;have d15:=ξ.c 15 _ L5.out;have l1:=ξ.lt;have Dx:=h1.box.lt;have f14:=h1.fz 14 (by decide);have f15:=h1.fz 15 (by decide);have f16:=h1.fz 16 (by decide);have QQ:=h1.cell 14 _ rfl;have aM:=h1.cell 15 _ rfl;have Xk:=h1.cell 16 _ rfl;clear ξ h1)
  refine(FL P b tl V S w1 A0.out hw).mono ?_;rintro e w2 ⟨rfl,hr⟩;have HR:Hid (μ P b tl V (S.lead c) w w2):=by show μ _ _ _ _ _ _ _;rw[HL.out];exact μ.trans rfl Bm.out hr
  clear hr;go_wp2
  go_end0
  exact⟨rfl,HR.out⟩
 ·have HL:Hid (S.lead c=S.Ae):=HL.out
  go_enter func220,ntmps220
  go_wp2_with(refine AU rfl _ rfl vs rfl Bc.out ?_
              intro w1 ξ B1 CE;have h1:=HH.out.below B1;have A0:=γ h1;have Bm:Hid (Rf (ρ b V) (ρ b V) w w1):= .η B1;have FU:=γ (HC.out.below B1);have L6:=γ ξ;have d12:=ξ.c 12 _ Bn.out;have d14:=ξ.c 14 _ G0.out;have d15:=ξ.c 15 _ L5.out;have l1:=ξ.lt;have Dx:=h1.box.lt;have f14:=h1.fz 14 (by decide);have f15:=h1.fz 15 (by decide);have f16:=h1.fz 16 (by decide);have QQ:=h1.cell 14 _ rfl;have aM:=h1.cell 15 _ rfl;have Xk:=h1.cell 16 _ rfl;clear ξ h1)
  refine(QU P b tl V S w1 A0.out hw).mono ?_;rintro e w2 ⟨rfl,hr⟩;have HR:Hid (μ P b tl V (S.lead c) w w2):=by show μ _ _ _ _ _ _ _;rw[HL.out];exact μ.trans rfl Bm.out hr
  clear hr;go_wp2
  go_end0
  exact⟨rfl,HR.out⟩
 ·have HL:Hid (S.lead c=(S.Φ c.text).AO):=HL.out
  go_enter func220,ntmps220
  go_wp2_with(refine AU rfl _ rfl vs rfl Bc.out ?_
              intro w1 ξ B1 CE;have h1:=HH.out.below B1;have A0:=γ h1;have Bm:Hid (Rf (ρ b V) (ρ b V) w w1):= .η B1;have FU:=γ (HC.out.below B1);have L6:=γ ξ;have d12:=ξ.c 12 _ Bn.out;have d14:=ξ.c 14 _ G0.out;have d15:=ξ.c 15 _ L5.out;have l1:=ξ.lt;have Dx:=h1.box.lt;have f14:=h1.fz 14 (by decide);have f15:=h1.fz 15 (by decide);have f16:=h1.fz 16 (by decide);have QQ:=h1.cell 14 _ rfl;have aM:=h1.cell 15 _ rfl;have Xk:=h1.cell 16 _ rfl;clear ξ h1)
  refine(F4 P b tl V S c.text w1 A0.out hw (by omega)).mono ?_;rintro e w2 ⟨rfl,vo2,Ds,JW⟩
  go_wp2_with fail
  refine(FL P b tl (V.Af vo2) (S.Φ c.text) w2 Ds (hw.Φ _)).mono ?_;rintro e w3 ⟨rfl,hr⟩;have HR:Hid (μ P b tl V (S.lead c) w w3):=by show μ _ _ _ _ _ _ _;rw[HL.out];exact μ.trans (V1:=V.Af vo2) rfl (Bm.out.trans JW) hr
  clear hr;go_wp2
  go_end0
  exact⟨rfl,HR.out⟩
 ·have HL:Hid (S.lead c= {S with asks:=2}):=HL.out
  go_enter func220,ntmps220
  go_wp2_with(refine AU rfl _ rfl vs rfl Bc.out ?_
              intro w1 ξ B1 CE;have h1:=HH.out.below B1;have A0:=γ h1;have Bm:Hid (Rf (ρ b V) (ρ b V) w w1):= .η B1;have FU:=γ (HC.out.below B1);have L6:=γ ξ;have d12:=ξ.c 12 _ Bn.out;have d14:=ξ.c 14 _ G0.out;have d15:=ξ.c 15 _ L5.out;have l1:=ξ.lt;have Dx:=h1.box.lt;have f14:=h1.fz 14 (by decide);have f15:=h1.fz 15 (by decide);have f16:=h1.fz 16 (by decide);have QQ:=h1.cell 14 _ rfl;have aM:=h1.cell 15 _ rfl;have Xk:=h1.cell 16 _ rfl;clear ξ h1)
  have hA:=A0.out.set 16 (by decide) (.int .i64 2) rfl {S with asks:=2} rfl rfl rfl rfl rfl rfl
  go_end0
  exact⟨rfl,by rw[HL.out];exact⟨V,rfl,hA,Bm.out.trans (Rf.set V b 16 _ _)⟩⟩
 ·have HL:Hid (S.lead c= {S with asks:=3}):=HL.out
  go_enter func220,ntmps220
  go_wp2_with(refine AU rfl _ rfl vs rfl Bc.out ?_
              intro w1 ξ B1 CE;have h1:=HH.out.below B1;have A0:=γ h1;have Bm:Hid (Rf (ρ b V) (ρ b V) w w1):= .η B1;have FU:=γ (HC.out.below B1);have L6:=γ ξ;have d12:=ξ.c 12 _ Bn.out;have d14:=ξ.c 14 _ G0.out;have d15:=ξ.c 15 _ L5.out;have l1:=ξ.lt;have Dx:=h1.box.lt;have f14:=h1.fz 14 (by decide);have f15:=h1.fz 15 (by decide);have f16:=h1.fz 16 (by decide);have QQ:=h1.cell 14 _ rfl;have aM:=h1.cell 15 _ rfl;have Xk:=h1.cell 16 _ rfl;clear ξ h1)
  have hA:=A0.out.set 16 (by decide) (.int .i64 3) rfl {S with asks:=3} rfl rfl rfl rfl rfl rfl
  go_end0
  exact⟨rfl,by rw[HL.out];exact⟨V,rfl,hA,Bm.out.trans (Rf.set V b 16 _ _)⟩⟩
 ·have HL:Hid (S.lead c=S.Am):=HL.out
  go_enter func220,ntmps220
  go_wp2_with(refine AU rfl _ rfl vs rfl Bc.out ?_
              intro w1 ξ B1 CE;have h1:=HH.out.below B1;have A0:=γ h1;have Bm:Hid (Rf (ρ b V) (ρ b V) w w1):= .η B1;have FU:=γ (HC.out.below B1);have L6:=γ ξ;have d12:=ξ.c 12 _ Bn.out;have d14:=ξ.c 14 _ G0.out;have d15:=ξ.c 15 _ L5.out;have l1:=ξ.lt;have Dx:=h1.box.lt;have f14:=h1.fz 14 (by decide);have f15:=h1.fz 15 (by decide);have f16:=h1.fz 16 (by decide);have QQ:=h1.cell 14 _ rfl;have aM:=h1.cell 15 _ rfl;have Xk:=h1.cell 16 _ rfl;clear ξ h1)
  refine(K3 P b tl V S w1 A0.out hw).mono ?_;rintro e w2 ⟨rfl,hr⟩;have HR:Hid (μ P b tl V (S.lead c) w w2):=by show μ _ _ _ _ _ _ _;rw[HL.out];exact μ.trans rfl Bm.out hr
  clear hr;go_wp2
  go_end0
  exact⟨rfl,HR.out⟩
 ·have HL:Hid (S.lead c= {S with next:=c.next}):=HL.out
  go_enter func220,ntmps220
  go_wp2_with(refine AU rfl _ rfl vs rfl Bc.out ?_
              intro w1 ξ B1 CE;have h1:=HH.out.below B1;have A0:=γ h1;have Bm:Hid (Rf (ρ b V) (ρ b V) w w1):= .η B1;have FU:=γ (HC.out.below B1);have L6:=γ ξ;have d12:=ξ.c 12 _ Bn.out;have d14:=ξ.c 14 _ G0.out;have d15:=ξ.c 15 _ L5.out;have l1:=ξ.lt;have Dx:=h1.box.lt;have f14:=h1.fz 14 (by decide);have f15:=h1.fz 15 (by decide);have f16:=h1.fz 16 (by decide);have QQ:=h1.cell 14 _ rfl;have aM:=h1.cell 15 _ rfl;have Xk:=h1.cell 16 _ rfl;clear ξ h1)
  have hA:=A0.out.set 15 (by decide) (.int .i64 (c.next:Nat)) rfl {S with next:=c.next} rfl rfl rfl rfl rfl rfl
  go_end0
  exact⟨rfl,by rw[HL.out];exact⟨V,rfl,hA,Bm.out.trans (Rf.set V b 15 _ _)⟩⟩
 ·have HL:Hid (S.lead c=if S.mark then{S with mark:=false,next:=c.next}else S):=HL.out
  cases Tl:S.mark
  ·rw[Tl,if_neg (by decide)]at HL
   go_enter func220,ntmps220
   go_wp2_with(refine AU rfl _ rfl vs rfl Bc.out ?_
               intro w1 ξ B1 CE;have h1:=HH.out.below B1;have A0:=γ h1;have Bm:Hid (Rf (ρ b V) (ρ b V) w w1):= .η B1;have FU:=γ (HC.out.below B1);have L6:=γ ξ;have d12:=ξ.c 12 _ Bn.out;have d14:=ξ.c 14 _ G0.out;have d15:=ξ.c 15 _ L5.out;have l1:=ξ.lt;have Dx:=h1.box.lt;have f14:=h1.fz 14 (by decide);have f15:=h1.fz 15 (by decide);have f16:=h1.fz 16 (by decide);have QQ:=h1.cell 14 _ rfl;have AFQ:w1.cell? ⟨b,14,none⟩ =some (.bool false):=by rw[QQ,Tl]
               clear QQ;have aM:=h1.cell 15 _ rfl;have Xk:=h1.cell 16 _ rfl;clear ξ h1)
   go_end0
   exact⟨rfl,by rw[HL.out];exact⟨V,rfl,A0.out,Bm.out⟩⟩
  ·rw[Tl,if_pos rfl]at HL
   go_enter func220,ntmps220
   go_wp2_with(refine AU rfl _ rfl vs rfl Bc.out ?_
               intro w1 ξ B1 CE;have h1:=HH.out.below B1;have A0:=γ h1;have Bm:Hid (Rf (ρ b V) (ρ b V) w w1):= .η B1;have FU:=γ (HC.out.below B1);have L6:=γ ξ;have d12:=ξ.c 12 _ Bn.out;have d14:=ξ.c 14 _ G0.out;have d15:=ξ.c 15 _ L5.out;have l1:=ξ.lt;have Dx:=h1.box.lt;have f14:=h1.fz 14 (by decide);have f15:=h1.fz 15 (by decide);have f16:=h1.fz 16 (by decide);have QQ:=h1.cell 14 _ rfl;have AFR:w1.cell? ⟨b,14,none⟩ =some (.bool true):=by rw[QQ,Tl]
               clear QQ;have aM:=h1.cell 15 _ rfl;have Xk:=h1.cell 16 _ rfl;clear ξ h1)
   have hA:=A0.out.set 14 (by decide) (.bool false) rfl {S with mark:=false} rfl rfl rfl rfl rfl rfl;have hB:=hA.set 15 (by decide) (.int .i64 (c.next:Nat)) rfl {S with mark:=false,next:=c.next} rfl rfl rfl rfl rfl rfl
   go_end0
   exact⟨rfl,by rw[HL.out];exact⟨V,rfl,hB,Bm.out.trans ((Rf.set V b 14 _ _).trans (Rf.set V b 15 _ _))⟩⟩
section
variable {P : Value → World → Prop} {b : Nat} {tl : List Value} {V : RV} {S : St} {w w' : World}
theorem π.FP(h:π P b tl V S w){g n c:Nat}(hv:V.AM= .slice (some ⟨g,0,none⟩) n c)(k:Nat)(x:Bool):μ P b tl V {S with AM:=S.AM.set k x} w (w.setCell ⟨g,k,none⟩ (.bool x)):=by
 have dJ:g≠b:=fun e=>h.sr (by rw[hv,←e];rfl)
 have hfg:ρ b V g:= .inr (.inr (.inl (by rw[hv];rfl)));have f1:Rf (ρ b V) (ρ b V) w (w.setCell ⟨g,k,none⟩ (.bool x)):=⟨rfl,rfl,rfl,by simp,fun q _ hq=>heap_setCell_other w _ q _ (fun e=>hq (by rw[e];exact hfg)),fun _ h=> .inl h⟩
 have hk:∀q,q≠g→(w.setCell ⟨g,k,none⟩ (.bool x)).heap[q]? =w.heap[q]? :=fun q hq=>heap_setCell_other w _ q _ hq
 refine⟨V,rfl,⟨?_,?_,?_,?_,h.so,h.sr,h.sq,h.AZ.fr f1,h.pat.fr f1,h.hold.fr f1,h.one⟩,f1⟩
 ·have h1:=h.box.keep (hk b (fun e=>dJ e.symm)) (by simp)
  exact h1
 ·refine Ab (F:=ρ b V) (G:=ρ b V) h.out (fun q e=>hk q (fun e'=> ?_))
  exact GF h.out h.AM (by decide) q e (by rw[hv,e'];rfl)
 ·have h9:=h.AM
  show World.ownsRow _ 0 _ 1 V.AM (S.AM.set k x).length ((S.AM.set k x).map .bool);rw[List.length_set,List.map_set];have hn:n=S.AM.length:=by
   rcases h9.2 with⟨e,_⟩ | ⟨g',cap,cur,e,_⟩
   ·rw[hv]at e;cases e
   ·rw[hv]at e;simp at e;omega
  subst hn;rw[hv]at h9⊢;exact(h9.stored k (.bool x)).1
 ·refine Ab (F:=ρ b V) (G:=ρ b V) h.D8 (fun q e=>hk q (fun e'=> ?_))
  exact GF h.D8 h.AM (by decide) q e (by rw[hv,e'];rfl)
end
theorem BK.ACx{w:World}{vs:List Value}{c:Cm}(h:BK w vs c):∃A1 A2,vs.take 12= [.int .i64 (c.cnt:Nat)]++A1++A2++ [.bool c.no]∧L3 w A1 c.a1∧L3 w A2 c.a2:=by
 obtain⟨p1,q1,p2,q2,p3,q3,p4,q4,rfl,h1,h2,h3,h4⟩ :=h;exact⟨_,_,rfl,⟨p1,q1,rfl,h1⟩,⟨p2,q2,rfl,h2⟩⟩
def lg(P:Value→World→Prop)(b:Nat)(tl:List Value)(V:RV)(r:Bool×St)(w:World)(e:Ending)(w':World):Prop:=e= .returned (.bool r.1)∧μ P b tl V r.2 w w'
theorem μ.drew{P:Value→World→Prop}{b:Nat}{tl:List Value}{V:RV}{S:St}{w w':World}(h:μ P b tl V S w w'):μ P b tl V S w w'.drew:=by
 obtain⟨V',h1,h2,h3⟩ :=h;exact⟨V',h1,h2.below (ζ.drew),h3.trans (.η (ζ.drew))⟩
theorem Tm(P:Value→World→Prop)(b:Nat)(tl:List Value)(V:RV)(S:St)(k:Nat)(A1 A2:List Value)(c:Cm)(w:World)(h:π P b tl V S w)(hw:WF S)(h1:L3 w A1 c.a1)(h2:L3 w A2 c.a2)(hk:DZ c)(Ez:k<S.AM.length):
  Calls prog 217 #[.pointer (some ⟨b,0,none⟩),.int .i64 (k:Nat),.agg ([Value.int .i64 (c.cnt:Nat)]++A1++A2++ [Value.bool c.no]).toArray] w fun e w'=>lg P b tl V (S.AG k c) w e w':=by
 have q7:=γ h1;have Hy:=γ h2;obtain⟨p1,q1,rfl,_⟩ :=h1;obtain⟨p2,q2,rfl,_⟩ :=h2;have Eu:Hid (S.AG k c=if S.AM.getD k false then(true,{S with AM:=S.AM.set k (!S.holds c.a2 && !(decide (c.a2.kind=1) && decide (c.a2.line<S.line)))})else(S.holds c.a1,{S with AM:=S.AM.set k (S.holds c.a1 && !(decide (c.a2.kind=1) && decide (c.a2.line≤S.line)))})):=rfl;have HGD:Hid (S.AM.getD k false=S.AM[k]):=by show _=_;simp[Ez]
 have HH:=γ h;have HK:=γ hk;have Bq:=h.box.lt;have ck:S.line≤4096:=by have:=hw.li;have:=hw.bh;have:=hw.tx;omega
 have hnc:=hw.nc;have hrg:=hw.rg;have NN:=hk.n2;obtain⟨gr,cr,aW,dJ⟩ :∃g c,V.AM= .slice (some ⟨g,0,none⟩) S.AM.length c∧g≠b:=by
  obtain⟨g,cap,hv,_,_⟩ :=h.AM.form (by omega);exact⟨g,cap,hv,fun e=>h.sr (by rw[hv,←e];rfl)⟩
 have dK:=γ aW;have NI:Hid (∀w',π P b tl V S w'→gr<w'.heap.size∧w'.cell? ⟨gr,k,none⟩ =some (.bool S.AM[k])∧w'.frozen? ⟨gr,k,none⟩ =false∧w'.cell? ⟨b,1,none⟩ =some (.slice (some ⟨gr,0,none⟩) S.AM.length cr)):=fun w' h'=>by
  have hr:=h'.AM;rw[aW]at hr;have c0:=hr.cells rfl k (.bool S.AM[k]) (by simp[Ez]);rw[Addr.add_mid,Nat.zero_add]at c0;have c1:=h'.cell 1 _ rfl;exact⟨(hr.lt gr rfl).2,c0,hr.frozenAt k,by rw[c1];show some V.AM=_;rw[aW]⟩
 obtain⟨n,hn⟩ :∃n,S.AM.length=n:=⟨_,rfl⟩
 rw[hn]at NI Ez hrg;obtain⟨op,ur⟩ :∃x,S.AM[k]=x:=⟨_,rfl⟩
 rw[ur]at NI HGD;obtain⟨kd,Nk⟩ :∃x,c.a2.kind=x:=⟨_,rfl⟩
 obtain⟨ln,J9⟩ :∃x,c.a2.line=x:=⟨_,rfl⟩
 have HKD:=γ Nk;have Hc:=γ J9;rw[J9]at NN;have EW:¬(k:Int)<0:=by omega
 have Ep:¬(n:Int)≤(k:Int):=by omega
 have Px:(k:Int)<(n:Int):=by omega
 have L8:(0:Int)≤(k:Int):=by omega
 clear h hk aW hn ur;rw[HGD.out]at Eu;rw[Nk,J9]at Eu⊢;have FY:∀v∈([.int .i64 (c.cnt:Nat),.int .i64 (c.a1.kind:Nat),.int .i64 (c.a1.line:Nat),.bool c.a1.ex.head,.bool c.a1.ex.tail,.slice p1 c.a1.ex.l.length q1,.int .i64 (kd:Nat),.int .i64 (ln:Nat),.bool c.a2.ex.head,.bool c.a2.ex.tail,.slice p2 c.a2.ex.l.length q2,.bool c.no]:List Value),v.oneCell'=true:=by simp[Value.oneCell']
 rw[Nk,J9]at Hy;clear Nk J9;cases op
 ·rw[if_neg (by decide)]at Eu
  go_enter func217,ntmps217
  go_wp2_with(first
   | (refine AU rfl _ rfl [.int .i64 (c.cnt:Nat),.int .i64 (c.a1.kind:Nat),.int .i64 (c.a1.line:Nat),.bool c.a1.ex.head,.bool c.a1.ex.tail,.slice p1 c.a1.ex.l.length q1,.int .i64 (kd:Nat),.int .i64 (ln:Nat),.bool c.a2.ex.head,.bool c.a2.ex.tail,.slice p2 c.a2.ex.l.length q2,.bool c.no] rfl FY ?_
      intro w1 ξ B1 CE;have Bo:=HH.out.below B1;have A0:=γ Bo;obtain⟨xq,xr,_,E2⟩ :=NI.out w1 Bo;have Dx:=Bo.box.lt;have d6:=ξ.c 6 _ rfl;have LA:=ξ.lt;clear Bo)
   |refine D7 Xz ξ (o:=1) rfl rfl rfl _ rfl rfl ?_)
  have I2:=HK.out;have xt:L3 w1 _ c.a1:=q7.out.below B1;have lj:=GH P b tl V S _ c.a1 w1 A0.out hw xt I2.k1 I2.n1 I2.i1;refine lj.mono ?_;clear lj;rintro e w2 ⟨rfl,B2⟩;have Ds:=A0.out.below B2;have EA:=γ Ds;have GO:Hid (Rf (ρ b V) (ρ b V) w w2):=(Rf.η B1).trans (.η B2);obtain⟨lg2,cg2,fg2,OU⟩ :=NI.out w2 Ds;have pP:=Ds.box.lt;have CJ:=ξ.below B2 ξ.lt;have e7:=CJ.c 7 _ rfl;have fe:=CJ.lt;have cl2:=Ds.cell 12 _ rfl;clear Ds;generalize Wm:S.holds c.a1=ho at*;clear Wm
  by_cases lh:kd=1
  ·have xo:((kd:Int)==1)=true:=by simp[lh]
   rw[decide_eq_true lh]at Eu;clear lh;cases ho
   ·have HF:Hid (μ P b tl V (S.AG k c).2 w (w2.setCell ⟨gr,k,none⟩ (.bool false)).drew):=by
     show μ _ _ _ _ _ _ _;rw[Eu.out];exact(μ.trans rfl GO.out (EA.out.FP dK.out k false)).drew
    have Bm:Hid ((S.AG k c).1=false):=by show _=_;rw[Eu.out]
    go_wp2_with fail
    go_region
    go_wp2;go_ret;exact⟨by rw[Bm.out];rfl,HF.out⟩
   ·by_cases lq:ln≤S.line
    ·have xu:(ln:Int)≤((S.line:Nat):Int):=by omega
     rw[decide_eq_true lq]at Eu;clear lq;have HF:Hid (μ P b tl V (S.AG k c).2 w (w2.setCell ⟨gr,k,none⟩ (.bool false)).drew):=by
      show μ _ _ _ _ _ _ _;rw[Eu.out];exact(μ.trans rfl GO.out (EA.out.FP dK.out k false)).drew
     have Bm:Hid ((S.AG k c).1=true):=by show _=_;rw[Eu.out]
     go_wp2_with fail
     go_region
     go_wp2;go_ret;exact⟨by rw[Bm.out];rfl,HF.out⟩
    ·have xu:¬(ln:Int)≤((S.line:Nat):Int):=by omega
     rw[decide_eq_false lq]at Eu;have HCP:Hid _:=lq;clear lq;have HF:Hid (μ P b tl V (S.AG k c).2 w (w2.setCell ⟨gr,k,none⟩ (.bool true)).drew):=by
      show μ _ _ _ _ _ _ _;rw[Eu.out];exact(μ.trans rfl GO.out (EA.out.FP dK.out k true)).drew
     have Bm:Hid ((S.AG k c).1=true):=by show _=_;rw[Eu.out]
     go_wp2_with fail
     go_region
     go_wp2;go_ret;refine⟨by rw[Bm.out];rfl,?_⟩
     first|exact HF.out| (rw[decide_eq_false HCP.out];exact HF.out)
  ·have xo:((kd:Int)==1)=false:=by simp;omega
   rw[decide_eq_false lh]at Eu;clear lh;cases ho
   ·have HF:Hid (μ P b tl V (S.AG k c).2 w (w2.setCell ⟨gr,k,none⟩ (.bool false)).drew):=by
     show μ _ _ _ _ _ _ _;rw[Eu.out];exact(μ.trans rfl GO.out (EA.out.FP dK.out k false)).drew
    have Bm:Hid ((S.AG k c).1=false):=by show _=_;rw[Eu.out]
    go_wp2_with fail
    go_region
    go_wp2;go_ret;exact⟨by rw[Bm.out];rfl,HF.out⟩
   ·have HF:Hid (μ P b tl V (S.AG k c).2 w (w2.setCell ⟨gr,k,none⟩ (.bool true)).drew):=by
     show μ _ _ _ _ _ _ _;rw[Eu.out];exact(μ.trans rfl GO.out (EA.out.FP dK.out k true)).drew
    have Bm:Hid ((S.AG k c).1=true):=by show _=_;rw[Eu.out]
    go_wp2_with fail
    go_region
    go_wp2;go_ret;exact⟨by rw[Bm.out];rfl,HF.out⟩
 ·rw[if_pos rfl]at Eu
  go_enter func217,ntmps217
  go_wp2_with(first
   | (refine AU rfl _ rfl [.int .i64 (c.cnt:Nat),.int .i64 (c.a1.kind:Nat),.int .i64 (c.a1.line:Nat),.bool c.a1.ex.head,.bool c.a1.ex.tail,.slice p1 c.a1.ex.l.length q1,.int .i64 (kd:Nat),.int .i64 (ln:Nat),.bool c.a2.ex.head,.bool c.a2.ex.tail,.slice p2 c.a2.ex.l.length q2,.bool c.no] rfl FY ?_
      intro w1 ξ B1 CE;have Bo:=HH.out.below B1;have A0:=γ Bo;obtain⟨xq,xr,_,E2⟩ :=NI.out w1 Bo;have Dx:=Bo.box.lt;have d6:=ξ.c 6 _ rfl;have LA:=ξ.lt;clear Bo)
   |refine D7 Xz ξ (o:=6) rfl rfl rfl _ rfl rfl ?_)
  have I2:=HK.out;have xt:L3 w1 _ c.a2:=Hy.out.below B1;have lj:=GH P b tl V S _ c.a2 w1 A0.out hw xt I2.k2 I2.n2 I2.i2;refine lj.mono ?_;clear lj;rintro e w2 ⟨rfl,B2⟩;have Ds:=A0.out.below B2;have EA:=γ Ds;have GO:Hid (Rf (ρ b V) (ρ b V) w w2):=(Rf.η B1).trans (.η B2);obtain⟨lg2,cg2,fg2,OU⟩ :=NI.out w2 Ds;have pP:=Ds.box.lt;have CJ:=ξ.below B2 ξ.lt;have e7:=CJ.c 7 _ rfl;have fe:=CJ.lt;have cl2:=Ds.cell 12 _ rfl;clear Ds;generalize Wm:S.holds c.a2=ho at*;clear Wm
  by_cases lh:kd=1
  ·have xo:((kd:Int)==1)=true:=by simp[lh]
   rw[decide_eq_true lh]at Eu;clear lh;cases ho
   ·by_cases lq:ln<S.line
    ·have xu:(ln:Int)<((S.line:Nat):Int):=by omega
     rw[decide_eq_true lq]at Eu;clear lq;have HF:Hid (μ P b tl V (S.AG k c).2 w (w2.setCell ⟨gr,k,none⟩ (.bool false)).drew):=by
      show μ _ _ _ _ _ _ _;rw[Eu.out];exact(μ.trans rfl GO.out (EA.out.FP dK.out k false)).drew
     have Bm:Hid ((S.AG k c).1=true):=by show _=_;rw[Eu.out]
     go_wp2_with fail
     go_region
     go_wp2;go_ret;exact⟨by rw[Bm.out];rfl,HF.out⟩
    ·have xu:¬(ln:Int)<((S.line:Nat):Int):=by omega
     rw[decide_eq_false lq]at Eu;have HCP:Hid _:=lq;clear lq;have HF:Hid (μ P b tl V (S.AG k c).2 w (w2.setCell ⟨gr,k,none⟩ (.bool true)).drew):=by
      show μ _ _ _ _ _ _ _;rw[Eu.out];exact(μ.trans rfl GO.out (EA.out.FP dK.out k true)).drew
     have Bm:Hid ((S.AG k c).1=true):=by show _=_;rw[Eu.out]
     go_wp2_with fail
     go_region
     go_wp2;go_ret;refine⟨by rw[Bm.out];rfl,?_⟩
     first|exact HF.out| (rw[decide_eq_false HCP.out];exact HF.out)
   ·have HF:Hid (μ P b tl V (S.AG k c).2 w (w2.setCell ⟨gr,k,none⟩ (.bool false)).drew):=by
     show μ _ _ _ _ _ _ _;rw[Eu.out];exact(μ.trans rfl GO.out (EA.out.FP dK.out k false)).drew
    have Bm:Hid ((S.AG k c).1=true):=by show _=_;rw[Eu.out]
    go_wp2_with fail
    go_region
    go_wp2;go_ret;exact⟨by rw[Bm.out];rfl,HF.out⟩
  ·have xo:((kd:Int)==1)=false:=by simp;omega
   rw[decide_eq_false lh]at Eu;clear lh;cases ho
   ·have HF:Hid (μ P b tl V (S.AG k c).2 w (w2.setCell ⟨gr,k,none⟩ (.bool true)).drew):=by
     show μ _ _ _ _ _ _ _;rw[Eu.out];exact(μ.trans rfl GO.out (EA.out.FP dK.out k true)).drew
    have Bm:Hid ((S.AG k c).1=true):=by show _=_;rw[Eu.out]
    go_wp2_with fail
    go_region
    go_wp2;go_ret;exact⟨by rw[Bm.out];rfl,HF.out⟩
   ·have HF:Hid (μ P b tl V (S.AG k c).2 w (w2.setCell ⟨gr,k,none⟩ (.bool false)).drew):=by
     show μ _ _ _ _ _ _ _;rw[Eu.out];exact(μ.trans rfl GO.out (EA.out.FP dK.out k false)).drew
    have Bm:Hid ((S.AG k c).1=true):=by show _=_;rw[Eu.out]
    go_wp2_with fail
    go_region
    go_wp2;go_ret;exact⟨by rw[Bm.out];rfl,HF.out⟩
def KQ(Ec:List (List Value))(w:World)(v:Value)(cs:List Cm):Prop:=∃a q,v= .slice a cs.length q∧∀k(h:k<cs.length),∃g,a=some ⟨g,0,none⟩∧g<w.heap.size∧∃(h':k<Ec.length),w.rangeAt g (k*25) Ec[k]∧BK w Ec[k] cs[k]
def zAd:List Value:= [.int .i64 0,.int .i64 0,.int .i64 0,.bool false,.bool false,.slice none 0 0,.int .i64 0,.int .i64 0,.bool false,.bool false,.slice none 0 0,.bool false]
theorem q8:∀v∈zAd,v.oneCell'=true:=by decide
theorem aX{w:World}{g o:Nat}{vs:List Value}(h:w.rangeAt g o vs)(n:Nat):w.rangeAt g o (vs.take n):=fun j u hu=>by
 rw[List.getElem?_take]at hu;split at hu
 ·exact h j u hu
 ·cases hu
theorem Tn(Ec:List (List Value))(P:Value→World→Prop)(b:Nat)(tl:List Value)(V:RV)(S:St)(k:Nat)(c:Cm)(w:World)(h:π P b tl V S w)(hw:WF S)(hP:∀w,P V.AZ w→KQ Ec w V.AZ S.cs)(hc:S.cs[k]? =some c):
  Calls prog 182 #[.pointer (some ⟨b,0,none⟩),.int .i64 (k:Nat)] w fun e w'=>lg P b tl V (S.AI k c) w e w':=by
 have TF:Hid (S.AI k c=if c.cnt=0 then(true,S)else if c.cnt=1 then(S.holds c.a1 !=c.no,S)else((S.AG k c).1 !=c.no,(S.AG k c).2)):=rfl;obtain⟨Ez,F6⟩ :=List.getElem?_eq_some_iff.1 hc;have xv:=hw.cm c (List.mem_of_getElem? hc);have q9:=xv.cn;have hnc:=hw.nc;have HK:=γ xv;have pQ:Hid (k<S.AM.length):=by show _<_;rw[hw.rg];exact Ez
 obtain⟨aS,qs,Fb,Co⟩ :=hP w h.AZ.out;obtain⟨g,rfl,hg,GQ,hr,Oz⟩ :=Co k Ez;generalize Ec[k]=vs at*;rw[F6]at Oz;have ACy:=Oz.len;obtain⟨A1,A2,Z3,xw,xy⟩ :=Oz.ACx;have q7:=γ xw;have Hy:=γ xy;have aY:=aX hr 12;rw[Z3]at aY;have lu:A1.length=5:=by obtain⟨p,q,rfl,_⟩ :=xw;rfl
 have rA:A2.length=5:=by obtain⟨p,q,rfl,_⟩ :=xy;rfl
 have FY:∀v∈ [Value.int .i64 (c.cnt:Nat)]++A1++A2++ [Value.bool c.no],v.oneCell'=true:=by
  rw[←Z3];exact fun v hv=>Oz.one v (List.mem_of_mem_take hv)
 obtain⟨VS,pN⟩ :∃VS,[Value.int .i64 (c.cnt:Nat)]++A1++A2++ [Value.bool c.no]=VS:=⟨_,rfl⟩
 have HV0:Hid (VS[0]? =some (.int .i64 (c.cnt:Nat))):=by show _=_;rw[←pN];rfl
 have uu:Hid (VS.length=12):=by show _=_;rw[←pN];simp[lu,rA]
 have xz:Hid (VS[11]? =some (.bool c.no)):=by
  show _=_;rw[←pN,List.getElem?_append_right (by simp[lu,rA])];simp[lu,rA]
 have HVA:Hid ((VS.drop 1).take 5=A1):=by
  show _=_;rw[←pN];simp[lu]
 have fg:=γ pN.symm;rw[pN]at aY FY;have HH:=γ h;have Bq:=h.box.lt;have c0:=h.cell 0 _ rfl;have c0':w.cell? ⟨b,0,none⟩ =some (.slice (some ⟨g,0,none⟩) S.cs.length qs):=by rw[c0];show some V.AZ=_;rw[Fb]
 obtain⟨n,hn⟩ :∃n,S.cs.length=n:=⟨_,rfl⟩
 rw[hn]at c0' Ez hnc;obtain⟨cn,AAy⟩ :∃x,c.cnt=x:=⟨_,rfl⟩
 rw[AAy]at HV0 q9 TF;have EW:¬(k:Int)<0:=by omega
 have Ep:¬(n:Int)≤(k:Int):=by omega
 have Px:(k:Int)<(n:Int):=by omega
 have L8:(0:Int)≤(k:Int):=by omega
 have Cq:CB (w.alloc (.cells zAd.toArray 141)) w.heap.size zAd:=CB.new w _ _ q8;have BA:Below w.heap.size w (w.alloc (.cells zAd.toArray 141)):=ζ.alloc δ _;have ZF:=(zero_of_info (show(prog.info? 141).map (fun i=>(i.zero,i.size))=some (some (.agg zAd.toArray),12)by kernel_rfl)).1;clear h hc F6 xv Fb Co hr Oz ACy Z3 xw xy pN c0 hn AAy lu rA
 go_enter func182,ntmps182
 go_upto_region 4 with(first
  |refine BX lG aY uu.out rfl _ rfl rfl ?_
  | (refine θ lG Cq rfl rfl _ _ rfl rfl rfl uu.out FY ?_
     intro w1 ξ O1;have B1:=BA.trans (O1.below (B:=w.heap.size) δ);have A0:=γ (HH.out.below B1);have Bm:Hid (Rf (ρ b V) (ρ b V) w w1):= .η B1;have d0:=ξ.c 0 _ HV0.out;have d11:=ξ.c 11 _ xz.out;have lb:=ξ.lt;have Dx:=A0.out.box.lt))
 clear c0' aY Cq BA
 by_cases h0:cn=0
 ·subst h0
  rw[if_pos rfl]at TF;go_wp2;go_ret;refine⟨by rw[TF.out];rfl,?_⟩;rw[TF.out];exact⟨V,rfl,A0.out,Bm.out⟩
 have KA:((cn:Int)==0)=false:=by simp;omega
 rw[if_neg h0]at TF
 by_cases h1:cn=1
 ·subst h1
  rw[if_pos rfl]at TF;have I2:=HK.out;clear h0
  go_wp2_with(refine D7 Xz ξ (o:=1) HVA.out (by rw[←HVA.out,List.length_take,List.length_drop,uu.out];rfl) rfl _ rfl rfl ?_)
  refine(GH P b tl V S A1 c.a1 w1 A0.out hw (q7.out.below B1) I2.k1 I2.n1 I2.i1).mono ?_;rintro e w2 ⟨rfl,B2⟩;have CJ:=ξ.below B2 ξ.lt;have e11:=CJ.c 11 _ xz.out;have fe:=CJ.lt;have HF:Hid (μ P b tl V (S.AI k c).2 w w2):=by
   show μ _ _ _ _ _ _ _;rw[TF.out];exact⟨V,rfl,A0.out.below B2,Bm.out.trans (.η B2)⟩
  have Bm:Hid ((S.AI k c).1=(S.holds c.a1 !=c.no)):=by show _=_;rw[TF.out]
  generalize S.holds c.a1=x at*;generalize c.no=y at*;clear TF;cases x<;>cases y
  all_goals
   go_wp2;go_ret;exact⟨by rw[Bm.out];rfl,HF.out⟩
 have Pr:((cn:Int)==1)=false:=by simp;omega
 rw[if_neg h1]at TF;clear h0 h1;have NI:=Tm P b tl V S k A1 A2 c w1 A0.out hw (q7.out.below B1) (Hy.out.below B1) HK.out pQ.out;rw[←fg.out]at NI
 go_wp2_with(refine ω lG ξ uu.out rfl _ rfl rfl ?_)
 refine NI.mono ?_;clear NI;rintro e w2 ⟨rfl,V2,Fw,Ds,JW⟩;have Nd:¬ρ b V w.heap.size:=fun hf=>by have:=FM HH.out _ hf;omega
 have CJ:=ξ.keep (JW.block _ ξ.lt Nd) JW.size;have e11:=CJ.c 11 _ xz.out;have fe:=CJ.lt;have HF:Hid (μ P b tl V (S.AI k c).2 w w2):=by
  show μ _ _ _ _ _ _ _;rw[TF.out];exact⟨V2,Fw,Ds,Bm.out.trans JW⟩
 have Bm:Hid ((S.AI k c).1=((S.AG k c).1 !=c.no)):=by show _=_;rw[TF.out]
 clear Ds JW Fw TF;generalize(S.AG k c).1=x at*;generalize c.no=y at*;cases x<;>cases y
 all_goals
  go_wp2;go_ret;exact⟨by rw[Bm.out];rfl,HF.out⟩
end Go.Proofs.YtlppphmnegdhoabGreatDoor
