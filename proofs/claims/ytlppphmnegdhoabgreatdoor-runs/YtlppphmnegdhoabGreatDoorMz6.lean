import Derived.Test.YtlppphmnegdhoabGreatDoorMz5
set_option maxRecDepth 100000
set_option linter.unusedVariables false
set_option maxHeartbeats 4000000
namespace Go.Proofs.YtlppphmnegdhoabGreatDoor
open Go.Proofs.Tryz
open Go.RowKit
open M
theorem uD{m:Nat}(h:¬m=0):DR m= [⟨0,(m:Int),⟨#[]⟩⟩]:=if_neg h
theorem uE{m:Nat}(h:¬m=0):CU m= [⟨1,(m:Int),⟨#[]⟩⟩]:=if_neg h
theorem uF{s:List UInt8}{t:ByteArray}(h:t.data.toList=s)(hs:¬s.length=0):Cp s= [⟨2,(s.length:Int),t⟩]:=by
 have h1:¬s= []:=fun e=>hs (by rw[e];rfl)
 have h2:(⟨⟨s⟩⟩ :ByteArray)=t:=Zc h.symm;unfold Cp;rw[if_neg h1,h2]
theorem J5(b:Nat)(S:SL)(vo vr:Value)(w:World)(h:Dp b w S vo vr)(hm:S.m≤65536)(hd:S.d≤65536)(hs:S.s.length≤65536)(ho:S.out.length≤1048576):
  Calls prog 171 #[.pointer (some ⟨b,0,none⟩)] w fun e w'=>e= .returned (.tuple #[])∧(∃dt,Dp b w' ⟨S.fin,0,0,[]⟩ dt (.slice none 0 0)∧Fr b vo w w' dt)∧Below b w w':=by
 obtain⟨i0,hi,DF,CN,Dq⟩ :=info_parts Tryz.jN;obtain⟨L,m,d,s⟩ :=S;simp only at hm hd hs ho;obtain⟨ar,cr,aW⟩ :=κ h.s;simp only at aW;subst aW
 go_enter func171,ntmps171
 have Ac:=h.lt;obtain⟨c0,c1,c2,c3,f0,f1,f2,f3⟩ :=h.box;simp only at c0 c1 c2 c3
 go_upto_if 6 with fail
 go_cut [] (fun wx=>∃v1,Dp b wx ⟨L++DR m,m,d,s⟩ v1 (.slice ar s.length cr)∧Fr b vo w wx v1∧Below b w wx)
 case first=>
  by_cases OO:m=0
  ·have LW:¬(0:Int)<(m:Int):=by omega
   have HM:=γ OO;clear OO;go_wp2
   go_meet
   exact⟨vo,by simpa[DR,HM.out]using h,Fr.refl _ _ _,ζ⟩
  ·have LW:(0:Int)<(m:Int):=by omega
   go_wp2
   go_region_law(first
    | (refine step_append_lies _ rfl (.tmp 11) (.tmp 17) 46 rfl (b+1) 69 i0 (.agg #[.int .i64 0,.int .i64 0,.string ⟨#[]⟩]) 3 32 underlying46 hi DF CN Dq rfl (by decide) vo L.length (C6 L) (by simp[Act.eval]) (World.ownsRow.drew (World.ownsRow.alloc h.out _)) ⟨w.heap.size,0,none⟩ 1 1 (recC ⟨0,(m:Int),⟨#[]⟩⟩) (by simp[Act.eval]) rfl (fun j u h=>NL w _ _ j u h) (Iy _) (by decide) (by unfold maxLen;omega) (by omega) (by simp;omega) (w.heap.size+1) (by simp) ?_
       intro g cap w3 Γ AE Ea _;have FR:(w.alloc (.cells #[.int .i64 0,.int .i64 (m:Int),.string ⟨#[]⟩] 69)).grownBy w3 vo.ownBlock:=⟨AE.os,AE.tape,AE.output,AE.size,AE.block⟩
       obtain⟨CM,Gv,Hx,TD⟩ :=h.WZ Γ FR rfl Ea;obtain⟨y0,y1,y2,y3,e0,e1,e2,e3⟩ :=CM;clear Γ AE FR Ea c0 c1 c2 c3 f0 f1 f2 f3))
   all_goals(go_wp2;go_meet)
   all_goals exact⟨_,by rw[uD OO];exact Gv,TD,Hx⟩
 case rest=>
  clear c0 c1 c2 c3 f0 f1 f2 f3 h Ac;obtain⟨v1,h,F1,B1⟩ :=hcut;have Ks:(L++DR m).length≤1048577:=by rw[List.length_append];unfold DR;split<;>simp<;>omega
  have HF:Hid ((L++DR m)++(CU d++Cp s)=SL.fin ⟨L,m,d,s⟩):=by show _=_;simp[SL.fin]
  generalize L++DR m=L1 at*;have Ac:=h.lt;obtain⟨c0,c1,c2,c3,f0,f1,f2,f3⟩ :=h.box;simp only at c0 c1 c2 c3
  go_upto_if 25 with fail
  go_cut [] (fun wx=>∃v1,Dp b wx ⟨L1++CU d,m,d,s⟩ v1 (.slice ar s.length cr)∧Fr b vo w wx v1∧Below b w wx)
  case first=>
   by_cases OO:d=0
   ·have LW:¬(0:Int)<(d:Int):=by omega
    have HM:=γ OO;clear OO;go_wp2
    go_meet
    exact⟨v1,by simpa[CU,HM.out]using h,F1,B1⟩
   ·have LW:(0:Int)<(d:Int):=by omega
    go_wp2
    go_region_law(first
     | (refine step_append_lies _ rfl (.tmp 30) (.tmp 36) 46 rfl (b+1) 69 i0 (.agg #[.int .i64 0,.int .i64 0,.string ⟨#[]⟩]) 3 32 underlying46 hi DF CN Dq rfl (by decide) v1 L1.length (C6 L1) (by simp[Act.eval]) (World.ownsRow.drew (World.ownsRow.alloc h.out _)) ⟨wc.heap.size,0,none⟩ 1 1 (recC ⟨1,(d:Int),⟨#[]⟩⟩) (by simp[Act.eval]) rfl (fun j u h=>NL wc _ _ j u h) (Iy _) (by decide) (by unfold maxLen;omega) (by omega) (by simp;omega) (wc.heap.size+1) (by simp) ?_
        intro g cap w3 Γ AE Ea _;have FR:(wc.alloc (.cells #[.int .i64 1,.int .i64 (d:Int),.string ⟨#[]⟩] 69)).grownBy w3 v1.ownBlock:=⟨AE.os,AE.tape,AE.output,AE.size,AE.block⟩
        obtain⟨CM,Gv,Hx,TD⟩ :=h.WZ Γ FR rfl Ea;obtain⟨y0,y1,y2,y3,e0,e1,e2,e3⟩ :=CM;clear Γ AE FR Ea c0 c1 c2 c3 f0 f1 f2 f3))
    all_goals(go_wp2;go_meet)
    all_goals exact⟨_,by rw[uE OO];exact Gv,F1.trans B1.size TD,B1.trans Hx⟩
  case rest=>
   clear c0 c1 c2 c3 f0 f1 f2 f3 h Ac B1 F1;obtain⟨v2,h,F1,B1⟩ :=hcut;have iY:(L1++CU d).length≤1048578:=by rw[List.length_append];unfold CU;split<;>simp<;>omega
   rw[←List.append_assoc]at HF;generalize L1++CU d=L2 at*;have Ac:=h.lt;obtain⟨c0,c1,c2,c3,f0,f1,f2,f3⟩ :=h.box;simp only at c0 c1 c2 c3
   go_upto_if 45 with fail
   go_cut [] (fun wx=>∃v1,Dp b wx ⟨L2++Cp s,m,d,s⟩ v1 (.slice ar s.length cr)∧Fr b vo w wx v1∧Below b w wx)
   case first=>
    by_cases OO:s.length=0
    ·have LW:¬(0:Int)<(s.length:Int):=by omega
     have HM:=γ (List.length_eq_zero_iff.1 OO);clear OO;go_wp2
     go_meet
     exact⟨v2,by simpa[Cp,HM.out]using h,F1,B1⟩
    ·have LW:(0:Int)<(s.length:Int):=by omega
     obtain⟨t,ht,hr⟩ :=OJ (A:=s) h.s;obtain⟨t',ht',R1⟩ :=OJ (A:=s) (World.ownsRow.drew h.s);obtain rfl:t=t':=Zc (ht.trans ht'.symm);have HR:=γ (uF ht OO);clear ht ht';go_wp2
     go_region_law(first
      | (refine step_append_lies _ rfl (.tmp 50) (.tmp 62) 46 rfl (b+1) 69 i0 (.agg #[.int .i64 0,.int .i64 0,.string ⟨#[]⟩]) 3 32 underlying46 hi DF CN Dq rfl (by decide) v2 L2.length (C6 L2) (by simp[Act.eval]) (World.ownsRow.drew (World.ownsRow.alloc h.out _)) ⟨wc.heap.size,0,none⟩ 1 1 (recC ⟨2,(s.length:Int),t⟩) (by simp[Act.eval]) rfl (fun j u h=>NL wc _ _ j u h) (Iy _) (by decide) (by unfold maxLen;omega) (by omega) (by simp;omega) (wc.heap.size+1) (by simp) ?_
         intro g cap w3 Γ AE Ea _;have FR:(wc.alloc (.cells #[.int .i64 2,.int .i64 (s.length:Int),.string t] 69)).grownBy w3 v2.ownBlock:=⟨AE.os,AE.tape,AE.output,AE.size,AE.block⟩
         obtain⟨CM,Gv,Hx,TD⟩ :=h.WZ Γ FR rfl Ea;obtain⟨y0,y1,y2,y3,e0,e1,e2,e3⟩ :=CM;clear Γ AE FR Ea c0 c1 c2 c3 f0 f1 f2 f3))
     all_goals(go_wp2;go_meet)
     all_goals exact⟨_,by rw[HR.out];exact Gv,F1.trans B1.size TD,B1.trans Hx⟩
   case rest=>
    clear c0 c1 c2 c3 f0 f1 f2 f3 h Ac B1 F1;obtain⟨v3,h,F1,B1⟩ :=hcut;rw[HF.out]at h;have Ac:=h.lt;obtain⟨c0,c1,c2,c3,f0,f1,f2,f3⟩ :=h.box;simp only at c0 c1 c2 c3;go_wp2
    go_end0
    refine⟨rfl,⟨v3,?_,((F1.set _ _).set _ _).set _ _⟩,?_⟩
    ·exact((h.Ey 0).DN 0).z8
    ·exact((B1.setCell (by simp) _).setCell (by simp) _).setCell (by simp) _
theorem J6{P:Program}{w:World}{ops:Array Oper}{o:Oper}{a:Act}{K:Act→World→Prop}{Q:Exit→Act→World→Prop}{E:Prop}(Fv:o.guard=none)(sl x:Operand)(t u:TypeId)
  (ho:o.op= .call {callee:= .builtin .append,args:= #[sl,x],argTypes:= #[t,u]})
  (base:Nat) (e:TypeId) (i:TypeInfo) (ht:P.underlying t=some (.slice e)) (hu:P.underlying u=some .string) (hi:P.info? e=some i) (hz:i.zero=some (.int .u8 0))
  (ACB:i.size=1) (hby:i.bytes=1)
  (v:Value) (n:Nat) (xs:List Value) (hs:a.eval sl=v) (ν:w.ownsRow base e 1 v n xs) (s:ByteArray) (hx:a.eval x= .string s)
  (h63:n+s.size≤maxLen) (AAA:n+s.size≤140737488355328) (ACC:base≤w.heap.size)
  (h:∀v' w',w'.ownsRow base e 1 v' (n+s.size) (xs++Lib.strCells s)→w.grownBy w' v.ownBlock→K (a.put o.dst v') w'):
  if Region.wanted o (yielded ops a.tmps)=true then Oper.wp P o a w K Q else E:=by
 have hw:Region.wanted o (yielded ops a.tmps)=true:=by simp[Region.wanted,Fv]
 rw[if_pos hw];obtain⟨v',w',hr,h2,h3,h4⟩ :=Lib.run_append_own_string (P:=P) w base t u o.type e i ht hu hi hz ACB hby v n xs ν s h63 AAA ACC;unfold Oper.wp execOp;simp only[ho,resolve,invoke,builtin,Sem.run_bind,Sem.run_pure,Result.andThen_ok,List.map_toArray,List.map_cons,List.map_nil,hs,hx,hr];exact h v' w' h2 h3
theorem Dp.drew{b:Nat}{w:World}{S:SL}{vo vr:Value}(h:Dp b w S vo vr):Dp b w.drew S vo vr:=
 ⟨h.box.keep rfl,h.out.drew,h.s.drew,h.lt⟩
def Far(b:Nat)(vo vr:Value)(w w':World):Prop:=∀k,k<w.heap.size→k≠b→vo.ownBlock≠some k→vr.ownBlock≠some k→w'.heap[k]? =w.heap[k]?
theorem iF(b:Nat)(S:SL)(vo vr:Value)(r:M.Rec)(w:World)(h:Dp b w S vo vr)(hr:H3 r=true)(hn:r.n≤65536)(hm:S.m≤65536)(hd:S.d≤65536)(hs:S.s.length≤65536)(ho:S.out.length≤1048576):
  Calls prog 135 #[.pointer (some ⟨b,0,none⟩),.agg #[.int .i64 r.kind,.int .i64 r.n,.string r.s]] w fun e w'=>e= .returned (.tuple #[])∧(∃dt vr',Dp b w' (S.add r) dt vr')∧Far b vo vr w w'∧Below b w w':=by
 obtain⟨i0,hi,DF,CN,Dq⟩ :=info_parts Tryz.oa;obtain⟨L,m,d,s⟩ :=S;simp only at hm hd hs ho;obtain⟨ar,cr,aW⟩ :=κ h.s;simp only at aW;subst aW;have hk:=(CO r).1 hr;obtain⟨kind,rn,rs⟩ :=r;simp only at hk hn;obtain⟨n,rfl⟩ :∃n:Nat,rn=n:=⟨rn.toNat,by omega⟩
 have Ac:=h.lt;have hro:=h.out.lt;have hrs:=h.s.lt;obtain⟨c0,c1,c2,c3,f0,f1,f2,f3⟩ :=h.box;simp only at c0 c1 c2 c3;rcases hk.2 with⟨rfl|rfl,TV⟩ | ⟨rfl,hsn⟩
 ·by_cases hp:0<d∨s≠ []
  ·have HA:Hid (SL.add ⟨L,m,d,s⟩ ⟨0,(n:Int),rs⟩ =⟨SL.fin ⟨L,m,d,s⟩,n,0,[]⟩):=(if_pos rfl).trans (if_pos hp)
   have R0:¬(0:Int)<(d:Int)→(0:Int)<(s.length:Int):=fun h1=>by
    rcases hp with hp|hp
    ·omega
    ·have:=List.length_pos_iff.2 hp;omega
   clear hp
   by_cases hd0:0<d
   ·have OX:(0:Int)<(d:Int):=by omega
    clear R0
    go_enter func135,ntmps135
    go_wp2_with fail
    refine(J5 b ⟨L,m,d,s⟩ vo (.slice ar s.length cr) _ (h.alloc _) hm hd hs ho).mono ?_;rintro e w1 ⟨rfl,⟨dt,h1,F1⟩,B1⟩;have QL:∀k,k<w.heap.size+1→k≠b→vo.ownBlock≠some k→w1.heap[k]? =(w.alloc (.cells #[.int .i64 0,.int .i64 (n:Int),.string rs] 69)).heap[k]? :=fun k EW Ep Px=>F1.1 k (by simp;omega) Ep Px
    have x1:w1.cell? ⟨w.heap.size,1,none⟩ =some (.int .i64 (n:Int)):=by
     rw[World.cell?_of_block (QL w.heap.size (by omega) (by omega) (fun e=>by have:=(hro _ e).2;omega))];simp[go_sem]
    have AV:=h1.lt;have EV:=B1.size;simp at EV;clear c0 c1 c2 c3 f0 f1 f2 f3;obtain⟨c0,c1,c2,c3,f0,f1,f2,f3⟩ :=h1.box;simp only at c0 c1 c2 c3;go_wp2
    go_region
    all_goals go_wp2
    all_goals go_end0
    all_goals refine⟨rfl,⟨dt,.slice none 0 0,?_⟩,?_,?_⟩
    ·rw[HA.out]
     exact(h1.Ey n).drew
    ·intro k EW Ep Px L8
     refine(heap_setCell_other w1 ⟨b,1,none⟩ k _ Ep).trans ?_;exact(QL k (by omega) Ep Px).trans (Below.heap_alloc _ _ _ EW)
    ·exact((((Below.refl b w).alloc (by omega) _).trans B1).setCell (by simp) _).drew
   ·have OX:¬(0:Int)<(d:Int):=by omega
    have Ks:=R0 OX;clear R0
    go_enter func135,ntmps135
    go_wp2_with fail
    refine(J5 b ⟨L,m,d,s⟩ vo (.slice ar s.length cr) _ (h.alloc _) hm hd hs ho).mono ?_;rintro e w1 ⟨rfl,⟨dt,h1,F1⟩,B1⟩;have QL:∀k,k<w.heap.size+1→k≠b→vo.ownBlock≠some k→w1.heap[k]? =(w.alloc (.cells #[.int .i64 0,.int .i64 (n:Int),.string rs] 69)).heap[k]? :=fun k EW Ep Px=>F1.1 k (by simp;omega) Ep Px
    have x1:w1.cell? ⟨w.heap.size,1,none⟩ =some (.int .i64 (n:Int)):=by
     rw[World.cell?_of_block (QL w.heap.size (by omega) (by omega) (fun e=>by have:=(hro _ e).2;omega))];simp[go_sem]
    have AV:=h1.lt;have EV:=B1.size;simp at EV;clear c0 c1 c2 c3 f0 f1 f2 f3;obtain⟨c0,c1,c2,c3,f0,f1,f2,f3⟩ :=h1.box;simp only at c0 c1 c2 c3;go_wp2
    go_region
    all_goals go_wp2
    all_goals go_end0
    all_goals refine⟨rfl,⟨dt,.slice none 0 0,?_⟩,?_,?_⟩
    ·rw[HA.out]
     exact(h1.Ey n).drew
    ·intro k EW Ep Px L8
     refine(heap_setCell_other w1 ⟨b,1,none⟩ k _ Ep).trans ?_;exact(QL k (by omega) Ep Px).trans (Below.heap_alloc _ _ _ EW)
    ·exact((((Below.refl b w).alloc (by omega) _).trans B1).setCell (by simp) _).drew
  ·have OX:¬(0:Int)<(d:Int):=by omega
   have Ks:¬(0:Int)<(s.length:Int):=fun h1=>hp (.inr (fun e=>by rw[e]at h1;simp at h1))
   have HA:Hid (SL.add ⟨L,m,d,s⟩ ⟨0,(n:Int),rs⟩ =⟨L,m+n,d,s⟩):=(if_pos rfl).trans (if_neg hp);clear hp
   go_enter func135,ntmps135
   go_wp2
   go_region
   all_goals go_wp2
   all_goals go_end0
   all_goals refine⟨rfl,⟨vo,.slice ar s.length cr,?_⟩,?_,?_⟩
   ·rw[HA.out]
    have e:(m:Int)+n=((m+n:Nat):Int):=by omega
    rw[e];exact((h.Ey (m+n)).alloc _).drew
   ·intro k EW Ep Px L8
    exact(Below.heap_alloc _ _ _ (by simpa using EW)).trans (heap_setCell_other w ⟨b,1,none⟩ k _ Ep)
   ·exact(((Below.refl b w).setCell (by simp) _).alloc (by simp;omega) _).drew
 ·have HA:Hid (SL.add ⟨L,m,d,s⟩ ⟨1,(n:Int),rs⟩ =⟨L,m,d+n,s⟩):=rfl
  go_enter func135,ntmps135
  go_wp2
  go_region
  all_goals go_wp2
  all_goals go_end0
  all_goals refine⟨rfl,⟨vo,.slice ar s.length cr,?_⟩,?_,?_⟩
  ·rw[HA.out]
   have e:(d:Int)+n=((d+n:Nat):Int):=by omega
   rw[e];exact((h.DN (d+n)).alloc _).drew
  ·intro k EW Ep Px L8
   exact(Below.heap_alloc _ _ _ (by simpa using EW)).trans (heap_setCell_other w ⟨b,2,none⟩ k _ Ep)
  ·exact(((Below.refl b w).setCell (by simp) _).alloc (by simp;omega) _).drew
 ·have HA:Hid (SL.add ⟨L,m,d,s⟩ ⟨2,(n:Int),rs⟩ =⟨L,m,d,s++rs.data.toList⟩):=rfl
  go_enter func135,ntmps135
  go_wp2
  go_region_law(first
   | (refine J6 rfl (.tmp 49) (.tmp 51) 151 9 rfl (b+1) 5 i0 underlying151 underlying9 hi DF CN Dq (.slice ar s.length cr) s.length (bu s) (by simp[Act.eval]) (h.alloc _).drew.s rs (by simp[Act.eval]) (by unfold maxLen;omega) (by omega) (by simp;omega) ?_
      intro v' w3 Γ AE;obtain⟨a',c',hv'⟩ :=κ Γ;subst hv';obtain⟨CM,Gv,Hx,TD⟩ :=(h.alloc _).drew.ACA Γ AE;obtain⟨y0,y1,y2,y3,e0,e1,e2,e3⟩ :=CM;clear Γ AE c0 c1 c2 c3 f0 f1 f2 f3))
  all_goals go_wp2
  all_goals go_end0
  all_goals refine⟨rfl,⟨vo,.slice a' (s.length+rs.size) c',?_⟩,?_,?_⟩
  all_goals first
   | (rw[HA.out];exact Gv)
   | (intro k EW Ep Px L8;exact(TD k (by simp;omega) Ep L8).trans (Below.heap_alloc _ _ _ EW))
   |exact((Below.refl b w).alloc (by omega) _).drew.trans Hx
theorem iG(b:Nat)(S:SL)(vo vr:Value)(w:World)(h:Dp b w S vo vr)(hm:S.m≤65536)(hd:S.d≤65536)(hs:S.s.length≤65536)(ho:S.out.length≤1048576):
  Calls prog 136 #[.pointer (some ⟨b,0,none⟩)] w fun e w'=>∃v,e= .returned v∧w'.ownsRow (b+1) 69 3 v S.fin.length (C6 S.fin)∧Below b w w':=by
 go_enter func136,ntmps136
 go_wp2_with fail
 refine(J5 b S vo vr _ h hm hd hs ho).mono ?_;rintro e w1 ⟨rfl,⟨dt,h1,F1⟩,B1⟩;obtain⟨c0,c1,c2,c3,f0,f1,f2,f3⟩ :=h1.box;obtain⟨a1,k1,hv⟩ :=κ h1.out;simp only at hv;have Ac:=h1.lt;have ν:=h1.out;simp only at ν;subst hv;go_wp2;go_ret;exact⟨_,rfl,ν,B1⟩
theorem SL.bounds{S:SL}{es:List Ev}(h:S.Is es)(hA:Jg es≤4096)(hB:KJ es≤4096):S.m≤65536∧S.d≤65536∧S.s.length≤65536∧S.out.length≤1048576:=by
 have h1:=S.lens;have h2:=NZ es;have h3:=NY es;rw[←SL.nu h]at h2 h3;have h4:C5 S.out:=fun r hr=>h3 r (List.mem_append_left _ hr)
 have h5:=count_le S.out h4;have h6:=U5 S.out h4;have h7:=U6 S.out h4;omega
theorem Dp.new(w:World)(t:TypeId):Dp w.heap.size (w.alloc (.cells #[.slice none 0 0,.int .i64 0,.int .i64 0,.slice none 0 0] t)) ⟨[],0,0,[]⟩ (.slice none 0 0) (.slice none 0 0):=by
 refine⟨?_,World.ownsRow_nil _ _ _ _,World.ownsRow_nil _ _ _ _,by simp⟩
 constructor<;>simp[go_sem]
theorem Sq(n c:Nat)(ad:Option Addr)(l:List M.Rec)(w:World)(Cw:Jf w ad n l)(Fx:C5 l)(hA:DG l≤4096)(hB:DH l≤4096):
  Calls prog 97 #[.slice ad n c] w fun e w'=>∃v,e= .returned v∧w'.ownsRow w.heap.size 69 3 v (norm (BH l)).length (C6 (norm (BH l)))∧Below w.heap.size w w':=by
 have hn:=Cw.len;subst hn;have DL:=count_le l Fx
 go_enter func97,ntmps97
 go_wp2
 go_loopw [8] (fun i wr=>∃(k:Nat)(S:SL)(vo vr:Value),k≤l.length∧i= .int .i64 k∧Dp w.heap.size wr S vo vr∧S.Is (BH (l.take k))∧Below w.heap.size w wr) (fun i _=>l.length - (intOf i).toNat)
 case atStart=>exact⟨0,⟨[],0,0,[]⟩,_,_,ε,rfl,Dp.new w _,SL.zR,ζ.alloc δ _⟩
 case round=>
  obtain⟨k,S,vo,vr,hk,rfl,hS,hI,B⟩ :=hrel;have hz:=B.size;have hex:=RF l Fx;have pj:Jg (BH (l.take k))≤4096∧KJ (BH (l.take k))≤4096:=by
   have e:=CK (l.take k) (l.drop k);rw[List.take_append_drop]at e;rw[e,Fg,Fh]at hex;omega
  obtain⟨b1,b2,b3,b4⟩ :=SL.bounds hI pj.1 pj.2
  by_cases Ac:k<l.length
  ·have AV:(k:Int)<(l.length:Int):=by omega
   have CQ:l≠ []:=fun h=>by rw[h]at Ac;simp at Ac
   obtain⟨bk,off,ha',ND,G6⟩ :=Cw.cells.resolve_left CQ;obtain⟨c0,c1,c2⟩ :=G6 k Ac;have d0:=(B.cell (by exact ND)).trans c0;have d1:=(B.cell (by exact ND)).trans c1;have d2:=(B.cell (by exact ND)).trans c2;have VE:=Fx l[k] (List.getElem_mem Ac);have uU:=jM l Fx hA hB l[k] (List.getElem_mem Ac);have HI:Hid ((S.add l[k]).Is (BH (l.take (k+1)))):=by
    show SL.Is _ _;rw[jq l k Ac];exact SL.zW hI VE
   clear G6 c0 c1 c2 CQ hex pj hI;subst ha';generalize l[k]=r at*
   go_wp2_with fail
   refine(iF w.heap.size S vo vr r _ (hS.alloc _) VE (by omega) b1 b2 b3 b4).mono ?_;rintro e w1 ⟨rfl,⟨dt,vr',h1⟩,F1,B1⟩;have B2:Below w.heap.size w w1:=(B.alloc (by omega) _).trans B1;go_wp2
   go_roundw
   case rel=>exact⟨k+1,S.add r,dt,vr',by omega,by go_num,h1,HI.out,B2⟩
   case measure=>simp[intOf];omega
  ·obtain rfl:k=l.length:=by omega
   rw[List.take_length]at hI;have HF:=γ (SL.nu hI);clear hI pj hex
   go_wp2_with fail
   refine(iG w.heap.size S vo vr _ hS b1 b2 b3 b4).mono ?_;rintro e w1 ⟨v,rfl,own,B1⟩;rw[HF.out]at own;obtain⟨a1,k1,hv⟩ :=κ own;have bP:=AH own (Nat.le_succ _);clear HF own;generalize Im:norm (BH l)=nl at bP hv;have HN:=γ Im;clear Im;subst hv;go_wp2;go_ret;exact⟨_,rfl,by rw[HN.out];exact bP,B.trans B1⟩
theorem iM{d:Nat}(h:d≠0):CU d= [⟨1,(d:Int),⟨#[]⟩⟩]:=by simp[CU,h]
theorem iN{d:Nat}(h:d≠0):DR d= [⟨0,(d:Int),⟨#[]⟩⟩]:=by simp[DR,h]
theorem iO{s:List UInt8}{t:ByteArray}(h:s≠ [])(ht:t.data.toList=s):Cp s= [⟨2,(t.size:Int),t⟩]:=by
 have e:t=⟨⟨s⟩⟩ :=Zc ht;have:=Δ t;rw[ht]at this;simp only[Cp,if_neg h];rw[this,e]
structure JS(w wr:World)(af ab:Option Addr)(nf cf nk cb:Nat):Prop where
 x0:wr.cell? ⟨w.heap.size,0,none⟩ =some (.slice af nf cf)
 x1:wr.cell? ⟨w.heap.size,1,none⟩ =some (.slice ab nk cb)
 below:Below w.heap.size w wr
 size:w.heap.size+1≤wr.heap.size
theorem JS.keep{w wr wc:World}{af ab:Option Addr}{nf cf nk cb:Nat}(h:JS w wr af ab nf cf nk cb)(hb:Below (w.heap.size+1) wr wc):JS w wc af ab nf cf nk cb:=
 ⟨(hb.cell (by simp)).trans h.x0,(hb.cell (by simp)).trans h.x1,h.below.trans (hb.mono (by omega)),by have:=hb.size;have:=h.size;omega⟩
theorem Sx{w wr w3:World}{af ab:Option Addr}{nf cf nk cb:Nat}{o:Obj}{v:Value}{n:Nat}{xs:List Value}(h:JS w wr af ab nf cf nk cb)(ν:wr.ownsRow (w.heap.size+1) 69 3 v n xs)(hg:(wr.alloc o).grownBy w3 v.ownBlock):JS w w3 af ab nf cf nk cb:=
 h.keep (((Below.refl (w.heap.size+1) wr).alloc h.size o).grown hg (by have:=h.size;simp;omega) (fun k hk=>(ν.lt k hk).1))
def Uz(es:List Ev)(w w':World)(e:Ending):Prop:=
 ∃v,e= .returned v∧w'.ownsRow w.heap.size 69 3 v (norm es).length (C6 (norm es))∧Below w.heap.size w w'
theorem ZA(B:Nat)(vf vb:Value)(es:List Ev)(w:World)(tw:Twin B w vf vb (Dj 0 es) (EC es))(hA:Jg es≤4096)(hB:KJ es≤4096):
  Calls prog 80 #[.agg #[vf,vb]] w fun e w'=>Uz es w w' e:=by
 obtain⟨i0,hi,DF,CN,Dq⟩ :=info_parts Tryz.jN;obtain⟨af,cf,jw⟩ :=κ tw.f;obtain⟨ab,cb,S6⟩ :=κ tw.k;subst jw S6;have hF:=Na tw.f;have hK:=Na tw.k;have BZ:=RJ.start es;have ZJ:(Dj 0 es).length≤4096:=by rw[NU];exact hB
 have GQ:(EC es).length≤4096:=by rw[FA];exact hA
 have CF:(norm es).length≤8192:=by have:=Zp es;omega
 unfold Uz;clear tw hA hB;generalize Dj 0 es=F at*;generalize EC es=K at*;generalize norm es=all at*
 go_enter func80,ntmps80
 go_wp2
 go_loopw [3,4,5] (fun v x y wr=>∃(a b:Nat)(L:List M.Rec)(bs:List OP),x= .int .i64 a∧y= .int .i64 b∧Hid (RJ F K L all bs a b)∧wr.ownsRow (w.heap.size+1) 69 3 v L.length (C6 L)∧JS w wr af ab F.length cf K.length cb) (fun _ x y _=>(K.length - (intOf x).toNat)+(F.length - (intOf y).toNat))
 case atStart=>
  refine⟨0,0,[],_,rfl,rfl,BZ,World.ownsRow_nil _ _ _ _,?_,?_,?_,?_⟩
  ·simp[go_sem]
  ·simp[go_sem]
  ·exact ζ.alloc δ _
  ·simp
 case round=>
  obtain⟨a,b,L,bs,rfl,rfl,HS,ν,Qg⟩ :=hrel;obtain⟨x0,x1,B0,hz⟩ :=Qg;cases bs with
  |nil=>
   obtain⟨ea,eb,eL⟩ :=HS.out.fin;have h1:¬(a:Int)<(K.length:Int):=by omega
   have h2:¬(b:Int)<(F.length:Int):=by omega
   clear ea eb;subst eL;go_wp2;go_ret;exact⟨_,rfl,AH ν (by omega),B0⟩
  |cons blk bs=>
   have HR:=γ HS.out.round;have hab:a≤K.length∧b≤F.length:=⟨HS.out.ha,HS.out.hb⟩
   have hLl:L.length+3≤8195:=by have h:=congrArg List.length HS.out.out;rw[List.length_append]at h;omega
   have hLd:(L++CU blk.d).length≤8192∧(L++CU blk.d++Cp blk.s).length≤8192:=by
    have h:=congrArg List.length HS.out.out;simp only[EZ,NW,List.length_append]at h⊢;omega
   clear HS
   go_upto_region 4 with fail
   go_cut [20] (fun t wx=>t= .bool true∧wx=wr)
   case first=>
    by_cases h1:a<K.length
    ·have Pr:(a:Int)<(K.length:Int):=by omega
     go_wp2
     go_meet
     exact⟨rfl,rfl⟩
    ·have Pr:¬(a:Int)<(K.length:Int):=by omega
     have h2:(b:Int)<(F.length:Int):=by
      have r1:=HR.out.la;have r2:=HR.out.lb;have r3:0<blk.d:=by
       rcases HR.out.some with h|h |h
       ·exact h
       ·have:=List.length_pos_iff.2 h;omega
       ·omega
      omega
     go_wp2
     go_meet
     exact⟨rfl,rfl⟩
   case rest=>
    obtain⟨rfl,rfl⟩ :=hcut;have hld:b+blk.d≤F.length:=by have:=HR.out.lb;omega
    have hlm:a+blk.s.length+blk.m≤K.length:=HR.out.la;go_wp2
    go_loop [5,6] (fun y n=>∃t:Nat,t≤blk.d∧y= .int .i64 (b+t:Nat)∧n= .int .i64 t) (fun _ n=>blk.d - (intOf n).toNat)
    case atStart=>exact⟨0,ε,rfl,rfl⟩
    case round=>
     obtain⟨t,ht,rfl,rfl⟩ :=hrel
     by_cases htd:t<blk.d
     ·obtain⟨hi,hv⟩ :=HR.out.AAR t htd
      have CQ:F≠ []:=fun h=>by rw[h]at hi;simp at hi
      obtain⟨g,hg,aZ,ov⟩ :=hF.cells.resolve_left CQ;have d0:=(B0.cell (by exact aZ)).trans (ov _ hi);rw[hv]at d0;have XT:((b+t:Nat):Int)<(F.length:Int):=by omega
      subst hg;go_wp2
      go_round
      case rel=>exact⟨t+1,by omega,by go_num,by go_num⟩
      case measure=>simp[intOf];omega
     ·obtain rfl:t=blk.d:=by omega
      have HX:Hid (b+blk.d<F.length→∃g q,af=some ⟨g,0,none⟩∧wc.cell? ⟨g,b+blk.d,none⟩ =some (.int .i64 q)∧0≤q):=fun hi=>by
       have CQ:F≠ []:=fun h=>by rw[h]at hi;simp at hi
       obtain⟨g,hg,aZ,ov⟩ :=hF.cells.resolve_left CQ;exact⟨g,_,hg,(B0.cell (by exact aZ)).trans (ov _ hi),HR.out.ACZ hi⟩
      go_upto_region 6 with fail
      go_cut [33] (fun t wx=>t= .bool false∧wx=wc)
      case first=>
       by_cases hi:b+blk.d<F.length
       ·obtain⟨g,q,hg,d0,hq⟩ :=HX.out hi
        have XT:((b+blk.d:Nat):Int)<(F.length:Int):=by omega
        have Lq:¬q<0:=by omega
        subst hg;go_wp2
        go_meet
        exact⟨rfl,rfl⟩
       ·have XT:¬((b+blk.d:Nat):Int)<(F.length:Int):=by omega
        go_wp2
        go_meet
        exact⟨rfl,rfl⟩
      case rest=>
       obtain⟨rfl,rfl⟩ :=hcut;clear HX
       go_upto_if 39 with fail
       go_cut [3] (fun v wx=>wx.ownsRow (w.heap.size+1) 69 3 v (L++CU blk.d).length (C6 (L++CU blk.d))∧JS w wx af ab F.length cf K.length cb)
       case first=>
        have Qg:JS w wc af ab F.length cf K.length cb:=⟨x0,x1,B0,hz⟩
        by_cases hd:blk.d=0
        ·have OX:¬(0:Int)<(blk.d:Int):=by omega
         have HD:=γ hd;clear hd;go_wp2
         go_meet
         exact⟨by simpa[CU,HD.out]using ν,Qg⟩
        ·have OX:(0:Int)<(blk.d:Int):=by omega
         go_wp2_with(first
          | (at_builtin;refine wpList_append_own _ rfl (.tmp 40) (.tmp 43) 46 rfl (w.heap.size+1) 69 i0 (.agg #[.int .i64 0,.int .i64 0,.string ⟨#[]⟩]) 3 32 underlying46 hi DF CN Dq rfl (by decide) _ _ _ rfl (ν.alloc _) ⟨wc.heap.size,0,none⟩ 1 1 (recC ⟨1,(blk.d:Int),⟨#[]⟩⟩) rfl rfl ?k1 ?k2 ?k3 ?k4 ?k5 ?_)
          |go_in)
         case k1=>exact fun j u h=>h
         case k2=>exact Iy _
         case k3=>unfold maxLen;omega
         case k4=>omega
         case k5=>first|omega| (simp;omega)
         intro v' w3 Γ AE _;have CM:=Sx Qg ν AE;rw[←JZ]at Γ;obtain⟨y0,y1,B3,XO⟩ :=CM;go_wp2
         go_meet
         exact⟨by rw[iM hd,List.length_append];exact Γ,y0,y1,B3,XO⟩
       case rest=>
        clear ν x0 x1 B0 hz;obtain⟨ν,x0,x1,B0,hz⟩ :=hcut;generalize hL1:L++CU blk.d=L1 at*;go_wp2
        go_loopw [4,7] (fun x z wx=>∃(t:Nat)(st:ByteArray),t≤blk.s.length∧x= .int .i64 (a+t:Nat)∧z= .string st∧Hid (st.data.toList=blk.s.take t)∧Below wc.heap.size wc wx) (fun x _ _=>K.length - (intOf x).toNat)
        case atStart=>exact⟨0,⟨#[]⟩,ε,rfl,rfl,rfl,ζ⟩
        case round=>
         obtain⟨t,st,ht,rfl,rfl,HT,Eo⟩ :=hrel;have EV:st.size≤4096:=by
          have h:=congrArg List.length HT.out;rw[Δ,List.length_take]at h;omega
         have Bl:=Ξ ν Eo;have JD:=JS.keep (wc:=wr) ⟨x0,x1,B0,hz⟩ (Eo.mono hz);obtain⟨y0,y1,B1,ACK⟩ :=JD
         by_cases htd:t<blk.s.length
         ·obtain⟨JC,hv⟩ :=HR.out.AAS t htd
          have CQ:K≠ []:=fun h=>by rw[h]at JC;simp at JC
          obtain⟨g,hg,aZ,ov⟩ :=hK.cells.resolve_left CQ;have d0:=(B1.cell (by exact aZ)).trans (ov _ JC);rw[hv]at d0;have XT:((a+t:Nat):Int)<(K.length:Int):=by omega
          obtain⟨tt,htt,hr⟩ :=NM (blk.s[t].toNat:Int);have LV:=hr wr;clear hr;have Q7:tt.size=1:=by rw[←Δ,htt];rfl
          have hss:st.size+tt.size≤9223372036854775807:=by omega
          have Er:Hid ((st++tt).data.toList=blk.s.take (t+1)):=by
           show _=_;rw[C3,htt,HT.out,List.take_succ_eq_append_getElem htd];simp
          have hc:blk.s[t].toNat<256:=blk.s[t].toNat_lt;have PH:(0:Int)≤(blk.s[t].toNat:Int):=by omega
          clear htt Q7;subst hg;generalize blk.s[t].toNat=cc at*;go_wp2
          go_roundw
          case rel=>exact⟨t+1,st++tt,by omega,by go_num,rfl,Er,Eo.alloc Eo.size _⟩
          case measure=>simp[intOf];omega
         ·obtain rfl:t=blk.s.length:=by omega
          have Er:Hid (st.data.toList=blk.s):=by show _=_;rw[HT.out,List.take_length]
          have HX:Hid (a+blk.s.length<K.length→∃g,ab=some ⟨g,0,none⟩∧wr.cell? ⟨g,a+blk.s.length,none⟩ =some (.int .i64 (-1))):=fun hi=>by
           have CQ:K≠ []:=fun h=>by rw[h]at hi;simp at hi
           obtain⟨g,hg,aZ,ov⟩ :=hK.cells.resolve_left CQ;have d0:=(B1.cell (by exact aZ)).trans (ov _ hi);rw[HR.out.ACa hi]at d0;exact⟨g,hg,d0⟩
          clear HT ν x0 x1 B0 hz Eo
          go_upto_region 12 with fail
          go_cut [57] (fun t wx=>t= .bool false∧wx=wr)
          case first=>
           by_cases hi:a+blk.s.length<K.length
           ·obtain⟨g,hg,d0⟩ :=HX.out hi
            have XT:((a+blk.s.length:Nat):Int)<(K.length:Int):=by omega
            subst hg;go_wp2
            go_meet
            exact⟨rfl,rfl⟩
           ·have XT:¬((a+blk.s.length:Nat):Int)<(K.length:Int):=by omega
            go_wp2
            go_meet
            exact⟨rfl,rfl⟩
          case rest=>
           obtain⟨rfl,rfl⟩ :=hcut;clear HX
           go_upto_if 71 with fail
           go_cut [3] (fun v wx=>wx.ownsRow (w.heap.size+1) 69 3 v (L1++Cp blk.s).length (C6 (L1++Cp blk.s))∧JS w wx af ab F.length cf K.length cb)
           case first=>
            have Qg:JS w wc af ab F.length cf K.length cb:=⟨y0,y1,B1,ACK⟩
            cases ZW:st.toList.isEmpty
            case true=>
             have hd:blk.s= []:=by
              have h:=Er.out;rw[ByteArray.toList_eq,List.isEmpty_iff]at ZW;rw[←h,ZW]
             have HD:=γ hd;clear hd;go_wp2
             go_meet
             exact⟨by simpa[Cp,HD.out]using Bl,Qg⟩
            case false=>
             have hd:blk.s≠ []:=by
              have h:=Er.out;rw[ByteArray.toList_eq]at ZW;rw[←h];intro e;rw[e]at ZW;cases ZW
             go_wp2_with(first
              | (at_builtin;refine wpList_append_own _ rfl (.tmp 72) (.tmp 77) 46 rfl (w.heap.size+1) 69 i0 (.agg #[.int .i64 0,.int .i64 0,.string ⟨#[]⟩]) 3 32 underlying46 hi DF CN Dq rfl (by decide) _ _ _ rfl (Bl.alloc _) ⟨wc.heap.size,0,none⟩ 1 1 (recC ⟨2,(st.size:Int),st⟩) rfl rfl ?k1 ?k2 ?k3 ?k4 ?k5 ?_)
              |go_in)
             case k1=>first|exact fun j u h=>h|exact NL wc ⟨2,(st.size:Int),st⟩ _
             case k2=>exact Iy _
             case k3=>unfold maxLen;omega
             case k4=>omega
             case k5=>first|omega| (simp;omega)
             intro v' w3 Γ AE _;have CM:=Sx Qg Bl AE;rw[←JZ]at Γ;obtain⟨z0,z1,B3,XO⟩ :=CM;go_wp2
             go_meet
             exact⟨by rw[iO hd Er.out,List.length_append];exact Γ,z0,z1,B3,XO⟩
           case rest=>
            clear Bl y0 y1 B1 ACK;obtain⟨ν,x0,x1,B0,hz⟩ :=hcut;generalize hL2:L1++Cp blk.s=L2 at*;have ACL:b+blk.d+blk.m≤F.length:=HR.out.lb;go_wp2
            go_loop [4,5,8] (fun x y k=>∃t:Nat,t≤blk.m∧x= .int .i64 (a+blk.s.length+t:Nat)∧y= .int .i64 (b+blk.d+t:Nat)∧k= .int .i64 t) (fun _ _ k=>blk.m - (intOf k).toNat)
            case atStart=>exact⟨0,ε,rfl,rfl,rfl⟩
            case round=>
             obtain⟨t,ht,rfl,rfl,rfl⟩ :=hrel
             by_cases htd:t<blk.m
             ·obtain⟨aH,JC,hv⟩ :=HR.out.keeps t htd
              have CQ:F≠ []:=fun h=>by rw[h]at JC;simp at JC
              obtain⟨g,hg,aZ,ov⟩ :=hF.cells.resolve_left CQ;have d0:=(B0.cell (by exact aZ)).trans (ov _ JC);rw[hv]at d0;have XT:((a+blk.s.length+t:Nat):Int)<(K.length:Int):=by omega
              have QJ:((b+blk.d+t:Nat):Int)<(F.length:Int):=by omega
              subst hg;clear hv;go_wp2
              go_round
              case rel=>exact⟨t+1,by omega,by go_num,by go_num,by go_num⟩
              case measure=>simp[intOf];omega
             ·obtain rfl:t=blk.m:=by omega
              have HX:Hid (b+blk.d+blk.m<F.length→∃g q,af=some ⟨g,0,none⟩∧wc.cell? ⟨g,b+blk.d+blk.m,none⟩ =some (.int .i64 q)∧(q==((a+blk.s.length+blk.m:Nat):Int))=false):=fun hi=>by
               have CQ:F≠ []:=fun h=>by rw[h]at hi;simp at hi
               obtain⟨g,hg,aZ,ov⟩ :=hF.cells.resolve_left CQ;exact⟨g,_,hg,(B0.cell (by exact aZ)).trans (ov _ hi),by simpa using HR.out.ACb hi⟩
              go_upto_region 18 with fail
              go_cut [99] (fun t wx=>t= .bool false∧wx=wc)
              case first=>
               by_cases hj:a+blk.s.length+blk.m<K.length
               ·have hj1:((a+blk.s.length+blk.m:Nat):Int)<(K.length:Int):=by omega
                by_cases hi:b+blk.d+blk.m<F.length
                ·obtain⟨g,q,hg,d0,hq⟩ :=HX.out hi
                 have XT:((b+blk.d+blk.m:Nat):Int)<(F.length:Int):=by omega
                 subst hg;generalize hxx:((a+blk.s.length+blk.m:Nat):Int)=xx at*;go_wp2
                 go_meet
                 exact⟨rfl,rfl⟩
                ·have XT:¬((b+blk.d+blk.m:Nat):Int)<(F.length:Int):=by omega
                 go_wp2
                 go_meet
                 exact⟨rfl,rfl⟩
               ·have hj1:¬((a+blk.s.length+blk.m:Nat):Int)<(K.length:Int):=by omega
                go_wp2
                go_meet
                exact⟨rfl,rfl⟩
              case rest=>
               obtain⟨rfl,rfl⟩ :=hcut;clear HX
               go_upto_if 107 with fail
               go_cut [3] (fun v wx=>wx.ownsRow (w.heap.size+1) 69 3 v (L2++DR blk.m).length (C6 (L2++DR blk.m))∧JS w wx af ab F.length cf K.length cb)
               case first=>
                have Qg:JS w wc af ab F.length cf K.length cb:=⟨x0,x1,B0,hz⟩
                by_cases hd:blk.m=0
                ·have OX:¬(0:Int)<(blk.m:Int):=by omega
                 have HD:=γ hd;clear hd;go_wp2
                 go_meet
                 exact⟨by simpa[DR,HD.out]using ν,Qg⟩
                ·have OX:(0:Int)<(blk.m:Int):=by omega
                 go_wp2_with(first
                  | (at_builtin;refine wpList_append_own _ rfl (.tmp 108) (.tmp 111) 46 rfl (w.heap.size+1) 69 i0 (.agg #[.int .i64 0,.int .i64 0,.string ⟨#[]⟩]) 3 32 underlying46 hi DF CN Dq rfl (by decide) _ _ _ rfl (ν.alloc _) ⟨wc.heap.size,0,none⟩ 1 1 (recC ⟨0,(blk.m:Int),⟨#[]⟩⟩) rfl rfl ?k1 ?k2 ?k3 ?k4 ?k5 ?_)
                  |go_in)
                 case k1=>first|exact fun j u h=>h|exact NL wc ⟨0,(blk.m:Int),⟨#[]⟩⟩ _
                 case k2=>exact Iy _
                 case k3=>unfold maxLen;omega
                 case k4=>omega
                 case k5=>first|omega| (simp;omega)
                 intro v' w3 Γ AE _;have CM:=Sx Qg ν AE;rw[←JZ]at Γ;obtain⟨y0,y1,B3,XO⟩ :=CM;go_wp2
                 go_meet
                 exact⟨by rw[iN hd,List.length_append];exact Γ,y0,y1,B3,XO⟩
               case rest=>
                clear ν x0 x1 B0 hz;obtain⟨ν,Qg⟩ :=hcut
                go_upto_region 24 with fail
                go_cut [122] (fun t wx=>t= .bool false∧wx=wc)
                case first=>
                 by_cases hd:blk.d=0
                 ·have OX:((blk.d:Int)==0)=true:=by simp[hd]
                  cases ZW:st.toList.isEmpty
                  case true=>
                   have LW:((blk.m:Int)==0)=false:=by
                    have TV:blk.s= []:=by
                     have h:=Er.out;rw[ByteArray.toList_eq,List.isEmpty_iff]at ZW;rw[←h,ZW]
                    rcases HR.out.some with h|h |h
                    ·omega
                    ·exact absurd TV h
                    ·simp;omega
                   clear hd;have AEm:(st.toList== [])=true:=by simpa using ZW
                   go_wp2
                   go_meet
                   exact⟨rfl,rfl⟩
                  case false=>
                   clear hd;have AEm:(st.toList== [])=false:=by cases h:st.toList with
                    |nil=>rw[h]at ZW;simp at ZW
                    |cons x y=>rfl
                   go_wp2
                   go_meet
                   exact⟨rfl,rfl⟩
                 ·have OX:((blk.d:Int)==0)=false:=by simp;omega
                  go_wp2
                  go_meet
                  exact⟨rfl,rfl⟩
                case rest=>
                 obtain⟨rfl,rfl⟩ :=hcut;have HN:Hid (RJ F K (L2++DR blk.m) all bs (a+blk.s.length+blk.m) (b+blk.d+blk.m)):=by
                  have h:=HR.out.next;show RJ _ _ _ _ _ _ _;rw[←hL2,←hL1]
                  simpa only[List.append_assoc]using h
                 have BW:0<blk.s.length+blk.m+(blk.d+blk.m):=by
                  rcases HR.out.some with h|h |h
                  ·omega
                  ·have:=List.length_pos_iff.2 h;omega
                  ·omega
                 go_wp2
                 go_roundw
                 case rel=>exact⟨a+blk.s.length+blk.m,b+blk.d+blk.m,_,bs,rfl,rfl,HN,ν,Qg⟩
                 case measure=>simp[intOf];omega
end Go.Proofs.YtlppphmnegdhoabGreatDoor
