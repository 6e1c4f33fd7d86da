import Derived.Test.YtlppphmnegdhoabGreatDoorMz34
set_option linter.unusedVariables false
set_option maxRecDepth 100000
set_option maxHeartbeats 1000000
namespace Go.Proofs.YtlppphmnegdhoabGreatDoor
open Go.Proofs.Tryz
open Go.RowKit
open M
structure AF7(CS:List (List Value))(L:List (Nat×Nat)):Prop where
 len:CS.length=L.length
 sU:∀c∈CS,c.length=25
 nm:∀i(h:i<L.length)(h':i<CS.length),CS[i][12]? =some (.int .u8 L[i].1)
 lb:∀i(h:i<L.length)(h':i<CS.length),CS[i][13]? =some (.int .u8 L[i].2)
 b1:∀i(h:i<L.length),L[i].1<256
 b2:∀i(h:i<L.length),L[i].2<256
structure Mx(w:World)(g:Nat)(CS:List (List Value))(N:Nat→Nat):Prop where
 lt:g<w.heap.size
 at':∀i(h:i<CS.length),w.rangeAt g (i*25) (CS[i].set 14 (.int .i64 (N i:Nat)))
 fz:∀o,w.frozen? ⟨g,o,none⟩ =false
theorem Mx.FZ{w:World}{g:Nat}{CS:List (List Value)}{N:Nat→Nat}{L:List (Nat×Nat)}(h:Mx w g CS N)(hn:AF7 CS L):N5 w g L:=by
 have hc:∀i(hi:i<L.length) j v,(JC:i<CS.length)→(CS[i].set 14 (.int .i64 (N i:Nat)))[j]? =some v→w.cell? ⟨g,i*25+j,none⟩ =some v:=fun i hi j v JC hv=>h.at' i JC j v hv
 refine⟨h.lt,fun i hi=> ?_,fun i hi=> ?_,fun i hi=> ?_,fun i hi=>h.fz _,hn.b1,hn.b2⟩
 all_goals
  have JC:i<CS.length:=by rw[hn.len];exact hi
 ·exact hc i hi 12 _ JC (by rw[List.getElem?_set_ne (by decide)];exact hn.nm i hi JC)
 ·exact hc i hi 13 _ JC (by rw[List.getElem?_set_ne (by decide)];exact hn.lb i hi JC)
 ·exact⟨_,hc i hi 14 _ JC (by rw[List.getElem?_set_self (by rw[hn.sU _ (List.getElem_mem JC)];decide)])⟩
theorem Mx.keep{w w':World}{g:Nat}{CS:List (List Value)}{N:Nat→Nat}(h:Mx w g CS N)(hk:w'.heap[g]? =w.heap[g]?)(hs:w.heap.size≤w'.heap.size):Mx w' g CS N:=
 ⟨by have:=h.lt;omega,fun i hi j v hv=>(World.cell?_of_block hk).trans (h.at' i hi j v hv),fun o=>(World.frozen?_of_block hk).trans (h.fz o)⟩
theorem Mx.congr{w:World}{g:Nat}{CS:List (List Value)}{N N':Nat→Nat}(h:Mx w g CS N)(hN:∀k,k<CS.length→N k=N' k):Mx w g CS N':=⟨h.lt,fun i hi=>by rw[←hN i hi];exact h.at' i hi,h.fz⟩
theorem Mx.set{w:World}{g:Nat}{CS:List (List Value)}{N:Nat→Nat}(h:Mx w g CS N)(h25:∀c∈CS,c.length=25)(j:Nat)(hj:j<CS.length)(t:Nat):Mx (w.setCell ⟨g,j*25+14,none⟩ (.int .i64 (t:Nat))) g CS (fun k=>if k=j then t else N k):=by
 refine⟨by simpa using h.lt,fun i hi o v hv=> ?_,fun o=>by simpa using h.fz o⟩;have hl:=h25 _ (List.getElem_mem hi);have ho:o<25:=by
  have:=(List.getElem?_eq_some_iff.1 hv).1;rw[List.length_set]at this;omega
 by_cases e:i=j
 ·subst e
  simp only[if_true]at hv
  by_cases e2:o=14
  ·subst e2
   rw[List.getElem?_set_self (by omega)]at hv;injection hv with hv;subst hv;exact World.cell?_setCell_same' _ _ _ (by rw[h.at' i hi 14 _ (by rw[List.getElem?_set_self (by omega)])];rfl)
  ·rw[World.cell?_setCell_other _ _ _ _ (fun e'=>e2 (by have:=congrArg Addr.off e';simp at this;omega))]
   rw[List.getElem?_set_ne (by omega)]at hv;exact h.at' i hi o v (by rw[List.getElem?_set_ne (by omega)];exact hv)
 ·rw[if_neg e]at hv
  rw[World.cell?_setCell_other _ _ _ _ (fun e'=>by have:=congrArg Addr.off e';simp at this;omega)];exact h.at' i hi o v hv
structure Dm(w:World)(b:Nat)(a:Option Addr)(c:Nat)(CS:List (List Value))(L:List (Nat×Nat))(N:Nat→Nat):Prop where
 lt:b<w.heap.size
 c0:w.cell? ⟨b,0,none⟩ =some (.slice a L.length c)
 YN:L= []∨∃g,a=some ⟨g,0,none⟩∧Mx w g CS N∧g≠b
 ZI:L.length≤8192
 ok:AF7 CS L
theorem Dm.Ug{w:World}{b:Nat}{a:Option Addr}{c:Nat}{CS:List (List Value)}{L:List (Nat×Nat)}{N:Nat→Nat}(h:Dm w b a c CS L N):Gf w b a c L:=
 ⟨h.lt,h.c0,by
  rcases h.YN with h0| ⟨g,ha,hp,hg⟩
  ·exact .inl h0
  ·exact .inr ⟨g,ha,hp.FZ h.ok,hg⟩,h.ZI⟩
theorem Dm.congr{w:World}{b:Nat}{a:Option Addr}{c:Nat}{CS:List (List Value)}{L:List (Nat×Nat)}{N N':Nat→Nat}(h:Dm w b a c CS L N)(hN:∀k,k<L.length→N k=N' k):Dm w b a c CS L N':=
 ⟨h.lt,h.c0,by
  rcases h.YN with h0| ⟨g,ha,hp,hg⟩
  ·exact .inl h0
  ·exact .inr ⟨g,ha,hp.congr (fun k hk=>hN k (by rw[←h.ok.len];exact hk)),hg⟩,h.ZI,h.ok⟩
theorem Dm.below{w w':World}{b:Nat}{a:Option Addr}{c:Nat}{CS:List (List Value)}{L:List (Nat×Nat)}{N:Nat→Nat}(h:Dm w b a c CS L N)(hb:Below w.heap.size w w'):Dm w' b a c CS L N:=by
 refine⟨by have:=hb.size;have:=h.lt;omega,(hb.cell (by exact h.lt)).trans h.c0,?_,h.ZI,h.ok⟩;rcases h.YN with h0| ⟨g,ha,hp,hg⟩
 ·exact .inl h0
 ·exact .inr ⟨g,ha,hp.keep (hb.block g hp.lt) hb.size,hg⟩
theorem Dm.set{w:World}{b g:Nat}{c:Nat}{CS:List (List Value)}{L:List (Nat×Nat)}{N:Nat→Nat}(h:Dm w b (some ⟨g,0,none⟩) c CS L N)(j:Nat)(hj:j<L.length)(t:Nat):Dm (w.setCell ⟨g,j*25+14,none⟩ (.int .i64 (t:Nat))) b (some ⟨g,0,none⟩) c CS L (fun k=>if k=j then t else N k):=by
 obtain⟨g',e,hp,hg⟩ :∃g',(some ⟨g,0,none⟩ :Option Addr)=some ⟨g',0,none⟩∧Mx w g' CS N∧g'≠b:=by
  rcases h.YN with h0|h0
  ·rw[h0]at hj;simp at hj
  ·exact h0
 simp at e;subst e;exact⟨by simpa using h.lt,by rw[World.cell?_setCell_other _ _ _ _ (fun e=>hg (congrArg Addr.block e))];exact h.c0,.inr ⟨g,rfl,hp.set h.ok.sU j (by rw[h.ok.len];exact hj) t,hg⟩,h.ZI,h.ok⟩
theorem mo(L:List (Nat×Nat))(N0:Nat→Nat)(i k:Nat)(hi:i<L.length)(h:¬(L[i].1=98∨L[i].1=116)):ME L N0 i k=ME L N0 (i+1) k:=by
 unfold ME
 by_cases e:k=i
 ·subst e
  have:MD L k=false:=by
   unfold MD;rw[PN L k hi];simp;omega
  rw[this];simp
 ·by_cases h1:MD L k=true
  ·by_cases h2:k<i
   ·rw[if_pos ⟨h2,h1⟩,if_pos ⟨by omega,h1⟩]
   ·rw[if_neg (fun h=>h2 h.1),if_neg (fun h=>by omega)]
  ·rw[if_neg (fun h=>h1 h.2),if_neg (fun h=>h1 h.2)]
theorem mq(L:List (Nat×Nat))(N0:Nat→Nat)(i k:Nat)(hi:i<L.length)(h:L[i].1=98∨L[i].1=116)(t:Nat)(ht:t=if L[i].2=0 then L.length else Ee L L[i].2):(if k=i then t else ME L N0 i k)=ME L N0 (i+1) k:=by
 unfold ME
 by_cases e:k=i
 ·subst e
  have h1:MD L k=true:=by
   unfold MD;rw[PN L k hi];simp;omega
  rw[if_pos rfl,if_pos ⟨by omega,h1⟩,ht,tgt,mi L k hi]
 ·rw[if_neg e]
  by_cases h1:MD L k=true
  ·by_cases h2:k<i
   ·rw[if_pos ⟨h2,h1⟩,if_pos ⟨by omega,h1⟩]
   ·rw[if_neg (fun h=>h2 h.1),if_neg (fun h=>by omega)]
  ·rw[if_neg (fun h=>h1 h.2),if_neg (fun h=>h1 h.2)]
def AF8(b:Nat)(a:Option Addr)(c:Nat)(CS:List (List Value))(L:List (Nat×Nat))(N0:Nat→Nat)(w:World)(e:Ending)(w':World):Prop:=
 ∃r:Bool,e= .returned (.bool r)∧(r=true↔∀i(h:i<L.length),CZ L i h)∧(r=true→Dm w' b a c CS L (ME L N0 L.length))∧KD a w w'
theorem Tu(b:Nat)(a:Option Addr)(c:Nat)(CS:List (List Value))(L:List (Nat×Nat))(N0:Nat→Nat)(w:World)(hS:Dm w b a c CS L N0):
  Calls prog 92 #[.pointer (some ⟨b,0,none⟩)] w fun e w'=>AF8 b a c CS L N0 w e w':=by
 have SD:=hS.ZI;have Vw:=hS.c0;have Bq:=hS.lt;obtain⟨n,hn⟩ :∃n,L.length=n:=⟨_,rfl⟩
 have HN:=γ hn;rw[hn]at Vw SD;have HS:=γ hS;clear hn hS
 go_enter func92,ntmps92
 go_wp2_with fail
 go_loopw [3,4,5,11] (fun _ _ _ v11 wr=>∃i:Nat,i≤n∧v11= .int .i64 i∧Hid (Dm wr b a c CS L (ME L N0 i)∧KD a w wr)∧Hid (∀j(h:j<L.length),j<i→CZ L j h)) (fun _ _ _ v11 _=>n - (intOf v11).toNat)
 case atStart=>exact⟨0,ε,rfl,⟨HS.out.congr (fun k _=>(if_neg (fun h=>by omega)).symm),KD.refl _ _⟩,fun _ _ h=>by omega⟩
 case round=>
  clear Vw Bq HS;obtain⟨i,hi,rfl,HW,HJ⟩ :=hrel;have Vw:=HW.out.1.c0;rw[HN.out]at Vw;have Bq:=HW.out.1.lt
  by_cases Ac:i<n
  ·have AV:(i:Int)<(n:Int):=by omega
   have h0:(0:Int)≤(i:Int):=by omega
   have BN:i<L.length:=by rw[HN.out];exact Ac
   obtain⟨g,rfl,Gz,dJ⟩ :∃g,a=some ⟨g,0,none⟩∧N5 wr g L∧g≠b:=by
    rcases HW.out.1.Ug.row with h|h
    ·rw[h]at BN;simp at BN
    ·exact h
   have d1:=Gz.nm i BN;have d2:=Gz.lb i BN;obtain⟨v9,d3⟩ :=Gz.nx i BN;have f3:=Gz.fz i BN;have Rp:=Gz.lt;have e1:=Gz.b1 i BN;have e2:=Gz.b2 i BN;obtain⟨y,hy⟩ :∃y,L[i].1=y:=⟨_,rfl⟩
   obtain⟨z,hz⟩ :∃z,L[i].2=z:=⟨_,rfl⟩
   rw[hy]at d1 e1;rw[hz]at d2 e2;have HY:Hid (L[i].1=y∧L[i].2=z):=⟨hy,hz⟩
   have TH:Hid (CZ L i BN→∀j(h:j<L.length),j<i+1→CZ L j h):=fun hl j h hj=>by
    by_cases e:j=i
    ·subst e;exact hl
    ·exact HJ.out j h (by omega)
   have Pz:Hid (¬CZ L i BN→¬∀j(h:j<L.length),CZ L j h):=fun h hk=>h (hk i BN)
   have vN:Hid (¬(y=98∨y=116)→Dm wr b (some ⟨g,0,none⟩) c CS L (ME L N0 (i+1))):=fun h9=>HW.out.1.congr (fun k hk=>mo L N0 i k BN (by rw[hy];exact h9))
   have vO:Hid ((y=98∨y=116)→∀t:Nat,t=(if z=0 then L.length else Ee L z)→Dm (wr.setCell ⟨g,i*25+14,none⟩ (.int .i64 (t:Nat))) b (some ⟨g,0,none⟩) c CS L (ME L N0 (i+1))):=fun h9 t ht=>(HW.out.1.set i BN t).congr (fun k hk=>mq L N0 i k BN (by rw[hy];exact h9) t (by rw[hz];exact ht))
   clear hy hz HJ Gz
   go_wp2_with fail
   refine(IE b _ c z L _ HW.out.1.Ug e2).mono ?_;rintro e wq ⟨rfl,JE⟩;rw[JE];clear JE;obtain⟨q,hq⟩ :∃q,Ee L z=q:=⟨_,rfl⟩
   have HQ:=γ hq;rw[hq];clear hq
   by_cases Ed:y=58
   ·have Vg:((y:Int)==58)=true:=by simp[Ed]
    by_cases QG:q=i+1
    ·have AF5:((q:Int) !=(i:Int)+1)=false:=by simp;omega
     have HL:Hid (CZ L i BN):=⟨fun _=>by rw[HY.out.2,HQ.out];exact QG,fun h=>by have:=HY.out.1;omega⟩
     have CR:Hid (Dm wr b (some ⟨g,0,none⟩) c CS L (ME L N0 (i+1))):=vN.out (by omega);clear Ed QG;go_wp2
     go_roundw
     case rel=>exact⟨i+1,by omega,by go_num,⟨CR.out,HW.out.2⟩,TH.out HL.out⟩
     case measure=>simp[intOf]<;>omega
    ·have AF5:((q:Int) !=(i:Int)+1)=true:=by simp;omega
     have HF:Hid (¬∀j(h:j<L.length),CZ L j h):=Pz.out (fun h=>QG (by rw[←HQ.out,←HY.out.2];exact h.1 (by rw[HY.out.1];exact Ed)));clear Ed QG;go_wp2;go_ret;exact⟨false,rfl,⟨fun h=>Bool.noConfusion h,fun h=>absurd h HF.out⟩,fun h=>Bool.noConfusion h,HW.out.2⟩
   have Vg:((y:Int)==58)=false:=by simp;omega
   by_cases Io:y=98∨y=116
   ·have EK:(((y:Int)==98)=true)∨(((y:Int)==98)=false∧((y:Int)==116)=true):=by
     rcases Io with h|h
     ·exact .inl (by simp[h])
     ·exact .inr (by simp[h])
    have sJ:=γ Io;clear Io Ed
    by_cases DF:z=0
    ·have CN:((z:Int) !=0)=false:=by simp[DF]
     have Dq:((z:Int)==0)=true:=by simp[DF]
     have HL:Hid (CZ L i BN):=⟨fun h=>by have:=HY.out.1;have:=sJ.out;omega,fun _ h=>absurd (by rw[HY.out.2];exact DF) h⟩
     have YJ:Hid (Dm (wr.setCell ⟨g,i*25+14,none⟩ (.int .i64 n)) b (some ⟨g,0,none⟩) c CS L (ME L N0 (i+1))∧KD (some ⟨g,0,none⟩) w (wr.setCell ⟨g,i*25+14,none⟩ (.int .i64 n))):=⟨vO.out sJ.out n (by rw[if_pos DF,HN.out]),HW.out.2.trans (KD.set _ _ _ _)⟩
     clear DF;rcases EK with ho| ⟨yJ,ie⟩
     all_goals
      go_wp2
      go_roundw
      case rel=>exact⟨i+1,by omega,by go_num,YJ.out,TH.out HL.out⟩
      case measure=>simp[intOf]<;>omega
    ·have CN:((z:Int) !=0)=true:=by simp;omega
     have Dq:((z:Int)==0)=false:=by simp;omega
     by_cases VI:q=0
     ·have Lq:((q:Int)==0)=true:=by simp[VI]
      have HF:Hid (¬∀j(h:j<L.length),CZ L j h):=Pz.out (fun h=>h.2 (by rw[HY.out.1];exact sJ.out) (by rw[HY.out.2];exact DF) (by rw[HY.out.2,HQ.out];exact VI));clear DF VI;rcases EK with ho| ⟨yJ,ie⟩
      all_goals
       go_wp2;go_ret;exact⟨false,rfl,⟨fun h=>Bool.noConfusion h,fun h=>absurd h HF.out⟩,fun h=>Bool.noConfusion h,HW.out.2⟩
     ·have Lq:((q:Int)==0)=false:=by simp;omega
      have HL:Hid (CZ L i BN):=⟨fun h=>by have:=HY.out.1;have:=sJ.out;omega,fun _ _=>by rw[HY.out.2,HQ.out];exact VI⟩
      have YJ:Hid (Dm (wr.setCell ⟨g,i*25+14,none⟩ (.int .i64 q)) b (some ⟨g,0,none⟩) c CS L (ME L N0 (i+1))∧KD (some ⟨g,0,none⟩) w (wr.setCell ⟨g,i*25+14,none⟩ (.int .i64 q))):=⟨vO.out sJ.out q (by rw[if_neg DF,HQ.out]),HW.out.2.trans (KD.set _ _ _ _)⟩
      clear DF VI;rcases EK with ho| ⟨yJ,ie⟩
      all_goals
       go_wp2
       go_roundw
       case rel=>exact⟨i+1,by omega,by go_num,YJ.out,TH.out HL.out⟩
       case measure=>simp[intOf]<;>omega
   have YA:((y:Int)==98)=false:=by simp;omega
   have MA:((y:Int)==116)=false:=by simp;omega
   have HL:Hid (CZ L i BN):=⟨fun h=>by have:=HY.out.1;omega,fun h=>by have:=HY.out.1;omega⟩
   have CR:=γ (vN.out Io);clear Io Ed;go_wp2
   go_roundw
   case rel=>exact⟨i+1,by omega,by go_num,⟨CR.out,HW.out.2⟩,TH.out HL.out⟩
   case measure=>simp[intOf]<;>omega
  ·have AV:¬(i:Int)<(n:Int):=by omega
   have HF:Hid (∀j(h:j<L.length),CZ L j h):=fun j h=>HJ.out j h (by rw[HN.out]at h;omega)
   clear HJ;go_wp2;go_ret
   exact⟨true,rfl,⟨fun _=>HF.out,fun _=>rfl⟩,fun _=>HW.out.1.congr (fun k hk=>by
    unfold ME;have h1:k<i:=by have:=HN.out;omega
    by_cases h2:MD L k=true
    ·rw[if_pos ⟨h1,h2⟩,if_pos ⟨hk,h2⟩]
    ·rw[if_neg (fun h=>h2 h.2),if_neg (fun h=>h2 h.2)]),HW.out.2⟩
theorem mr{L:List (Nat×Nat)}{S:List Nat}{i:Nat}(h:KR L S i):∀k,JH L S i k=JH L (S++ [i]) (i+1) k:=fun k=>by
 unfold JH
 by_cases e:k<i∧P3 L k=123∧¬k∈S
 ·rw[if_pos e,if_pos ⟨by omega,e.2.1,fun hm=>by
   rcases List.mem_append.1 hm with hm|hm
   ·exact e.2.2 hm
   ·simp at hm;omega⟩]
 ·rw[if_neg e,if_neg (fun g=>e ⟨by
   have h1:k≠i:=fun e1=>g.2.2 (by rw[e1];simp)
   omega,g.2.1,fun hm=>g.2.2 (by simp[hm])⟩)]
theorem sV{L:List (Nat×Nat)}{S:List Nat}{x i:Nat}(h:KR L (S++ [x]) i)(hi:i<L.length)(hn:P3 L i=125):∀k,(if k=x then i+1 else JH L (S++ [x]) i k)=JH L S (i+1) k:=fun k=>by
 obtain⟨h1,h2,h3,h4,h5⟩ :=h.pop hi hn;unfold JH
 by_cases e:k=x
 ·subst e
  rw[if_pos rfl,if_pos ⟨by omega,h5,h3⟩,h2]
 ·rw[if_neg e]
  by_cases e2:k<i∧P3 L k=123∧¬k∈S++ [x]
  ·rw[if_pos e2,if_pos ⟨by omega,e2.2.1,fun hm=>e2.2.2 (by simp[hm])⟩]
  ·rw[if_neg e2,if_neg (fun g=>e2 ⟨by
    have h9:k≠i:=fun e1=>by have:=g.2.1;rw[e1,hn]at this;omega
    omega,g.2.1,fun hm=>by
    rcases List.mem_append.1 hm with hm|hm
    ·exact g.2.2 hm
    ·simp at hm;exact e hm⟩)]
theorem mv(L:List (Nat×Nat))(S:List Nat)(i k:Nat)(h:P3 L i≠123):JH L S i k=JH L S (i+1) k:=by
 unfold JH
 by_cases e:k<i∧P3 L k=123∧¬k∈S
 ·rw[if_pos e,if_pos ⟨by omega,e.2⟩]
 ·rw[if_neg e,if_neg (fun g=>e ⟨by
   have h1:k≠i:=fun e1=>h (by rw[←e1];exact g.2.1)
   omega,g.2⟩)]
def sW(b:Nat)(a:Option Addr)(c:Nat)(CS:List (List Value))(L:List (Nat×Nat))(w:World)(e:Ending)(w':World):Prop:=
 e= .returned (.bool (DW L 0))∧(DW L 0=true→Dm w' b a c CS L (fun k=>if P3 L k=123 then N6 L k else 0))∧Gf w' b a c L∧KD a w w'
theorem Qa(b:Nat)(a:Option Addr)(c:Nat)(CS:List (List Value))(L:List (Nat×Nat))(w:World)(hS:Dm w b a c CS L (fun _=>0)):
  Calls prog 91 #[.pointer (some ⟨b,0,none⟩)] w fun e w'=>sW b a c CS L w e w':=by
 have SD:=hS.ZI;have Vw:=hS.c0;have Bq:=hS.lt;have HG:Hid (L= []∨∃g,a=some ⟨g,0,none⟩∧g<w.heap.size):=by
  rcases hS.YN with h| ⟨g,h1,h2,_⟩
  ·exact .inl h
  ·exact .inr ⟨g,h1,h2.lt⟩
 obtain⟨n,hn⟩ :∃n,L.length=n:=⟨_,rfl⟩
 have HN:=γ hn;rw[hn]at Vw SD;have HS:=γ hS;clear hn hS
 go_enter func91,ntmps91
 go_wp2_with fail
 go_loopw [3,4,5,11] (fun v3 _ _ v11 wr=>∃(i:Nat)(S:List Nat),i≤n∧v11= .int .i64 i∧S.length≤i∧Hid (∀k∈S,k<n)∧Hid (KR L S i)∧Hid (Dm wr b a c CS L (JH L S i)∧KD a w wr)∧Hid (DW L 0=DW (L.drop i) S.length)∧wr.ownsRow w.heap.size 3 1 v3 S.length (QZ S)) (fun _ _ _ v11 _=>n - (intOf v11).toNat)
 case atStart=>exact⟨0,[],ε,rfl,ε,fun k h=>by simp at h,KR.nil L,⟨HS.out.congr (fun k _=>(if_neg (fun h=>by omega)).symm),KD.refl _ _⟩,by show _=_;rw[List.drop_zero];rfl,World.ownsRow_nil _ _ _ _⟩
 case round=>
  clear Vw HS;obtain⟨i,S,hi,rfl,hSi,vP,HOP,HW,HB,ν⟩ :=hrel;obtain⟨av,cv,CX⟩ :=κ ν;subst CX;have Vw:=HW.out.1.c0;rw[HN.out]at Vw;have aL:=HW.out.1.lt;have EV:=HW.out.2.size
  by_cases Ac:i<n
  ·have AV:(i:Int)<(n:Int):=by omega
   have h0:(0:Int)≤(i:Int):=by omega
   have BN:i<L.length:=by rw[HN.out];exact Ac
   obtain⟨g,rfl,Gz,dJ⟩ :∃g,a=some ⟨g,0,none⟩∧N5 wr g L∧g≠b:=by
    rcases HW.out.1.Ug.row with h|h
    ·rw[h]at BN;simp at BN
    ·exact h
   have aZ:g<w.heap.size:=by
    rcases HG.out with h| ⟨g',h,h2⟩
    ·rw[h]at BN;simp at BN
    ·simp at h;omega
   have d1:=Gz.nm i BN;have Rp:=Gz.lt;have e1:=Gz.b1 i BN;have GC:Hid (DW L 0=if L[i].1=123 then DW (L.drop (i+1)) (S.length+1)else if L[i].1=125 then(if S.length=0 then false else DW (L.drop (i+1)) (S.length - 1))else DW (L.drop (i+1)) S.length):=by
    show _=_;rw[HB.out,List.drop_eq_getElem_cons BN,JG]
   have HYA:=γ (PN L i BN);generalize L[i].1=y at*;clear HB
   by_cases BV:y=123
   ·have R7:((y:Int)==123)=true:=by simp[BV]
    have Lg:Hid (DW L 0=DW (L.drop (i+1)) (S++ [i]).length):=by show _=_;rw[GC.out,if_pos BV,List.length_append];rfl
    have my:Hid (KR L (S++ [i]) (i+1)):=HOP.out.push BN (by rw[HYA.out];exact BV);have HBF:Hid (∀k,JH L S i k=JH L (S++ [i]) (i+1) k):=mr HOP.out;have AF9:Hid (∀k∈S++ [i],k<n):=fun k hk=>by
     rcases List.mem_append.1 hk with hk|hk
     ·exact vP.out k hk
     ·simp at hk;omega
    clear BV GC Gz
    go_wp2_with(refine Gx ABZ (ν.alloc _) wr.heap.size [.int .i64 (i:Int)] (heap_alloc_new wr _) rfl (by simp[Value.oneCell']) (by omega) (by simp;omega) rfl _ _ rfl rfl rfl ?_
                intro v' w6 Aa AK;have LY:=AK.size;have Eg:Below w.heap.size wr w6:=(ζ.alloc (by omega) _).grown AK (by simp;omega) (fun k hk=>(ν.lt k hk).1);have hW6:Dm w6 b (some ⟨g,0,none⟩) c CS L (JH L (S++ [i]) (i+1)):=by
                 refine Dm.congr (N:=JH L S i) ⟨by simp at LY;omega,(Eg.cell (by exact Bq)).trans HW.out.1.c0,?_,HW.out.1.ZI,HW.out.1.ok⟩ (fun k _=>HBF.out k);rcases HW.out.1.YN with h| ⟨g',ha,hp,XU⟩
                 ·exact .inl h
                 ·simp at ha;subst ha
                  exact .inr ⟨g,rfl,hp.keep (Eg.block g aZ) Eg.size,XU⟩
                have hL6:KD (some ⟨g,0,none⟩) w w6:=⟨Eg.os.trans HW.out.2.os,Eg.tape.trans HW.out.2.tape,Eg.output.trans HW.out.2.output,Nat.le_trans HW.out.2.size Eg.size,fun k hk hg=>(Eg.block k hk).trans (HW.out.2.block k hk hg)⟩
                obtain⟨NF,JV,CX⟩ :=κ Aa;subst CX;clear AK)
    go_roundw
    case rel=>
     refine⟨i+1,S++ [i],by omega,by go_num,by rw[List.length_append];simp;omega,AF9.out,my.out,⟨hW6,hL6⟩,Lg.out,?_⟩;rw[List.length_append];have:QZ (S++ [i])=QZ S++ [.int .i64 (i:Int)]:=by simp[QZ]
     rw[this];exact Aa
    case measure=>simp[intOf]<;>omega
   have R7:((y:Int)==123)=false:=by simp;omega
   by_cases Bk:y=125
   ·have Ny:((y:Int)==125)=true:=by simp[Bk]
    by_cases iu:S.length=0
    ·have HF:Hid (DW L 0=false):=by show _=_;rw[GC.out,if_neg BV,if_pos Bk,if_pos iu]
     have hS1:((S.length:Int) - 1<0):=by omega
     clear BV Bk GC Gz;go_wp2;go_ret;exact⟨ι (by rw[HF.out]),fun h=>by(rw[HF.out]at h;cases h),HW.out.1.Ug,HW.out.2⟩
    ·obtain⟨S',x,rfl⟩ :∃S' x,S=S'++ [x]:=by
      have hne:S≠ []:=fun e=>iu (by rw[e];rfl)
      exact⟨S.dropLast,S.getLast hne,(List.dropLast_concat_getLast hne).symm⟩
     have hxn:x<n:=vP.out x (by simp);have hxL:x<L.length:=by rw[HN.out];exact hxn
     have Lg:Hid (DW L 0=DW (L.drop (i+1)) S'.length):=by
      show _=_;rw[GC.out,if_neg BV,if_pos Bk,if_neg iu,List.length_append];rfl
     have Hi:wr.ownsRow w.heap.size 3 1 (.slice av (S'.length+1) cv) (S'.length+1) (QZ (S'++ [x])):=by rw[List.length_append]at ν;exact ν
     obtain⟨go,rfl,AFb,AFc,dx,hcv⟩ :=ma Hi;have nB:=bE (n:=0) Hi;obtain⟨zA,ADd,ADe,ADf,ADg⟩ :=HOP.out.pop BN (by rw[HYA.out];exact Bk);have my:=γ zA;have HBF:Hid (∀k,(if k=x then i+1 else JH L (S'++ [x]) i k)=JH L S' (i+1) k):=sV HOP.out BN (by rw[HYA.out];exact Bk);clear zA ADd ADe ADf ADg;obtain⟨v9,d3⟩ :=Gz.nx x hxL;have f3:=Gz.fz x hxL;have J9:(S'++ [x]).length=S'.length+1:=by rw[List.length_append];rfl
     have AF9:Hid (∀k∈S',k<n):=fun k hk=>vP.out k (by simp[hk])
     rw[J9]at hSi⊢;obtain⟨m,hm⟩ :∃m,S'.length=m:=⟨_,rfl⟩
     have iv:=γ hm;rw[hm]at Lg dx hcv nB hSi⊢;clear hm J9;have LW:((m+1:Nat):Int) - 1=(m:Int):=by omega
     have Q3:¬(m:Int)<0:=by omega
     have Q9:(m:Int)<((m:Nat):Int)+1:=by omega
     have hm4:(0:Int)≤(m:Int):=by omega
     have hm5:(m:Int)≤(cv:Int):=by omega
     have pE:(x:Int)<(n:Int):=by omega
     have zB:(0:Int)≤(x:Int):=by omega
     have YJ:Hid (Dm (wr.drew.setCell ⟨g,x*25+14,none⟩ (.int .i64 ((i:Int)+1))) b (some ⟨g,0,none⟩) c CS L (JH L S' (i+1))∧KD (some ⟨g,0,none⟩) w (wr.drew.setCell ⟨g,x*25+14,none⟩ (.int .i64 ((i:Int)+1)))):=by
      have hd:Dm wr.drew b (some ⟨g,0,none⟩) c CS L (JH L (S'++ [x]) i):=HW.out.1.below (ζ.drew);have hl:KD (some ⟨g,0,none⟩) w wr.drew:=⟨HW.out.2.os,HW.out.2.tape,HW.out.2.output,HW.out.2.size,HW.out.2.block⟩
      exact⟨(hd.set x hxL (i+1)).congr (fun k _=>HBF.out k),hl.trans (KD.set _ _ _ _)⟩
     have zC:(wr.drew.setCell ⟨g,x*25+14,none⟩ (.int .i64 ((i:Int)+1))).ownsRow w.heap.size 3 1 (.slice (some ⟨go,0,none⟩) m cv) m (QZ S'):=ownsRow_setCell_below (Ξ nB (ζ.drew)) (by simp;omega) _;clear BV Bk GC Gz iu ν Hi nB vP
     go_wp2_with fail
     go_region
     go_wp2
     go_roundw
     case rel=>exact⟨i+1,S',by omega,by go_num,by rw[iv.out];omega,AF9.out,my.out,YJ.out,by rw[iv.out];exact Lg.out,by rw[iv.out];exact zC⟩
     case measure=>simp[intOf]<;>omega
   have Ny:((y:Int)==125)=false:=by simp;omega
   have Lg:Hid (DW L 0=DW (L.drop (i+1)) S.length):=by show _=_;rw[GC.out,if_neg BV,if_neg Bk]
   have my:Hid (KR L S (i+1)):=HOP.out.skip BN (by rw[HYA.out];exact BV) (by rw[HYA.out];exact Bk);have YJ:Hid (Dm wr b (some ⟨g,0,none⟩) c CS L (JH L S (i+1))∧KD (some ⟨g,0,none⟩) w wr):=⟨HW.out.1.congr (fun k _=>mv L S i k (by rw[HYA.out];exact BV)),HW.out.2⟩
   clear BV Bk GC Gz;go_wp2
   go_roundw
   case rel=>exact⟨i+1,S,by omega,by go_num,by omega,vP.out,my.out,YJ.out,Lg.out,ν⟩
   case measure=>simp[intOf]<;>omega
  ·have AV:¬(i:Int)<(n:Int):=by omega
   have HF:Hid (DW L 0=(S.length==0)):=by
    show _=_;rw[HB.out,List.drop_of_length_le (by rw[HN.out];omega)];rfl
   clear HB
   by_cases iu:S.length=0
   ·have hS1:((S.length:Int)==0)=true:=by simp[iu]
    have GO:Hid (DW L 0=true):=by show _=_;rw[HF.out,iu];rfl
    have YJ:Hid (Dm wr b a c CS L (fun k=>if P3 L k=123 then N6 L k else 0)):=HW.out.1.congr (fun k hk=>by
     rw[List.length_eq_zero_iff]at iu;unfold JH;have h1:k<i:=by have:=HN.out;omega
     by_cases h2:P3 L k=123
     ·rw[if_pos ⟨h1,h2,by rw[iu];simp⟩,if_pos h2]
     ·rw[if_neg (fun h=>h2 h.2.1),if_neg h2])
    clear iu HF;go_wp2;go_ret;exact⟨ι (by rw[GO.out]),fun _=>YJ.out,HW.out.1.Ug,HW.out.2⟩
   ·have hS1:((S.length:Int)==0)=false:=by rw[beq_eq_false_iff_ne];omega
    have GO:Hid (DW L 0=false):=by show _=_;rw[HF.out];simpa using iu
    clear iu HF;go_wp2;go_ret;exact⟨ι (by rw[GO.out]),fun h=>by(rw[GO.out]at h;cases h),HW.out.1.Ug,HW.out.2⟩
theorem nC:ZH 71 148 25 248 (.agg P1.toArray):=⟨by kernel_rfl,by kernel_rfl,rfl,by decide,by decide,by decide⟩
theorem Dd:EE 73 1:=⟨⟨_,underlying73,rfl⟩,by kernel_rfl⟩
theorem Uh{a:Option Addr}{w w':World}{B:Nat}(h:KD a w w')(hB:B≤w.heap.size)(hg:∀g,a=some ⟨g,0,none⟩→B≤g):Below B w w':=
 ⟨h.os,h.tape,h.output,h.size,fun k hk=>h.block k (by omega) (fun g e=>by have:=hg g e;omega)⟩
theorem LI{ops:Array Oper}{rest:List Oper}{o:Oper}{a:Act}{w:World}{Q:Exit→Act→World→Prop}{TS T:TypeId}{N BO:Nat}{z:Value}(hE:ZH TS T N BO z){B:Nat}{v:Value}{n:Nat}{xs:List Value}(ν:w.ownsRow B T N v n xs)(g:Nat)(vs:List Value)(hg:w.heap[g]? =some (.cells vs.toArray T))(hl:vs.length=N)(h1:∀u∈vs,u.oneCell'=true)(hn:n≤8192)(hB:B≤w.heap.size)(Fv:o.guard=none)(s x:Operand)
  (ho:o.op= .call {callee:= .builtin .append,args:= #[s,x],argTypes:= #[TS,TS]}) (hs:a.eval s=v) (hx:a.eval x= .slice (some ⟨g,0,none⟩) 1 1)
  (h:∀g' cap w',w'.ownsRow B T N (.slice (some ⟨g',0,none⟩) (n+1) cap) (n+1) (xs++vs)→w.grownBy w' v.ownBlock→(v.ownBlock=some g'∨g'=w.heap.size)→wpList prog ops Q rest (a.put o.dst (.slice (some ⟨g',0,none⟩) (n+1) cap)) w'):wpList prog ops Q (o::rest) a w:=by
 obtain⟨i0,hi,DF,CN,Dq⟩ :=info_parts hE.info;have hb:=hE.byt;refine wpList_append_lies w Fv s x TS ho B T i0 z N BO hE.und hi DF CN Dq hE.zc hE.pos v n xs hs ν ⟨g,0,none⟩ 1 1 vs hx (by rw[hl];omega) ?_ h1 (by decide) (by unfold maxLen;omega) ?_ hB w.heap.size rfl (fun g' cap w' h1 h2 h3 _=>h g' cap w' h1 h2 h3)
 ·intro j u hu
  rw[Addr.add_mid,cell_of_row _ _ _ _ _ _ hg]
  simpa using hu
 ·exact Nat.le_trans (Nat.mul_le_mul (show n+1≤8193 by omega) hb) (by decide)
theorem YO{F G:Nat→Prop}{w:World}{P:World→Prop}(h:Av G w P)(hs:∀k,F k→G k):Av F w P:=fun w' h1 h2=>h w' h1 (fun k hk hG=>h2 k hk (fun hF=>hG (hs k hF)))
theorem SH{F:Nat→Prop}{w w':World}{P:World→Prop}{o:Obj}(h:Av F w P)(O:AQ w.heap.size (w.alloc o) w'):Av F w' P:=fun w'' h1 h2=>by
 have hs:w'.heap.size=w.heap.size+1:=by rw[O.size];simp
 exact h w'' (by omega) (fun k hk hF=>((h2 k (by omega) hF).trans (O.block k (by omega))).trans (Below.heap_alloc w o k hk))
def rdF(b0:Nat)(v:Value)(k:Nat):Prop:=v.ownBlock=some k∨k<b0+2
structure DX(b0:Nat)(w:World)(v:Value)(L:List Cm)(CS:List (List Value)):Prop where
 len:CS.length=L.length
 sU:∀c∈CS,c.length=25
 bnd:∀c∈L,c.name<256∧c.label<256∧c.next=0
 at':Av (rdF b0 v) w (fun w=>∀i(h:i<L.length)(h':i<CS.length),BK w CS[i] L[i])
theorem DX.nil(b0:Nat)(w:World)(v:Value):DX b0 w v [] []:=⟨rfl,fun c h=>(List.not_mem_nil h).elim,fun c h=>(List.not_mem_nil h).elim,fun _ _ _ i h=>by simp at h⟩
theorem DX.fr{b0:Nat}{w w':World}{v v':Value}{L:List Cm}{CS:List (List Value)}(h:DX b0 w v L CS)(hf:Rf (rdF b0 v) (rdF b0 v') w w'):DX b0 w' v' L CS:=⟨h.len,h.sU,h.bnd,h.at'.fr hf⟩
theorem DX.below{b0:Nat}{w w':World}{v:Value}{L:List Cm}{CS:List (List Value)}(h:DX b0 w v L CS)(hb:Below w.heap.size w w'):DX b0 w' v L CS:=h.fr (.η hb)
theorem DX.boxed{b0:Nat}{w w':World}{v:Value}{L:List Cm}{CS:List (List Value)}{o:Obj}(h:DX b0 w v L CS)(O:AQ w.heap.size (w.alloc o) w'):DX b0 w' v L CS:=⟨h.len,h.sU,h.bnd,SH h.at' O⟩
theorem DX.grown{b0 n c:Nat}{w w':World}{v:Value}{g':Nat}{L:List Cm}{CS:List (List Value)}{o:Obj}(h:DX b0 w v L CS)(hg:(w.alloc o).grownBy w' v.ownBlock)(hl:v.ownBlock=some g'∨g'=(w.alloc o).heap.size):DX b0 w' (.slice (some ⟨g',0,none⟩) n c) L CS:=by
 have hs:(w.alloc o).heap.size=w.heap.size+1:=by simp
 refine h.fr ⟨hg.os,hg.tape,hg.output,by have:=hg.size;omega,fun k hk hF=> ?_,fun k hk=> ?_⟩
 ·exact(hg.block k (by omega) (fun e=>hF (.inl e.symm))).trans (Below.heap_alloc w o k hk)
 ·rcases hk with e|e
  ·have e:some g'=some k:=e
   injection e with e;subst e;rcases hl with h1|h1
   ·exact .inl (.inl h1)
   ·exact .inr (by omega)
  ·exact .inl (.inr e)
theorem DX.only{b0 g:Nat}{w w':World}{v:Value}{L:List Cm}{CS:List (List Value)}(h:DX b0 w v L CS)(O:AQ g w w')(hg:g<b0+2):DX b0 w' v L CS:=
 h.fr ⟨O.os,O.tape,O.output,by rw[O.size];exact δ,fun k _ hF=>O.block k (fun e=>hF (.inr (by omega))),fun k hk=> .inl hk⟩
theorem DX.set{b0:Nat}{w:World}{v:Value}{L:List Cm}{CS:List (List Value)}(h:DX b0 w v L CS)(u:Value):DX b0 (w.setCell ⟨b0+1,0,none⟩ u) v L CS:=h.only (AQ.set _ _ _ _) (by omega)
theorem DX.ADh{b0:Nat}{w w':World}{v:Value}{L:List Cm}{CS:List (List Value)}(h:DX b0 w v L CS)(O:AQ b0 w w'):DX b0 w' v L CS:=h.only O (by omega)
theorem DX.led{b0 n c:Nat}{w w':World}{a:Option Addr}{L:List Cm}{CS:List (List Value)}(h:DX b0 w (.slice a n c) L CS)(hl:KD a w w'):DX b0 w' (.slice a n c) L CS:=
 h.fr ⟨hl.os,hl.tape,hl.output,hl.size,fun k hk hF=>hl.block k hk (fun g e e'=>hF (.inl (by subst e;subst e';rfl))),fun k hk=> .inl hk⟩
theorem DX.snoc{b0:Nat}{w:World}{v:Value}{L:List Cm}{CS:List (List Value)}{c:Cm}{cs:List Value}(h:DX b0 w v L CS)(hl:cs.length=25)(hc:Av (rdF b0 v) w (fun w=>BK w cs c))(hb:c.name<256∧c.label<256∧c.next=0):DX b0 w v (L++ [c]) (CS++ [cs]):=by
 have hlen:=h.len;refine⟨by simp[hlen],fun x hx=> ?_,fun x hx=> ?_,fun w' h1 h2 j hj hj'=> ?_⟩
 ·rcases List.mem_append.1 hx with hx|hx
  ·exact h.sU x hx
  ·simp at hx;rw[hx];exact hl
 ·rcases List.mem_append.1 hx with hx|hx
  ·exact h.bnd x hx
  ·simp at hx;rw[hx];exact hb
 ·by_cases e:j<L.length
  ·rw[List.getElem_append_left (by omega),List.getElem_append_left e]
   exact h.at' w' h1 h2 j e (by omega)
  ·have e2:j=L.length:=by simp at hj;omega
   subst e2;rw[List.getElem_append_right (by omega),List.getElem_append_right δ];simp[hlen];exact hc w' h1 h2
theorem nD(c:Cm)(p1:Option Addr)(q1:Nat)(p2:Option Addr)(q2:Nat)(p3:Option Addr)(q3:Nat)(p4:Option Addr)(q4 n:Nat):(uq c p1 q1 p2 q2 p3 q3 p4 q4).set 14 (.int .i64 (n:Nat))=uq {c with next:=n} p1 q1 p2 q2 p3 q3 p4 q4:=rfl
theorem BK.next{w:World}{vs:List Value}{c:Cm}(h:BK w vs c)(n:Nat):BK w (vs.set 14 (.int .i64 (n:Nat))) {c with next:=n}:=by
 obtain⟨p1,q1,p2,q2,p3,q3,p4,q4,rfl,h1,h2,h3,h4⟩ :=h;exact⟨p1,q1,p2,q2,p3,q3,p4,q4,nD _ _ _ _ _ _ _ _ _ _,h1,h2,h3,h4⟩
theorem BK.stay{w:World}{vs:List Value}{c:Cm}(h:BK w vs c)(hn:c.next=0):vs.set 14 (.int .i64 (0:Nat))=vs:=by
 obtain⟨p1,q1,p2,q2,p3,q3,p4,q4,rfl,h1,h2,h3,h4⟩ :=h;refine Vu _ 14 _ ?_;show some (Value.int .i64 (c.next:Nat))=_;rw[hn]
theorem DX.ADi{b0:Nat}{w:World}{v:Value}{L:List Cm}{CS:List (List Value)}(h:DX b0 w v L CS):AF7 CS (GV L):=by
 have hlen:(GV L).length=L.length:=by simp[GV]
 have N3:∀i(h:i<(GV L).length),(GV L)[i]=((L[i]'(by omega)).name,(L[i]'(by omega)).label):=fun i h=>by simp[GV]
 refine⟨by rw[hlen];exact h.len,h.sU,fun i hi JC=> ?_,fun i hi JC=> ?_,fun i hi=> ?_,fun i hi=> ?_⟩
 ·rw[N3 i hi]
  obtain⟨p1,q1,p2,q2,p3,q3,p4,q4,e,_⟩ :=h.at'.out i (by omega) JC;rw[e];rfl
 ·rw[N3 i hi]
  obtain⟨p1,q1,p2,q2,p3,q3,p4,q4,e,_⟩ :=h.at'.out i (by omega) JC;rw[e];rfl
 ·rw[N3 i hi];exact(h.bnd _ (List.getElem_mem _)).1
 ·rw[N3 i hi];exact(h.bnd _ (List.getElem_mem _)).2.1
theorem nE{w:World}{b0 B:Nat}{a:Option Addr}{c n:Nat}{L:List Cm}{CS:List (List Value)}(h:w.ownsRow B 148 25 (.slice a n c) n CS.flatten)(hn:L.length=n)(ho:DX b0 w (.slice a n c) L CS):GV L= []∨∃g,a=some ⟨g,0,none⟩∧Mx w g CS (fun _=>0)∧B≤g:=by
 by_cases h0:L.length=0
 ·left
  rw[List.length_eq_zero_iff]at h0;rw[h0];rfl
 ·right
  have DL:CS.length=n:=by rw[ho.len];exact hn
  obtain⟨g,h1,h2,h3,h4,h5⟩ :=LB h DL ho.sU 0 (by omega);refine⟨g,h1,⟨h3,fun i hi=> ?_,h5⟩,h2⟩;obtain⟨g',g1,g2,g3,g4,g5⟩ :=LB h DL ho.sU i hi;rw[h1]at g1;simp at g1;subst g1;have JC:i<L.length:=by rw[←ho.len];exact hi
  rw[(ho.at'.out i JC hi).stay (ho.bnd _ (List.getElem_mem JC)).2.2];exact g4
theorem Dm.ABa{w w':World}{b0:Nat}{a:Option Addr}{c:Nat}{CS:List (List Value)}{L:List (Nat×Nat)}{N:Nat→Nat}(h:Dm w (b0+1) a c CS L N)(O:AQ b0 w w')(hg:∀g,a=some ⟨g,0,none⟩→b0+2≤g):Dm w' (b0+1) a c CS L N:=by
 refine⟨by rw[O.size];exact h.lt,(World.cell?_of_block (O.block (b0+1) (by omega))).trans h.c0,?_,h.ZI,h.ok⟩;rcases h.YN with h0| ⟨g,ha,hp,dJ⟩
 ·exact .inl h0
 ·exact .inr ⟨g,ha,hp.keep (O.block g (by have:=hg g ha;omega)) (by rw[O.size];exact δ),dJ⟩
theorem DX.ADj{b0 n c:Nat}{w:World}{a:Option Addr}{L:List Cm}{CS:List (List Value)}(h:DX b0 w (.slice a n c) L CS)(hv:Dm w (b0+1) a c CS (GV L) (Hz (GV L)))(hn:L.length=n)(hg:∀g,a=some ⟨g,0,none⟩→b0+2≤g):
  Cj b0 w (fun w=>KQ (CS.mapIdx (fun i vs=>vs.set 14 (.int .i64 (Hz (GV L) i:Nat)))) w (.slice a n c) (CD L)):=by
 intro w' h1 h2;have GQ:(CD L).length=n:=by rw[←hn];simp[CD]
 refine⟨a,c,by rw[GQ],fun k hk=> ?_⟩;have QR:k<L.length:=by omega
 have hkC:k<CS.length:=by rw[h.len];exact QR
 obtain⟨g,ha,hp,dJ⟩ :∃g,a=some ⟨g,0,none⟩∧Mx w g CS (Hz (GV L))∧g≠b0+1:=by
  rcases hv.YN with h0|h0
  ·have:=congrArg List.length h0
   simp[GV]at this;rw[this]at QR;simp at QR
  ·exact h0
 have AFd:=hg g ha;have hm:=h.at' w' h1 (fun k hk hF=>h2 k hk (fun h9=>hF (.inr (by omega)))) k QR hkC;refine⟨g,ha,by have:=hp.lt;omega,by simp;exact hkC,?_,?_⟩
 all_goals
  rw[List.getElem_mapIdx]
 ·exact fun j u hu=>(World.cell?_of_block (h2 g hp.lt (by omega))).trans (hp.at' k hkC j u hu)
 ·have e:(CD L)[k]= {L[k]with next:=Hz (GV L) k}:=by simp[CD]
  rw[e];exact hm.next _
def nF(b:Nat)(a:Option Addr)(c:Nat)(CS:List (List Value))(L:List (Nat×Nat))(w:World)(e:Ending)(w':World):Prop:=
 ∃r:Bool,e= .returned (.bool r)∧(r=true↔∀i(h:i<L.length),CZ L i h)∧(DW L 0=true→r=true→Dm w' b a c CS L (Hz L))∧KD a w w'
theorem YP(b:Nat)(a:Option Addr)(c:Nat)(CS:List (List Value))(L:List (Nat×Nat))(w:World)(hS:DW L 0=true→Dm w b a c CS L (fun k=>if P3 L k=123 then N6 L k else 0))(hW:Gf w b a c L):
  Calls prog 92 #[.pointer (some ⟨b,0,none⟩)] w fun e w'=>nF b a c CS L w e w':=by
 cases hb:DW L 0
 ·refine(Mw b a c L w hW).mono ?_
  rintro e w' ⟨r,h1,h2,h3,h4⟩;exact⟨r,h1,h2,fun h=>by(rw[hb]at h;cases h),h4⟩
 ·refine(Tu b a c CS L _ w (hS hb)).mono ?_
  rintro e w' ⟨r,h1,h2,h3,h4⟩;refine⟨r,h1,h2,fun _ hr=>(h3 hr).congr (fun k hk=> ?_),h4⟩;unfold ME Hz
  by_cases h9:MD L k=true
  ·rw[if_pos ⟨hk,h9⟩,if_pos h9]
  ·rw[if_neg (fun h=>h9 h.2),if_neg h9]
theorem zD(t:List UInt8)(c:Cm)(h:Dw t=some c):c.name<256∧c.label<256∧c.next=0:=by
 unfold Dw at h
 match hr:(CI t).2 with
 | []=>rw[hr]at h;cases h
 |d::r=>
  rw[hr,Rj]at h;split at h
  ·injection h with h
   subst h;refine⟨d.toNat_lt,?_,rfl⟩;show(if labelled d.toNat then Bv r else 0)<256;split
   ·exact Qu r
   ·decide
  ·cases h
theorem YQ(s:ByteArray)(k n:Nat):(s.extract k n).data.toList=(s.data.toList.drop k).take (n - k):=Lib.extract_data s k n
theorem nG(s:ByteArray)(k n:Nat)(h:mZ s k n):(∀c∈(s.extract k n).data.toList,c.toNat≠10)∧(s.extract k n).size=n - k:=by
 obtain⟨h1,h2,h3,h4⟩ :=h;refine⟨fun c hc=> ?_,by rw[ByteArray.size_extract,Nat.min_eq_left h2]⟩;rw[YQ]at hc;obtain⟨j,hj,rfl⟩ :=List.getElem_of_mem hc;rw[List.length_take,List.length_drop,Δ]at hj;rw[List.getElem_take,List.getElem_drop];exact h3 (k+j) (by omega) (by omega) (by omega)
theorem nH(s:ByteArray)(k n:Nat)(h:mZ s k n)(L:List Cm):IG L (s.data.toList.drop k)=if n=k then IG L (s.data.toList.drop (n+1))else(Dw (s.extract k n).data.toList).bind (fun c=>IG (L++ [c]) (s.data.toList.drop (n+1))):=by
 obtain⟨CQ,EV⟩ :=nG s k n h;have hx:=YQ s k n;obtain⟨h1,h2,h3,h4⟩ :=h;have hlen:(s.extract k n).data.toList.length=n - k:=by rw[Δ];exact EV
 have ABb:(s.extract k n).data.toList= []↔n=k:=by
  rw[←List.length_eq_zero_iff,hlen,Nat.sub_eq_zero_iff_le];exact⟨fun h=>Nat.le_antisymm h h1,fun h=>Nat.le_of_eq h⟩
 have zF:AR [] (s.data.toList.drop k)=if(s.extract k n).data.toList= []then AR [] (s.data.toList.drop (n+1))else(s.extract k n).data.toList::AR [] (s.data.toList.drop (n+1)):=by
  rcases h4 with h4| ⟨h4,h5⟩
  ·have e:s.data.toList.drop k=(s.extract k n).data.toList:=by
    rw[hx,List.take_of_length_le (by rw[List.length_drop,Δ];omega)]
   have e2:s.data.toList.drop (n+1)= []:=List.drop_of_length_le (by rw[Δ];omega);rw[e,bF _ [] CQ,e2,List.nil_append];have e3:AR [] []= []:=by rw[AR,if_pos rfl]
   rw[e3]
  ·have e:s.data.toList.drop k=(s.extract k n).data.toList++s[n]::s.data.toList.drop (n+1):=by
    rw[hx,←Ap s n h4];have e9:s.data.toList.drop n=(s.data.toList.drop k).drop (n - k):=by rw[List.drop_drop];congr 1;omega
    rw[e9,List.take_append_drop]
   rw[e,mh _ _ h5 _ [] CQ,List.nil_append]
 unfold IG;rw[zF]
 by_cases e:n=k
 ·rw[if_pos e,if_pos (ABb.2 e)]
 ·rw[if_neg e,if_neg (fun h=>e (ABb.1 h)),bH]
theorem Ie{w w':World}{base g:Nat}{e:TypeId}{size:Nat}{v:Value}{n:Nat}{xs:List Value}(h:w.ownsRow base e size v n xs)(ho:AQ g w w')(hne:v.ownBlock≠some g):w'.ownsRow base e size v n xs:=by
 obtain⟨h1,h2⟩ :=h;refine⟨h1,?_⟩;rcases h2 with h2| ⟨q,cap,cur,e1,e2,e3,e4⟩
 ·exact .inl h2
 ·refine .inr ⟨q,cap,cur,e1,e2,?_,e4⟩
  rw[ho.block q (fun e=>hne (by rw[e1,←e];rfl))];exact e3
def sX(s:ByteArray)(w:World)(e:Ending)(w':World):Prop:=
 Below w.heap.size w w'∧((e= .returned (.tuple #[.agg #[.slice none 0 0],.bool false])∧∀cs,¬Ef s.data.toList cs)∨∃(a:Option Addr)(c:Nat)(cs:List Cm)(Ec:List (List Value)),e= .returned (.tuple #[.agg #[.slice a cs.length c],.bool true])∧Ef s.data.toList cs∧Cj w.heap.size w' (fun w=>KQ Ec w (.slice a cs.length c) cs))
end Go.Proofs.YtlppphmnegdhoabGreatDoor
