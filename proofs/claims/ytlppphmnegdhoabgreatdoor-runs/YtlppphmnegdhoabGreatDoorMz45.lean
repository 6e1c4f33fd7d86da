import Derived.Test.YtlppphmnegdhoabGreatDoorMz44
set_option linter.unusedVariables false
set_option maxRecDepth 100000
set_option linter.unusedSimpArgs false
set_option maxHeartbeats 4000000
namespace Go.Proofs.YtlppphmnegdhoabGreatDoor
open Go.Proofs.Tryz
open Go.RowKit
open M
def PA(A:Nat→Prop)(w0:World):Value→World→Prop:=fun _ w=>Ag A w0 w
def aB(B lo:Nat)(k:Nat):Prop:=k<B∨lo≤k
structure Live(B lo hi:Nat)(cs:List Cm)(b:Nat)(F:Nat→Prop)(T:St)(w:World):Prop where
 ex:∃(V:RV)(Ec:List (List Value))(w0:World),π (PA (aB B lo) w0) b (Y3 0 false) V T w∧F=ρ b V∧(∀w,Ag (aB B lo) w0 w→KQ Ec w V.AZ cs)∧(∀w,Ag (aB B lo) w0 w→dp w)∧w0.heap.size=hi∧Ag (aB B lo) w0 w
 ft:∀k,F k→hi≤k
 cs:T.cs=cs
 wf:WF T
 de:T.AB=0
 fb:F b
theorem Live.lt{B lo hi:Nat}{cs:List Cm}{b:Nat}{F:Nat→Prop}{T:St}{w:World}(h:Live B lo hi cs b F T w):b<w.heap.size∧hi≤w.heap.size:=by
 obtain⟨V,Ec,w0,h1,_,_,_,h5,h6⟩ :=h.ex;exact⟨h1.box.lt,by rw[←h5];exact h6.1⟩
theorem Live.below{B lo hi:Nat}{cs:List Cm}{b:Nat}{F:Nat→Prop}{T:St}{w w':World}(h:Live B lo hi cs b F T w)(hb:Below w.heap.size w w'):Live B lo hi cs b F T w':=by
 obtain⟨V,Ec,w0,h1,h2,h3,h4,h5,h6⟩ :=h.ex;exact⟨⟨V,Ec,w0,h1.below hb,h2,h3,h4,h5,h6.Kv hb.size (fun k _ hk=>hb.block k (Nat.lt_of_lt_of_le hk h6.1))⟩,h.ft,h.cs,h.wf,h.de,h.fb⟩
theorem Live.other{B lo hi:Nat}{cs:List Cm}{b g0:Nat}{F:Nat→Prop}{T:St}{w w':World}(h:Live B lo hi cs b F T w)(O:AQ g0 w w')(hg:g0<w.heap.size)(hF:¬F g0)(hB:B≤g0)(hl:g0<lo∨hi≤g0)(hn:Wq w g0):Live B lo hi cs b F T w':=by
 obtain⟨V,Ec,w0,h1,h2,h3,h4,h5,h6⟩ :=h.ex
 have hA:Ag (aB B lo) w0 w':=h6.Kv (by rw[O.size];exact δ) (fun k hk Ep=>O.block k (fun e=>by
  subst e;rcases hk with hk|hk
  ·omega
  ·omega))
 refine⟨⟨V,Ec,w0,h1.other O hg (fun k hk e=>hF (by rw[h2,←e];exact hk)) hn ?_,h2,h3,h4,h5,hA⟩,h.ft,h.cs,h.wf,h.de,h.fb⟩
 exact hA.ACH (fun k hk h9=>by
  have:=h.ft k (by rw[h2];exact hk);omega)
def DA(steps room:Int):Prop:=steps<0∨5000<steps∨room<1∨256<room
def AAE(B:Nat)(s:ByteArray)(quiet:Bool)(steps room:Int)(w:World)(e:Ending)(w':World):Prop:=
 Below w.heap.size w w'∧
  ((∃n x:Int,iB s n x∧x≠0∧e= .returned (.tuple #[.pointer none,.int .i64 x]))∨
   (∃cs,s.size≤400∧Ef s.data.toList cs∧DA steps room∧e= .returned (.tuple #[.pointer none,.int .i64 3]))∨
   (∃(cs:List Cm)(b hi:Nat)(F:Nat→Prop),s.size≤400∧Ef s.data.toList cs∧¬DA steps room∧e= .returned (.tuple #[.pointer (some ⟨b,0,none⟩),.int .i64 0])∧w.heap.size≤hi∧Live B w.heap.size hi cs b F (JM cs quiet steps.toNat room.toNat) w'))
theorem cB (B : Nat) (s : ByteArray) (quiet : Bool) (steps room : Int) (w : World) (hs : s.size ≤ maxLen) (hT : OH B w) (RU : -9223372036854775808 ≤ steps) (LV : steps ≤ 9223372036854775807) (Nf : -9223372036854775808 ≤ room) (dG : room ≤ 9223372036854775807) :
  Calls prog 24 #[.string s, .bool quiet, .int .i64 steps, .int .i64 room] w fun e w' => AAE B s quiet steps room w e w' := by
 go_enter func24, ntmps24
 go_wp2_with fail
 refine (T2 s w hs).mono ?_;rintro e w2 ⟨B2, a, n, c, x, rfl, EK⟩;have Cq : CB (w2.alloc (.cells #[.slice none 0 0] 73)) w2.heap.size [.slice none 0 0] := CB.new w2 73 #[.slice none 0 0] (by simp [Value.oneCell']);have Hx := B2.alloc (o := .cells #[.slice none 0 0] 73) B2.size;have Fw := B2.size;have Nr : (∃ m : Int, iB s m x ∧ (x = 1 ∨ x = 2)) ∨ (x = 0 ∧ s.size ≤ 400 ∧ ∃ (cs : List Cm) (Ec : List (List Value)), n = cs.length ∧ Ef s.data.toList cs ∧ Cj w.heap.size w2 (fun w => KQ Ec w (.slice a n c) cs)) := by
  rcases EK with ⟨h1, rfl⟩ | ⟨h1, ⟨rfl, CQ⟩ | ⟨l, Ec, rfl, rfl, h2, h3⟩⟩
  ·exact .inl ⟨0, .inl ⟨h1, rfl, rfl⟩, .inl rfl⟩
  ·exact .inl ⟨0, .inr ⟨h1, .inl ⟨rfl, rfl, CQ⟩⟩, .inr rfl⟩
  ·exact .inr ⟨rfl, h1, l, Ec, rfl, h2, h3⟩
 clear EK;rcases Nr with ⟨m, F6, hx⟩ | ⟨rfl, ACJ, cs, Ec, rfl, WS, hcs⟩
 ·have ZV : Hid (iB s m x) := F6
  clear F6;rcases hx with rfl | rfl
  all_goals
   go_wp2_with (refine θ Dd Cq rfl rfl _ _ rfl rfl (vs := [.slice a n c]) rfl rfl (by simp [Value.oneCell']) ?_; intro w5 BP O5)
   go_ret2
  ·exact ⟨Hx.trans (O5.below (by omega)), .inl ⟨m, 1, ZV.out, by decide, rfl⟩⟩
  ·exact ⟨Hx.trans (O5.below (by omega)), .inl ⟨m, 2, ZV.out, by decide, rfl⟩⟩
 ·have Ip : Hid (s.size ≤ 400 ∧ Ef s.data.toList cs) := ⟨ACJ, WS⟩
  have Qb := γ hcs;have Fx := dX s.data.toList (by rw [Δ]; exact ACJ) cs WS;have vx := Fx.1;have QT : Hid (∀ c ∈ cs, DZ c) := Fx.2.1;clear WS hcs Fx
  by_cases OK : DA steps room
  ·have iJ : Hid (DA steps room) := OK
   have uT : steps < 0 ∨ (¬ steps < 0 ∧ 5000 < steps) ∨ (¬ steps < 0 ∧ ¬ 5000 < steps ∧ room < 1) ∨ (¬ steps < 0 ∧ ¬ 5000 < steps ∧ ¬ room < 1 ∧ 256 < room) := by
    unfold DA at OK;omega
   clear OK;rcases uT with h1 | ⟨h1, h2⟩ | ⟨h1, h2, h3⟩ | ⟨h1, h2, h3, h4⟩
   all_goals
    go_wp2_with (refine θ Dd Cq rfl rfl _ _ rfl rfl (vs := [.slice a cs.length c]) rfl rfl (by simp [Value.oneCell']) ?_; intro w5 BP O5)
    go_ret2;exact ⟨Hx.trans (O5.below (by omega)), .inr (.inl ⟨cs, Ip.out.1, Ip.out.2, iJ.out, rfl⟩)⟩
  ·have iJ : Hid (¬ DA steps room) := OK
   obtain ⟨h1, h2, h3, h4⟩ : ¬ steps < 0 ∧ ¬ 5000 < steps ∧ ¬ room < 1 ∧ ¬ 256 < room := by
    unfold DA at OK;omega
   obtain ⟨st, BZ⟩ : ∃ st : Nat, steps = st := ⟨steps.toNat, by omega⟩
   obtain ⟨rm, ZK⟩ : ∃ rm : Nat, room = rm := ⟨room.toNat, by omega⟩
   subst BZ;subst ZK;clear OK
   go_wp2_with (first
    | (refine θ Dd Cq rfl rfl _ _ rfl rfl (vs := [.slice a cs.length c]) rfl rfl (by simp [Value.oneCell']) ?_
       intro w5 BP O5;have c5 := BP.c 0 _ rfl;have l5 := BP.lt;have B5 := Hx.trans (O5.below (B := w.heap.size) (by omega)))
    | refine ω Dd BP rfl rfl _ rfl rfl ?_)
   refine (Y6 a c cs quiet st rm w5 vx (by omega) (by omega)).mono ?_;rintro e w6 ⟨B6, v, rfl, ν⟩;have oJ : CB (w6.alloc (.cells LS.toArray 84)) w6.heap.size LS := CB.new w6 84 LS.toArray Su;have LY := B6.size;have Qk : w5.heap.size = w2.heap.size + 1 := by rw [O5.size]; simp
   have KP6 : Hid (Below w2.heap.size w2 w6) := ((((Below.refl w2.heap.size w2).alloc δ _).trans (O5.below δ)).trans (B6.mono (by omega)))
   have BB6 := B5.trans (B6.mono (by omega));have BA : Below w6.heap.size w6 (w6.alloc (.cells LS.toArray 84)) := ζ.alloc δ _;have Uw := Ξ ν BA;have HN : Hid (∀ u ∈ GD (Ss (.slice a cs.length c) v) (JM cs quiet st rm), u.oneCell' = true) := by
    have h9 := Qp ν;intro u hu;simp [GD, Ss] at hu;rcases hu with rfl | rfl | rfl | rfl | rfl | rfl | rfl | rfl | rfl | rfl | rfl | rfl | rfl | rfl | rfl | rfl | rfl | rfl | rfl <;> first | rfl | exact h9
   have hE : GD (Ss (.slice a cs.length c) v) (JM cs quiet st rm) = [.slice a cs.length c, v, .bool quiet, .int .i64 (st : Nat), .int .i64 (rm : Nat), .string ⟨#[]⟩, .bool false, .int .i64 0, .int .i64 0, .slice none 0 0, .slice none 0 0, .slice none 0 0, .int .i64 0, .slice none 0 0, .bool false, .int .i64 0, .int .i64 1, .bool false, .int .i64 0] := rfl;rw [hE] at HN ⊢;have Qo : Hid (∀ u ∈ ([.slice a cs.length c, v, .bool quiet, .int .i64 (st : Nat), .int .i64 (rm : Nat), .string ⟨#[]⟩, .bool false, .int .i64 0, .int .i64 0, .slice none 0 0, .slice none 0 0, .slice none 0 0, .int .i64 0, .slice none 0 0, .bool false, .int .i64 0, .int .i64 1, .bool false, .int .i64 0, .int .i64 0, .bool false] : List Value), u.oneCell' = true) := I6 HN.out (m := [.int .i64 0, .bool false]) (by simp [Value.oneCell']);have HHT := γ hT;clear hE hT Cq Hx
   go_wp2_with (first
    | (refine θ Ux oJ rfl rfl _ _ rfl rfl (vs := [.slice a cs.length c, v, .bool quiet, .int .i64 (st : Nat), .int .i64 (rm : Nat), .string ⟨#[]⟩, .bool false, .int .i64 0, .int .i64 0, .slice none 0 0, .slice none 0 0, .slice none 0 0, .int .i64 0, .slice none 0 0, .bool false, .int .i64 0, .int .i64 1, .bool false, .int .i64 0]) rfl rfl HN.out ?_
       intro w7 KH O7;have lX : w6.heap.size + 1 ≤ w7.heap.size := by rw [O7.size]; simp
       have DU := Ie Uw O7 (fun e => by have := (ν.lt _ e).2; omega);have B7 : Below w6.heap.size w6 w7 := BA.trans (O7.below δ))
    | refine ω Ux KH rfl rfl _ rfl rfl ?_
    | (refine AU rfl _ rfl ([.slice a cs.length c, v, .bool quiet, .int .i64 (st : Nat), .int .i64 (rm : Nat), .string ⟨#[]⟩, .bool false, .int .i64 0, .int .i64 0, .slice none 0 0, .slice none 0 0, .slice none 0 0, .int .i64 0, .slice none 0 0, .bool false, .int .i64 0, .int .i64 1, .bool false, .int .i64 0, .int .i64 0, .bool false] : List Value) rfl Qo.out ?_
       intro w8 Nl B8 pK))
   go_ret2;have D9 := Ξ DU B8;have qg : Below w6.heap.size w6 w8 := B7.trans (B8.mono (by omega));refine ⟨BB6.trans (qg.mono (by omega)), .inr (.inr ⟨cs, w7.heap.size, w2.heap.size, ρ w7.heap.size (Ss (.slice a cs.length c) v), Ip.out.1, Ip.out.2, iJ.out, rfl, Fw, ?_⟩)⟩;have hA : Ag (aB B w.heap.size) w2 w8 := ⟨by omega, fun k _ hk => (qg.block k (by omega)).trans (KP6.out.block k hk)⟩
   have KC : ∀ k, ρ w7.heap.size (Ss (.slice a cs.length c) v) k → w2.heap.size ≤ k := fun k hk => by
    rcases hk with e | e | e | e
    ·omega
    ·cases e
    ·have e : v.ownBlock = some k := e
     have := (ν.lt k e).1; omega
    ·cases e
   refine ⟨⟨Ss (.slice a cs.length c) v, Ec, w2, ?_, rfl, ?_, ?_, rfl, hA⟩, KC, rfl, JM.wf cs quiet _ _ vx QT.out (by omega) (by omega), rfl, .inl rfl⟩
   ·refine ⟨Nl, World.ownsRow_nil _ _ _ _, ?_, World.ownsRow_nil _ _ _ _, fun e => (by cases e), fun e => ?_, fun e => (by cases e), hA.ACH (fun k hk h9 => by have := KC k hk; omega), fun w' _ _ => ψ.nil w', fun w' _ _ => ψ.nil w', rfl⟩
    ·have h9 := AH D9 ε
     show World.ownsRow _ 0 _ 1 v (List.replicate cs.length false).length ((List.replicate cs.length false).map .bool);rw [List.length_replicate, List.map_replicate]; exact h9
    ·have e : v.ownBlock = some w7.heap.size := e
     have := (ν.lt _ e).2; omega
   ·exact fun w' hw' => Qb.out w' hw'.1 (fun k hk Ep => hw'.2 k (.inr (Nat.le_of_not_lt Ep)) hk)
   ·exact fun w' hw' => HHT.out.2 w' (fun k hk => by
     have h9 := HHT.out.1;rw [hw'.2 k (.inl hk) (by omega)];exact B2.block k (by omega))
def E0(s:ByteArray)(quiet:Bool)(steps room:Nat):DE:=⟨s,quiet,steps,room,⟨#[]⟩,0,false,0⟩
theorem T6(s:ByteArray)(w:World)(hs:s.size≤maxLen):
  Calls prog 46 #[.string s] w fun e w'=>yL s w e w':=by
 unfold maxLen at hs
 by_cases h1:400<s.size
 ·have Pr:(400:Int)<(s.size:Int):=by omega
  go_enter func46,ntmps46
  go_wp2;go_ret2;exact⟨⟨0,1,rfl,.inl ⟨h1,rfl,rfl⟩⟩,ζ⟩
 ·have Pr:¬(400:Int)<(s.size:Int):=by omega
  have Z3:s.size≤400:=by omega
  go_enter func46,ntmps46
  go_wp2_with fail
  refine(KE s w Z3).mono ?_;rintro e w2 ⟨B2,⟨v,rfl,CQ⟩ | ⟨a,c,l,V,rfl,BW,GQ,hl,_,_⟩⟩
  ·have HS:Hid (La s 0 2):= .inr ⟨Z3,.inl ⟨CQ,rfl,rfl⟩⟩
   clear CQ;go_wp2;go_ret2;exact⟨⟨0,2,rfl,HS.out⟩,B2⟩
  ·have HS:Hid (La s l.length 0):= .inr ⟨Z3,.inr ⟨l,BW,GQ,rfl,rfl⟩⟩
   clear BW GQ;go_wp2;go_ret2;exact⟨⟨l.length,0,rfl,HS.out⟩,B2⟩
theorem AAF{s:ByteArray}{n x:Int}(h:La s n x):iB s n x:=by
 rcases h with⟨h1,rfl,rfl⟩ | ⟨h1,⟨h2,rfl,rfl⟩ | ⟨l,h2,h3,rfl,rfl⟩⟩
 ·exact .inl ⟨h1,rfl,rfl⟩
 ·refine .inr ⟨h1,.inl ⟨rfl,rfl,fun cs hcs=> ?_⟩⟩
  rcases bG s.data.toList with⟨g1,_⟩ | ⟨_,l,_,g2,g3,_⟩
  ·exact g1 cs hcs
  ·exact h2 l g2 g3
 ·rcases bG s.data.toList with⟨_,g1⟩ | ⟨cs,l',g1,g2,g3,g4⟩
  ·exact absurd h3 (g1 l h2)
  ·rw[h2]at g2
   injection g2 with g2;subst g2;exact .inr ⟨h1,.inr ⟨cs,by rw[g4],rfl,g1⟩⟩
def uI(s:ByteArray)(quiet:Bool)(steps room:Int)(w:World)(e:Ending)(w':World):Prop:=
 Below w.heap.size w w'∧
  ((∃n x:Int,iB s n x∧x≠0∧e= .returned (.tuple #[.pointer none,.int .i64 x]))∨
   (∃cs,s.size≤400∧Ef s.data.toList cs∧DA steps room∧e= .returned (.tuple #[.pointer none,.int .i64 3]))∨
   (∃(cs:List Cm)(b:Nat),s.size≤400∧Ef s.data.toList cs∧¬DA steps room∧e= .returned (.tuple #[.pointer (some ⟨b,0,none⟩),.int .i64 0])∧w.heap.size≤b∧Dc w' b (E0 s quiet steps.toNat room.toNat)))
theorem AAG(w:World)(s:ByteArray)(quiet:Bool)(steps room:Nat):Dc (w.alloc (.cells #[.string s,.bool quiet,.int .i64 (steps:Nat),.int .i64 (room:Nat),.string ⟨#[]⟩,.int .i64 0,.bool false,.int .i64 0] 89)) w.heap.size (E0 s quiet steps room):=by
 have hb:=CB.new w 89 #[.string s,.bool quiet,.int .i64 (steps:Nat),.int .i64 (room:Nat),.string ⟨#[]⟩,.int .i64 0,.bool false,.int .i64 0] (by simp[Value.oneCell']);refine⟨hb,fun j x=> ?_⟩;rw[cell_of_row _ _ _ _ _ _ (heap_alloc_new w _)]
 match j with
 |0=>simp
 |1=>simp
 |2=>simp
 |3=>simp
 |4=>simp
 |5=>simp
 |6=>simp
 |7=>simp
 |j+8=>simp
theorem Y7(s:ByteArray)(quiet:Bool)(steps room:Int)(w:World)(hs:s.size≤maxLen)(RU: -9223372036854775808≤steps)(LV:steps≤9223372036854775807)(Nf: -9223372036854775808≤room)(dG:room≤9223372036854775807):
  Calls prog 25 #[.string s,.bool quiet,.int .i64 steps,.int .i64 room] w fun e w'=>uI s quiet steps room w e w':=by
 have HC:=T6 s w hs
 go_enter func25,ntmps25
 go_wp2_with fail
 refine HC.mono ?_;clear HC;rintro e w1 ⟨⟨n,x,rfl,F6⟩,B1⟩;have hcv:=AAF F6;have hx:=hcv.x;have ZV:=γ hcv
 by_cases h0:x=0
 ·subst h0
  have vH:Hid (s.size≤400∧∃cs,Ef s.data.toList cs):=by
   rcases ZV.out with⟨_,_,h⟩ | ⟨h1,⟨_,h,_⟩ | ⟨cs,_,_,h⟩⟩
   ·cases h
   ·cases h
   ·exact⟨h1,cs,h⟩
  clear F6 hcv hx
  by_cases h1:steps<0
  ·have HB:Hid (DA steps room):= .inl h1
   go_wp2;go_ret2;obtain⟨q1,cs,q2⟩ :=vH.out;exact⟨B1,.inr (.inl ⟨cs,q1,q2,HB.out,rfl⟩)⟩
  ·by_cases h2:5000<steps
   ·have HB:Hid (DA steps room):= .inr (.inl h2)
    go_wp2;go_ret2;obtain⟨q1,cs,q2⟩ :=vH.out;exact⟨B1,.inr (.inl ⟨cs,q1,q2,HB.out,rfl⟩)⟩
   ·by_cases h3:room<1
    ·have HB:Hid (DA steps room):= .inr (.inr (.inl h3))
     go_wp2;go_ret2;obtain⟨q1,cs,q2⟩ :=vH.out;exact⟨B1,.inr (.inl ⟨cs,q1,q2,HB.out,rfl⟩)⟩
    ·by_cases h4:256<room
     ·have HB:Hid (DA steps room):= .inr (.inr (.inr h4))
      go_wp2;go_ret2;obtain⟨q1,cs,q2⟩ :=vH.out;exact⟨B1,.inr (.inl ⟨cs,q1,q2,HB.out,rfl⟩)⟩
     ·obtain⟨st,rfl⟩ :∃k:Nat,steps=(k:Int):=⟨steps.toNat,by omega⟩
      obtain⟨rm,rfl⟩ :∃k:Nat,room=(k:Int):=⟨room.toNat,by omega⟩
      have HB:Hid (¬DA (st:Int) (rm:Int)):=fun h=>by
       rcases h with h|h |h |h
       ·exact h1 h
       ·exact h2 h
       ·exact h3 h
       ·exact h4 h
      have HN:=AAG w1 s quiet st rm;have R8:=γ HN;clear HN;go_wp2;go_ret2;obtain⟨q1,cs,q2⟩ :=vH.out;exact⟨B1.alloc B1.size _,.inr (.inr ⟨cs,w1.heap.size,q1,q2,HB.out,rfl,B1.size,R8.out⟩)⟩
 ·have KA:(x !=0)=true:=by simp[h0]
  have hxb: -9223372036854775808≤x∧x≤9223372036854775807:=by omega
  go_wp2;go_ret2;exact⟨B1,.inl ⟨n,x,ZV.out,h0,rfl⟩⟩
theorem M.uJ{S T:St}(h:Goes S T):T.cs=S.cs:=by
 induction h with
 |stop _=>rfl
 | @step S T h hg ih=>
   rw[ih];unfold St.move;split
   ·exact(St.HU S).cs
   ·split
    ·rfl
    ·split
     ·unfold St.AW
      split
      ·rfl
      ·unfold St.Am
       exact((St.El S).trans (St.Ch _)).cs
     ·exact(St.I8 S).2.2.2.1
theorem M.Ob.cs{cs:List Cm}{quiet:Bool}{steps room:Nat}{t:ByteArray}{T:St}(h:Ob (JM cs quiet steps room) t T):T.cs=cs:=M.uJ h.go
def AAH(B lo hi:Nat)(cs:List Cm)(quiet:Bool)(steps room b:Nat)(F:Nat→Prop)(t s:ByteArray)(T:St)(w:World)(e:Ending)(w':World):Prop:=
 (4096<t.size+s.size∧e= .returned (.tuple #[.string ⟨#[]⟩,.int .i64 1])∧w'=w)∨
 (t.size+s.size≤4096∧∃(T':St)(F':Nat→Prop),Ob (JM cs quiet steps room) (t++s) T'∧T.out<+:T'.out∧T'.AB≤6∧T'.out.length≤4096∧e= .returned (.tuple #[.string (Dr (τ T'.out T.out.length T'.out.length)),.int .i64 (T'.AB:Nat)])∧Rf F F' w w'∧
  ((T'.AB=0∧Live B lo hi cs b F' T' w')∨(T'.AB≠0∧CB w' b (zE T'.AB false)∧F'=(fun k=>k=b))))
theorem uK{B lo hi:Nat}{cs:List Cm}{quiet:Bool}{steps room b:Nat}{F:Nat→Prop}{T:St}{w:World}(h:Live B lo hi cs b F T w)(t:ByteArray)(hf:Ob (JM cs quiet steps room) t T)(s:ByteArray)(FV:s.size≤maxLen):
  Calls prog 26 #[.pointer (some ⟨b,0,none⟩),.string s] w fun e w'=>AAH B lo hi cs quiet steps room b F t s T w e w':=by
 obtain⟨V,Ec,w0,h1,h2,h3,h4,h5,h6⟩ :=h.ex;have hcs:=h.cs;refine(bz Ec _ b V T s w h1 h.wf (fun w' hw'=>by rw[hcs];exact h3 w' hw') (dr _ _ (fun w' hw'=>h4 w' hw')) FV).mono ?_;rintro e w' (⟨g1,g2,g3⟩ | ⟨g1,T',g2,g3,g4,g5⟩)
 all_goals
  rw[hf.text.1]at g1
 ·exact .inl ⟨g1,g2,g3⟩
 ·have hfd:=hf.feed s g2
  have uL:T.out<+:T'.out:=by
   have h9:=Goes.out g2;exact h9
  refine .inr ⟨g1,T',?_⟩;rcases g5 with⟨d0,V',e1,e2,e3⟩ | ⟨d0,e2,e3⟩
  ·refine⟨ρ b V',hfd,uL,g3.de,g3.ou,g4,by rw[h2];exact e3,.inl ⟨d0,?_⟩⟩
   have hA:Ag (aB B lo) w0 w':=e2.AZ.out;refine⟨⟨V',Ec,w0,e2,rfl,fun w'' hw''=>by rw[e1];exact h3 w'' hw'',h4,h5,hA⟩,fun k hk=> ?_,hfd.cs,g3,d0,.inl rfl⟩;rcases e3.new k hk with h9|h9
   ·exact h.ft k (by rw[h2];exact h9)
   ·have:=h.lt.2;omega
  ·exact⟨fun k=>k=b,hfd,uL,g3.de,g3.ou,g4,by rw[h2];exact e3,.inr ⟨d0,e2,rfl⟩⟩
def AAI(cs:List Cm)(quiet:Bool)(steps room b:Nat)(F:Nat→Prop)(t:ByteArray)(T:St)(w:World)(e:Ending)(w':World):Prop:=
 ∃R:St,oA cs quiet steps room t R∧T.out<+:R.out∧R.AB≤6∧R.out.length≤4096∧CB w' b (zE 0 true)∧Rf F (fun k=>k=b) w w'∧∃j:ByteArray,e= .returned (.tuple #[.string (Dr (τ R.out T.out.length R.out.length)),.string j,.int .i64 (R.AB:Nat)])∧(R.AB≠0→j=⟨#[]⟩)∧(R.AB=0→j.data.toList=QF R)
theorem od{B lo hi:Nat}{cs:List Cm}{quiet:Bool}{steps room b:Nat}{F:Nat→Prop}{T:St}{w:World}(h:Live B lo hi cs b F T w)(t:ByteArray)(hf:Ob (JM cs quiet steps room) t T):
  Calls prog 28 #[.pointer (some ⟨b,0,none⟩)] w fun e w'=>AAI cs quiet steps room b F t T w e w':=by
 obtain⟨V,Ec,w0,h1,h2,h3,h4,h5,h6⟩ :=h.ex;have hcs:=h.cs;refine(Y5 Ec _ b V T w h1 h.wf (fun w' hw'=>by rw[hcs];exact h3 w' hw') (dr _ _ (fun w' hw'=>h4 w' hw')) (fun T' hg=>oA.ABj (hf.close hg))).mono ?_;rintro e w' ⟨R,g1,g2,g3,g4,g5⟩;have uL:T.out<+:R.out:=by
  have h9:=Goes.out g1;exact h9
 refine⟨R,hf.close g1,uL,g2.de,g2.ou,g3,by rw[h2];exact g4,?_⟩;rcases g5 with⟨d0,rfl⟩ | ⟨d0,j,hj,rfl⟩
 ·exact⟨⟨#[]⟩,rfl,fun _=>rfl,fun h=>absurd h d0⟩
 ·exact⟨j,by rw[d0];rfl,fun h=>absurd d0 h,fun _=>hj⟩
theorem M.NB(cs:List Cm):∀(f:Nat)(D:DS)(b:Bool),(DS.By cs f D b).text=D.text
 |0,D,b=>rfl
 |f+1,D,b=>by
  by_cases h0:D.state=0
  ·cases b with
   |true=>rw[LP cs f D h0,M.NB cs f,(Lm cs D).1]
   |false=>
    cases ha:D.ask.1 with
    |false=>
     rw[M6 cs f D h0 ha];split
     all_goals
      exact(bR D).text
    |true=>
     rw[M7 cs f D h0 ha];have g:=(QB D D.Θ (EM D ha).2.1).2.2.1;split
     ·exact g
     ·rw[M.NB cs f,(Lm cs _).1,g]
  ·rw[Lj cs (f+1) D b h0]
theorem M.cE(cs:List Cm)(quiet:Bool)(steps room:Nat)(t:ByteArray)(closed:Bool):(Ay cs quiet steps room t closed).text=t:=M.NB cs _ _ _
def du(cs:List Cm)(b:Nat)(E:DE)(w:World)(e:Ending)(w':World):Prop:=
 KV b w w'∧((E.closed=true∧e= .returned (.tuple #[.string ⟨#[]⟩,.string ⟨#[]⟩,.int .i64 7])∧Dc w' b E)∨
  (E.closed=false∧E.err≠0∧e= .returned (.tuple #[.string ⟨#[]⟩,.string ⟨#[]⟩,.int .i64 (E.err:Nat)])∧Dc w' b {E with closed:=true})∨
  (E.closed=false∧E.err=0∧∃(j:ByteArray)(E':DE),e= .returned (.tuple #[.string (Yu E.told (Dr (Ay cs E.quiet E.steps E.room E.input true).out)),.string j,.int .i64 ((Ay cs E.quiet E.steps E.room E.input true).err:Nat)])∧
   ((Ay cs E.quiet E.steps E.room E.input true).err≠0→j=⟨#[]⟩)∧((Ay cs E.quiet E.steps E.room E.input true).err=0→j.data.toList=Pk ⟨E.input.size,(Ay cs E.quiet E.steps E.room E.input true).out.length,sum E.input.data.toList,sum (AL (Ay cs E.quiet E.steps E.room E.input true).out),norm (BH (Ck E.input (Ay cs E.quiet E.steps E.room E.input true).out))⟩)∧
   Dc w' b E'∧E'.closed=true))
theorem Wc(cs:List Cm)(b:Nat)(E:DE)(w:World)(hb:Dc w b E)(hk:EdK cs E)(jD:Ax E.input.data.toList (Ay cs E.quiet E.steps E.room E.input true).out):
  Calls prog 29 #[.pointer (some ⟨b,0,none⟩)] w fun e w'=>du cs b E w e w':=by
 have HB:=γ hb;have HK:=γ hk;have HOG:=γ jD;have Bq:=hb.box.lt;have c6:=hb.box.c 6 _ rfl;have c7:=hb.box.c 7 _ rfl;have f6:=hb.box.fz 6 (by rw[Ln];decide);have her:=hk.er;obtain⟨cl,DL⟩ :∃x,E.closed=x:=⟨_,rfl⟩
 have Ms:=γ DL;rw[DL]at c6;clear hb hk DL jD;cases cl with
 |true=>
  go_enter func29,ntmps29
  go_wp2;go_ret3;exact⟨KV.refl _ _,.inl ⟨Ms.out,rfl,HB.out⟩⟩
 |false=>
  have hA:=HB.out.set 6 (by decide) (.bool true) rfl (fun x e=>by cases e) (E':= {E with closed:=true}) rfl;have HA:=γ hA
  by_cases h0:E.err=0
  ·have KA:((E.err:Int) !=0)=false:=by simp[h0]
   have H0:=γ h0;have HC:=MW b {E with closed:=true} cs _ hA.box HK.out.sc HK.out.sv HK.out.st HK.out.ro HK.out.inp;clear hA h0
   go_enter func29,ntmps29
   go_wp2_with fail
   refine HC.mono ?_;clear HC;rintro e w2 ⟨P,r,V,rfl,hR,RE,B2,EU⟩;have hR:AD P r V (Ay cs E.quiet E.steps E.room E.input true) w2:=hR;have EU:DB cs.length (Ay cs E.quiet E.steps E.room E.input true):=EU;have CJ:=HA.out.below B2;have hne:b≠r:=by
    have h9:(w.setCell ⟨b,6,none⟩ (.bool true)).heap.size≤r:=RE;simp at h9;omega
   have L5:Hid ((Ay cs E.quiet E.steps E.room E.input true).text=E.input):=M.cE _ _ _ _ _ _;have F7:=γ EU;have HR:=γ hR;have HN8:=γ CJ.no;have HC:=QD b {E with closed:=true} P r V (Ay cs E.quiet E.steps E.room E.input true) w2 CJ hR hne EU.ou HK.out.tl;clear hR EU
   go_wp2_with fail
   refine HC.mono ?_;clear HC;rintro e w3 ⟨rfl,CM,aP⟩;have g7:w3.cell? ⟨b,7,none⟩ =some (.int .i64 ((Ay cs E.quiet E.steps E.room E.input true).err:Nat)):=CM.box.c 7 _ rfl;have lb3:=CM.box.lt;have hlr:r<w2.heap.size:=HR.out.box.lt;have kr:w3.heap[r]? =w2.heap[r]? :=aP.block r hlr (Ne.symm hne);have bm:w3.cell? ⟨r,16,none⟩ =some V.out:=(World.cell?_of_block kr).trans (HR.out.cell 16 _ rfl);have k0:w3.cell? ⟨r,0,none⟩ =some (.string (Ay cs E.quiet E.steps E.room E.input true).text):=(World.cell?_of_block kr).trans (HR.out.cell 0 _ rfl);have cD:ψ w3 V.out (Ay cs E.quiet E.steps E.room E.input true).out:=HR.out.out.out.apart HN8.out aP.size aP.block;have AEq:r<w3.heap.size:=Nat.lt_of_lt_of_le hlr aP.size;have HJ:=Sy r (Ay cs E.quiet E.steps E.room E.input true) V.out w3 bm cD k0 AEq F7.out.tx F7.out.ou (by rw[L5.out];exact HOG.out);have HAP:Hid (KV b w w3):=((KV.set b 6 _ w).trans (KV.below B2)).trans aP;have Lg:=γ CM;clear CM aP CJ bm k0 cD kr;have AFy:=F7.out.er;generalize hD:Ay cs E.quiet E.steps E.room E.input true=DD at*;have HDD:=γ hD;clear hD
   by_cases he:DD.err=0
   ·have yR:((DD.err:Int) !=0)=false:=by simp[he]
    go_wp2_with fail
    refine HJ.mono ?_;clear HJ;rintro e w4 ⟨⟨jj,rfl,hjj⟩,B4⟩;go_wp2;go_ret3;refine⟨HAP.out.trans (KV.below B4),.inr (.inr ⟨Ms.out,H0.out,jj,_,?_,fun h9=>absurd (by rw[HDD.out];exact he) h9,fun _=> ?_,Lg.out.below B4,rfl⟩)⟩
    ·rw[HDD.out,he];rfl
    ·rw[HDD.out,hjj,L5.out]
   ·have yR:((DD.err:Int) !=0)=true:=by simp;omega
    clear HJ
    go_wp2_with fail
    go_region_held3(fun w'=>w'.cell? ⟨b,7,none⟩ =some (.int .i64 (DD.err:Nat))∧b<w'.heap.size)
     (go_keep)
     (fail)
    go_wp2;go_ret3;refine⟨HAP.out.trans (KV.below (ζ.drew)),.inr (.inr ⟨Ms.out,H0.out,⟨#[]⟩,_,?_,fun _=>rfl,fun h9=>absurd (by rw[HDD.out]at h9;exact h9) he,Lg.out.below (ζ.drew),rfl⟩)⟩;rw[HDD.out];rfl
  ·have KA:((E.err:Int) !=0)=true:=by simp;omega
   have g7:(w.setCell ⟨b,6,none⟩ (.bool true)).cell? ⟨b,7,none⟩ =some (.int .i64 (E.err:Nat)):=hA.box.c 7 _ rfl;have gl:=hA.box.lt;clear hA
   go_enter func29,ntmps29
   go_wp2_with fail
   generalize hW:w.setCell ⟨b,6,none⟩ (.bool true)=W at*
   go_region_held3(fun w'=>w'.cell? ⟨b,7,none⟩ =some (.int .i64 (E.err:Nat))∧b<w'.heap.size)
    (go_keep)
    (fail)
   go_wp2;go_ret3;refine⟨?_,.inr (.inl ⟨Ms.out,h0,rfl,HA.out.below (ζ.drew)⟩)⟩;rw[←hW];exact(KV.set b 6 _ w).trans (KV.below (ζ.drew))
end Go.Proofs.YtlppphmnegdhoabGreatDoor
namespace Go.Proofs.YtlppphmnegdhoabGreatDoor
open Go.RowKit
open M
theorem Sv{F G:Nat→Prop}{lo:Nat}{w w':World}(h:Rf F G w w')(hF:∀k,F k→lo≤k)(hl:lo≤w.heap.size):Below lo w w':=⟨h.os,h.tape,h.output,h.size,fun k hk=>h.block k (by omega) (fun hf=>by have:=hF k hf;omega)⟩
structure Pe(w:World)(a:Option Addr)(L:List ByteArray):Prop where
 at':L= []∨∃g o,a=some ⟨g,o,none⟩∧g<w.heap.size∧∀i(h:i<L.length),w.cell? ⟨g,o+i,none⟩ =some (.string L[i])
theorem Wq.keep{w w':World}{g:Nat}(h:Wq w g)(hk:w'.heap[g]? =w.heap[g]?):Wq w' g:=fun o z e=>h o z (by rw[←e];exact(World.cell?_of_block hk).symm)
theorem Wq.set{w:World}{g o:Nat}{u v:Value}(h:Wq w g)(hs:w.cell? ⟨g,o,none⟩ =some v)(hu:∀z,u≠.int .u8 z):Wq (w.setCell ⟨g,o,none⟩ u) g:=fun o' z e=>by
 by_cases e':o=o'
 ·subst e'
  rw[World.cell?_setCell_same' _ _ _ (by rw[hs];rfl)]at e;injection e with e;exact hu z e
 ·rw[World.cell?_setCell_other _ _ _ _ (fun e9=>e' (congrArg Addr.off e9))]at e
  exact h o' z e
theorem Qz{s:ByteArray}{n x:Int}{cs:List Cm}(h:iB s n x)(h4:s.size≤400)(hs:Ef s.data.toList cs):x=0:=(h.same (n':=cs.length) (x':=0) (.inr ⟨h4,.inr ⟨cs,rfl,rfl,hs⟩⟩)).2
end Go.Proofs.YtlppphmnegdhoabGreatDoor
namespace Go.Proofs.YtlppphmnegdhoabGreatDoor
open Go.Proofs.Tryz
open Go.RowKit
open M
theorem Y8(k:Nat)(l:List Cl)(h:k≤l.length):Yu k (Dr l)=Dr (τ l k l.length):=by
 have hz:(Dr l).size=l.length:=by rw[←Δ];unfold Dr;simp[AL]
 unfold Yu;rw[if_pos (by omega)];apply ByteArray.ext;apply Array.toList_inj.1;rw[Lib.extract_data,hz];unfold Dr τ AL;simp[List.map_take,List.map_drop]
theorem iK{g:Nat}{w w':World}(h:KV g w w')(hg:g<w.heap.size):∃w1,Below w.heap.size w w1∧AQ g w1 w'∧w1.heap[g]? =w.heap[g]? :=by
 have XU:g<w'.heap.size:=Nat.lt_of_lt_of_le hg h.size;have hp:=fun k=>NA w' w g k XU hg
 have ho:(F8 w' w g).os=w'.os∧(F8 w' w g).tape=w'.tape∧(F8 w' w g).output=w'.output:=by
  unfold F8;split<;>exact⟨rfl,rfl,rfl⟩
 refine⟨F8 w' w g,⟨ho.1.trans h.os,ho.2.1.trans h.tape,ho.2.2.trans h.output,by rw[Gq];exact h.size,fun k hk=> ?_⟩,⟨ho.1.symm,ho.2.1.symm,ho.2.2.symm,(Gq w' w g).symm,fun k hk=> ?_⟩,?_⟩
 ·rw[hp k]
  split
  ·rename_i e;rw[e]
  ·rename_i e;exact h.block k hk e
 ·rw[hp k,if_neg hk]
 ·rw[hp g,if_pos rfl]
def PX(B lo hi:Nat)(cs:List Cm)(bx BO pb:Nat)(T:St)(w:World):Prop:=
 (T.AB=0∧∃F,Live B lo hi cs bx F T w∧¬F BO∧¬F pb)∨(T.AB≠0∧CB w bx (zE T.AB false))
theorem PX.other{B lo hi:Nat}{cs:List Cm}{bx BO pb g:Nat}{T:St}{w w':World}(h:PX B lo hi cs bx BO pb T w)(ha:KV g w w')(hg:g<w.heap.size)(hgs:g=BO∨g=pb)(hne:bx≠g)(hB:B≤g)(ZE:hi≤g)(hn:Wq w g):PX B lo hi cs bx BO pb T w':=by
 obtain⟨w1,B1,O1,e1⟩ :=iK ha hg;rcases h with⟨d,F,h1,h2,h3⟩ | ⟨d,h1⟩
 ·refine .inl ⟨d,F,?_,h2,h3⟩
  have hF:¬F g:=by rcases hgs with e|e<;>rw[e]<;>assumption
  exact(h1.below B1).other O1 (Nat.lt_of_lt_of_le hg B1.size) hF hB (.inr ZE) (hn.keep e1)
 ·exact .inr ⟨d,h1.keep (ha.block bx h1.lt hne) ha.size⟩
def uM(E:DE)(s:ByteArray)(quiet:Bool)(steps room:Nat)(t:ByteArray)(T:St):Prop:=
 E.script=s∧E.quiet=quiet∧E.steps=steps∧E.room=room∧E.closed=false∧E.err=T.AB∧(T.AB=0→E.input=t∧E.told=T.out.length)∧E.input.size≤4096∧E.told≤4096
structure Ik(B lo hi:Nat)(s:ByteArray)(cs:List Cm)(quiet:Bool)(steps room:Nat)(bx BO pb:Nat)(t:ByteArray)(T:St)(o:ByteArray)(w:World):Prop where
 px:PX B lo hi cs bx BO pb T w
 ed:∃E,Dc w BO E∧uM E s quiet steps room t T
 box:CB w pb [.pointer (some ⟨bx,0,none⟩),.pointer (some ⟨BO,0,none⟩),.string o]
 no:Wq w pb
 fed:Ob (JM cs quiet steps room) t T
 de:T.AB≤6
 ou:T.out.length≤4096
 tx:T.AB=0→t.size≤4096
 oo:o.size≤T.out.length
 AZ:s.size≤400∧Ef s.data.toList cs∧steps≤5000∧room≤256
 n1:bx<BO
 n2:BO<pb
 n3:hi≤bx
 n4:B≤lo∧lo≤hi
theorem Dc.keep{w w':World}{b:Nat}{E:DE}(h:Dc w b E)(hk:w'.heap[b]? =w.heap[b]?)(hs:w.heap.size≤w'.heap.size):Dc w' b E:=⟨h.box.keep hk hs,T1.keep h.no hk⟩
def AAJ(B lo hi:Nat)(cs:List Cm)(quiet:Bool)(steps room bx BO pb:Nat)(t s:ByteArray)(T:St)(w:World)(e:Ending)(w':World):Prop:=
 w.heap.size≤w'.heap.size∧w'.heap[BO]? =w.heap[BO]? ∧w'.heap[pb]? =w.heap[pb]? ∧w'.os=w.os∧w'.tape=w.tape∧w'.output=w.output∧Below lo w w'∧
 ((T.AB≠0∧e= .returned (.tuple #[.string ⟨#[]⟩,.int .i64 (T.AB:Nat)])∧PX B lo hi cs bx BO pb T w')∨
  (T.AB=0∧4096<t.size+s.size∧e= .returned (.tuple #[.string ⟨#[]⟩,.int .i64 1])∧PX B lo hi cs bx BO pb T w')∨
  (T.AB=0∧t.size+s.size≤4096∧∃T':St,Ob (JM cs quiet steps room) (t++s) T'∧T.out<+:T'.out∧T'.AB≤6∧T'.out.length≤4096∧e= .returned (.tuple #[.string (Dr (τ T'.out T.out.length T'.out.length)),.int .i64 (T'.AB:Nat)])∧PX B lo hi cs bx BO pb T' w'))
theorem uN{B lo hi:Nat}{cs:List Cm}{quiet:Bool}{steps room bx BO pb:Nat}{t:ByteArray}{T:St}{w:World}(h:PX B lo hi cs bx BO pb T w)(hf:Ob (JM cs quiet steps room) t T)(Pl:lo≤hi)(ZE:hi≤bx)(h1:bx<BO)(h2:BO<pb)(h3:pb<w.heap.size)(s:ByteArray)(FV:s.size≤maxLen):
  Calls prog 26 #[.pointer (some ⟨bx,0,none⟩),.string s] w fun e w'=>AAJ B lo hi cs quiet steps room bx BO pb t s T w e w':=by
 rcases h with⟨d,F,h,hy,hp⟩ | ⟨d,h⟩
 ·refine(uK h t hf s FV).mono ?_
  rintro e w' (⟨g1,g2,rfl⟩ | ⟨g0,T',F',g1,g2,g3,g4,g5,g6,g7⟩)
  ·exact⟨δ,rfl,rfl,rfl,rfl,rfl,ζ,.inr (.inl ⟨d,g1,g2,.inl ⟨d,F,h,hy,hp⟩⟩)⟩
  ·refine⟨g6.size,g6.block BO (by omega) hy,g6.block pb h3 hp,g6.os,g6.tape,g6.output,Sv g6 (fun k hk=>by have:=h.ft k hk;omega) (by omega),.inr (.inr ⟨d,g0,T',g1,g2,g3,g4,g5,?_⟩)⟩
   have hn:∀g,g<w.heap.size→¬F g→¬F' g:=fun g hg hF hF'=>by
    rcases g6.new g hF' with h9|h9
    ·exact hF h9
    ·omega
   rcases g7 with⟨g8,g9⟩ | ⟨g8,g9,rfl⟩
   ·exact .inl ⟨g8,F',g9,hn BO (by omega) hy,hn pb h3 hp⟩
   ·exact .inr ⟨g8,g9⟩
 ·refine(iI bx T.AB s w h d).mono ?_
  rintro e w' ⟨g1,g2⟩;exact⟨g2.size,g2.block BO (by omega),g2.block pb h3,g2.os,g2.tape,g2.output,g2.mono (by have:=h.lt;omega),.inl ⟨d,g1,.inr ⟨d,h.below g2 h.lt⟩⟩⟩
theorem uM.k{E:DE}{s:ByteArray}{quiet:Bool}{steps room:Nat}{t:ByteArray}{T:St}{cs:List Cm}(h:uM E s quiet steps room t T)(hs:s.size≤400∧Ef s.data.toList cs∧steps≤5000∧room≤256)(hd:T.AB≤6):EdK cs E:=by
 obtain⟨e1,e2,e3,e4,e5,e6,e7,e8,e9⟩ :=h;exact⟨by rw[e1];exact hs.1,by rw[e1];exact hs.2.1,by rw[e3];exact hs.2.2.1,by rw[e4];exact hs.2.2.2,e8,e9,by rw[e6];exact hd⟩
structure FdB(B lo hi:Nat)(s0:ByteArray)(cs:List Cm)(quiet:Bool)(steps room bx BO pb:Nat)(t s:ByteArray)(T:St)(w w1:World)(txt:ByteArray)(cd:Nat)(t':ByteArray)(T':St):Prop where
 size:w.heap.size≤w1.heap.size
 by_:w1.heap[BO]? =w.heap[BO]?
 pb_:w1.heap[pb]? =w.heap[pb]?
 low:Below lo w w1
 px:PX B lo hi cs bx BO pb T' w1
 fed:Ob (JM cs quiet steps room) t' T'
 de:T'.AB≤6
 ou:T'.out.length≤4096
 tx:T'.AB=0→t'.size≤4096
 ln:T.out.length+txt.size=T'.out.length
 hc:cd≤6
 doc:∀(E:DE),uM E s0 quiet steps room t T→∀e2 w2 w3,dk cs BO E s w2 e2 w3→e2= .returned (.tuple #[.string txt,.int .i64 (cd:Nat)])∧KV BO w2 w3∧∃E',Dc w3 BO E'∧uM E' s0 quiet steps room t' T'
theorem oz{B lo hi:Nat}{s0:ByteArray}{cs:List Cm}{quiet:Bool}{steps room bx BO pb:Nat}{t:ByteArray}{T:St}{w:World}(h:PX B lo hi cs bx BO pb T w)(hf:Ob (JM cs quiet steps room) t T)(hcs:∀c∈cs,YW c)(hde:T.AB≤6)(Nn:T.out.length≤4096)(ML:T.AB=0→t.size≤4096)(Pl:lo≤hi)(ZE:hi≤bx)(h1:bx<BO)(h2:BO<pb)(h3:pb<w.heap.size)(s:ByteArray)(FV:s.size≤maxLen):
  Calls prog 26 #[.pointer (some ⟨bx,0,none⟩),.string s] w fun e w'=>∃txt cd t' T',e= .returned (.tuple #[.string txt,.int .i64 (cd:Nat)])∧FdB B lo hi s0 cs quiet steps room bx BO pb t s T w w' txt cd t' T':=by
 refine(uN h hf Pl ZE h1 h2 h3 s FV).mono ?_;rintro e w1 ⟨q1,q2,q3,_,_,_,q4,⟨d,rfl,hp⟩ | ⟨d,hl,rfl,hp⟩ | ⟨d,hl,T',f1,f2,f3,f4,rfl,hp⟩⟩
 ·refine⟨⟨#[]⟩,T.AB,t,T,rfl,q1,q2,q3,q4,hp,hf,hde,Nn,ML,rfl,hde,fun E hE e2 w2 w3 hq=> ?_⟩
  have py:=hE;obtain⟨e1,e2',e3,e4,e5,e6,e7,e8,e9⟩ :=hE;obtain⟨ha,⟨c1,_⟩ | ⟨_,c1,c2,c3⟩ | ⟨_,c1,_⟩ | ⟨_,c1,_⟩⟩ :=hq
  ·rw[e5]at c1;cases c1
  ·rw[e6]at c2
   exact⟨c2,ha,E,c3,py⟩
  all_goals
   exact absurd (by rw[←e6];exact c1) d
 ·refine⟨⟨#[]⟩,1,t,T,rfl,q1,q2,q3,q4,hp,hf,hde,Nn,ML,rfl,by decide,fun E hE e2 w2 w3 hq=> ?_⟩
  have py:=hE;obtain⟨e1,e2',e3,e4,e5,e6,e7,e8,e9⟩ :=hE;have ht:=ML d;obtain⟨ha,⟨c1,_⟩ | ⟨_,c1,c2,c3⟩ | ⟨_,c1,c2,c3,c4⟩ | ⟨_,c1,c2,_⟩⟩ :=hq
  ·rw[e5]at c1;cases c1
  ·exact absurd (by rw[e6];exact d) c1
  ·exact⟨c3,ha,E,c4,py⟩
  ·rw[(e7 d).1]at c2
   omega
 ·obtain⟨dd,hdd⟩ :=tH hcs f1
  refine⟨_,T'.AB,t++s,T',rfl,q1,q2,q3,q4,hp,f1,f3,f4,fun _=>by rw[ByteArray.size_append'];exact hl,?_,f3,fun E hE e2 w2 w3 hq=> ?_⟩
  ·rw[K7]
   unfold τ;rw[List.length_take,List.length_drop];have:=f2.length_le;omega
  ·have py:=hE
   obtain⟨e1,e2',e3,e4,e5,e6,e7,e8,e9⟩ :=hE;obtain⟨i1,i2⟩ :=e7 d;obtain⟨ha,⟨c1,_⟩ | ⟨_,c1,c2,c3⟩ | ⟨_,c1,c2,c3,c4⟩ | ⟨_,c1,c2,c3,c4,c5,c6⟩⟩ :=hq
   ·rw[e5]at c1;cases c1
   ·exact absurd (by rw[e6];exact d) c1
   ·rw[i1]at c2
    omega
   ·rw[e2',e3,e4,i1]at c3 c4 c5 c6
    rw[←dd,←hdd,i2,Y8 _ _ f2.length_le]at c3;rw[←dd,←hdd]at c4;refine⟨c3,ha,_,c4,e1,rfl,rfl,rfl,e5,rfl,fun _=>⟨rfl,rfl⟩,?_,f4⟩;show(t++s).size≤4096;rw[ByteArray.size_append'];exact hl
theorem cF{B lo hi:Nat}{s0:ByteArray}{cs:List Cm}{quiet:Bool}{steps room bx BO pb:Nat}{t:ByteArray}{T:St}{o:ByteArray}{w:World}(h:Ik B lo hi s0 cs quiet steps room bx BO pb t T o w)(s:ByteArray)(FV:s.size≤maxLen):
  Calls prog 10 #[.pointer (some ⟨pb,0,none⟩),.string s] w fun e w'=>e= .returned (.bool true)∧Below lo w w'∧∃t' T' o',Ik B lo hi s0 cs quiet steps room bx BO pb t' T' o' w':=by
 have HH:=γ h;have Ht:=h.box.lt;have c0:=h.box.c 0 _ rfl;have HC:=oz (s0:=s0) h.px h.fed (bU h.AZ.2.1) h.de h.ou h.tx h.n4.2 h.n3 h.n1 h.n2 Ht s FV;have hoo:=h.oo;have Nn:=h.ou;clear h
 go_enter func10,ntmps10
 go_wp2_with fail
 refine HC.mono ?_;clear HC;rintro e w1 ⟨txt,cd,t',T',rfl,hB⟩;have HB:=γ hB;have Ig:=hB.hc;have GI:=HH.out.box.keep hB.pb_ hB.size;have d1:=GI.c 1 _ rfl;have pl1:=GI.lt;obtain⟨E,hE,hEO⟩ :=HH.out.ed;have TY:=hE.keep hB.by_ hB.size;have HEO:=γ hEO;have AAK:=γ GI;have hyl:BO<w1.heap.size:=TY.box.lt;have HNU:=γ TY.no;have J9:=hB.ln;have AFz:=hB.ou;have HC:=Yv cs BO E s w1 TY (hEO.k HH.out.AZ HH.out.de) FV;clear hB GI hE hEO TY
 go_wp2_with fail
 refine HC.mono ?_;clear HC;rintro e2 w2 hq;obtain⟨rfl,Jt,E',py,ACQ⟩ :=HB.out.doc E HEO.out e2 w1 w2 hq;have NC:=HH.out.n1;have NN:=HH.out.n2;have JD:=AAK.out.keep (Jt.block pb pl1 (by omega)) Jt.size;have d2:=JD.c 2 _ rfl;have f2:=JD.fz 2 (by simp);have pl2:=JD.lt;have AAL:Hid (PX B lo hi cs bx BO pb T' w2):=HB.out.px.other Jt hyl (.inl rfl) (by omega) (by have:=HH.out.n3;have:=HH.out.n4;omega) (by have:=HH.out.n3;omega) HNU.out;have Vc:=γ py;have AEr:=γ ACQ;have hNP:Wq w2 pb:=(HH.out.no.keep HB.out.pb_).keep (Jt.block pb pl1 (by omega));have K9:=JD.set 2 (by simp) (.string (o++txt)) rfl;have HP:Hid (Below lo w (w2.setCell ⟨pb,2,none⟩ (.string (o++txt)))∧∃t' T' o',Ik B lo hi s0 cs quiet steps room bx BO pb t' T' o' (w2.setCell ⟨pb,2,none⟩ (.string (o++txt)))):=by
  have cP:=HH.out.n3;have uU:=HH.out.n4;refine⟨?_,t',T',o++txt,⟨AAL.out.other (KV.set pb 2 _ w2) pl2 (.inr rfl) (by omega) (by omega) (by omega) hNP,⟨E',Vc.out.keep (heap_setCell_other w2 _ _ _ (by show BO≠pb;omega)) (by simp),AEr.out⟩,K9,?_,HB.out.fed,HB.out.de,HB.out.ou,HB.out.tx,?_,HH.out.AZ,NC,NN,cP,uU⟩⟩
  ·refine(HB.out.low.trans ⟨Jt.os,Jt.tape,Jt.output,Jt.size,fun k hk=>Jt.block k (by omega) (by omega)⟩).trans ?_
   exact ζ.setCell (by show lo≤pb;omega) _
  ·exact hNP.set d2 (fun z e=>by cases e)
  ·rw[ByteArray.size_append'];omega
 have hsq:¬9223372036854775807<o.size+txt.size:=by omega
 have AEs:(txt.toList==txt.toList)=true:=by simp
 clear JD hNP K9 Jt py ACQ hq;go_wp2;go_ret;exact⟨rfl,HP.out⟩
end Go.Proofs.YtlppphmnegdhoabGreatDoor
