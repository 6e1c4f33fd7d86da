import Derived.Shelf.LaysM
import Derived.Shelf.Strconv.Itoa3
import Derived.Test.YtlppphmnegdhoabGreatDoorProg
import Derived.Test.YtlppphmnegdhoabGreatDoorMz43
set_option linter.unusedVariables false
set_option maxRecDepth 100000
set_option linter.unusedSimpArgs false
set_option maxHeartbeats 4000000
namespace Go.Proofs.YtlppphmnegdhoabGreatDoor
open Go.Proofs.Tryz
open Go.RowKit
open M
theorem ABz{w:World}{r:Nat}{AZ rv:Value}{P:Value→World→Prop}{n:Nat}{quiet:Bool}{steps room:Nat}{t:ByteArray}{closed:Bool}(hb:CB w r (pZ ⟨AZ,rv,.slice none 0 0,.slice none 0 0,.slice none 0 0,.slice none 0 0⟩ (ZT n quiet steps room t closed)))(hr:w.ownsRow 0 4 1 rv n ((List.replicate n false).map .bool))(hs:rv.ownBlock≠some r)(h1:AZ.oneCell'=true)(hP:Av (χ r ⟨AZ,rv,.slice none 0 0,.slice none 0 0,.slice none 0 0,.slice none 0 0⟩) w (P AZ)):
  AD P r ⟨AZ,rv,.slice none 0 0,.slice none 0 0,.slice none 0 0,.slice none 0 0⟩ (ZT n quiet steps room t closed) w:=by
 have RE:(ZT n quiet steps room t closed).AM.length=n:=by simp[ZT]
 refine⟨hb,?_,World.ownsRow_nil _ _ _ _,hs,(by intro e;cases e),hP,fun w' _ _=>ψ.nil w',fun w' _ _=>ψ.nil w',fun w' _ _=>ψ.nil w',h1⟩;rw[RE];exact hr
theorem MW (b : Nat) (E : DE) (cs : List Cm) (w : World) (hb : CB w b (deC E)) (hs : E.script.size ≤ 400) (WS : Ef E.script.data.toList cs) (BZ : E.steps ≤ 5000) (hro : E.room ≤ 256) (ML : E.input.size ≤ 4096) :
  Calls prog 49 #[.pointer (some ⟨b, 0, none⟩)] w fun e w' => di cs E w e w' := by
 obtain ⟨i0, hi, DF, CN, Dq⟩ := info_parts Xp;have Yn := γ WS;have HB := γ hb;have HS := γ hs;have HBD : Hid (E.steps ≤ 5000 ∧ E.room ≤ 256 ∧ E.input.size ≤ 4096) := ⟨BZ, hro, ML⟩
 have c0 := hb.c 0 _ rfl;have Bq := hb.lt;have HC := KE E.script w hs;clear hb WS
 go_enter func49, ntmps49
 go_wp2_with fail
 refine HC.mono ?_;clear HC;rintro e w1 ⟨B1, ⟨v, rfl, CQ⟩ | ⟨a, c, l, V0, rfl, Oz, GQ, ZJ, hcv, AB0⟩⟩
 ·exfalso
  rcases bG E.script.data.toList with ⟨h1, _⟩ | ⟨_, l, _, h2, h3, _⟩
  ·exact h1 cs Yn.out
  ·exact CQ l h2 h3
 ·obtain ⟨hK, hS⟩ := zq HS.out hcv Oz GQ
  have hcs : cs = CD V0 := Yn.out.unique hS;have HK : Hid (CsK cs l) := by rw [hcs]; exact hK
  have HNW := γ AB0;have Qb := γ hcs;obtain ⟨n, hn⟩ : ∃ n, l.length = n := ⟨_, rfl⟩
  have HN : Hid (l.length = n ∧ cs.length = n) := ⟨hn, by rw [HK.out.len]; exact hn⟩
  rw [hn] at ZJ ⊢;have ξ := HB.out.below B1 Bq;have d0 := ξ.c 0 _ rfl;have d1 := ξ.c 1 _ rfl;have d2 := ξ.c 2 _ rfl;have d3 := ξ.c 3 _ rfl;have d4 := ξ.c 4 _ rfl;have d6 := ξ.c 6 _ rfl;have LA := ξ.lt;have Tl : ∀ u : World, (Instr.makeSlice 79 (.int .i64 (n : Int)) (.int .i64 (n : Int))).run prog u =
    .ok (.slice (some ⟨u.heap.size, 0, none⟩) n n) (u.alloc (.cells (madeCells (Value.bool false).cells n) 4)) := fun u => by
   have h := run_make (P := prog) u 79 4 i0 (.bool false) Xq hi DF .i64 .i64 (n : Int) (n : Int) (by omega) (Int.le_refl _) (by rw [Dq]; omega) (by omega);rw [Int.toNat_natCast, CN, Nat.mul_one] at h;exact h
  have HMO : Hid (∀ u : World, (u.alloc (.cells (madeCells (Value.bool false).cells n) 4)).ownsRow u.heap.size 4 1 (.slice (some ⟨u.heap.size, 0, none⟩) n n) n ((List.replicate n false).map .bool)) := fun u => oT u n ZJ
  generalize madeCells (Value.bool false).cells n = cur at *;clear hK hS hcs hn Oz GQ hcv AB0
  go_wp2_with fail
  go_region_held3 (fun w' => w'.cell? ⟨b, 1, none⟩ = some (.bool E.quiet) ∧ w'.cell? ⟨b, 2, none⟩ = some (.int .i64 (E.steps : Nat)) ∧ w'.cell? ⟨b, 3, none⟩ = some (.int .i64 (E.room : Nat)) ∧ w'.cell? ⟨b, 4, none⟩ = some (.string E.input) ∧ w'.cell? ⟨b, 6, none⟩ = some (.bool E.closed))
   (go_keep)
   (fail)
  have EA : CB ((w1.alloc (.cells #[.string E.input, .bool E.closed, .bool E.quiet, .int .i64 (E.steps : Nat), .int .i64 (E.room : Nat), .slice a n c, .slice none 0 0, .slice none 0 0, .slice none 0 0, .int .i64 0, .bool false, .int .i64 (-1), .int .i64 0, .slice none 0 0, .bool false, .int .i64 0, .slice none 0 0, .int .i64 0, .int .i64 0] 114)).drew) w1.heap.size (pZ ⟨.slice a n c, .slice none 0 0, .slice none 0 0, .slice none 0 0, .slice none 0 0, .slice none 0 0⟩ (ZT n E.quiet E.steps E.room E.input E.closed)) := (CB.new w1 114 #[.string E.input, .bool E.closed, .bool E.quiet, .int .i64 (E.steps : Nat), .int .i64 (E.room : Nat), .slice a n c, .slice none 0 0, .slice none 0 0, .slice none 0 0, .int .i64 0, .bool false, .int .i64 (-1), .int .i64 0, .slice none 0 0, .bool false, .int .i64 0, .slice none 0 0, .int .i64 0, .int .i64 0] (by simp [Value.oneCell'])).keep rfl δ;have GC : Hid (Below w1.heap.size w1 ((w1.alloc (.cells #[.string E.input, .bool E.closed, .bool E.quiet, .int .i64 (E.steps : Nat), .int .i64 (E.room : Nat), .slice a n c, .slice none 0 0, .slice none 0 0, .slice none 0 0, .int .i64 0, .bool false, .int .i64 (-1), .int .i64 0, .slice none 0 0, .bool false, .int .i64 0, .slice none 0 0, .int .i64 0, .int .i64 0] 114)).drew)) := (ζ.alloc δ _).drew;have Fw : ((w1.alloc (.cells #[.string E.input, .bool E.closed, .bool E.quiet, .int .i64 (E.steps : Nat), .int .i64 (E.room : Nat), .slice a n c, .slice none 0 0, .slice none 0 0, .slice none 0 0, .int .i64 0, .bool false, .int .i64 (-1), .int .i64 0, .slice none 0 0, .bool false, .int .i64 0, .slice none 0 0, .int .i64 0, .int .i64 0] 114)).drew).heap.size = w1.heap.size + 1 := by simp
  generalize ((w1.alloc (.cells #[.string E.input, .bool E.closed, .bool E.quiet, .int .i64 (E.steps : Nat), .int .i64 (E.room : Nat), .slice a n c, .slice none 0 0, .slice none 0 0, .slice none 0 0, .int .i64 0, .bool false, .int .i64 (-1), .int .i64 0, .slice none 0 0, .bool false, .int .i64 0, .slice none 0 0, .int .i64 0, .int .i64 0] 114)).drew) = W2 at *;obtain ⟨r, hr⟩ : ∃ r, w1.heap.size = r := ⟨_, rfl⟩
  have pq := γ hr;rw [hr] at EA Fw
  try rw [hr]
  have g6 := EA.c 6 _ rfl;have f6 := EA.fz 6 (by rw [J0]; decide);have lr2 := EA.lt;have HMW := HMO.out W2;have Lg : Hid (Below W2.heap.size W2 (W2.alloc (.cells cur 4))) := ζ.alloc δ _;have AB1 := EA.below Lg.out EA.lt;have AB2 := AB1.set 6 (by rw [J0]; decide) (.slice (some ⟨W2.heap.size, 0, none⟩) n n) rfl;have HO4 : AQ r (W2.alloc (.cells cur 4)) ((W2.alloc (.cells cur 4)).setCell ⟨r, 6, none⟩ (.slice (some ⟨W2.heap.size, 0, none⟩) n n)) := AQ.set _ _ _ _;have ve := Jw HMW HO4 (by intro e; simp [Value.ownBlock] at e; omega);have vg : ((W2.alloc (.cells cur 4)).setCell ⟨r, 6, none⟩ (.slice (some ⟨W2.heap.size, 0, none⟩) n n)).ownsRow 0 4 1 (.slice (some ⟨W2.heap.size, 0, none⟩) n n) n ((List.replicate n false).map .bool) := AH ve ε;have HBL : Hid (∀ k, k < r → ((W2.alloc (.cells cur 4)).setCell ⟨r, 6, none⟩ (.slice (some ⟨W2.heap.size, 0, none⟩) n n)).heap[k]? = w1.heap[k]?) := fun k hk => by
   rw [HO4.block k (by omega), Lg.out.block k (by omega)];exact GC.out.block k (by rw [pq.out]; exact hk)
  have zr : ((W2.alloc (.cells cur 4)).setCell ⟨r, 6, none⟩ (.slice (some ⟨W2.heap.size, 0, none⟩) n n)).heap.size = r + 2 := by simp; omega
  have HOT : Hid (Below r w1 ((W2.alloc (.cells cur 4)).setCell ⟨r, 6, none⟩ (.slice (some ⟨W2.heap.size, 0, none⟩) n n))) := by
   have h1 := GC.out;rw [pq.out] at h1;exact (h1.trans (Lg.out.mono (by omega))).trans (HO4.below δ)
  have M4 : Av (χ r ⟨.slice a n c, .slice (some ⟨W2.heap.size, 0, none⟩) n n, .slice none 0 0, .slice none 0 0, .slice none 0 0, .slice none 0 0⟩) ((W2.alloc (.cells cur 4)).setCell ⟨r, 6, none⟩ (.slice (some ⟨W2.heap.size, 0, none⟩) n n)) (fun w => E5 cs l w (.slice a n c)) := fun w' q1 q2 => by
   have h9 := HNW.out w' (by rw [pq.out]; omega) (fun k hk _ => by
    rw [pq.out] at hk;refine (q2 k (by omega) (fun hf => ?_)).trans (HBL.out k hk);rcases hf with e | e | e
    ·omega
    ·simp [Value.ownBlock] at e; omega
    ·cases e)
   have h8 := td (q := c) h9;rw [HN.out.1, ← Qb.out] at h8;exact h8
  have AB3 := ABz (P := fun v w => E5 cs l w v) (n := n) AB2 vg (by intro e; simp [Value.ownBlock] at e; omega) rfl M4;have zt : DB n (ZT n E.quiet E.steps E.room E.input E.closed) := DB.ADx _ _ _ _ _ HBD.out.1 HBD.out.2.1 HBD.out.2.2;have QK : Hid (DS.By cs ((ZT n E.quiet E.steps E.room E.input E.closed).left false + 1) (ZT n E.quiet E.steps E.room E.input E.closed) false = Ay cs E.quiet E.steps E.room E.input E.closed) := by show _ = _; unfold Ay; rw [HN.out.2]
  have HDP : Hid (DB cs.length (Ay cs E.quiet E.steps E.room E.input E.closed)) := by
   show DB _ _;rw [← QK.out, HN.out.2];exact DB.By cs (fun c hc => (HK.out.ok c hc).tx) _ _ _ zt
  have HC := Ys n cs l (fun v w => E5 cs l w v) r _ (ZT n E.quiet E.steps E.room E.input E.closed) _ _ AB3 (fun _ h9 => h9) HK.out HN.out.2.symm zt (Nat.lt_succ_self _);rw [QK.out] at HC;have nr : Hid (Calls prog 76 #[.pointer (some ⟨r, 0, none⟩)] ((W2.alloc (.cells cur 4)).setCell ⟨r, 6, none⟩ (.slice (some ⟨W2.heap.size, 0, none⟩) n n)) fun e w' => Hl (fun v w => E5 cs l w v) r ⟨.slice a n c, .slice (some ⟨W2.heap.size, 0, none⟩) n n, .slice none 0 0, .slice none 0 0, .slice none 0 0, .slice none 0 0⟩ (Ay cs E.quiet E.steps E.room E.input E.closed) ((W2.alloc (.cells cur 4)).setCell ⟨r, 6, none⟩ (.slice (some ⟨W2.heap.size, 0, none⟩) n n)) e w') := HC;have ER : Hid (W2.heap.size = r + 1 ∧ ((W2.alloc (.cells cur 4)).setCell ⟨r, 6, none⟩ (.slice (some ⟨W2.heap.size, 0, none⟩) n n)).heap.size = r + 2) := ⟨Fw, zr⟩
  clear HC AB3 zt M4 ve vg AB1 AB2 HMW d0 d1 d2 d3 d4 d6 Fw zr;have vh : (W2.alloc (.cells cur 4)).setCell ⟨r, 6, none⟩ (.slice (some ⟨W2.heap.size, 0, none⟩) n n) = (W2.setCell ⟨r, 6, none⟩ (.slice (some ⟨W2.heap.size, 0, none⟩) n n)).alloc (.cells cur 4) := by simp [go_sem, lr2]
  have HCO := γ vh;clear vh
  go_wp2_with fail
  rw [← HCO.out];refine nr.out.mono ?_;rintro e w5 ⟨rfl, V5, _, MM, UX⟩;have HP : Hid (di cs E w (.returned (.pointer (some ⟨r, 0, none⟩))) w5) := by
   obtain ⟨Fw, zr⟩ := ER.out;have hwr : w.heap.size ≤ r := by rw [← pq.out]; exact B1.size
   refine ⟨_, r, V5, rfl, MM, hwr, ?_, HDP.out⟩;have h1 : Below r w1 w5 := by
    refine HOT.out.trans ⟨UX.os, UX.tape, UX.output, UX.size, fun k hk => UX.block k (by omega) (fun hf => ?_)⟩;rcases hf with e | e | e
    ·omega
    ·simp [Value.ownBlock] at e; omega
    ·cases e
   exact B1.trans (h1.mono hwr)
  clear MM UX;go_wp2;go_ret;exact HP.out
def T1(w:World)(b:Nat):Prop:=∀(j:Nat)(x:Int),w.cell? ⟨b,j,none⟩≠some (.int .u8 x)
theorem T1.keep{w w':World}{b:Nat}(h:T1 w b)(hk:w'.heap[b]? =w.heap[b]?):T1 w' b:=fun j x=>by rw[World.cell?_of_block hk];exact h j x
theorem T1.set{w:World}{b:Nat}{cs:List Value}(h:T1 w b)(hb:CB w b cs)(j:Nat)(hj:j<cs.length)(u:Value)(hu:u.oneCell'=true)(hn:∀x,u≠.int .u8 x):T1 (w.setCell ⟨b,j,none⟩ u) b:=fun k x=>by
 by_cases e:k=j
 ·subst e
  have h1:=(hb.set k hj u hu).c k u (by rw[List.getElem?_set_self hj]);rw[h1];intro e;injection e with e;exact hn x e
 ·have:(w.setCell ⟨b,j,none⟩ u).cell? ⟨b,k,none⟩ =w.cell? ⟨b,k,none⟩ :=by
   simp[go_sem,e]
  rw[this];exact h k x
theorem ψ.apart{w w':World}{v:Value}{l:List Cl}{b:Nat}(h:ψ w v l)(hn:T1 w b)(hs:w.heap.size≤w'.heap.size)(hk:∀k,k<w.heap.size→k≠b→w'.heap[k]? =w.heap[k]?):ψ w' v l:=by
 cases l with
 |nil=>
  obtain⟨a,c,e,h1,h2,_⟩ :=h;subst e
  exact⟨a,c,rfl,h1,h2,.inl ⟨rfl,fun ha=>by
   rename_i h3;rcases h3 with⟨_,h4⟩ | ⟨g,o,e,_⟩
   ·exact h4 ha
   ·rw[ha]at e;cases e⟩⟩
 |cons c l=>
  refine h.keep hs (fun g o n q e hg=>hk g hg (fun eg=> ?_));subst eg;obtain⟨a,c',e',_,_,h3⟩ :=h;rw[e]at e';simp only[Value.slice.injEq]at e';rcases h3 with⟨h3,_⟩ | ⟨g',o',e2,_,hr⟩
  ·cases h3
  ·rw[←e'.1]at e2
   simp only[Option.some.injEq,Addr.mk.injEq]at e2;obtain⟨rfl,rfl,_⟩ :=e2;have h9:=hr 0 _ rfl;exact hn o _ (by simpa using h9)
structure Dc(w:World)(b:Nat)(E:DE):Prop where
 box:CB w b (deC E)
 no:T1 w b
theorem Ln(E:DE):(deC E).length=8:=rfl
theorem Dc.below{w w':World}{b:Nat}{E:DE}(h:Dc w b E)(hb:Below w.heap.size w w'):Dc w' b E:=⟨h.box.below hb h.box.lt,h.no.keep (hb.block b h.box.lt)⟩
theorem Dc.set{w:World}{b:Nat}{E E':DE}(h:Dc w b E)(j:Nat)(hj:j<8)(u:Value)(hu:u.oneCell'=true)(hn:∀x,u≠.int .u8 x)(hE:(deC E).set j u=deC E'):Dc (w.setCell ⟨b,j,none⟩ u) b E':=
 ⟨by rw[←hE];exact h.box.set j (by rw[Ln];exact hj) u hu,h.no.set h.box j (by rw[Ln];exact hj) u hu hn⟩
structure KV(b:Nat)(w w':World):Prop where
 os:w'.os=w.os
 tape:w'.tape=w.tape
 output:w'.output=w.output
 size:w.heap.size≤w'.heap.size
 block:∀k,k<w.heap.size→k≠b→w'.heap[k]? =w.heap[k]?
theorem KV.refl(b:Nat)(w:World):KV b w w:=⟨rfl,rfl,rfl,δ,fun _ _ _=>rfl⟩
theorem KV.below{b:Nat}{w w':World}(h:Below w.heap.size w w'):KV b w w':=⟨h.os,h.tape,h.output,h.size,fun k hk _=>h.block k hk⟩
theorem KV.set(b j:Nat)(u:Value)(w:World):KV b w (w.setCell ⟨b,j,none⟩ u):=⟨rfl,rfl,rfl,by simp,fun k _ hk=>heap_setCell_other w _ k u hk⟩
theorem KV.trans{b:Nat}{w w1 w2:World}(h:KV b w w1)(g:KV b w1 w2):KV b w w2:=⟨g.os.trans h.os,g.tape.trans h.tape,g.output.trans h.output,Nat.le_trans h.size g.size,fun k hk hb=>(g.block k (Nat.lt_of_lt_of_le hk h.size) hb).trans (h.block k hk hb)⟩
def Yu(k:Nat)(s:ByteArray):ByteArray:=if k≤s.size then s.extract k s.size else⟨#[]⟩
def tk(b:Nat)(E:DE)(D:DS)(w:World)(e:Ending)(w':World):Prop:=e= .returned (.string (Yu E.told (Dr D.out)))∧Dc w' b {E with told:=D.out.length,err:=D.err}∧KV b w w'
theorem QD(b:Nat)(E:DE)(P:Value→World→Prop)(r:Nat)(V:DV)(D:DS)(w:World)(hb:Dc w b E)(h:AD P r V D w)(hne:b≠r)(Nn:D.out.length≤4096)(vE:E.told≤4096):
  Calls prog 50 #[.pointer (some ⟨b,0,none⟩),.pointer (some ⟨r,0,none⟩)] w fun e w'=>tk b E D w e w':=by
 have HB:=γ hb;have HH:=γ h;have Bq:=h.box.lt;have bm:=h.cell 16 _ rfl;obtain⟨ao,co,TC,_⟩ :=h.out.out.form;have DC:=h.out.out;rw[TC]at DC;have AET:w.cell? ⟨r,16,none⟩ =some (.slice ao D.out.length co):=by rw[bm];show some V.out=_;rw[TC]
 have HC:=IH _ D.out w DC (by omega);have oJ:(Dr D.out).size=D.out.length:=by rw[←Δ];unfold Dr;simp[AL]
 have Un:=γ oJ;clear h hb bm TC DC
 go_enter func50,ntmps50
 go_wp2_with fail
 refine HC.mono ?_;clear HC;rintro e w1 ⟨rfl,B1⟩;have ξ:=HB.out.below B1;have Bo:=HH.out.below B1;have c5:=ξ.box.c 5 _ rfl;have c7:=ξ.box.c 7 _ rfl;have f5:=ξ.box.fz 5 (by rw[Ln];decide);have f7:=ξ.box.fz 7 (by rw[Ln];decide);have LA:=ξ.box.lt;have k18:w1.cell? ⟨r,18,none⟩ =some (.int .i64 (D.err:Nat)):=Bo.cell 18 _ rfl;have lr1:=Bo.box.lt;have hA:=ξ.set 5 (by decide) (.int .i64 ((Dr D.out).size:Nat)) rfl (fun x e=>by cases e) (E':= {E with told:=(Dr D.out).size}) rfl;have VW:=hA.set 7 (by decide) (.int .i64 (D.err:Nat)) rfl (fun x e=>by cases e) (E':= {E with told:=(Dr D.out).size,err:=D.err}) rfl;have HP:Hid (Dc ((w1.setCell ⟨b,5,none⟩ (.int .i64 ((Dr D.out).size:Nat))).setCell ⟨b,7,none⟩ (.int .i64 (D.err:Nat))) b {E with told:=D.out.length,err:=D.err}∧KV b w ((w1.setCell ⟨b,5,none⟩ (.int .i64 ((Dr D.out).size:Nat))).setCell ⟨b,7,none⟩ (.int .i64 (D.err:Nat)))):=
  ⟨by rw[←Un.out];exact VW,((KV.below B1).trans (KV.set b 5 _ _)).trans (KV.set b 7 _ _)⟩
 have HTO:Hid (Yu E.told (Dr D.out)=if E.told≤(Dr D.out).size then(Dr D.out).extract E.told (Dr D.out).size else⟨#[]⟩):=rfl;have hbs:(Dr D.out).size≤4096:=by rw[oJ];exact Nn
 clear hA VW ξ Bo AET oJ;generalize je:Dr D.out=sb at*;have HSB:=γ je;clear je
 by_cases hle:E.told≤sb.size
 ·have eU:(E.told:Int)≤(sb.size:Int):=by omega
  have ACc:(0:Int)≤(E.told:Int):=by omega
  rw[if_pos hle]at HTO;go_wp2;go_ret;exact⟨by rw[HSB.out,HTO.out];rfl,HP.out⟩
 ·have eU:¬(E.told:Int)≤(sb.size:Int):=by omega
  rw[if_neg hle]at HTO;go_wp2;go_ret;exact⟨by rw[HSB.out,HTO.out];rfl,HP.out⟩
structure EdK(cs:List Cm)(E:DE):Prop where
 sc:E.script.size≤400
 sv:Ef E.script.data.toList cs
 st:E.steps≤5000
 ro:E.room≤256
 inp:E.input.size≤4096
 tl:E.told≤4096
 er:E.err≤6
def dk(cs:List Cm)(b:Nat)(E:DE)(s:ByteArray)(w:World)(e:Ending)(w':World):Prop:=
 KV b w w'∧((E.closed=true∧e= .returned (.tuple #[.string ⟨#[]⟩,.int .i64 7])∧Dc w' b E)∨
  (E.closed=false∧E.err≠0∧e= .returned (.tuple #[.string ⟨#[]⟩,.int .i64 (E.err:Nat)])∧Dc w' b E)∨
  (E.closed=false∧E.err=0∧4096 - E.input.size<s.size∧e= .returned (.tuple #[.string ⟨#[]⟩,.int .i64 1])∧Dc w' b E)∨
  (E.closed=false∧E.err=0∧¬4096 - E.input.size<s.size∧e= .returned (.tuple #[.string (Yu E.told (Dr (Ay cs E.quiet E.steps E.room (E.input++s) false).out)),.int .i64 ((Ay cs E.quiet E.steps E.room (E.input++s) false).err:Nat)])∧
   Dc w' b {E with input:=E.input++s,told:=(Ay cs E.quiet E.steps E.room (E.input++s) false).out.length,err:=(Ay cs E.quiet E.steps E.room (E.input++s) false).err}∧(Ay cs E.quiet E.steps E.room (E.input++s) false).out.length≤4096∧(Ay cs E.quiet E.steps E.room (E.input++s) false).err≤6))
theorem Yv(cs:List Cm)(b:Nat)(E:DE)(s:ByteArray)(w:World)(hb:Dc w b E)(hk:EdK cs E)(FV:s.size≤maxLen):
  Calls prog 27 #[.pointer (some ⟨b,0,none⟩),.string s] w fun e w'=>dk cs b E s w e w':=by
 unfold maxLen at FV;have HB:=γ hb;have HK:=γ hk;have Bq:=hb.box.lt;have c4:=hb.box.c 4 _ rfl;have c6:=hb.box.c 6 _ rfl;have c7:=hb.box.c 7 _ rfl;have f4:=hb.box.fz 4 (by rw[Ln];decide);have S5:=hk.inp;have her:=hk.er;obtain⟨cl,DL⟩ :∃x,E.closed=x:=⟨_,rfl⟩
 have Ms:=γ DL;rw[DL]at c6;clear hb hk DL;cases cl with
 |true=>
  go_enter func27,ntmps27
  go_wp2;go_ret2;exact⟨KV.refl _ _,.inl ⟨Ms.out,rfl,HB.out⟩⟩
 |false=>
  by_cases h0:E.err=0
  ·have KA:((E.err:Int) !=0)=false:=by simp[h0]
   by_cases hl:4096 - E.input.size<s.size
   ·have Ks:(4096:Int) - (E.input.size:Int)<(s.size:Int):=by omega
    go_enter func27,ntmps27
    go_wp2;go_ret2;exact⟨KV.refl _ _,.inr (.inr (.inl ⟨Ms.out,h0,hl,rfl,HB.out⟩))⟩
   ·have Ks:¬(4096:Int) - (E.input.size:Int)<(s.size:Int):=by omega
    have HL:Hid (¬4096 - E.input.size<s.size):=hl;have H0:=γ h0;have hq:¬9223372036854775807<E.input.size+s.size:=by omega
    have hA:=HB.out.set 4 (by decide) (.string (E.input++s)) rfl (fun x e=>by cases e) (E':= {E with input:=E.input++s}) rfl;have HA:=γ hA;have EV:(E.input++s).size≤4096:=by rw[ByteArray.size_append'];omega
    have HC:=MW b {E with input:=E.input++s} cs _ hA.box HK.out.sc HK.out.sv HK.out.st HK.out.ro EV;clear hA h0 hl
    go_enter func27,ntmps27
    go_wp2_with fail
    refine HC.mono ?_;clear HC;rintro e w2 ⟨P,r,V,rfl,hR,RE,B2,EU⟩;have Ht:Ay cs E.quiet E.steps E.room (E.input++s) E.closed=Ay cs E.quiet E.steps E.room (E.input++s) false:=by rw[Ms.out]
    have CJ:=HA.out.below B2;have hne:b≠r:=by
     have h9:(w.setCell ⟨b,4,none⟩ (.string (E.input++s))).heap.size≤r:=RE;simp at h9;omega
    have HC:=QD b {E with input:=E.input++s} P r V _ w2 CJ hR hne EU.ou HK.out.tl;have F7:=EU;clear hR EU
    go_wp2_with fail
    refine HC.mono ?_;clear HC;rintro e w3 ⟨rfl,CM,aP⟩;have g7:=CM.box.c 7 _ rfl;have lb3:=CM.box.lt;have HP:Hid (KV b w w3∧Dc w3 b {E with input:=E.input++s,told:=(Ay cs E.quiet E.steps E.room (E.input++s) false).out.length,err:=(Ay cs E.quiet E.steps E.room (E.input++s) false).err}):=by
     refine⟨((KV.set b 4 _ w).trans (KV.below B2)).trans aP,?_⟩;rw[←Ht];exact CM
    have AB4:Hid ((Ay cs E.quiet E.steps E.room (E.input++s) false).out.length≤4096∧(Ay cs E.quiet E.steps E.room (E.input++s) false).err≤6):=by
     rw[←Ht];exact⟨F7.ou,F7.er⟩
    have g7':w3.cell? ⟨b,7,none⟩ =some (.int .i64 ((Ay cs E.quiet E.steps E.room (E.input++s) false).err:Nat)):=by rw[g7,←Ht]
    have HTS:Hid (Yu E.told (Dr (Ay cs E.quiet E.steps E.room (E.input++s) E.closed).out)=Yu E.told (Dr (Ay cs E.quiet E.steps E.room (E.input++s) false).out)):=by show _=_;rw[Ht]
    clear g7 CM aP F7 CJ Ht
    go_wp2_with fail
    go_region_held3(fun w'=>w'.cell? ⟨b,7,none⟩ =some (.int .i64 ((Ay cs E.quiet E.steps E.room (E.input++s) false).err:Nat))∧b<w'.heap.size)
     (go_keep)
     (fail)
    go_wp2;go_ret2;exact⟨HP.out.1.trans (KV.below (ζ.drew)),.inr (.inr (.inr ⟨Ms.out,H0.out,HL.out,by rw[←HTS.out];rfl,HP.out.2.below (ζ.drew),AB4.out.1,AB4.out.2⟩))⟩
  ·have KA:((E.err:Int) !=0)=true:=by simp;omega
   go_enter func27,ntmps27
   go_wp2_with fail
   go_region_held3(fun w'=>w'.cell? ⟨b,7,none⟩ =some (.int .i64 (E.err:Nat))∧b<w'.heap.size)
    (go_keep)
    (fail)
   go_wp2;go_ret2;exact⟨KV.below (ζ.drew),.inr (.inl ⟨Ms.out,h0,rfl,HB.out.below (ζ.drew)⟩)⟩
end Go.Proofs.YtlppphmnegdhoabGreatDoor
namespace Go.Proofs.YtlppphmnegdhoabGreatDoor
open Go.Proofs.Tryz
open Go.Shelf
def oV:Go.Shelf.Ren:=⟨fun|171=>239|243=>246|246=>250|283=>252|284=>253|285=>254|286=>255|129=>257|317=>256|318=>258|319=>259|320=>260|337=>261|338=>262|n=>n,fun|3=>3|9=>9|2=>2|4=>4|171=>296|0=>0|53=>297|37=>151|5=>5|173=>300|212=>303|51=>304|20=>20|213=>305|46=>153|232=>308|233=>309|n=>n,fun|17=>0|18=>1|19=>2|n=>n⟩
theorem iC:Go.Proofs.LaysM.n171 prog oV:= {
 mixed:=by kernel_rfl
 f129:=func257.trans (congrArg some (by kernel_rfl))
 f171:=func239.trans (congrArg some (by kernel_rfl))
 f243:=func246.trans (congrArg some (by kernel_rfl))
 f246:=func250.trans (congrArg some (by kernel_rfl))
 f283:=func252.trans (congrArg some (by kernel_rfl))
 f284:=func253.trans (congrArg some (by kernel_rfl))
 f285:=func254.trans (congrArg some (by kernel_rfl))
 f286:=func255.trans (congrArg some (by kernel_rfl))
 f317:=func256.trans (congrArg some (by kernel_rfl))
 f318:=func258.trans (congrArg some (by kernel_rfl))
 f319:=func259.trans (congrArg some (by kernel_rfl))
 f320:=func260.trans (congrArg some (by kernel_rfl))
 f337:=func261.trans (congrArg some (by kernel_rfl))
 f338:=func262.trans (congrArg some (by kernel_rfl))
 t0:=underlying0
 a0:=Tryz.isAgg0
 z0:=Tryz.sizeOf0
 v0:=Tryz.zeroValue0
 t2:=underlying2
 a2:=Tryz.isAgg2
 z2:=Tryz.sizeOf2
 v2:=Tryz.zeroValue2
 t3:=underlying3
 a3:=Tryz.isAgg3
 z3:=Tryz.sizeOf3
 v3:=Tryz.zeroValue3
 t4:=underlying4
 a4:=Tryz.isAgg4
 z4:=Tryz.sizeOf4
 v4:=Tryz.zeroValue4
 t5:=underlying5
 a5:=Tryz.isAgg5
 z5:=Tryz.sizeOf5
 v5:=Tryz.zeroValue5
 t9:=underlying9
 a9:=Tryz.isAgg9
 z9:=Tryz.sizeOf9
 v9:=Tryz.zeroValue9
 t20:=underlying20
 a20:=Tryz.isAgg20
 z20:=Tryz.sizeOf20
 v20:=Tryz.zeroValue20
 t37:=underlying151
 a37:=Tryz.isAgg151
 z37:=Tryz.sizeOf151
 v37:=Tryz.zeroValue151
 t46:=underlying153
 a46:=Tryz.isAgg153
 z46:=Tryz.sizeOf153
 v46:=Tryz.zeroValue153
 t51:=underlying304
 a51:=Tryz.isAgg304
 z51:=Tryz.sizeOf304
 v51:=Tryz.zeroValue304
 t53:=underlying297
 a53:=Tryz.isAgg297
 z53:=Tryz.sizeOf297
 v53:=Tryz.zeroValue297
 t171:=underlying296
 a171:=Tryz.isAgg296
 z171:=Tryz.sizeOf296
 v171:=Tryz.zeroValue296
 t173:=underlying300
 a173:=Tryz.isAgg300
 z173:=Tryz.sizeOf300
 v173:=Tryz.zeroValue300
 t212:=underlying303
 a212:=Tryz.isAgg303
 z212:=Tryz.sizeOf303
 v212:=Tryz.zeroValue303
 t213:=underlying305
 a213:=Tryz.isAgg305
 z213:=Tryz.sizeOf305
 t232:=underlying308
 a232:=Tryz.isAgg308
 z232:=Tryz.sizeOf308
 v232:=Tryz.zeroValue308
 t233:=underlying309
 a233:=Tryz.isAgg309
 z233:=Tryz.sizeOf309
 v233:=Tryz.zeroValue309
 g17:=by kernel_rfl
 g18:=by kernel_rfl
 g19:=by kernel_rfl
 i0:=by kernel_rfl
 i2:=by kernel_rfl
 i3:=by kernel_rfl
 i4:=by kernel_rfl
 i5:=by kernel_rfl
 i9:=by kernel_rfl
 i20:=by kernel_rfl
 i37:=by kernel_rfl
 i46:=by kernel_rfl
 i51:=by kernel_rfl
 i53:=by kernel_rfl
 i171:=by kernel_rfl
 i173:=by kernel_rfl
 i212:=by kernel_rfl
 i232:=by kernel_rfl
 i233:=by kernel_rfl
 m17:=by kernel_rfl
 m18:=by kernel_rfl
 m19:=by kernel_rfl}
open Go.RowKit Go.Sort Go.Lib in
theorem oW(n:Int)(h0: -9223372036854775808≤n)(h1:n≤9223372036854775807)(w:World)(AEY:Lib.TabIs prog w "internal/strconv.uint64pow10" .u64 Lib.pow10Tab):
  Calls prog 239 #[.int .i64 n] w fun e w'=>e= .returned (.string ⟨(Lib.itoa n).toArray⟩)∧∃k os,w'=grow (w.drewN k) os:=Any.strconv_Itoa iC n h0 h1 w AEY
end Go.Proofs.YtlppphmnegdhoabGreatDoor
namespace Go.Proofs.YtlppphmnegdhoabGreatDoor
open Go.Proofs.Tryz
open Go.RowKit
open M
def dp(w:World):Prop:=Lib.TabIs prog w "internal/strconv.uint64pow10" .u64 Lib.pow10Tab
theorem dp.keep{w w':World}(h:dp w)(hk:∀k,k<w.heap.size→w'.heap[k]? =w.heap[k]?):dp w':=by
 unfold dp Lib.TabIs World.var? at*;cases hg:(prog).globalNamed "internal/strconv.uint64pow10" with
 |none=>simp[hg]at h
 |some g=>
  simp only[hg,Option.bind_some]at h⊢;have Ac:g<w.heap.size:=by
   rcases Nat.lt_or_ge g w.heap.size with h'|h'
   ·exact h'
   ·rw[Array.getElem?_eq_none h']at h;simp at h
  rw[hk g Ac];exact h
def OH(B:Nat)(w:World):Prop:=B≤w.heap.size∧∀w':World,(∀k,k<B→w'.heap[k]? =w.heap[k]?)→dp w'
theorem dp.toB{w:World}(h:dp w):OH w.heap.size w:=⟨δ,fun w' hk=>h.keep hk⟩
theorem dr(P:Value→World→Prop)(v:Value)(hP:∀w,P v w→dp w):Fu P v:=fun n w hn hp=>by
 refine(oW (n:Int) (by omega) (by omega) w (hP w hp)).mono ?_;rintro e w' ⟨rfl,k,os,rfl⟩;refine⟨?_,rfl,rfl,rfl,by simp,fun i hi=>Sort.heap_grow_old _ os (by exact hi)⟩;rw[Lib.itoa_nonneg];rfl
def Ag(A:Nat→Prop)(w0 w:World):Prop:=w0.heap.size≤w.heap.size∧∀k,A k→k<w0.heap.size→w.heap[k]? =w0.heap[k]?
theorem Ag.Kv{A:Nat→Prop}{w0 w w':World}(h:Ag A w0 w)(hs:w.heap.size≤w'.heap.size)(hk:∀k,A k→k<w0.heap.size→w'.heap[k]? =w.heap[k]?):Ag A w0 w':=⟨Nat.le_trans h.1 hs,fun k h1 h2=>(hk k h1 h2).trans (h.2 k h1 h2)⟩
theorem Ag.ACH{A F:Nat→Prop}{w0 w:World}(h:Ag A w0 w)(hF:∀k,F k→¬(A k∧k<w0.heap.size)):Av F w (fun w=>Ag A w0 w):=fun w' h1 h2=>h.Kv h1 (fun k hk Ep=>h2 k (Nat.lt_of_lt_of_le Ep h.1) (fun hf=>hF k hf ⟨hk,Ep⟩))
def Wq(w:World)(g:Nat):Prop:=∀(o:Nat)(z:Int),w.cell? ⟨g,o,none⟩≠some (.int .u8 z)
theorem Wq.oc{w:World}{g:Nat}{C:Array Value}{t:TypeId}(h:w.heap[g]? =some (.cells C t))(hc:∀v∈C.toList,∀z,v≠.int .u8 z):Wq w g:=fun o z e=>by
 rw[cell_of_row _ _ _ _ _ _ h]at e;obtain⟨h1,h2⟩ :=Array.getElem?_eq_some_iff.1 e;exact hc _ (by rw[←h2];exact Array.mem_toList_iff.2 (Array.getElem_mem h1)) z rfl
def F8(w'' w:World)(g:Nat):World:=match w.heap[g]? with
 |none=>w''
 |some o=>{w'' with heap:=w''.heap.setIfInBounds g o}
theorem Gq(w'' w:World)(g:Nat):(F8 w'' w g).heap.size=w''.heap.size:=by
 unfold F8;split
 ·rfl
 ·simp
theorem NA(w'' w:World)(g k:Nat)(hg:g<w''.heap.size)(hw:g<w.heap.size):(F8 w'' w g).heap[k]? =if k=g then w.heap[g]? else w''.heap[k]? :=by
 unfold F8;rw[Array.getElem?_eq_getElem hw];simp only[Array.getElem?_setIfInBounds]
 by_cases e:g=k
 ·subst e;simp[hg]
 ·rw[if_neg e,if_neg (fun e'=>e e'.symm)]
theorem Sr{F:Nat→Prop}{w w':World}{g0:Nat}{v:Value}{l:List Cl}(h:Av F w (fun w=>ψ w v l))(O:AQ g0 w w')(hg:g0<w.heap.size)(hn:Wq w g0):Av F w' (fun w=>ψ w v l):=fun w'' h1 h2=>by
 have hs:=O.size
 have hp:ψ (F8 w'' w g0) v l:=h _ (by rw[Gq];omega) (fun k hk hF=>by
  rw[NA w'' w g0 k (by omega) hg]
  by_cases e:k=g0
  ·rw[if_pos e,e]
  ·rw[if_neg e,h2 k (by omega) hF,O.block k e])
 have h0:=h.out;obtain⟨a,c,rfl,e1,e2,e3⟩ :=hp;refine⟨a,c,rfl,e1,e2,?_⟩
 by_cases hl:l= []
 ·subst hl
  rcases e3 with e3| ⟨g,o,rfl,eI,_⟩
  ·exact .inl e3
  ·exact .inl ⟨rfl,fun h=>by cases h⟩
 ·rcases e3 with⟨e3,_⟩ | ⟨g,o,rfl,eI,hr⟩
  ·exact absurd e3 hl
  ·rw[Gq]at eI
   refine .inr ⟨g,o,rfl,eI,fun j u hu=> ?_⟩;have hne:g≠g0:=fun e=>by
    subst e;obtain⟨a',c',e',_,_,h3⟩ :=h0;rcases h3 with⟨h3,_⟩ | ⟨g',o',ea,_,R1⟩
    ·exact hl h3
    ·injection e' with e1 _ _
     rw[←e1]at ea;injection ea with ea;injection ea with ea1 ea2 _;subst ea1;subst ea2
     match l,hl with
     |x::t,_=>exact hn (o+0) _ (R1 0 (.int .u8 (x.1.toNat:Int)) (by simp[Cn,clV]))
   have:=hr j u hu;rw[←this];exact(World.cell?_of_block (by rw[NA w'' w g0 g (by omega) hg,if_neg hne])).symm
theorem π.other{P:Value→World→Prop}{b g0:Nat}{tl:List Value}{V:RV}{S:St}{w w':World}(h:π P b tl V S w)(O:AQ g0 w w')(hg:g0<w.heap.size)(hf:∀k,ρ b V k→k≠g0)(hn:Wq w g0)(hP:Av (ρ b V) w' (P V.AZ)):π P b tl V S w':=by
 have hs:=O.size;refine⟨h.box.keep (O.block b (hf b (.inl rfl))) (by omega),?_,?_,?_,h.so,h.sr,h.sq,hP,Sr h.pat O hg hn,Sr h.hold O hg hn,h.one⟩
 ·exact Ab (F:=ρ b V) (G:=ρ b V) h.out (fun k e=>O.block k (hf k (.inr (.inl e))))
 ·exact Ab (F:=ρ b V) (G:=ρ b V) h.AM (fun k e=>O.block k (hf k (.inr (.inr (.inl e)))))
 ·exact Ab (F:=ρ b V) (G:=ρ b V) h.D8 (fun k e=>O.block k (hf k (.inr (.inr (.inr e)))))
theorem AAC:ZH 79 4 1 1 (.bool false):=⟨by kernel_rfl,by kernel_rfl,rfl,by decide,by decide,by decide⟩
theorem Ux:EE 84 19:=⟨⟨_,underlying84,rfl⟩,by kernel_rfl⟩
def Ss(AZ AM:Value):RV:=⟨AZ,AM,.slice none 0 0,.slice none 0 0,.slice none 0 0,.slice none 0 0⟩
def LS:List Value:= [.slice none 0 0,.slice none 0 0,.bool false,.int .i64 0,.int .i64 0,.string ⟨#[]⟩,.bool false,.int .i64 0,.int .i64 0,.slice none 0 0,.slice none 0 0,.slice none 0 0,.int .i64 0,.slice none 0 0,.bool false,.int .i64 0,.int .i64 0,.bool false,.int .i64 0]
theorem Su:∀v∈LS,v.oneCell'=true:=by decide
def AAD(AZ:Value)(cs:List Cm)(quiet:Bool)(steps room:Nat)(w:World)(e:Ending)(w':World):Prop:=
 Below w.heap.size w w'∧∃v,e= .returned (.agg (GD (Ss AZ v) (JM cs quiet steps room)).toArray)∧w'.ownsRow w.heap.size 4 1 v cs.length (List.replicate cs.length (.bool false))
theorem Y6(a:Option Addr)(c:Nat)(cs:List Cm)(quiet:Bool)(steps room:Nat)(w:World)(hn:cs.length≤400)(hs:steps≤5000)(hr:room≤256):
  Calls prog 45 #[.agg #[.slice a cs.length c],.bool quiet,.int .i64 (steps:Nat),.int .i64 (room:Nat)] w fun e w'=>AAD (.slice a cs.length c) cs quiet steps room w e w':=by
 obtain⟨n,Wl⟩ :∃n,cs.length=n:=⟨_,rfl⟩
 have HN:=γ Wl;rw[Wl]at hn⊢;clear Wl
 go_enter func45,ntmps45
 go_wp2_with(first
  | (refine AU rfl _ rfl [.slice a n c] rfl (by simp[Value.oneCell']) ?_
     intro w1 ξ B1 CE;have c1:=ξ.c 0 _ rfl;have l1:=ξ.lt;have Og:CB ((w1.alloc (.cells LS.toArray 84)).alloc (.cells LS.toArray 84)) w1.heap.size LS:=(CB.new w1 84 LS.toArray Su).below ((Below.refl (w1.heap.size+1) _).alloc (by simp) _) (by omega);have Bq:CB ((w1.alloc (.cells LS.toArray 84)).alloc (.cells LS.toArray 84)) (w1.heap.size+1) LS:=by
      have h9:=CB.new (w1.alloc (.cells LS.toArray 84)) 84 LS.toArray Su
      simpa using h9
     have BB:Below w.heap.size w ((w1.alloc (.cells LS.toArray 84)).alloc (.cells LS.toArray 84)):=(B1.alloc (by omega) _).alloc (by simp;omega) _)
  | (refine θ Ux Bq rfl rfl _ _ rfl rfl (vs:=GD (Ss (.slice a n c) (.slice none 0 0)) (JM cs quiet steps room)) rfl rfl (by simp[GD,Ss,Value.oneCell']) ?_
     intro w2 CJ O2;have LV:=Og.keep (O2.block _ (by omega)) (by rw[O2.size];exact δ);have B2:=BB.trans (O2.below (B:=w.heap.size) (by omega));have c2:w2.cell? ⟨w.heap.size,0,none⟩ =some (.slice a n c):=by
      rw[World.cell?_of_block (O2.block w.heap.size (by omega))];rw[World.cell?_of_block (w:=w1) (by rw[Below.heap_alloc _ _ _ (by simp;omega),Below.heap_alloc _ _ _ l1])];exact c1
     have l2:w.heap.size<w2.heap.size:=by rw[O2.size];simp;omega))
 have ja:w2.heap.size=w1.heap.size+2:=by rw[O2.size];simp
 clear Og Bq BB O2 c1 ξ;obtain⟨g1,Td⟩ :∃g,w1.heap.size=g:=⟨_,rfl⟩
 rw[Td]at LV CJ ja l1
 try rw[Td]
 go_loopw [18] (fun q6 wr=>∃(i:Nat)(v:Value),q6= .int .i64 i∧i≤n∧CB wr (g1+1) (GD (Ss (.slice a n c) v) (JM cs quiet steps room))∧CB wr g1 LS∧wr.ownsRow (g1+2) 4 1 v i (List.replicate i (.bool false))∧Below w.heap.size w wr∧g1+2≤wr.heap.size) (fun q6 _=>n - (intOf q6).toNat)
 case atStart=>exact⟨0,.slice none 0 0,rfl,ε,CJ,LV,World.ownsRow_nil _ _ _ _,B2,by omega⟩
 case round=>
  clear CJ LV B2 c2;obtain⟨i,v,rfl,hi,hb,R1,ν,hB,EV⟩ :=hrel;obtain⟨av,cv,CX⟩ :=κ ν;subst CX;have c1:=hb.c 1 _ rfl;have lb:=hb.lt;have f1:=hb.fz 1 (by rw[CY];decide)
  by_cases Ac:i<n
  ·have AV:(i:Int)<(n:Int):=by omega
   go_wp2_with(refine Gx AAC (ν.alloc _) wr.heap.size [.bool false] (heap_alloc_new wr _) rfl (by simp[Value.oneCell']) (by omega) (by simp;omega) rfl _ _ rfl rfl rfl ?_
               intro v' w6 Aa AK;have LY:=AK.size;simp at LY;have Eg:Below (g1+2) wr w6:=(ζ.alloc EV _).grown AK (by simp;omega) (fun k hk=>(ν.lt k hk).1);have GN:=hb.below Eg (by omega);have rF:=R1.below Eg (by omega);have B6:=hB.trans (Eg.mono (by omega));obtain⟨NF,JV,CX⟩ :=κ Aa;subst CX;have c6:=GN.c 1 _ rfl;have lb6:=GN.lt;have f6:=GN.fz 1 (by rw[CY];decide);clear AK)
   have Nl:=GN.set 1 (by rw[CY];decide) (.slice NF (i+1) JV) rfl;have hr8:=rF.keep (heap_setCell_other w6 ⟨g1+1,1,none⟩ g1 (.slice NF (i+1) JV) (by simp)) (by simp);have D9:=ownsRow_setCell_below Aa (a:=⟨g1+1,1,none⟩) (by simp) (.slice NF (i+1) JV);have B8:=B6.setCell (p:=⟨g1+1,1,none⟩) (by simp;omega) (.slice NF (i+1) JV)
   go_roundw
   case rel=>
    refine⟨i+1,.slice NF (i+1) JV,by go_num,by omega,Nl,hr8,?_,B8,by simp;omega⟩;rw[List.replicate_succ'];exact D9
   case measure=>simp[intOf]<;>omega
  ·obtain rfl:i=n:=by omega
   have AV:¬(i:Int)<(i:Int):=by omega
   go_wp2_with(first
    |refine ω Ux hb rfl rfl _ rfl rfl ?_
    | (refine θ Ux R1 rfl rfl _ _ rfl rfl (vs:=GD (Ss (.slice a i c) (.slice av i cv)) (JM cs quiet steps room)) rfl rfl hb.one ?_;intro w9 hb9 O9))
   have ACI:w9.ownsRow (g1+2) 4 1 (.slice av i cv) i (List.replicate i (.bool false)):=Ie ν O9 (fun e=>by have:=(ν.lt _ e).1;omega);refine bodyPost_ret (Kz rfl _ _ _ _ rfl Ux hb9 rfl) rfl ?_;exact⟨hB.trans (O9.below (by omega)),_,rfl,by rw[HN.out];exact AH ACI (by omega)⟩
end Go.Proofs.YtlppphmnegdhoabGreatDoor
