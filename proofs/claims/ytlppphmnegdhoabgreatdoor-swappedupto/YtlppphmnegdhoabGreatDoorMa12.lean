import Derived.Test.YtlppphmnegdhoabGreatDoorRows
import Derived.WalkKit
import Derived.WalkSpells
import Derived.WalkLawsBesides
import Derived.Laws.BitsLemmas
import Derived.Deep.QuietTactic
import Derived.BigQuiet
import Derived.Lib.Strings
import Derived.Laws.BytesArg
import Derived.Deep.MidRow
import Derived.Deep.WholeRow
import Derived.Laws.ResultCell
import Derived.Deep.CutBlock
import Derived.Deep.DeepCutAuto
import Derived.Deep.RegionHeld3
import Derived.Deep.DrawnRows
import Derived.Deep.AppendLies
import Derived.Deep.RegionLaw
import Derived.Great.BuildSlice
import Derived.Lib.ItoaNum
import Derived.Laws.AppendOwnNone
import Derived.Laws.OwnMore
import Derived.Lib.AppendStr
import Derived.Deep.RegionWith
import Derived.Shelf.LaysM
import Derived.Shelf.Strconv.Itoa3
import Derived.Test.YtlppphmnegdhoabGreatDoorProg
import Derived.RegionTactic
import Derived.Laws.CopyOwn
import Derived.ProofKit
import Derived.OpenShut
import Derived.ShutString
import Derived.ChangeOld
import Derived.Below
import Derived.SizedLaws
import Derived.Deep.Slices
import Derived.Deep.Strs
import Derived.Test.YtlppphmnegdhoabGreatDoorMa11
namespace Go.Proofs.YtlppphmnegdhoabGreatDoor
set_option linter.unusedVariables false
set_option maxRecDepth 100000
open Go.RowKit
open M

theorem M.goes_cs {S T : St} (h : Goes S T) : T.cs = S.cs := by
  induction h with
  | stop _ => rfl
  | @step S T h hg ih =>
    rw [ih]
    unfold St.move
    split
    · exact (St.same_reach S).cs
    · split
      · rfl
      · split
        · unfold St.doWithout
          split
          · rfl
          · unfold St.endEarly
            exact ((St.same_putUQ S).trans (St.same_putQueue _)).cs
        · exact (St.take_keep S).2.2.2.1
theorem M.Fed.over {cs : List Cm} {quiet : Bool} {steps room : Nat} {t : ByteArray} {T : St} (h : Fed (St0 cs quiet steps room) t T) (hd : T.death ≠ 0) : T.over = true :=
  DO.goes h.go (fun h => absurd rfl h) hd
theorem M.Fed.cs {cs : List Cm} {quiet : Bool} {steps room : Nat} {t : ByteArray} {T : St} (h : Fed (St0 cs quiet steps room) t T) : T.cs = cs := M.goes_cs h.go
def EfPost (B lo hi : Nat) (cs : List Cm) (quiet : Bool) (steps room b : Nat) (F : Nat → Prop) (t s : ByteArray) (T : St) (w : World) (e : Ending) (w' : World) : Prop :=
  (4096 < t.size + s.size ∧ e = .returned (.tuple #[.string ⟨#[]⟩, .int .i64 1]) ∧ w' = w) ∨
  (t.size + s.size ≤ 4096 ∧ ∃ (T' : St) (F' : Nat → Prop), Fed (St0 cs quiet steps room) (t ++ s) T' ∧ T.out <+: T'.out ∧ T'.death ≤ 6 ∧ T'.out.length ≤ 4096 ∧ e = .returned (.tuple #[.string (baC (partC T'.out T.out.length T'.out.length)), .int .i64 (T'.death : Nat)]) ∧ Rf F F' w w' ∧
    ((T'.death = 0 ∧ Live B lo hi cs b F' T' w') ∨ (T'.death ≠ 0 ∧ CB w' b (zE T'.death false) ∧ F' = (fun k => k = b))))
theorem ed_feed {B lo hi : Nat} {cs : List Cm} {quiet : Bool} {steps room b : Nat} {F : Nat → Prop} {T : St} {w : World} (h : Live B lo hi cs b F T w) (t : ByteArray) (hf : Fed (St0 cs quiet steps room) t T) (s : ByteArray) (hsm : s.size ≤ maxLen) :
    Calls Tryz.prog 26 #[.pointer (some ⟨b, 0, none⟩), .string s] w fun e w' => EfPost B lo hi cs quiet steps room b F t s T w e w' := by
  obtain ⟨V, VSS, w0, h1, h2, h3, h4, h5, h6⟩ := h.ex
  have hcs := h.cs
  refine (feed_calls VSS _ b V T s w h1 h.wf (fun w' hw' => by rw [hcs]; exact h3 w' hw') (itoa_ok _ _ (fun w' hw' => h4 w' hw')) hsm).mono ?_
  rintro e w' (⟨g1, g2, g3⟩ | ⟨g1, T', g2, g3, g4, g5⟩)
  · rw [hf.text.1] at g1
    exact .inl ⟨g1, g2, g3⟩
  · rw [hf.text.1] at g1
    have hfd := hf.feed s g2
    have hpre : T.out <+: T'.out := by
      have h9 := Goes.out g2
      exact h9
    refine .inr ⟨g1, T', ?_⟩
    rcases g5 with ⟨d0, V', e1, e2, e3⟩ | ⟨d0, e2, e3⟩
    · refine ⟨foot b V', hfd, hpre, g3.de, g3.ou, g4, by rw [h2]; exact e3, .inl ⟨d0, ?_⟩⟩
      have hA : Ag (aB B lo) w0 w' := e2.scr.out
      refine ⟨⟨V', VSS, w0, e2, rfl, fun w'' hw'' => by rw [e1]; exact h3 w'' hw'', h4, h5, hA⟩, fun k hk => ?_, hfd.cs, g3, d0, .inl rfl⟩
      rcases e3.new k hk with h9 | h9
      · exact h.ft k (by rw [h2]; exact h9)
      · have := h.lt.2; omega
    · exact ⟨fun k => k = b, hfd, hpre, g3.de, g3.ou, g4, by rw [h2]; exact e3, .inr ⟨d0, e2, rfl⟩⟩
def EcPost (cs : List Cm) (quiet : Bool) (steps room b : Nat) (F : Nat → Prop) (t : ByteArray) (T : St) (w : World) (e : Ending) (w' : World) : Prop :=
  ∃ R : St, Ran cs quiet steps room t R ∧ T.out <+: R.out ∧ R.death ≤ 6 ∧ R.out.length ≤ 4096 ∧ CB w' b (zE 0 true) ∧ Rf F (fun k => k = b) w w' ∧ ∃ j : ByteArray, e = .returned (.tuple #[.string (baC (partC R.out T.out.length R.out.length)), .string j, .int .i64 (R.death : Nat)]) ∧ (R.death ≠ 0 → j = ⟨#[]⟩) ∧ (R.death = 0 → j.data.toList = jourS R)
theorem ed_close {B lo hi : Nat} {cs : List Cm} {quiet : Bool} {steps room b : Nat} {F : Nat → Prop} {T : St} {w : World} (h : Live B lo hi cs b F T w) (t : ByteArray) (hf : Fed (St0 cs quiet steps room) t T) :
    Calls Tryz.prog 28 #[.pointer (some ⟨b, 0, none⟩)] w fun e w' => EcPost cs quiet steps room b F t T w e w' := by
  obtain ⟨V, VSS, w0, h1, h2, h3, h4, h5, h6⟩ := h.ex
  have hcs := h.cs
  refine (close_calls VSS _ b V T w h1 h.wf (fun w' hw' => by rw [hcs]; exact h3 w' hw') (itoa_ok _ _ (fun w' hw' => h4 w' hw')) (fun T' hg => Ran.orgs (hf.close hg))).mono ?_
  rintro e w' ⟨R, g1, g2, g3, g4, g5⟩
  have hpre : T.out <+: R.out := by
    have h9 := Goes.out g1
    exact h9
  refine ⟨R, hf.close g1, hpre, g2.de, g2.ou, g3, by rw [h2]; exact g4, ?_⟩
  rcases g5 with ⟨d0, rfl⟩ | ⟨d0, j, hj, rfl⟩
  · exact ⟨⟨#[]⟩, rfl, fun _ => rfl, fun h => absurd h d0⟩
  · exact ⟨j, by rw [d0]; rfl, fun h => absurd d0 h, fun _ => hj⟩
end Go.Proofs.YtlppphmnegdhoabGreatDoor

namespace Go.Proofs.YtlppphmnegdhoabGreatDoor
set_option linter.unusedVariables false
set_option maxRecDepth 100000
open Go.RowKit
open M

/-- an editor that is not closed -/
def EdSt (B lo hi : Nat) (cs : List Cm) (b : Nat) (T : St) (w : World) : Prop := (T.death = 0 ∧ ∃ F, Live B lo hi cs b F T w) ∨ (T.death ≠ 0 ∧ CB w b (zE T.death false) ∧ hi ≤ b)
theorem EdSt.ge {B lo hi : Nat} {cs : List Cm} {b : Nat} {T : St} {w : World} (h : EdSt B lo hi cs b T w) : hi ≤ b ∧ b < w.heap.size := by
  rcases h with ⟨_, F, h⟩ | ⟨_, h1, h2⟩
  · exact ⟨h.ft b h.fb, h.lt.1⟩
  · exact ⟨h2, h1.lt⟩
theorem EdSt.below {B lo hi : Nat} {cs : List Cm} {b : Nat} {T : St} {w w' : World} (h : EdSt B lo hi cs b T w) (hb : Below w.heap.size w w') : EdSt B lo hi cs b T w' := by
  rcases h with ⟨d, F, h⟩ | ⟨d, h1, h2⟩
  · exact .inl ⟨d, F, h.below hb⟩
  · exact .inr ⟨d, h1.below hb h1.lt, h2⟩
theorem EdSt.other {B lo hi : Nat} {cs : List Cm} {b g0 : Nat} {T : St} {w w' : World} (h : EdSt B lo hi cs b T w) (O : Only g0 w w') (hB : B ≤ g0) (hl : g0 < lo) (hlo : lo ≤ hi) (hn : NoB w g0) : EdSt B lo hi cs b T w' := by
  have hge := h.ge
  rcases h with ⟨d, F, h⟩ | ⟨d, h1, h2⟩
  · exact .inl ⟨d, F, h.other O (by omega) (fun hF => by have := h.ft g0 hF; omega) hB (.inl hl) hn⟩
  · exact .inr ⟨d, h1.keep (O.block b (by omega)) (by rw [O.size]; exact Nat.le_refl _), h2⟩
theorem EdSt.set {B lo hi : Nat} {cs : List Cm} {b g0 : Nat} {T : St} {w : World} (h : EdSt B lo hi cs b T w) (o : Nat) (u : Value) (hB : B ≤ g0) (hl : g0 < lo) (hlo : lo ≤ hi) (hn : NoB w g0) : EdSt B lo hi cs b T (w.setCell ⟨g0, o, none⟩ u) := h.other (Only.set _ _ _ _) hB hl hlo hn
theorem baC_app (a b : List Cl) : baC (a ++ b) = baC a ++ baC b := by
  apply ByteArray.ext
  simp [baC, textC]
theorem baC_part {a b : List Cl} (h : a <+: b) : baC b = baC a ++ baC (partC b a.length b.length) := by
  obtain ⟨c, rfl⟩ := h
  rw [baC_app]
  congr 1
  unfold partC
  rw [List.drop_left, List.length_append, Nat.add_sub_cancel_left, List.take_length]
theorem rf_below {F G : Nat → Prop} {lo : Nat} {w w' : World} (h : Rf F G w w') (hF : ∀ k, F k → lo ≤ k) (hl : lo ≤ w.heap.size) : Below lo w w' := ⟨h.os, h.tape, h.output, h.size, fun k hk => h.block k (by omega) (fun hf => by have := hF k hf; omega)⟩
def EsPost (B lo hi : Nat) (cs : List Cm) (quiet : Bool) (steps room b : Nat) (t s : ByteArray) (T : St) (w : World) (e : Ending) (w' : World) : Prop :=
  ∃ (T' : St) (txt : ByteArray), Fed (St0 cs quiet steps room) (t ++ s) T' ∧ e = .returned (.tuple #[.string txt, .int .i64 (T'.death : Nat)]) ∧ baC T'.out = baC T.out ++ txt ∧ T'.death ≤ 6 ∧ T'.out.length ≤ 4096 ∧ (T.death ≠ 0 → txt = ⟨#[]⟩ ∧ T'.death = T.death) ∧ EdSt B lo hi cs b T' w' ∧ Below lo w w'
theorem ed_step {B lo hi : Nat} {cs : List Cm} {quiet : Bool} {steps room b : Nat} {T : St} {w : World} (h : EdSt B lo hi cs b T w) (hlo : lo ≤ hi) (t : ByteArray) (hf : Fed (St0 cs quiet steps room) t T) (hde : T.death ≤ 6) (hou : T.out.length ≤ 4096) (s : ByteArray) (hs : t.size + s.size ≤ 4096) :
    Calls Tryz.prog 26 #[.pointer (some ⟨b, 0, none⟩), .string s] w fun e w' => EsPost B lo hi cs quiet steps room b t s T w e w' := by
  have hge := h.ge
  rcases h with ⟨d, F, h⟩ | ⟨d, h1, h2⟩
  · refine (ed_feed h t hf s (by unfold maxLen; omega)).mono ?_
    rintro e w' (⟨g1, _, _⟩ | ⟨_, T', F', g1, g2, g3, g4, g5, g6, g7⟩)
    · omega
    · refine ⟨T', _, g1, g5, baC_part g2, g3, g4, fun h9 => absurd d h9, ?_, rf_below g6 (fun k hk => by have := h.ft k hk; omega) (by omega)⟩
      rcases g7 with ⟨g8, g9⟩ | ⟨g8, g9, rfl⟩
      · exact .inl ⟨g8, F', g9⟩
      · exact .inr ⟨g8, g9, hge.1⟩
  · refine (feed_dead b T.death s w h1 d).mono ?_
    rintro e w' ⟨g1, g2⟩
    have ho := hf.over d
    refine ⟨T.ext (t ++ s) false, ⟨#[]⟩, hf.dead ho s, g1, ?_, hde, hou, fun _ => ⟨rfl, rfl⟩, .inr ⟨d, h1.below g2 h1.lt, h2⟩, g2.mono (by omega)⟩
    show baC T.out = baC T.out ++ ⟨#[]⟩
    rw [ba_app_nil]
def ElPost (lo : Nat) (cs : List Cm) (quiet : Bool) (steps room b : Nat) (t : ByteArray) (T : St) (w : World) (e : Ending) (w' : World) : Prop :=
  ∃ (R : St) (txt j : ByteArray), Ran cs quiet steps room t R ∧ e = .returned (.tuple #[.string txt, .string j, .int .i64 (R.death : Nat)]) ∧ baC R.out = baC T.out ++ txt ∧ R.death ≤ 6 ∧ R.out.length ≤ 4096 ∧ (T.death ≠ 0 → txt = ⟨#[]⟩ ∧ R.death = T.death) ∧ (R.death ≠ 0 → j = ⟨#[]⟩) ∧ (R.death = 0 → j.data.toList = jourS R) ∧ CB w' b (zE 0 true) ∧ Below lo w w'
theorem ed_last {B lo hi : Nat} {cs : List Cm} {quiet : Bool} {steps room b : Nat} {T : St} {w : World} (h : EdSt B lo hi cs b T w) (hlo : lo ≤ hi) (t : ByteArray) (hf : Fed (St0 cs quiet steps room) t T) (hde : T.death ≤ 6) (hou : T.out.length ≤ 4096) :
    Calls Tryz.prog 28 #[.pointer (some ⟨b, 0, none⟩)] w fun e w' => ElPost lo cs quiet steps room b t T w e w' := by
  have hge := h.ge
  rcases h with ⟨d, F, h⟩ | ⟨d, h1, h2⟩
  · refine (ed_close h t hf).mono ?_
    rintro e w' ⟨R, g1, g2, g3, g4, g5, g6, j, g7, g8, g9⟩
    exact ⟨R, _, j, g1, g7, baC_part g2, g3, g4, fun h9 => absurd d h9, g8, g9, g5, rf_below g6 (fun k hk => by have := h.ft k hk; omega) (by omega)⟩
  · refine (close_dead b T.death w h1 d).mono ?_
    rintro e w' ⟨g1, g2, g3⟩
    have ho := hf.over d
    refine ⟨T.ext t true, ⟨#[]⟩, ⟨#[]⟩, hf.end ho, g1, ?_, hde, hou, fun _ => ⟨rfl, rfl⟩, fun _ => rfl, fun h9 => absurd h9 d, g2, rf_below g3 (fun k hk => by omega) (by omega)⟩
    show baC T.out = baC T.out ++ ⟨#[]⟩
    rw [ba_app_nil]
/-- strings in a row -/
structure StrsAt (w : World) (a : Option Addr) (L : List ByteArray) : Prop where
  at' : L = [] ∨ ∃ g o, a = some ⟨g, o, none⟩ ∧ g < w.heap.size ∧ ∀ i (h : i < L.length), w.cell? ⟨g, o + i, none⟩ = some (.string L[i])
theorem StrsAt.below {w w' : World} {a : Option Addr} {L : List ByteArray} {B : Nat} (h : StrsAt w a L) (hb : Below B w w') (hB : w.heap.size ≤ B) : StrsAt w' a L := by
  rcases h.at' with h | ⟨g, o, h1, h2, h3⟩
  · exact ⟨.inl h⟩
  · exact ⟨.inr ⟨g, o, h1, by have := hb.size; omega, fun i hi => (hb.cell (by exact Nat.lt_of_lt_of_le h2 hB)).trans (h3 i hi)⟩⟩
def catB : List ByteArray → ByteArray
  | [] => ⟨#[]⟩
  | x :: l => x ++ catB l
theorem catB_app (l m : List ByteArray) : catB (l ++ m) = catB l ++ catB m := by
  induction l with
  | nil => rw [List.nil_append, catB, ba_nil_app]
  | cons x l ih => rw [List.cons_append, catB, catB, ih, ByteArray.append_assoc]
theorem catB_snoc (L : List ByteArray) (i : Nat) (h : i < L.length) : catB (L.take (i + 1)) = catB (L.take i) ++ L[i] := by
  rw [List.take_add_one, List.getElem?_eq_getElem h, catB_app]
  congr 1
  show L[i] ++ ⟨#[]⟩ = _
  rw [ba_app_nil]
theorem catB_le (L : List ByteArray) (i : Nat) : (catB (L.take i)).size ≤ (catB L).size := by
  have h : catB L = catB (L.take i) ++ catB (L.drop i) := by rw [← catB_app, List.take_append_drop]
  rw [h]; simp
end Go.Proofs.YtlppphmnegdhoabGreatDoor

namespace Go.Proofs.YtlppphmnegdhoabGreatDoor
set_option linter.unusedVariables false
set_option maxRecDepth 100000
open Go.RowKit
open M

theorem rtPl : RowT 33 3 := ⟨⟨_, Tryz.underlying33, rfl⟩, by kernel_rfl⟩
def plL (o j : ByteArray) (e : Int) : List Value := [.string o, .string j, .int .i64 e]
theorem plL_one (o j : ByteArray) (e : Int) : ∀ v ∈ plL o j e, v.oneCell' = true := by simp [plL, Value.oneCell']
theorem NoB.keep {w w' : World} {g : Nat} (h : NoB w g) (hk : w'.heap[g]? = w.heap[g]?) : NoB w' g := fun o z e => h o z (by rw [← e]; exact (World.cell?_of_block hk).symm)
theorem NoB.set {w : World} {g o : Nat} {u v : Value} (h : NoB w g) (hs : w.cell? ⟨g, o, none⟩ = some v) (hu : ∀ z, u ≠ .int .u8 z) : NoB (w.setCell ⟨g, o, none⟩ u) g := fun o' z e => by
  by_cases e' : o = o'
  · subst e'
    rw [World.cell?_setCell_same' _ _ _ (by rw [hs]; rfl)] at e
    injection e with e
    exact hu z e
  · rw [World.cell?_setCell_other _ _ _ _ (fun e9 => e' (congrArg Addr.off e9))] at e
    exact h o' z e
/-- what a run over all pieces comes to -/
def PlSpec (s : ByteArray) (quiet : Bool) (steps room : Int) (t out j : ByteArray) (x : Int) : Prop :=
  (∃ n : Int, CkV s n x ∧ x ≠ 0 ∧ out = ⟨#[]⟩ ∧ j = ⟨#[]⟩) ∨ (∃ cs, s.size ≤ 400 ∧ ScrV s.data.toList cs ∧ OpenBad steps room ∧ out = ⟨#[]⟩ ∧ j = ⟨#[]⟩ ∧ x = 3) ∨
  (∃ cs R, s.size ≤ 400 ∧ ScrV s.data.toList cs ∧ ¬ OpenBad steps room ∧ Ran cs quiet steps.toNat room.toNat t R ∧ out = baC R.out ∧ x = (R.death : Nat) ∧ R.death ≤ 6 ∧ R.out.length ≤ 4096 ∧ (R.death ≠ 0 → j = ⟨#[]⟩) ∧ (R.death = 0 → j.data.toList = jourS R))
def PlPost (s : ByteArray) (quiet : Bool) (steps room : Int) (t : ByteArray) (w : World) (e : Ending) (w' : World) : Prop :=
  Below w.heap.size w w' ∧ ∃ (out j : ByteArray) (x : Int), e = .returned (.tuple #[.agg (plL out j x).toArray, .bool true]) ∧ PlSpec s quiet steps room t out j x
theorem ckv_scr {s : ByteArray} {n x : Int} {cs : List Cm} (h : CkV s n x) (h4 : s.size ≤ 400) (hs : ScrV s.data.toList cs) : x = 0 := (h.same (n' := cs.length) (x' := 0) (.inr ⟨h4, .inr ⟨cs, rfl, rfl, hs⟩⟩)).2
set_option maxRecDepth 100000 in
set_option maxHeartbeats 8000000 in
theorem played_calls (B : Nat) (s : ByteArray) (quiet : Bool) (steps room : Int) (ap : Option Addr) (cp : Nat) (L : List ByteArray) (w : World) (hs : s.size ≤ maxLen) (hT : TabB B w) (hr1 : -9223372036854775808 ≤ steps) (hr2 : steps ≤ 9223372036854775807) (hr3 : -9223372036854775808 ≤ room) (hr4 : room ≤ 9223372036854775807) (hL : StrsAt w ap L) (hLn : L.length ≤ 1099511627776) (hsum : (catB L).size ≤ 4096) :
    Calls Tryz.prog 14 #[.string s, .bool quiet, .int .i64 steps, .int .i64 room, .slice ap L.length cp] w fun e w' => PlPost s quiet steps room (catB L) w e w' := by
  obtain ⟨n, hn⟩ : ∃ n, L.length = n := ⟨_, rfl⟩
  have HN : Hid (L.length = n) := hn
  rw [hn] at hLn ⊢
  have HL : Hid (StrsAt w ap L) := hL
  have HSM : Hid ((catB L).size ≤ 4096) := hsum
  have HT : Hid (TabB B w) := hT
  have hBw : B ≤ w.heap.size := hT.1
  clear hn hL hsum hT
  have hz1 : CB ((w.alloc (.cells #[.string ⟨#[]⟩, .string ⟨#[]⟩, .int .i64 0] 33)).alloc (.cells #[.string ⟨#[]⟩, .string ⟨#[]⟩, .int .i64 0] 33)) w.heap.size (plL ⟨#[]⟩ ⟨#[]⟩ 0) := (CB.new w 33 #[.string ⟨#[]⟩, .string ⟨#[]⟩, .int .i64 0] (plL_one _ _ _)).below (B := w.heap.size + 1) ((Below.refl _ _).alloc (by simp) _) (by omega)
  have hz2 : CB ((w.alloc (.cells #[.string ⟨#[]⟩, .string ⟨#[]⟩, .int .i64 0] 33)).alloc (.cells #[.string ⟨#[]⟩, .string ⟨#[]⟩, .int .i64 0] 33)) (w.heap.size + 1) (plL ⟨#[]⟩ ⟨#[]⟩ 0) := by
    have h9 := CB.new (w.alloc (.cells #[.string ⟨#[]⟩, .string ⟨#[]⟩, .int .i64 0] 33)) 33 #[.string ⟨#[]⟩, .string ⟨#[]⟩, .int .i64 0] (plL_one _ _ _)
    have h8 : (w.alloc (.cells #[.string ⟨#[]⟩, .string ⟨#[]⟩, .int .i64 0] 33)).heap.size = w.heap.size + 1 := by simp
    rw [h8] at h9
    exact h9
  have hnb : NoB ((w.alloc (.cells #[.string ⟨#[]⟩, .string ⟨#[]⟩, .int .i64 0] 33)).alloc (.cells #[.string ⟨#[]⟩, .string ⟨#[]⟩, .int .i64 0] 33)) (w.heap.size + 1) := by
    have h9 := heap_alloc_new (w.alloc (.cells #[.string ⟨#[]⟩, .string ⟨#[]⟩, .int .i64 0] 33)) (.cells #[.string ⟨#[]⟩, .string ⟨#[]⟩, .int .i64 0] 33)
    have h8 : (w.alloc (.cells #[.string ⟨#[]⟩, .string ⟨#[]⟩, .int .i64 0] 33)).heap.size = w.heap.size + 1 := by simp
    rw [h8] at h9
    exact NoB.of_cells h9 (by simp)
  have hB0 : Below w.heap.size w ((w.alloc (.cells #[.string ⟨#[]⟩, .string ⟨#[]⟩, .int .i64 0] 33)).alloc (.cells #[.string ⟨#[]⟩, .string ⟨#[]⟩, .int .i64 0] 33)) := ((Below.refl _ _).alloc (Nat.le_refl _) _).alloc (by simp) _
  have hsz0 : w.heap.size + 2 ≤ ((w.alloc (.cells #[.string ⟨#[]⟩, .string ⟨#[]⟩, .int .i64 0] 33)).alloc (.cells #[.string ⟨#[]⟩, .string ⟨#[]⟩, .int .i64 0] 33)).heap.size := by simp
  go_enter Tryz.func14, Tryz.ntmps14
  go_wp2_with fail
  generalize ((w.alloc (.cells #[.string ⟨#[]⟩, .string ⟨#[]⟩, .int .i64 0] 33)).alloc (.cells #[.string ⟨#[]⟩, .string ⟨#[]⟩, .int .i64 0] 33)) = W at *
  refine (vcheck_calls s W hs).mono ?_
  rintro e w1 ⟨⟨n0, x, rfl, hck⟩, B1⟩
  have hx := hck.x
  have HCK : Hid (CkV s n0 x) := hck
  replace hz1 := hz1.below B1 (by omega)
  replace hz2 := hz2.below B1 (by omega)
  replace hnb := hnb.keep (B1.block _ (by omega))
  have hB1 := hB0.trans (B1.mono (by omega))
  have hsz1 : w.heap.size + 2 ≤ w1.heap.size := by have := B1.size; omega
  have HT1 : Hid (TabB B w1) := HT.out.below (hB1.mono hBw)
  clear hck B1 hB0 hsz0 W HT
  rcases hx with rfl | rfl | rfl
  · go_wp2_with fail
    refine (open_calls B s quiet steps room w1 hs HT1.out hr1 hr2 hr3 hr4).mono ?_
    rintro e w2 ⟨B2, ⟨n', x', hck', hne, rfl⟩ | ⟨cs, h4, hsc, _, rfl⟩ | ⟨cs, b, hi, F, h4, hsc, _, rfl, _, _⟩⟩
    · obtain ⟨_, hx'⟩ := HCK.out.same hck'
      subst hx'
      replace hz1 := hz1.below B2 (by omega)
      replace hz2 := hz2.below B2 (by omega)
      have hB2 := hB1.trans (B2.mono (by omega))
      have c2 := hz2.c 2 _ rfl
      have f2 := hz2.fz 2 (by decide)
      have l2 := hz2.lt
      have hS := hz2.set 2 (by decide) (.int .i64 1) rfl
      have hr := hz1.keep (heap_setCell_other w2 ⟨w.heap.size + 1, 2, none⟩ w.heap.size (.int .i64 1) (by simp)) (by simp)
      have BS := hB2.setCell (p := ⟨w.heap.size + 1, 2, none⟩) (by simp) (.int .i64 1)
      clear hck' hB1 hB2
      go_wp2_with (first
        | refine cb_load0 rtPl hS rfl rfl _ rfl rfl ?_
        | (refine cb_store0 rtPl hr rfl rfl _ _ rfl rfl (vs := plL ⟨#[]⟩ ⟨#[]⟩ 1) rfl rfl (plL_one _ _ _) ?_; intro w9 hb9 O9))
      refine bodyPost_ret (results_cb rfl _ _ _ _ rfl rtPl hb9 rfl) rfl ?_
      exact ⟨BS.trans (O9.below (Nat.le_refl _)), ⟨#[]⟩, ⟨#[]⟩, 1, rfl, .inl ⟨n0, HCK.out, by decide, rfl, rfl⟩⟩
    · have := ckv_scr HCK.out h4 hsc; cases this
    · have := ckv_scr HCK.out h4 hsc; cases this
  · go_wp2_with fail
    refine (open_calls B s quiet steps room w1 hs HT1.out hr1 hr2 hr3 hr4).mono ?_
    rintro e w2 ⟨B2, ⟨n', x', hck', hne, rfl⟩ | ⟨cs, h4, hsc, _, rfl⟩ | ⟨cs, b, hi, F, h4, hsc, _, rfl, _, _⟩⟩
    · obtain ⟨_, hx'⟩ := HCK.out.same hck'
      subst hx'
      replace hz1 := hz1.below B2 (by omega)
      replace hz2 := hz2.below B2 (by omega)
      have hB2 := hB1.trans (B2.mono (by omega))
      have c2 := hz2.c 2 _ rfl
      have f2 := hz2.fz 2 (by decide)
      have l2 := hz2.lt
      have hS := hz2.set 2 (by decide) (.int .i64 2) rfl
      have hr := hz1.keep (heap_setCell_other w2 ⟨w.heap.size + 1, 2, none⟩ w.heap.size (.int .i64 2) (by simp)) (by simp)
      have BS := hB2.setCell (p := ⟨w.heap.size + 1, 2, none⟩) (by simp) (.int .i64 2)
      clear hck' hB1 hB2
      go_wp2_with (first
        | refine cb_load0 rtPl hS rfl rfl _ rfl rfl ?_
        | (refine cb_store0 rtPl hr rfl rfl _ _ rfl rfl (vs := plL ⟨#[]⟩ ⟨#[]⟩ 2) rfl rfl (plL_one _ _ _) ?_; intro w9 hb9 O9))
      refine bodyPost_ret (results_cb rfl _ _ _ _ rfl rtPl hb9 rfl) rfl ?_
      exact ⟨BS.trans (O9.below (Nat.le_refl _)), ⟨#[]⟩, ⟨#[]⟩, 2, rfl, .inl ⟨n0, HCK.out, by decide, rfl, rfl⟩⟩
    · have := ckv_scr HCK.out h4 hsc; cases this
    · have := ckv_scr HCK.out h4 hsc; cases this
  by_cases hbad : OpenBad steps room
  · have HBAD : Hid (OpenBad steps room) := hbad
    have hc4 : steps < 0 ∨ (¬ steps < 0 ∧ 5000 < steps) ∨ (¬ steps < 0 ∧ ¬ 5000 < steps ∧ room < 1) ∨ (¬ steps < 0 ∧ ¬ 5000 < steps ∧ ¬ room < 1 ∧ 256 < room) := by
      unfold OpenBad at hbad
      omega
    clear hbad
    rcases hc4 with h1 | ⟨h1, h2⟩ | ⟨h1, h2, h3⟩ | ⟨h1, h2, h3, h4⟩
    · go_wp2_with fail
      refine (open_calls B s quiet steps room w1 hs HT1.out hr1 hr2 hr3 hr4).mono ?_
      rintro e w2 ⟨B2, ⟨n', x', hck', hne, rfl⟩ | ⟨cs, h49, hsc, _, rfl⟩ | ⟨cs, b, hi, F, h49, hsc, hnbad, rfl, _, _⟩⟩
      · exact absurd (HCK.out.same hck').2.symm hne
      · have HSC : Hid (s.size ≤ 400 ∧ ScrV s.data.toList cs) := ⟨h49, hsc⟩
        replace hz1 := hz1.below B2 (by omega)
        replace hz2 := hz2.below B2 (by omega)
        have hB2 := hB1.trans (B2.mono (by omega))
        have c2 := hz2.c 2 _ rfl
        have f2 := hz2.fz 2 (by decide)
        have l2 := hz2.lt
        have hS := hz2.set 2 (by decide) (.int .i64 3) rfl
        have hr := hz1.keep (heap_setCell_other w2 ⟨w.heap.size + 1, 2, none⟩ w.heap.size (.int .i64 3) (by simp)) (by simp)
        have BS := hB2.setCell (p := ⟨w.heap.size + 1, 2, none⟩) (by simp) (.int .i64 3)
        clear hB1 hB2 hsc
        go_wp2_with (first
          | refine cb_load0 rtPl hS rfl rfl _ rfl rfl ?_
          | (refine cb_store0 rtPl hr rfl rfl _ _ rfl rfl (vs := plL ⟨#[]⟩ ⟨#[]⟩ 3) rfl rfl (plL_one _ _ _) ?_; intro w9 hb9 O9))
        refine bodyPost_ret (results_cb rfl _ _ _ _ rfl rtPl hb9 rfl) rfl ?_
        exact ⟨BS.trans (O9.below (Nat.le_refl _)), ⟨#[]⟩, ⟨#[]⟩, 3, rfl, .inr (.inl ⟨cs, HSC.out.1, HSC.out.2, HBAD.out, rfl, rfl, rfl⟩)⟩
      · exact absurd HBAD.out hnbad
    · go_wp2_with fail
      refine (open_calls B s quiet steps room w1 hs HT1.out hr1 hr2 hr3 hr4).mono ?_
      rintro e w2 ⟨B2, ⟨n', x', hck', hne, rfl⟩ | ⟨cs, h49, hsc, _, rfl⟩ | ⟨cs, b, hi, F, h49, hsc, hnbad, rfl, _, _⟩⟩
      · exact absurd (HCK.out.same hck').2.symm hne
      · have HSC : Hid (s.size ≤ 400 ∧ ScrV s.data.toList cs) := ⟨h49, hsc⟩
        replace hz1 := hz1.below B2 (by omega)
        replace hz2 := hz2.below B2 (by omega)
        have hB2 := hB1.trans (B2.mono (by omega))
        have c2 := hz2.c 2 _ rfl
        have f2 := hz2.fz 2 (by decide)
        have l2 := hz2.lt
        have hS := hz2.set 2 (by decide) (.int .i64 3) rfl
        have hr := hz1.keep (heap_setCell_other w2 ⟨w.heap.size + 1, 2, none⟩ w.heap.size (.int .i64 3) (by simp)) (by simp)
        have BS := hB2.setCell (p := ⟨w.heap.size + 1, 2, none⟩) (by simp) (.int .i64 3)
        clear hB1 hB2 hsc
        go_wp2_with (first
          | refine cb_load0 rtPl hS rfl rfl _ rfl rfl ?_
          | (refine cb_store0 rtPl hr rfl rfl _ _ rfl rfl (vs := plL ⟨#[]⟩ ⟨#[]⟩ 3) rfl rfl (plL_one _ _ _) ?_; intro w9 hb9 O9))
        refine bodyPost_ret (results_cb rfl _ _ _ _ rfl rtPl hb9 rfl) rfl ?_
        exact ⟨BS.trans (O9.below (Nat.le_refl _)), ⟨#[]⟩, ⟨#[]⟩, 3, rfl, .inr (.inl ⟨cs, HSC.out.1, HSC.out.2, HBAD.out, rfl, rfl, rfl⟩)⟩
      · exact absurd HBAD.out hnbad
    · go_wp2_with fail
      refine (open_calls B s quiet steps room w1 hs HT1.out hr1 hr2 hr3 hr4).mono ?_
      rintro e w2 ⟨B2, ⟨n', x', hck', hne, rfl⟩ | ⟨cs, h49, hsc, _, rfl⟩ | ⟨cs, b, hi, F, h49, hsc, hnbad, rfl, _, _⟩⟩
      · exact absurd (HCK.out.same hck').2.symm hne
      · have HSC : Hid (s.size ≤ 400 ∧ ScrV s.data.toList cs) := ⟨h49, hsc⟩
        replace hz1 := hz1.below B2 (by omega)
        replace hz2 := hz2.below B2 (by omega)
        have hB2 := hB1.trans (B2.mono (by omega))
        have c2 := hz2.c 2 _ rfl
        have f2 := hz2.fz 2 (by decide)
        have l2 := hz2.lt
        have hS := hz2.set 2 (by decide) (.int .i64 3) rfl
        have hr := hz1.keep (heap_setCell_other w2 ⟨w.heap.size + 1, 2, none⟩ w.heap.size (.int .i64 3) (by simp)) (by simp)
        have BS := hB2.setCell (p := ⟨w.heap.size + 1, 2, none⟩) (by simp) (.int .i64 3)
        clear hB1 hB2 hsc
        go_wp2_with (first
          | refine cb_load0 rtPl hS rfl rfl _ rfl rfl ?_
          | (refine cb_store0 rtPl hr rfl rfl _ _ rfl rfl (vs := plL ⟨#[]⟩ ⟨#[]⟩ 3) rfl rfl (plL_one _ _ _) ?_; intro w9 hb9 O9))
        refine bodyPost_ret (results_cb rfl _ _ _ _ rfl rtPl hb9 rfl) rfl ?_
        exact ⟨BS.trans (O9.below (Nat.le_refl _)), ⟨#[]⟩, ⟨#[]⟩, 3, rfl, .inr (.inl ⟨cs, HSC.out.1, HSC.out.2, HBAD.out, rfl, rfl, rfl⟩)⟩
      · exact absurd HBAD.out hnbad
    · go_wp2_with fail
      refine (open_calls B s quiet steps room w1 hs HT1.out hr1 hr2 hr3 hr4).mono ?_
      rintro e w2 ⟨B2, ⟨n', x', hck', hne, rfl⟩ | ⟨cs, h49, hsc, _, rfl⟩ | ⟨cs, b, hi, F, h49, hsc, hnbad, rfl, _, _⟩⟩
      · exact absurd (HCK.out.same hck').2.symm hne
      · have HSC : Hid (s.size ≤ 400 ∧ ScrV s.data.toList cs) := ⟨h49, hsc⟩
        replace hz1 := hz1.below B2 (by omega)
        replace hz2 := hz2.below B2 (by omega)
        have hB2 := hB1.trans (B2.mono (by omega))
        have c2 := hz2.c 2 _ rfl
        have f2 := hz2.fz 2 (by decide)
        have l2 := hz2.lt
        have hS := hz2.set 2 (by decide) (.int .i64 3) rfl
        have hr := hz1.keep (heap_setCell_other w2 ⟨w.heap.size + 1, 2, none⟩ w.heap.size (.int .i64 3) (by simp)) (by simp)
        have BS := hB2.setCell (p := ⟨w.heap.size + 1, 2, none⟩) (by simp) (.int .i64 3)
        clear hB1 hB2 hsc
        go_wp2_with (first
          | refine cb_load0 rtPl hS rfl rfl _ rfl rfl ?_
          | (refine cb_store0 rtPl hr rfl rfl _ _ rfl rfl (vs := plL ⟨#[]⟩ ⟨#[]⟩ 3) rfl rfl (plL_one _ _ _) ?_; intro w9 hb9 O9))
        refine bodyPost_ret (results_cb rfl _ _ _ _ rfl rtPl hb9 rfl) rfl ?_
        exact ⟨BS.trans (O9.below (Nat.le_refl _)), ⟨#[]⟩, ⟨#[]⟩, 3, rfl, .inr (.inl ⟨cs, HSC.out.1, HSC.out.2, HBAD.out, rfl, rfl, rfl⟩)⟩
      · exact absurd HBAD.out hnbad
  have HBAD : Hid (¬ OpenBad steps room) := hbad
  obtain ⟨h1, h2, h3, h4⟩ : ¬ steps < 0 ∧ ¬ 5000 < steps ∧ ¬ room < 1 ∧ ¬ 256 < room := by
    unfold OpenBad at hbad
    omega
  clear hbad
  go_wp2_with fail
  refine (open_calls B s quiet steps room w1 hs HT1.out hr1 hr2 hr3 hr4).mono ?_
  rintro e w2 ⟨B2, ⟨n', x', hck', hne, rfl⟩ | ⟨cs, h49, hsc, hbd, rfl⟩ | ⟨cs, b, hi, F, h49, hsc, _, rfl, hlo, hlive⟩⟩
  · exact absurd (HCK.out.same hck').2.symm hne
  · exact absurd hbd HBAD.out
  have HSC : Hid (s.size ≤ 400 ∧ ScrV s.data.toList cs) := ⟨h49, hsc⟩
  replace hz1 := hz1.below B2 (by omega)
  replace hz2 := hz2.below B2 (by omega)
  replace hnb := hnb.keep (B2.block _ (by omega))
  have hB2 := hB1.trans (B2.mono (by omega))
  obtain ⟨st, hst⟩ : ∃ st, steps.toNat = st := ⟨_, rfl⟩
  obtain ⟨rm, hrm⟩ : ∃ rm, room.toNat = rm := ⟨_, rfl⟩
  have HSR : Hid (steps.toNat = st ∧ room.toNat = rm) := ⟨hst, hrm⟩
  rw [hst, hrm] at hlive
  have hlo1 : w.heap.size + 2 ≤ w1.heap.size := hsz1
  obtain ⟨lo, hlo'⟩ : ∃ lo, w1.heap.size = lo := ⟨_, rfl⟩
  rw [hlo'] at hlive hlo hlo1
  have HED : Hid (EdSt B lo hi cs b (St0 cs quiet st rm) w2) := .inl ⟨rfl, F, hlive⟩
  have c2 := hz2.c 2 _ rfl
  have f2 := hz2.fz 2 (by decide)
  have l2 := hz2.lt
  have hS : CB (w2.setCell ⟨w.heap.size + 1, 2, none⟩ (.int .i64 0)) (w.heap.size + 1) (plL ⟨#[]⟩ ⟨#[]⟩ 0) := hz2.set 2 (by decide) (.int .i64 0) rfl
  have hr := hz1.keep (heap_setCell_other w2 ⟨w.heap.size + 1, 2, none⟩ w.heap.size (.int .i64 0) (by simp)) (by simp)
  have BS := hB2.setCell (p := ⟨w.heap.size + 1, 2, none⟩) (by simp) (.int .i64 0)
  have hnS := hnb.set (u := .int .i64 0) c2 (fun z e => by cases e)
  have HES : Hid (EdSt B lo hi cs b (St0 cs quiet st rm) (w2.setCell ⟨w.heap.size + 1, 2, none⟩ (.int .i64 0))) := HED.out.set 2 _ (by omega) (by omega) hlo hnb
  have HF0 : Hid (Fed (St0 cs quiet st rm) ⟨#[]⟩ (St0 cs quiet st rm)) := Fed.start cs quiet st rm
  clear hsc hlive hst hrm B2 hB1 hB2 HED hz1 hz2 hnb HT1 HCK hlo' hsz1
  go_wp2_with fail
  generalize w2.setCell ⟨w.heap.size + 1, 2, none⟩ (.int .i64 0) = W2 at *
  clear c2 f2 l2
  go_loopw [17] (fun v17 wr => ∃ (i d : Nat) (t : ByteArray) (T : St), v17 = .int .i64 i ∧ i ≤ n ∧ d ≤ 6 ∧ Hid (t = catB (L.take i)) ∧ Hid (Fed (St0 cs quiet st rm) t T ∧ T.death = d ∧ T.out.length ≤ 4096) ∧ Hid (EdSt B lo hi cs b T wr) ∧ CB wr (w.heap.size + 1) (plL (baC T.out) ⟨#[]⟩ (d : Nat)) ∧ CB wr w.heap.size (plL ⟨#[]⟩ ⟨#[]⟩ 0) ∧ Hid (NoB wr (w.heap.size + 1)) ∧ Below w.heap.size w wr) (fun v17 _ => n - (intOf v17).toNat)
  case atStart => exact ⟨0, 0, ⟨#[]⟩, St0 cs quiet st rm, rfl, Nat.zero_le _, by omega, rfl, ⟨HF0.out, rfl, Nat.zero_le _⟩, HES.out, hS, hr, hnS, BS⟩
  case round =>
    clear hS hr BS HES HF0 hnS
    obtain ⟨i, d, t, T, rfl, hi', hd6, HTT, HFD, HE, hb, hr, HNB, hB⟩ := hrel
    have hge := HE.out.ge
    have lb := hb.lt
    have c0 := hb.c 0 _ rfl
    have c2 := hb.c 2 _ rfl
    have f0 := hb.fz 0 (by simp [plL])
    have f2 := hb.fz 2 (by simp [plL])
    by_cases hlt : i < n
    · have hlt1 : (i : Int) < (n : Int) := by omega
      have hi0 : (0 : Int) ≤ (i : Int) := by omega
      have hiL : i < L.length := by rw [HN.out]; exact hlt
      obtain ⟨g, o, hap, hgl, hcell⟩ : ∃ g o, ap = some ⟨g, o, none⟩ ∧ g < w.heap.size ∧ ∀ i (h : i < L.length), w.cell? ⟨g, o + i, none⟩ = some (.string L[i]) := by
        rcases HL.out.at' with h | h
        · rw [h] at hiL; simp at hiL
        · exact h
      subst hap
      have d0 : wr.cell? ⟨g, o + i, none⟩ = some (.string L[i]) := (hB.cell (by exact hgl)).trans (hcell i hiL)
      have hgl2 : g < wr.heap.size := by have := hB.size; omega
      have HSN : Hid (catB (L.take (i + 1)) = t ++ L[i]) := by show _ = _; rw [catB_snoc L i hiL, HTT.out]
      have hsz : t.size + L[i].size ≤ 4096 := by
        have h9 := catB_le L (i + 1)
        have h8 := HSM.out
        rw [HSN.out] at h9
        simp at h9
        omega
      generalize L[i] = pc at *
      clear hcell HTT
      go_wp2_with fail
      refine (ed_step HE.out hlo t HFD.out.1 (by rw [HFD.out.2.1]; exact hd6) HFD.out.2.2 pc hsz).mono ?_
      rintro e w3 ⟨T', txt, g1, rfl, g3, g4, g5, g6, g7, g8⟩
      have HG1 : Hid (Fed (St0 cs quiet st rm) (t ++ pc) T' ∧ T'.death = T'.death ∧ T'.out.length ≤ 4096) := ⟨g1, rfl, g5⟩
      have HG3 : Hid (baC T'.out = baC T.out ++ txt) := g3
      have hb3 := hb.below g8 (by omega)
      have hr3 := hr.below g8 (by omega)
      have HNB3 : Hid (NoB w3 (w.heap.size + 1)) := HNB.out.keep (g8.block _ (by omega))
      have hB3 := hB.trans (g8.mono (by omega))
      have lb3 := hb3.lt
      have e0 := hb3.c 0 _ rfl
      have e2 := hb3.c 2 _ rfl
      have k0 := hb3.fz 0 (by simp [plL])
      have k2 := hb3.fz 2 (by simp [plL])
      have hcc : ¬ 9223372036854775807 < (baC T.out).size + txt.size := by
        have h9 := congrArg ByteArray.size g3
        rw [baC_size] at h9
        simp at h9
        omega
      have HG6 : Hid (T.death ≠ 0 → txt = ⟨#[]⟩ ∧ T'.death = T.death) := g6
      have HDT : Hid (T.death = d) := HFD.out.2.1
      have HG7 : Hid (EdSt B lo hi cs b T' w3) := g7
      obtain ⟨d', hd'⟩ : ∃ d', T'.death = d' := ⟨_, rfl⟩
      have HD' : Hid (T'.death = d') := hd'
      rw [hd'] at g4 ⊢
      have hbA := (hb3.set 0 (by simp [plL]) (.string (baC T.out ++ txt)) rfl).set 2 (by simp [plL]) (.int .i64 (d' : Nat)) rfl
      have HBA : Hid (CB ((w3.setCell ⟨w.heap.size + 1, 0, none⟩ (.string (baC T.out ++ txt))).setCell ⟨w.heap.size + 1, 2, none⟩ (.int .i64 (d' : Nat))) (w.heap.size + 1) (plL (baC T'.out) ⟨#[]⟩ (d' : Nat))) := by show CB _ _ _; rw [HG3.out]; exact hbA
      have HRA : Hid (CB ((w3.setCell ⟨w.heap.size + 1, 0, none⟩ (.string (baC T.out ++ txt))).setCell ⟨w.heap.size + 1, 2, none⟩ (.int .i64 (d' : Nat))) w.heap.size (plL ⟨#[]⟩ ⟨#[]⟩ 0)) := (hr3.keep (heap_setCell_other w3 ⟨w.heap.size + 1, 0, none⟩ w.heap.size _ (by simp)) (by simp)).keep (heap_setCell_other _ ⟨w.heap.size + 1, 2, none⟩ w.heap.size _ (by simp)) (by simp)
      have HNA0 : Hid (NoB (w3.setCell ⟨w.heap.size + 1, 0, none⟩ (.string (baC T.out ++ txt))) (w.heap.size + 1)) := HNB3.out.set e0 (fun z e => by cases e)
      have HNA : Hid (NoB ((w3.setCell ⟨w.heap.size + 1, 0, none⟩ (.string (baC T.out ++ txt))).setCell ⟨w.heap.size + 1, 2, none⟩ (.int .i64 (d' : Nat))) (w.heap.size + 1)) := HNA0.out.set (v := .int .i64 (d : Nat)) ((World.cell?_setCell_other _ _ _ _ (by simp)).trans e2) (fun z e => by cases e)
      have HEA : Hid (EdSt B lo hi cs b T' ((w3.setCell ⟨w.heap.size + 1, 0, none⟩ (.string (baC T.out ++ txt))).setCell ⟨w.heap.size + 1, 2, none⟩ (.int .i64 (d' : Nat)))) := (HG7.out.set 0 _ (by omega) (by omega) hlo HNB3.out).set 2 _ (by omega) (by omega) hlo HNA0.out
      have HBB : Hid (Below w.heap.size w ((w3.setCell ⟨w.heap.size + 1, 0, none⟩ (.string (baC T.out ++ txt))).setCell ⟨w.heap.size + 1, 2, none⟩ (.int .i64 (d' : Nat)))) := (hB3.setCell (by simp) _).setCell (by simp) _
      clear g1 g3 g5 g6 g7 g8 hd' hbA hb hr HE HFD hB c0 c2 f0 f2 d0 HNB
      by_cases hd0 : d = 0
      · have hd1 : ((d : Int) != 0) = false := by simp [hd0]
        clear hd0
        go_wp2
        go_roundw
        case rel => exact ⟨i + 1, d', t ++ pc, T', by go_num, by omega, g4, HSN.out.symm, ⟨HG1.out.1, HD'.out, HG1.out.2.2⟩, HEA.out, HBA.out, HRA.out, HNA.out, HBB.out⟩
        case measure => first | (simp [intOf]; done) | (simp [intOf]; omega)
      · have hd1 : ((d : Int) != 0) = true := by simp; omega
        obtain ⟨hx1, hx2⟩ := HG6.out (by rw [HDT.out]; exact hd0)
        subst hx1
        obtain rfl : d' = d := by rw [← HD'.out, hx2, HDT.out]
        clear hd0 hx2 HG6
        go_wp2
        go_roundw
        case rel => exact ⟨i + 1, d', t ++ pc, T', by go_num, by omega, g4, HSN.out.symm, ⟨HG1.out.1, HD'.out, HG1.out.2.2⟩, HEA.out, HBA.out, HRA.out, HNA.out, HBB.out⟩
        case measure => first | (simp [intOf]; done) | (simp [intOf]; omega)
    · obtain rfl : i = n := by omega
      have hlt1 : ¬ (i : Int) < (i : Int) := by omega
      have HTA : Hid (t = catB L) := by
        show _ = _
        rw [HTT.out, ← HN.out, List.take_length]
      clear HTT
      go_wp2_with fail
      refine (ed_last HE.out hlo t HFD.out.1 (by rw [HFD.out.2.1]; exact hd6) HFD.out.2.2).mono ?_
      rintro e w3 ⟨R, txt, j, g1, rfl, g3, g4, g5, g6, g7, g8, g9, g10⟩
      have HG1 : Hid (Ran cs quiet st rm t R) := g1
      have HG3 : Hid (baC R.out = baC T.out ++ txt) := g3
      have hb3 := hb.below g10 (by omega)
      have hr3 := hr.below g10 (by omega)
      have hB3 := hB.trans (g10.mono (by omega))
      have lb3 := hb3.lt
      have e0 := hb3.c 0 _ rfl
      have e1 := hb3.c 1 _ rfl
      have e2 := hb3.c 2 _ rfl
      have k0 := hb3.fz 0 (by simp [plL])
      have k1 := hb3.fz 1 (by simp [plL])
      have k2 := hb3.fz 2 (by simp [plL])
      have hcc : ¬ 9223372036854775807 < (baC T.out).size + txt.size := by
        have h9 := congrArg ByteArray.size g3
        rw [baC_size] at h9
        simp at h9
        omega
      have HG6 : Hid (T.death ≠ 0 → txt = ⟨#[]⟩ ∧ R.death = T.death) := g6
      have HDT : Hid (T.death = d) := HFD.out.2.1
      obtain ⟨d', hd'⟩ : ∃ d', R.death = d' := ⟨_, rfl⟩
      have HD' : Hid (R.death = d') := hd'
      have HJ : Hid ((d' ≠ 0 → j = ⟨#[]⟩) ∧ (d' = 0 → j.data.toList = jourS R) ∧ R.out.length ≤ 4096) := by rw [← hd']; exact ⟨g7, g8, g5⟩
      rw [hd'] at g4 ⊢
      have HBx : Hid (CB w3 b (zE 0 true)) := g9
      clear g1 g3 g5 g6 g7 g8 g9 g10 hd' hb hr HE HFD hB c0 c2 f0 f2 HNB
      have hbA := ((hb3.set 0 (by simp [plL]) (.string (baC T.out ++ txt)) rfl).set 1 (by simp [plL]) (.string j) rfl).set 2 (by simp [plL]) (.int .i64 (d' : Nat)) rfl
      have HBA : Hid (CB (((w3.setCell ⟨w.heap.size + 1, 0, none⟩ (.string (baC T.out ++ txt))).setCell ⟨w.heap.size + 1, 1, none⟩ (.string j)).setCell ⟨w.heap.size + 1, 2, none⟩ (.int .i64 (d' : Nat))) (w.heap.size + 1) (plL (baC R.out) j (d' : Nat))) := by show CB _ _ _; rw [HG3.out]; exact hbA
      have HRA : Hid (CB (((w3.setCell ⟨w.heap.size + 1, 0, none⟩ (.string (baC T.out ++ txt))).setCell ⟨w.heap.size + 1, 1, none⟩ (.string j)).setCell ⟨w.heap.size + 1, 2, none⟩ (.int .i64 (d' : Nat))) w.heap.size (plL ⟨#[]⟩ ⟨#[]⟩ 0)) := ((hr3.keep (heap_setCell_other w3 ⟨w.heap.size + 1, 0, none⟩ w.heap.size _ (by simp)) (by simp)).keep (heap_setCell_other _ ⟨w.heap.size + 1, 1, none⟩ w.heap.size _ (by simp)) (by simp)).keep (heap_setCell_other _ ⟨w.heap.size + 1, 2, none⟩ w.heap.size _ (by simp)) (by simp)
      have HBD : Hid (CB (((w3.setCell ⟨w.heap.size + 1, 0, none⟩ (.string (baC T.out ++ txt))).setCell ⟨w.heap.size + 1, 1, none⟩ (.string j)).setCell ⟨w.heap.size + 1, 2, none⟩ (.int .i64 (d' : Nat))) b (zE 0 true)) := ((HBx.out.keep (heap_setCell_other w3 ⟨w.heap.size + 1, 0, none⟩ b _ (by simp; omega)) (by simp)).keep (heap_setCell_other _ ⟨w.heap.size + 1, 1, none⟩ b _ (by simp; omega)) (by simp)).keep (heap_setCell_other _ ⟨w.heap.size + 1, 2, none⟩ b _ (by simp; omega)) (by simp)
      have HBB : Hid (Below w.heap.size w (((w3.setCell ⟨w.heap.size + 1, 0, none⟩ (.string (baC T.out ++ txt))).setCell ⟨w.heap.size + 1, 1, none⟩ (.string j)).setCell ⟨w.heap.size + 1, 2, none⟩ (.int .i64 (d' : Nat)))) := ((hB3.setCell (by simp) _).setCell (by simp) _).setCell (by simp) _
      have HPL : Hid (PlSpec s quiet steps room (catB L) (baC R.out) j (d' : Nat)) := by
        refine .inr (.inr ⟨cs, R, HSC.out.1, HSC.out.2, HBAD.out, ?_, rfl, by rw [HD'.out], by rw [HD'.out]; exact g4, HJ.out.2.2, by rw [HD'.out]; exact HJ.out.1, by rw [HD'.out]; exact HJ.out.2.1⟩)
        rw [HSR.out.1, HSR.out.2, ← HTA.out]; exact HG1.out
      have HJ0 : Hid (d' ≠ 0 → j = ⟨#[]⟩) := HJ.out.1
      clear hbA hb3 hr3 hB3 HBx HJ HG1 HTA
      by_cases hd0 : d = 0
      · have hd1 : ((d : Int) != 0) = false := by simp [hd0]
        clear hd0
        go_wp2_with fail
        generalize ((w3.setCell ⟨w.heap.size + 1, 0, none⟩ (.string (baC T.out ++ txt))).setCell ⟨w.heap.size + 1, 1, none⟩ (.string j)).setCell ⟨w.heap.size + 1, 2, none⟩ (.int .i64 (d' : Nat)) = W4 at *
        refine (close_done b W4 HBD.out).mono ?_
        rintro e w5 ⟨rfl, B5⟩
        have hb5 := HBA.out.below B5 HBA.out.lt
        have hr5 := HRA.out.below B5 HRA.out.lt
        have hd5 := HBD.out.below B5 HBD.out.lt
        have hB5 := HBB.out.trans (B5.mono HBB.out.size)
        go_wp2_with fail
        refine (feed_done b _ w5 hd5).mono ?_
        rintro e w6 ⟨rfl, B6⟩
        have hb6 := hb5.below B6 hb5.lt
        have hr6 := hr5.below B6 hr5.lt
        have hB6 := hB5.trans (B6.mono hB5.size)
        have lb6 := hb6.lt
        have lr6 := hr6.lt
        clear hb5 hr5 hd5 hB5 HBA HRA HBD HBB
        by_cases hz : d' = 0
        · have hz1 : ((d' : Int) == 0) = true := by simp [hz]
          clear hz HJ0
          go_wp2_with (first
            | refine cb_load0 rtPl hb6 rfl rfl _ rfl rfl ?_
            | (refine cb_store0 rtPl hr6 rfl rfl _ _ rfl rfl (vs := plL (baC R.out) j (d' : Nat)) rfl rfl (plL_one _ _ _) ?_; intro w9 hb9 O9))
          refine bodyPost_ret (results_cb rfl _ _ _ _ rfl rtPl hb9 rfl) rfl ?_
          exact ⟨hB6.trans (O9.below (Nat.le_refl _)), _, _, _, rfl, HPL.out⟩
        · have hz1 : ((d' : Int) == 0) = false := by simp; omega
          obtain rfl : j = ⟨#[]⟩ := HJ0.out hz
          clear hz HJ0
          go_wp2_with (first
            | refine cb_load0 rtPl hb6 rfl rfl _ rfl rfl ?_
            | (refine cb_store0 rtPl hr6 rfl rfl _ _ rfl rfl (vs := plL (baC R.out) ⟨#[]⟩ (d' : Nat)) rfl rfl (plL_one _ _ _) ?_; intro w9 hb9 O9))
          refine bodyPost_ret (results_cb rfl _ _ _ _ rfl rtPl hb9 rfl) rfl ?_
          exact ⟨hB6.trans (O9.below (Nat.le_refl _)), _, _, _, rfl, HPL.out⟩
      · have hd1 : ((d : Int) != 0) = true := by simp; omega
        obtain ⟨hx1, hx2⟩ := HG6.out (by rw [HDT.out]; exact hd0)
        subst hx1
        obtain rfl : d' = d := by rw [← HD'.out, hx2, HDT.out]
        clear hd0 hx2 HG6
        go_wp2_with fail
        generalize ((w3.setCell ⟨w.heap.size + 1, 0, none⟩ (.string (baC T.out ++ ⟨#[]⟩))).setCell ⟨w.heap.size + 1, 1, none⟩ (.string j)).setCell ⟨w.heap.size + 1, 2, none⟩ (.int .i64 (d' : Nat)) = W4 at *
        refine (close_done b W4 HBD.out).mono ?_
        rintro e w5 ⟨rfl, B5⟩
        have hb5 := HBA.out.below B5 HBA.out.lt
        have hr5 := HRA.out.below B5 HRA.out.lt
        have hd5 := HBD.out.below B5 HBD.out.lt
        have hB5 := HBB.out.trans (B5.mono HBB.out.size)
        go_wp2_with fail
        refine (feed_done b _ w5 hd5).mono ?_
        rintro e w6 ⟨rfl, B6⟩
        have hb6 := hb5.below B6 hb5.lt
        have hr6 := hr5.below B6 hr5.lt
        have hB6 := hB5.trans (B6.mono hB5.size)
        have lb6 := hb6.lt
        have lr6 := hr6.lt
        clear hb5 hr5 hd5 hB5 HBA HRA HBD HBB
        by_cases hz : d' = 0
        · have hz1 : ((d' : Int) == 0) = true := by simp [hz]
          clear hz HJ0
          go_wp2_with (first
            | refine cb_load0 rtPl hb6 rfl rfl _ rfl rfl ?_
            | (refine cb_store0 rtPl hr6 rfl rfl _ _ rfl rfl (vs := plL (baC R.out) j (d' : Nat)) rfl rfl (plL_one _ _ _) ?_; intro w9 hb9 O9))
          refine bodyPost_ret (results_cb rfl _ _ _ _ rfl rtPl hb9 rfl) rfl ?_
          exact ⟨hB6.trans (O9.below (Nat.le_refl _)), _, _, _, rfl, HPL.out⟩
        · have hz1 : ((d' : Int) == 0) = false := by simp; omega
          obtain rfl : j = ⟨#[]⟩ := HJ0.out hz
          clear hz HJ0
          go_wp2_with (first
            | refine cb_load0 rtPl hb6 rfl rfl _ rfl rfl ?_
            | (refine cb_store0 rtPl hr6 rfl rfl _ _ rfl rfl (vs := plL (baC R.out) ⟨#[]⟩ (d' : Nat)) rfl rfl (plL_one _ _ _) ?_; intro w9 hb9 O9))
          refine bodyPost_ret (results_cb rfl _ _ _ _ rfl rtPl hb9 rfl) rfl ?_
          exact ⟨hB6.trans (O9.below (Nat.le_refl _)), _, _, _, rfl, HPL.out⟩
end Go.Proofs.YtlppphmnegdhoabGreatDoor

namespace Go.Proofs.YtlppphmnegdhoabGreatDoor
set_option linter.unusedVariables false
namespace M
open St
/-- the cells of a text from a place up to another -/
def cellsP (t : List UInt8) (p q : Nat) : List Cl := (((t.drop p).take (q - p)).zipIdx p).map (fun x => (x.1, (x.2 : Int)))
theorem cellsP_len (t : List UInt8) (p q : Nat) (hq : q ≤ t.length) : (cellsP t p q).length = q - p := by
  unfold cellsP
  rw [List.length_map, List.length_zipIdx, List.length_take, List.length_drop]
  omega
theorem cellsP_nil (t : List UInt8) (p : Nat) : cellsP t p p = [] := by simp [cellsP]
theorem cellsP_app (t : List UInt8) (p q r : Nat) (h1 : p ≤ q) (h2 : q ≤ r) (h3 : r ≤ t.length) : cellsP t p q ++ cellsP t q r = cellsP t p r := by
  unfold cellsP
  have e : (t.drop p).take (r - p) = (t.drop p).take (q - p) ++ (t.drop q).take (r - q) := by
    have e1 : r - p = (q - p) + (r - q) := by omega
    rw [e1, List.take_add, List.drop_drop]
    congr 2
    congr 1
    omega
  rw [e, List.zipIdx_append, List.map_append]
  congr 3
  rw [List.length_take, List.length_drop]
  omega
theorem cellsP_one (t : List UInt8) (p : Nat) (h : p < t.length) : cellsP t p (p + 1) = [(t[p], (p : Int))] := by
  unfold cellsP
  rw [List.drop_eq_getElem_cons h, show p + 1 - p = 1 by omega]
  rfl
theorem cellsP_text (t : List UInt8) (p q : Nat) : textC (cellsP t p q) = (t.drop p).take (q - p) := by
  unfold cellsP textC
  rw [List.map_map]
  have e : ((fun x : Cl => x.1) ∘ fun x : UInt8 × Nat => ((x.1, (x.2 : Int)) : Cl)) = Prod.fst := rfl
  rw [e, List.zipIdx_map_fst]
/-- is no line longer than it may be; n bytes of one lie ahead -/
def nrw : Nat → List UInt8 → Bool
  | _, [] => true
  | n, c :: r => if c.toNat = 10 then nrw 0 r else if 256 < n + 1 then false else nrw (n + 1) r
def noNl (c : UInt8) : Bool := c.toNat != 10
theorem nrw_line : ∀ (l : List UInt8) (n : Nat), n ≤ 256 → nrw n l = true → n + (l.takeWhile noNl).length ≤ 256 ∧ nrw 0 (l.drop ((l.takeWhile noNl).length + 1)) = true
  | [], n, hn, h => ⟨by simp; exact hn, by simp [nrw]⟩
  | c :: r, n, hn, h => by
    rw [nrw] at h
    by_cases hc : c.toNat = 10
    · have e : noNl c = false := by simp [noNl, hc]
      rw [if_pos hc] at h
      rw [List.takeWhile_cons, e]
      exact ⟨by simp; exact hn, by simpa using h⟩
    · have e : noNl c = true := by simp [noNl, hc]
      rw [if_neg hc] at h
      split at h
      · cases h
      · have ih := nrw_line r (n + 1) (by omega) h
        rw [List.takeWhile_cons, e]
        simp only [if_true, List.length_cons]
        exact ⟨by omega, by rw [List.drop_succ_cons]; exact ih.2⟩
/-- the end of the line that begins at a place -/
def lendT (t : ByteArray) (p : Nat) : Nat := p + ((t.data.toList.drop p).takeWhile noNl).length
theorem lendT_le (t : ByteArray) (p : Nat) (h : p ≤ t.size) : p ≤ lendT t p ∧ lendT t p ≤ t.size := by
  unfold lendT
  have := (List.takeWhile_sublist noNl (l := t.data.toList.drop p)).length_le
  rw [List.length_drop, ba_len] at this
  omega
theorem lendT_nl (t : ByteArray) (p : Nat) (h : p ≤ t.size) (hq : lendT t p < t.data.toList.length) : (t.data.toList[lendT t p]).toNat = 10 := by
  have key : ∀ (l : List UInt8) (h : (l.takeWhile noNl).length < l.length), (l[(l.takeWhile noNl).length]).toNat = 10 := by
    intro l
    induction l with
    | nil => intro h; simp at h
    | cons c l ih =>
      intro h
      cases hc : noNl c
      · simp only [List.takeWhile_cons, hc]
        simp [noNl] at hc
        simpa using hc
      · simp only [List.takeWhile_cons, hc, if_true, List.length_cons, List.getElem_cons_succ] at h ⊢
        exact ih (by omega)
  have h1 := key (t.data.toList.drop p) (by unfold lendT at hq; rw [List.length_drop]; omega)
  rw [List.getElem_drop] at h1
  exact h1
theorem lendT_last (t : ByteArray) (p : Nat) (h : p < t.size) (hq : lendT t p = t.size) (hl : t.data.toList ≠ []) : (t.data.toList.getLast hl).toNat ≠ 10 := by
  have hall : (t.data.toList.drop p).takeWhile noNl = t.data.toList.drop p := by
    have hs := List.takeWhile_prefix noNl (l := t.data.toList.drop p)
    refine hs.eq_of_length ?_
    unfold lendT at hq
    rw [List.length_drop, ba_len]
    omega
  have hm : t.data.toList.getLast hl ∈ t.data.toList.drop p := by
    rw [List.getLast_eq_getElem]
    have hlen := ba_len t
    refine List.mem_iff_getElem.2 ⟨t.size - 1 - p, by rw [List.length_drop, ba_len]; omega, ?_⟩
    rw [List.getElem_drop]
    congr 1
    omega
  have h9 := List.all_eq_true.1 (List.all_takeWhile (p := noNl) (l := t.data.toList.drop p)) _ (by rw [hall]; exact hm)
  simpa [noNl] using h9
/-- the run of the empty script, ahead of a line -/
def cpS (t : ByteArray) (rng : List Bool) (next : Nat) (nl : Int) (line : Nat) (mark : Bool) (p : Nat) (out pat hold : List Cl) : St :=
  { cs := [], rng := rng, quiet := false, steps := 0, room := 256, text := t, closed := true, behind := p, nl := nl, out := out, pat := pat, hold := hold, line := line, queue := [], mark := mark, next := next, asks := 1, over := false, death := 0 }
def cpNl (t : ByteArray) (p : Nat) : Int := if lendT t p < t.size then (lendT t p : Int) else -1
def cpP (t : ByteArray) (p : Nat) : Nat := if lendT t p < t.size then lendT t p + 1 else lendT t p
def cpT (t : ByteArray) (rng : List Bool) (next : Nat) (line : Nat) (p : Nat) (out hold : List Cl) : St :=
  { cs := [], rng := rng, quiet := false, steps := 0, room := 256, text := t, closed := true, behind := cpP t p, nl := cpNl t p, out := out, pat := cellsP t.data.toList p (lendT t p), hold := hold, line := line + 1, queue := [], mark := false, next := next, asks := 0, over := false, death := 0 }
section
variable (t : ByteArray) (rng : List Bool) (next : Nat) (nl : Int) (line : Nat) (mark : Bool) (p : Nat) (out pat hold : List Cl)
theorem cp_ask (hp : p < t.size) : (cpS t rng next nl line mark p out pat hold).ask = 1 := by
  unfold St.ask
  rw [if_neg (fun h => by cases h.1), if_neg (by show ¬ t.size ≤ p; omega)]
theorem cp_still (hp : p < t.size) : (cpS t rng next nl line mark p out pat hold).still = false := by
  unfold St.still St.stuck
  rw [cp_ask t rng next nl line mark p out pat hold hp]
  rfl
theorem cp_move (hp : p < t.size) (hw : lendT t p - p ≤ 256) : (cpS t rng next nl line mark p out pat hold).move = cpT t rng next line p out hold := by
  have hl := lendT_le t p (Nat.le_of_lt hp)
  have e1 : (cpS t rng next nl line mark p out pat hold).move = (cpS t rng next nl line mark p out pat hold).take := by
    unfold St.move
    rw [if_neg (by show ¬ (1 : Nat) = 0; decide), if_neg (by rw [cp_ask t rng next nl line mark p out pat hold hp]; decide), if_neg (by rw [cp_ask t rng next nl line mark p out pat hold hp]; decide)]
  rw [e1]
  have hlen : (cellsP t.data.toList p (lendT t p)).length ≤ 256 := by rw [cellsP_len _ _ _ (by rw [ba_len]; exact hl.2)]; exact hw
  have e2 : (cpS t rng next nl line mark p out pat hold).take = if decide ((cellsP t.data.toList p (lendT t p)).length ≤ 256) = true then { ({ ({ cpS t rng next nl line mark p out pat hold with asks := 0 } : St).took with line := line + 1, mark := false } : St) with pat := cellsP t.data.toList p (lendT t p) } else ({ ({ cpS t rng next nl line mark p out pat hold with asks := 0 } : St).took with line := line + 1, mark := false } : St).die 5 := by
    unfold St.take
    have hroom : ({ ({ cpS t rng next nl line mark p out pat hold with asks := 0 } : St).took with line := line + 1, mark := false } : St).room = 256 := by unfold St.took; split <;> rfl
    unfold St.fits
    show (if decide ((cellsP t.data.toList p (lendT t p)).length ≤ ({ ({ cpS t rng next nl line mark p out pat hold with asks := 0 } : St).took with line := line + 1, mark := false } : St).room) = true then _ else _) = _
    rw [hroom]
    rfl
  rw [e2, if_pos (decide_eq_true hlen)]
  unfold cpT cpP cpNl
  by_cases hq : lendT t p < t.size
  · have e3 : ({ cpS t rng next nl line mark p out pat hold with asks := 0 } : St).took = { ({ cpS t rng next nl line mark p out pat hold with asks := 0 } : St) with nl := lendT t p, behind := lendT t p + 1 } := by
      unfold St.took
      exact if_pos hq
    rw [e3, if_pos hq, if_pos hq]; rfl
  · have e3 : ({ cpS t rng next nl line mark p out pat hold with asks := 0 } : St).took = { ({ cpS t rng next nl line mark p out pat hold with asks := 0 } : St) with nl := -1, behind := lendT t p } := by
      unfold St.took
      exact if_neg hq
    rw [e3, if_neg hq, if_neg hq]; rfl
theorem cp_move2 (hp : p < t.size) (ho : out.length + (lendT t p - p) + 1 ≤ 4096) : (cpT t rng next line p out hold).move = cpS t rng 0 (cpNl t p) (line + 1) false (cpP t p) (out ++ (cellsP t.data.toList p (lendT t p) ++ [(10, cpNl t p)])) (cellsP t.data.toList p (lendT t p)) hold := by
  have hl := lendT_le t p (Nat.le_of_lt hp)
  have hlen : (cellsP t.data.toList p (lendT t p)).length = lendT t p - p := cellsP_len _ _ _ (by rw [ba_len]; exact hl.2)
  have e1 : (cpT t rng next line p out hold).move = (cpT t rng next line p out hold).putUQ.endCycle := rfl
  have e2 : (cpT t rng next line p out hold).putUQ = if 4096 - out.length < (cellsP t.data.toList p (lendT t p) ++ [(10, cpNl t p)] ++ []).length then (cpT t rng next line p out hold).die 6 else { cpT t rng next line p out hold with out := out ++ (cellsP t.data.toList p (lendT t p) ++ [(10, cpNl t p)] ++ []) } := rfl
  rw [e1, e2, if_neg (by rw [List.append_nil, List.length_append, hlen]; simp; omega), List.append_nil]
  rfl
theorem cp_stillT : (cpT t rng next line p out hold).still = false := rfl
end
/-- what is still to be put out -/
def restC (t : ByteArray) (p : Nat) : List Cl := cellsP t.data.toList p t.size ++ (if p < t.size ∧ (t.data.toList.getLast?.map (·.toNat)) ≠ some 10 then [(10, -1)] else [])
theorem last_nl (t : ByteArray) (q : Nat) (hq : q + 1 = t.data.toList.length) (h : (t.data.toList[q]).toNat = 10) : t.data.toList.getLast?.map (·.toNat) = some 10 := by
  rw [List.getLast?_eq_getElem?, ← hq, Nat.add_sub_cancel, List.getElem?_eq_getElem (by omega)]
  exact congrArg some h
theorem cp_goes (t : ByteArray) : ∀ (k p : Nat), t.size - p ≤ k → p ≤ t.size → nrw 0 (t.data.toList.drop p) = true → ∀ rng next nl line mark out pat hold, out.length + (restC t p).length ≤ 4096 → ∃ R, Goes (cpS t rng next nl line mark p out pat hold) R ∧ R.death = 0 ∧ R.out = out ++ restC t p := by
  have hlen := ba_len t
  intro k
  induction k with
  | zero =>
    intro p hk hp hn rng next nl line mark out pat hold ho
    have e : p = t.size := by omega
    subst e
    have hs : (cpS t rng next nl line mark t.size out pat hold).still = false := by
      unfold St.still St.stuck St.ask
      rw [if_neg (fun h => by cases h.1), if_pos (by exact Nat.le_refl t.size)]
      rfl
    have hm : (cpS t rng next nl line mark t.size out pat hold).move = { cpS t rng next nl line mark t.size out pat hold with over := true } := by
      unfold St.move
      have ha : (cpS t rng next nl line mark t.size out pat hold).ask = 3 := by
        unfold St.ask
        rw [if_neg (fun h => by cases h.1), if_pos (by exact Nat.le_refl t.size)]
      rw [if_neg (by show ¬ (1 : Nat) = 0; decide), ha]
      rfl
    refine ⟨{ cpS t rng next nl line mark t.size out pat hold with over := true }, .step hs (by rw [hm]; exact goes_over rfl), rfl, ?_⟩
    show out = _
    unfold restC
    rw [cellsP_nil, if_neg (fun h => by omega)]
    simp
  | succ k ih =>
    intro p hk hp hn rng next nl line mark out pat hold ho
    by_cases e : p = t.size
    · exact ih p (by omega) hp hn rng next nl line mark out pat hold ho
    · have hp2 : p < t.size := by omega
      have hl := lendT_le t p hp
      have hnl := nrw_line (t.data.toList.drop p) 0 (by omega) hn
      have hcl : (cellsP t.data.toList p (lendT t p)).length = lendT t p - p := cellsP_len _ _ _ (by omega)
      have hw : lendT t p - p ≤ 256 := by unfold lendT; omega
      have hdrop : (t.data.toList.drop p).drop (((t.data.toList.drop p).takeWhile noNl).length + 1) = t.data.toList.drop (lendT t p + 1) := by
        rw [List.drop_drop]; unfold lendT; congr 1
      by_cases hq : lendT t p < t.size
      · have e1 : cpP t p = lendT t p + 1 := if_pos hq
        have e2 : cpNl t p = (lendT t p : Int) := if_pos hq
        have h10 := lendT_nl t p hp (by omega)
        have h10' : t.data.toList[lendT t p]'(by omega) = 10 := UInt8.toNat_inj.1 (by rw [h10]; rfl)
        have eL : cellsP t.data.toList p (lendT t p) ++ [(10, cpNl t p)] = cellsP t.data.toList p (lendT t p + 1) := by
          rw [e2, ← cellsP_app t.data.toList p (lendT t p) (lendT t p + 1) hl.1 (by omega) (by omega), cellsP_one _ _ (by omega), h10']
        have eR : restC t p = cellsP t.data.toList p (lendT t p + 1) ++ restC t (lendT t p + 1) := by
          unfold restC
          rw [← List.append_assoc, cellsP_app _ _ _ _ (by omega) (by omega) (by omega)]
          congr 1
          by_cases e9 : lendT t p + 1 < t.size
          · simp [e9, hp2]
          · have := last_nl t (lendT t p) (by omega) h10
            rw [if_neg (fun h => h.2 this), if_neg (fun h => e9 h.1)]
        have hlenP : (cellsP t.data.toList p (lendT t p + 1)).length = lendT t p + 1 - p := cellsP_len _ _ _ (by omega)
        rw [eR, List.length_append, hlenP] at ho
        obtain ⟨R, hg, hd, hr⟩ := ih (lendT t p + 1) (by omega) (by omega) (by rw [← hdrop]; exact hnl.2) rng 0 (cpNl t p) (line + 1) false (out ++ cellsP t.data.toList p (lendT t p + 1)) (cellsP t.data.toList p (lendT t p)) hold (by rw [List.length_append, hlenP]; omega)
        refine ⟨R, .step (cp_still t rng next nl line mark p out pat hold hp2) ?_, hd, ?_⟩
        · rw [cp_move t rng next nl line mark p out pat hold hp2 hw]
          refine .step (cp_stillT t rng next line p out hold) ?_
          rw [cp_move2 t rng next line p out hold hp2 (by omega), e1, eL]
          exact hg
        · rw [hr, eR, List.append_assoc]
      · have hqe : lendT t p = t.size := by omega
        have e1 : cpP t p = t.size := by unfold cpP; rw [if_neg hq]; exact hqe
        have e2 : cpNl t p = -1 := if_neg hq
        have hne : t.data.toList ≠ [] := fun h => by rw [h] at hlen; simp at hlen; omega
        have hla := lendT_last t p hp2 hqe hne
        have hla2 : t.data.toList.getLast?.map (·.toNat) ≠ some 10 := by
          rw [List.getLast?_eq_some_getLast hne]
          simpa using hla
        have eR : restC t p = cellsP t.data.toList p (lendT t p) ++ [(10, cpNl t p)] := by
          unfold restC
          rw [if_pos ⟨hp2, hla2⟩, hqe, e2]
        have eE : restC t t.size = [] := by
          unfold restC
          rw [cellsP_nil, if_neg (fun h => by omega)]; rfl
        rw [eR, List.length_append, hcl] at ho
        simp at ho
        obtain ⟨R, hg, hd, hr⟩ := ih t.size (by omega) (Nat.le_refl _) (by rw [List.drop_of_length_le (by omega)]; rfl) rng 0 (cpNl t p) (line + 1) false (out ++ (cellsP t.data.toList p (lendT t p) ++ [(10, cpNl t p)])) (cellsP t.data.toList p (lendT t p)) hold (by rw [eE, List.length_append, List.length_append, hcl]; simp; omega)
        refine ⟨R, .step (cp_still t rng next nl line mark p out pat hold hp2) ?_, hd, ?_⟩
        · rw [cp_move t rng next nl line mark p out pat hold hp2 hw]
          refine .step (cp_stillT t rng next line p out hold) ?_
          rw [cp_move2 t rng next line p out hold hp2 (by omega), e1]
          exact hg
        · rw [hr, eR, eE, List.append_nil]
/-- what the empty script makes of a text -/
def copL (t : ByteArray) : List UInt8 := t.data.toList ++ (if 0 < t.size ∧ (t.data.toList.getLast?.map (·.toNat)) ≠ some 10 then [10] else [])
theorem restC_text (t : ByteArray) : textC (restC t 0) = copL t := by
  unfold restC copL
  have h1 : textC (cellsP t.data.toList 0 t.size) = t.data.toList := by
    rw [cellsP_text, List.drop_zero, List.take_of_length_le (by rw [ba_len]; omega)]
  have e : ∀ a b : List Cl, textC (a ++ b) = textC a ++ textC b := fun a b => by simp [textC]
  rw [e, h1]
  congr 1
  split <;> rfl
theorem ran_copy (t : ByteArray) (hn : nrw 0 t.data.toList = true) (ho : (copL t).length ≤ 4096) (R : St) (h : Ran [] false 0 256 t R) : R.death = 0 ∧ R.out = restC t 0 := by
  have hl : (restC t 0).length ≤ 4096 := by
    have : (textC (restC t 0)).length = (restC t 0).length := by simp [textC]
    rw [← this, restC_text]; exact ho
  obtain ⟨R', hg, hd, hr⟩ := cp_goes t t.size 0 (by omega) (Nat.zero_le _) (by rw [List.drop_zero]; exact hn) [] 0 0 0 false [] [] [] (by simpa using hl)
  have e : R = R' := Goes.unique h hg
  rw [e]
  exact ⟨hd, by rw [hr]; rfl⟩
/-- its records -/
theorem recsP_cells (t : ByteArray) : ∀ (k p : Nat), p + k ≤ t.size → recsP t p (cellsP t.data.toList p (p + k)) = (List.replicate k rKeep1, p + k) := by
  intro k
  induction k with
  | zero => intro p _; rw [Nat.add_zero, cellsP_nil]; rfl
  | succ k ih =>
    intro p hp
    have hlen := ba_len t
    rw [← cellsP_app t.data.toList p (p + 1) (p + (k + 1)) (by omega) (by omega) (by omega), cellsP_one _ _ (by omega), show p + (k + 1) = p + 1 + k by omega]
    have e1 : recs1 t p (t.data.toList[p]'(by omega), (p : Int)) = ([rKeep1], p + 1) := by
      unfold recs1
      simp
      omega
    show (((recs1 t p (t.data.toList[p]'(by omega), (p : Int))).1 ++ (recsP t (recs1 t p (t.data.toList[p]'(by omega), (p : Int))).2 (cellsP t.data.toList (p + 1) (p + 1 + k))).1), (recsP t (recs1 t p (t.data.toList[p]'(by omega), (p : Int))).2 (cellsP t.data.toList (p + 1) (p + 1 + k))).2) = _
    rw [e1]
    show ([rKeep1] ++ (recsP t (p + 1) (cellsP t.data.toList (p + 1) (p + 1 + k))).1, (recsP t (p + 1) (cellsP t.data.toList (p + 1) (p + 1 + k))).2) = _
    rw [ih (p + 1) (by omega)]
    rfl
def copR (t : ByteArray) : List Rec := rKeep t.size ++ (if 0 < t.size ∧ (t.data.toList.getLast?.map (·.toNat)) ≠ some 10 then [rDrop1] else [])
theorem expL_rep (k : Nat) : expL (List.replicate k rKeep1) = List.replicate k .k := by
  induction k with
  | zero => rfl
  | succ k ih => rw [List.replicate_succ, List.replicate_succ]; show expR rKeep1 ++ expL _ = _; rw [ih]; rfl
theorem nb_rep (n m : Nat) (es : List Ev) : nb 0 [] m (List.replicate n .k ++ es) = nb 0 [] (m + n) es := by
  induction n generalizing m with
  | zero => rfl
  | succ n ih =>
    rw [List.replicate_succ]
    show nb 0 [] (m + 1) (List.replicate n .k ++ es) = _
    rw [ih]
    congr 1
    omega
theorem norm_copy (t : ByteArray) : norm (expL (recsA t (restC t 0))) = copR t := by
  have h0 := recsP_cells t t.size 0 (by omega)
  rw [Nat.zero_add] at h0
  unfold restC copR
  by_cases hc : 0 < t.size ∧ (t.data.toList.getLast?.map (·.toNat)) ≠ some 10
  · rw [if_pos hc, if_pos hc]
    have e1 : recsP t 0 (cellsP t.data.toList 0 t.size ++ [(10, -1)]) = (List.replicate t.size rKeep1 ++ [rDrop1], t.size) := by
      rw [recsP_snoc, h0]
      have : recs1 t t.size (10, -1) = ([rDrop1], t.size) := by
        unfold recs1
        rw [if_pos (by simp; omega)]
      rw [this]
    unfold recsA
    rw [e1, if_neg (by show ¬ t.size < t.size; omega), List.append_nil, expL_append, expL_rep]
    unfold norm
    rw [nb_rep, Nat.zero_add]
    show outBs (if t.size = 0 then _ else _ :: _) = _
    rw [if_neg (by omega)]
    show outB ⟨0, [], t.size⟩ ++ (outB ⟨1, [], 0⟩ ++ []) = _
    have e3 : outB ⟨0, [], t.size⟩ = rKeep t.size := by simp [outB, rDrop, rRest]
    have e4 : outB ⟨1, [], 0⟩ = [rDrop1] := rfl
    rw [e3, e4, List.append_nil]
  · rw [if_neg hc, if_neg hc, List.append_nil, List.append_nil]
    unfold recsA
    rw [h0, if_neg (by show ¬ t.size < t.size; omega), List.append_nil, expL_rep]
    unfold norm
    have e1 : (List.replicate t.size Ev.k) = List.replicate t.size Ev.k ++ [] := by rw [List.append_nil]
    rw [e1, nb_rep, Nat.zero_add]
    show outBs (if 0 = 0 ∧ ([] : List UInt8) = [] ∧ t.size = 0 then [] else [⟨0, [], t.size⟩]) = _
    by_cases h9 : t.size = 0
    · rw [if_pos ⟨rfl, rfl, h9⟩, h9]; rfl
    · rw [if_neg (fun h => h9 h.2.2)]
      show outB ⟨0, [], t.size⟩ ++ [] = _
      simp [outB, rDrop, rRest]
end M
end Go.Proofs.YtlppphmnegdhoabGreatDoor

namespace Go.Proofs.YtlppphmnegdhoabGreatDoor
set_option linter.unusedVariables false
open Go.RowKit
open M

def leadsL : List M.Rec → List UInt8 → List UInt8 → Bool
  | [], a, b => a.isEmpty && b.isEmpty
  | r :: l, a, b =>
    if r.kind = 0 then decide (r.n.toNat ≤ a.length) && (decide (r.n.toNat ≤ b.length) && ((a.take r.n.toNat == b.take r.n.toNat) && leadsL l (a.drop r.n.toNat) (b.drop r.n.toNat)))
    else if r.kind = 1 then decide (r.n.toNat ≤ b.length) && leadsL l a (b.drop r.n.toNat)
    else decide (r.n.toNat ≤ a.length) && ((a.take r.n.toNat == r.s.data.toList) && leadsL l (a.drop r.n.toNat) b)
theorem leadsL_drop (l : List M.Rec) (k : Nat) (h : k < l.length) (a b : List UInt8) : leadsL (l.drop k) a b =
    if l[k].kind = 0 then decide (l[k].n.toNat ≤ a.length) && (decide (l[k].n.toNat ≤ b.length) && ((a.take l[k].n.toNat == b.take l[k].n.toNat) && leadsL (l.drop (k + 1)) (a.drop l[k].n.toNat) (b.drop l[k].n.toNat)))
    else if l[k].kind = 1 then decide (l[k].n.toNat ≤ b.length) && leadsL (l.drop (k + 1)) a (b.drop l[k].n.toNat)
    else decide (l[k].n.toNat ≤ a.length) && ((a.take l[k].n.toNat == l[k].s.data.toList) && leadsL (l.drop (k + 1)) (a.drop l[k].n.toNat) b) := by
  rw [List.drop_eq_getElem_cons h]; rfl
theorem cmpw_take (a b : ByteArray) (m : Nat) : ((a.extract 0 m).toList == (b.extract 0 m).toList) = (a.data.toList.take m == b.data.toList.take m) := by
  rw [ByteArray.toList_eq, ByteArray.toList_eq, Lib.extract_data, Lib.extract_data]; simp
theorem cmp_take2 (a b : ByteArray) (m : Nat) : ((a.extract 0 m).toList == b.toList) = (a.data.toList.take m == b.data.toList) := by
  rw [ByteArray.toList_eq, ByteArray.toList_eq, Lib.extract_data]; simp
theorem drop_ext (a : ByteArray) (m : Nat) : (a.extract m a.size).data.toList = a.data.toList.drop m := by
  have e : a.size - m = (a.data.toList.drop m).length := by rw [len_drop]
  rw [Lib.extract_data, e, List.take_length]
theorem ext_all (a : ByteArray) : a.extract 0 a.size = a := by
  apply ba_ext
  rw [drop_ext, List.drop_zero]
/-- a list that leads has the texts' lengths -/
theorem leads_len (l : List M.Rec) : ∀ (a b : List UInt8), okAll l → leadsL l a b = true → lenA l = a.length ∧ lenB l = b.length := by
  induction l with
  | nil =>
    intro a b _ h
    simp [leadsL] at h
    simp [lenA, lenB, h.1, h.2]
  | cons r l ih =>
    intro a b ho h
    have h1 := (okRec_iff r).1 (okAll_cons ho).1
    simp only [leadsL] at h
    simp only [lenA, lenB]
    by_cases h0 : r.kind = 0
    · rw [if_pos h0] at h
      simp only [Bool.and_eq_true, decide_eq_true_eq] at h
      obtain ⟨ha, hb, _, hl⟩ := h
      obtain ⟨e1, e2⟩ := ih _ _ (okAll_cons ho).2 hl
      rw [List.length_drop] at e1 e2
      have x1 : inA r = r.n := by simp [inA, h0]
      have x2 : inB r = r.n := by simp [inB, h0]
      omega
    · rw [if_neg h0] at h
      by_cases h2 : r.kind = 1
      · rw [if_pos h2] at h
        simp only [Bool.and_eq_true, decide_eq_true_eq] at h
        obtain ⟨hb, hl⟩ := h
        obtain ⟨e1, e2⟩ := ih _ _ (okAll_cons ho).2 hl
        rw [List.length_drop] at e2
        have x1 : inA r = 0 := by simp [inA, h2]
        have x2 : inB r = r.n := by simp [inB, h2]
        omega
      · rw [if_neg h2] at h
        simp only [Bool.and_eq_true, decide_eq_true_eq] at h
        obtain ⟨ha, _, hl⟩ := h
        obtain ⟨e1, e2⟩ := ih _ _ (okAll_cons ho).2 hl
        rw [List.length_drop] at e1
        have x1 : inA r = r.n := by simp [inA, h2]
        have x2 : inB r = 0 := by simp [inB, h0, h2]
        omega

set_option maxRecDepth 100000 in
set_option maxHeartbeats 4000000 in
theorem jleads_calls (n c : Nat) (ad : Option Addr) (l : List M.Rec) (a b : ByteArray) (w : World) (hat : RecsAt w ad n l) (hok : okAll l) (hln : l.length ≤ 140737488351232) (hab : a.size ≤ 4096) (hbb : b.size ≤ 4096) :
    Calls Tryz.prog 86 #[.slice ad n c, .string a, .string b] w fun e w' => e = .returned (.bool (leadsL l a.data.toList b.data.toList)) ∧ Below w.heap.size w w' := by
  have hn := hat.len
  subst hn
  go_enter Tryz.func86, Tryz.ntmps86
  go_wp2
  go_loopw [1, 2, 13] (fun x y i wr => ∃ (k : Nat) (aa bb : ByteArray), k ≤ l.length ∧ i = .int .i64 k ∧ x = .string aa ∧ y = .string bb ∧ aa.size ≤ 4096 ∧ bb.size ≤ 4096 ∧ Hid (leadsL l a.data.toList b.data.toList = leadsL (l.drop k) aa.data.toList bb.data.toList) ∧ Below w.heap.size w wr) (fun _ _ i _ => l.length - (intOf i).toNat)
  case atStart => exact ⟨0, a, b, Nat.zero_le _, rfl, rfl, rfl, hab, hbb, rfl, Below.refl _ _⟩
  case round =>
    obtain ⟨k, aa, bb, hk, rfl, rfl, rfl, haz, hbz, HU, B⟩ := hrel
    by_cases hlt : k < l.length
    · have hlt1 : (k : Int) < (l.length : Int) := by omega
      have hno : l ≠ [] := fun h => by rw [h] at hlt; simp at hlt
      obtain ⟨bk, off, ha', hbw, hcells⟩ := hat.cells.resolve_left hno
      obtain ⟨c0, c1, c2⟩ := hcells k hlt
      have d0 := (B.cell (by exact hbw)).trans c0
      have d1 := (B.cell (by exact hbw)).trans c1
      have d2 := (B.cell (by exact hbw)).trans c2
      have hokr := hok l[k] (List.getElem_mem hlt)
      have HUD := leadsL_drop l k hlt aa.data.toList bb.data.toList
      rw [HUD] at HU
      clear hcells c0 c1 c2 hno HUD
      subst ha'
      generalize l[k] = r at *
      have hk2 := (okRec_iff r).1 hokr
      obtain ⟨m, hm⟩ : ∃ m : Nat, r.n = m := ⟨r.n.toNat, by omega⟩
      have hm2 : r.n.toNat = m := by omega
      rw [hm2] at HU
      have hm1 : 1 ≤ m := by omega
      have hkk : r.kind = 0 ∨ r.kind = 1 ∨ r.kind = 2 := by omega
      have HM : Hid (r.n = m) := hm
      clear hk2 hm2 hokr
      rcases hkk with hkd | hkd | hkd
      · have eA : inA r = m := by simp [inA, hkd, hm]
        have eB : inB r = m := by simp [inB, hkd, hm]
        have k0 : (r.kind == 0) = true := by simp [hkd]
        have k1 : (r.kind == 1) = false := by simp [hkd]
        have k2 : (r.kind == 2) = false := by simp [hkd]
        have kn1 : (r.kind != 1) = true := by simp [hkd]
        have kn2 : (r.kind != 2) = true := by simp [hkd]
        have hm0 : ¬ (m : Int) < 0 := by omega
        rw [if_pos hkd] at HU
        clear hkd
        by_cases hfa : m ≤ aa.size
        · by_cases hfb : m ≤ bb.size
          · have ga : ¬ (aa.size : Int) < (m : Int) := by omega
            have gb : ¬ (bb.size : Int) < (m : Int) := by omega
            cases hcmp : ((aa.extract 0 m).toList == (bb.extract 0 m).toList)
            · have HF : Hid (leadsL l a.data.toList b.data.toList = false) := by
                show _ = _
                rw [HU.out, ← cmpw_take, hcmp]; simp
              have hcmp2 : ((aa.extract 0 m).toList != (bb.extract 0 m).toList) = true := by simp [bne, hcmp]
              clear hm
              go_wp2_with fail
              refine (spans_calls r _).mono ?_
              rintro e w2 ⟨rfl, hb1⟩
              rw [show inA r = m from eA, show inB r = m from eB]
              have B3 : Below w.heap.size w w2 := (B.alloc B.size _).trans (hb1.mono (by have := B.size; simp; omega))
              have e0 : w2.cell? ⟨wr.heap.size, 0, none⟩ = some (.int .i64 r.kind) := by rw [(bcell hb1).1 _ _ (by simp)]; simp [go_sem]
              have e1 : w2.cell? ⟨wr.heap.size, 1, none⟩ = some (.int .i64 (m : Int)) := by rw [(bcell hb1).1 _ _ (by simp)]; simp [go_sem, HM.out]
              have e2 : w2.cell? ⟨wr.heap.size, 2, none⟩ = some (.string r.s) := by rw [(bcell hb1).1 _ _ (by simp)]; simp [go_sem]
              clear hb1 d0 d1 d2 eA eB
              go_wp2_with fail
              go_quiet (fail)
              go_wp2
              go_ret
              exact ⟨ret_bool HF.out.symm, by first | exact below_drewN B3 _ | exact below_drewN (below_drewN B3 _) _⟩
            · have HU2 : Hid (leadsL l a.data.toList b.data.toList = leadsL (l.drop (k + 1)) (aa.extract m aa.size).data.toList (bb.extract m bb.size).data.toList) := by
                show _ = _
                rw [HU.out, ← cmpw_take, hcmp, drop_ext, drop_ext]
                simp [hfa, hfb]
              have HEA : Hid (True) := trivial
              have HEB : Hid (True) := trivial
              have hxa : (aa.extract m aa.size).size ≤ 4096 := by rw [ByteArray.size_extract]; omega
              have hxb : (bb.extract m bb.size).size ≤ 4096 := by rw [ByteArray.size_extract]; omega
              have hcmp2 : ((aa.extract 0 m).toList != (bb.extract 0 m).toList) = false := by simp [bne, hcmp]
              have HXA : Hid ((aa.extract m aa.size).size ≤ 4096) := hxa
              have HXB : Hid ((bb.extract m bb.size).size ≤ 4096) := hxb
              clear hxa hxb
              clear hm
              go_wp2_with fail
              refine (spans_calls r _).mono ?_
              rintro e w2 ⟨rfl, hb1⟩
              rw [show inA r = m from eA, show inB r = m from eB]
              have B3 : Below w.heap.size w w2 := (B.alloc B.size _).trans (hb1.mono (by have := B.size; simp; omega))
              have e0 : w2.cell? ⟨wr.heap.size, 0, none⟩ = some (.int .i64 r.kind) := by rw [(bcell hb1).1 _ _ (by simp)]; simp [go_sem]
              have e1 : w2.cell? ⟨wr.heap.size, 1, none⟩ = some (.int .i64 (m : Int)) := by rw [(bcell hb1).1 _ _ (by simp)]; simp [go_sem, HM.out]
              have e2 : w2.cell? ⟨wr.heap.size, 2, none⟩ = some (.string r.s) := by rw [(bcell hb1).1 _ _ (by simp)]; simp [go_sem]
              clear hb1 d0 d1 d2 eA eB
              go_wp2_with fail
              go_quiet (fail)
              go_wp2_with fail
              go_quiet (fail)
              go_wp2
              go_roundw
              case rel => exact ⟨k + 1, aa.extract m aa.size, bb.extract m bb.size, by omega, by go_num, by first | rfl | rw [HEA.out], by first | rfl | rw [HEB.out], HXA.out, HXB.out, HU2.out, below_drewN B3 _⟩
              case measure => simp [intOf]; omega
          · have HF : Hid (leadsL l a.data.toList b.data.toList = false) := by
              show _ = _
              rw [HU.out, ba_len, ba_len]; simp [hfb]
            have ga : ¬ (aa.size : Int) < (m : Int) := by omega
            have gb : (bb.size : Int) < (m : Int) := by omega
            clear hm
            go_wp2_with fail
            refine (spans_calls r _).mono ?_
            rintro e w2 ⟨rfl, hb1⟩
            rw [show inA r = m from eA, show inB r = m from eB]
            have B3 : Below w.heap.size w w2 := (B.alloc B.size _).trans (hb1.mono (by have := B.size; simp; omega))
            have e0 : w2.cell? ⟨wr.heap.size, 0, none⟩ = some (.int .i64 r.kind) := by rw [(bcell hb1).1 _ _ (by simp)]; simp [go_sem]
            have e1 : w2.cell? ⟨wr.heap.size, 1, none⟩ = some (.int .i64 (m : Int)) := by rw [(bcell hb1).1 _ _ (by simp)]; simp [go_sem, HM.out]
            have e2 : w2.cell? ⟨wr.heap.size, 2, none⟩ = some (.string r.s) := by rw [(bcell hb1).1 _ _ (by simp)]; simp [go_sem]
            clear hb1 d0 d1 d2 eA eB
            go_wp2
            go_ret
            exact ⟨ret_bool HF.out.symm, by first | exact B3 | exact below_drewN (B3) _⟩
        · have HF : Hid (leadsL l a.data.toList b.data.toList = false) := by
            show _ = _
            rw [HU.out, ba_len, ba_len]; simp [hfa]
          have ga : (aa.size : Int) < (m : Int) := by omega
          clear hm
          go_wp2_with fail
          refine (spans_calls r _).mono ?_
          rintro e w2 ⟨rfl, hb1⟩
          rw [show inA r = m from eA, show inB r = m from eB]
          have B3 : Below w.heap.size w w2 := (B.alloc B.size _).trans (hb1.mono (by have := B.size; simp; omega))
          have e0 : w2.cell? ⟨wr.heap.size, 0, none⟩ = some (.int .i64 r.kind) := by rw [(bcell hb1).1 _ _ (by simp)]; simp [go_sem]
          have e1 : w2.cell? ⟨wr.heap.size, 1, none⟩ = some (.int .i64 (m : Int)) := by rw [(bcell hb1).1 _ _ (by simp)]; simp [go_sem, HM.out]
          have e2 : w2.cell? ⟨wr.heap.size, 2, none⟩ = some (.string r.s) := by rw [(bcell hb1).1 _ _ (by simp)]; simp [go_sem]
          clear hb1 d0 d1 d2 eA eB
          go_wp2
          go_ret
          exact ⟨ret_bool HF.out.symm, by first | exact B3 | exact below_drewN (B3) _⟩
      · have eA : inA r = 0 := by simp [inA, hkd]
        have eB : inB r = m := by simp [inB, hkd, hm]
        have k0 : (r.kind == 0) = false := by simp [hkd]
        have k1 : (r.kind == 1) = true := by simp [hkd]
        have k2 : (r.kind == 2) = false := by simp [hkd]
        have kn1 : (r.kind != 1) = false := by simp [hkd]
        have kn2 : (r.kind != 2) = true := by simp [hkd]
        have hm0 : ¬ (m : Int) < 0 := by omega
        have ga0 : ¬ (aa.size : Int) < 0 := by omega
        rw [if_neg (by omega), if_pos hkd] at HU
        clear hkd
        by_cases hfb : m ≤ bb.size
        · have gb : ¬ (bb.size : Int) < (m : Int) := by omega
          have HU2 : Hid (leadsL l a.data.toList b.data.toList = leadsL (l.drop (k + 1)) aa.data.toList (bb.extract m bb.size).data.toList) := by
            show _ = _
            rw [HU.out, drop_ext]
            simp [hfb]
          have HEA : Hid (aa.extract 0 aa.size = aa) := ext_all aa
          have HEB : Hid (True) := trivial
          have HXA : Hid (aa.size ≤ 4096) := haz
          have HXB : Hid ((bb.extract m bb.size).size ≤ 4096) := by show _ ≤ _; rw [ByteArray.size_extract]; omega
          clear hm
          go_wp2_with fail
          refine (spans_calls r _).mono ?_
          rintro e w2 ⟨rfl, hb1⟩
          rw [show inA r = 0 from eA, show inB r = m from eB]
          have B3 : Below w.heap.size w w2 := (B.alloc B.size _).trans (hb1.mono (by have := B.size; simp; omega))
          have e0 : w2.cell? ⟨wr.heap.size, 0, none⟩ = some (.int .i64 r.kind) := by rw [(bcell hb1).1 _ _ (by simp)]; simp [go_sem]
          have e1 : w2.cell? ⟨wr.heap.size, 1, none⟩ = some (.int .i64 (m : Int)) := by rw [(bcell hb1).1 _ _ (by simp)]; simp [go_sem, HM.out]
          have e2 : w2.cell? ⟨wr.heap.size, 2, none⟩ = some (.string r.s) := by rw [(bcell hb1).1 _ _ (by simp)]; simp [go_sem]
          clear hb1 d0 d1 d2 eA eB
          go_wp2_with fail
          go_quiet (fail)
          go_wp2_with fail
          go_quiet (fail)
          go_wp2
          go_roundw
          case rel => exact ⟨k + 1, aa, bb.extract m bb.size, by omega, by go_num, by first | rfl | rw [HEA.out], by first | rfl | rw [HEB.out], HXA.out, HXB.out, HU2.out, below_drewN B3 _⟩
          case measure => simp [intOf]; omega
        · have HF : Hid (leadsL l a.data.toList b.data.toList = false) := by
            show _ = _
            rw [HU.out, ba_len]; simp [hfb]
          have gb : (bb.size : Int) < (m : Int) := by omega
          clear hm
          go_wp2_with fail
          refine (spans_calls r _).mono ?_
          rintro e w2 ⟨rfl, hb1⟩
          rw [show inA r = 0 from eA, show inB r = m from eB]
          have B3 : Below w.heap.size w w2 := (B.alloc B.size _).trans (hb1.mono (by have := B.size; simp; omega))
          have e0 : w2.cell? ⟨wr.heap.size, 0, none⟩ = some (.int .i64 r.kind) := by rw [(bcell hb1).1 _ _ (by simp)]; simp [go_sem]
          have e1 : w2.cell? ⟨wr.heap.size, 1, none⟩ = some (.int .i64 (m : Int)) := by rw [(bcell hb1).1 _ _ (by simp)]; simp [go_sem, HM.out]
          have e2 : w2.cell? ⟨wr.heap.size, 2, none⟩ = some (.string r.s) := by rw [(bcell hb1).1 _ _ (by simp)]; simp [go_sem]
          clear hb1 d0 d1 d2 eA eB
          go_wp2
          go_ret
          exact ⟨ret_bool HF.out.symm, by first | exact B3 | exact below_drewN (B3) _⟩
      · have eA : inA r = m := by simp [inA, hkd, hm]
        have eB : inB r = 0 := by simp [inB, hkd]
        have k0 : (r.kind == 0) = false := by simp [hkd]
        have k1 : (r.kind == 1) = false := by simp [hkd]
        have k2 : (r.kind == 2) = true := by simp [hkd]
        have kn1 : (r.kind != 1) = true := by simp [hkd]
        have kn2 : (r.kind != 2) = false := by simp [hkd]
        have hm0 : ¬ (m : Int) < 0 := by omega
        have gb0 : ¬ (bb.size : Int) < 0 := by omega
        rw [if_neg (by omega), if_neg (by omega)] at HU
        clear hkd
        by_cases hfa : m ≤ aa.size
        · have ga : ¬ (aa.size : Int) < (m : Int) := by omega
          cases hcmp : ((aa.extract 0 m).toList == r.s.toList)
          · have HF : Hid (leadsL l a.data.toList b.data.toList = false) := by
              show _ = _
              rw [HU.out, ← cmp_take2, hcmp]; simp
            have hcmp2 : ((aa.extract 0 m).toList != r.s.toList) = true := by simp [bne, hcmp]
            clear hm
            go_wp2_with fail
            refine (spans_calls r _).mono ?_
            rintro e w2 ⟨rfl, hb1⟩
            rw [show inA r = m from eA, show inB r = 0 from eB]
            have B3 : Below w.heap.size w w2 := (B.alloc B.size _).trans (hb1.mono (by have := B.size; simp; omega))
            have e0 : w2.cell? ⟨wr.heap.size, 0, none⟩ = some (.int .i64 r.kind) := by rw [(bcell hb1).1 _ _ (by simp)]; simp [go_sem]
            have e1 : w2.cell? ⟨wr.heap.size, 1, none⟩ = some (.int .i64 (m : Int)) := by rw [(bcell hb1).1 _ _ (by simp)]; simp [go_sem, HM.out]
            have e2 : w2.cell? ⟨wr.heap.size, 2, none⟩ = some (.string r.s) := by rw [(bcell hb1).1 _ _ (by simp)]; simp [go_sem]
            clear hb1 d0 d1 d2 eA eB
            go_wp2_with fail
            go_quiet (fail)
            go_wp2_with fail
            go_quiet (fail)
            go_wp2
            go_ret
            exact ⟨ret_bool HF.out.symm, by first | exact below_drewN B3 _ | exact below_drewN (below_drewN B3 _) _⟩
          · have HU2 : Hid (leadsL l a.data.toList b.data.toList = leadsL (l.drop (k + 1)) (aa.extract m aa.size).data.toList bb.data.toList) := by
              show _ = _
              rw [HU.out, ← cmp_take2, hcmp, drop_ext]
              simp [hfa]
            have hcmp2 : ((aa.extract 0 m).toList != r.s.toList) = false := by simp [bne, hcmp]
            have HEA : Hid (True) := trivial
            have HEB : Hid (bb.extract 0 bb.size = bb) := ext_all bb
            have HXA : Hid ((aa.extract m aa.size).size ≤ 4096) := by show _ ≤ _; rw [ByteArray.size_extract]; omega
            have HXB : Hid (bb.size ≤ 4096) := hbz
            clear hm
            go_wp2_with fail
            refine (spans_calls r _).mono ?_
            rintro e w2 ⟨rfl, hb1⟩
            rw [show inA r = m from eA, show inB r = 0 from eB]
            have B3 : Below w.heap.size w w2 := (B.alloc B.size _).trans (hb1.mono (by have := B.size; simp; omega))
            have e0 : w2.cell? ⟨wr.heap.size, 0, none⟩ = some (.int .i64 r.kind) := by rw [(bcell hb1).1 _ _ (by simp)]; simp [go_sem]
            have e1 : w2.cell? ⟨wr.heap.size, 1, none⟩ = some (.int .i64 (m : Int)) := by rw [(bcell hb1).1 _ _ (by simp)]; simp [go_sem, HM.out]
            have e2 : w2.cell? ⟨wr.heap.size, 2, none⟩ = some (.string r.s) := by rw [(bcell hb1).1 _ _ (by simp)]; simp [go_sem]
            clear hb1 d0 d1 d2 eA eB
            go_wp2_with fail
            go_quiet (fail)
            go_wp2_with fail
            go_quiet (fail)
            go_wp2
            go_roundw
            case rel => exact ⟨k + 1, aa.extract m aa.size, bb, by omega, by go_num, by first | rfl | rw [HEA.out], by first | rfl | rw [HEB.out], HXA.out, HXB.out, HU2.out, below_drewN B3 _⟩
            case measure => simp [intOf]; omega
        · have HF : Hid (leadsL l a.data.toList b.data.toList = false) := by
            show _ = _
            rw [HU.out, ba_len]; simp [hfa]
          have ga : (aa.size : Int) < (m : Int) := by omega
          clear hm
          go_wp2_with fail
          refine (spans_calls r _).mono ?_
          rintro e w2 ⟨rfl, hb1⟩
          rw [show inA r = m from eA, show inB r = 0 from eB]
          have B3 : Below w.heap.size w w2 := (B.alloc B.size _).trans (hb1.mono (by have := B.size; simp; omega))
          have e0 : w2.cell? ⟨wr.heap.size, 0, none⟩ = some (.int .i64 r.kind) := by rw [(bcell hb1).1 _ _ (by simp)]; simp [go_sem]
          have e1 : w2.cell? ⟨wr.heap.size, 1, none⟩ = some (.int .i64 (m : Int)) := by rw [(bcell hb1).1 _ _ (by simp)]; simp [go_sem, HM.out]
          have e2 : w2.cell? ⟨wr.heap.size, 2, none⟩ = some (.string r.s) := by rw [(bcell hb1).1 _ _ (by simp)]; simp [go_sem]
          clear hb1 d0 d1 d2 eA eB
          go_wp2
          go_ret
          exact ⟨ret_bool HF.out.symm, by first | exact B3 | exact below_drewN (B3) _⟩
    · obtain rfl : k = l.length := by omega
      have HF : Hid (leadsL l a.data.toList b.data.toList = (aa.toList.isEmpty && bb.toList.isEmpty)) := by
        show _ = _
        rw [HU.out, List.drop_length, leadsL, ByteArray.toList_eq, ByteArray.toList_eq]
      cases hea : aa.toList.isEmpty
      · rw [hea] at HF
        go_wp2
        go_ret
        exact ⟨ret_bool (by rw [HF.out]; simp), B⟩
      · rw [hea] at HF
        go_wp2
        go_ret
        exact ⟨ret_bool (by rw [HF.out]; simp), B⟩
end Go.Proofs.YtlppphmnegdhoabGreatDoor

namespace Go.Proofs.YtlppphmnegdhoabGreatDoor
set_option linter.unusedVariables false
open Go.RowKit
open M

theorem all_no {l : List M.Rec} {k : Nat} (h : k < l.length) (hr : okRec l[k] = false) : l.all okRec = false := by
  rw [List.all_eq_false]
  exact ⟨l[k], List.getElem_mem h, by simp [hr]⟩
theorem all_yes {l : List M.Rec} (h : okAll l) : l.all okRec = true := by
  rw [List.all_eq_true]
  exact h

set_option maxRecDepth 100000 in
set_option maxHeartbeats 1000000 in
theorem areRecords_calls (n c : Nat) (ad : Option Addr) (l : List M.Rec) (w : World) (hat : RecsAt w ad n l) (hln : l.length ≤ 140737488351232) :
    Calls Tryz.prog 85 #[.slice ad n c] w fun e w' => e = .returned (.bool (l.all okRec)) ∧ Below w.heap.size w w' := by
  have hn := hat.len
  subst hn
  go_enter Tryz.func85, Tryz.ntmps85
  go_wp2
  go_loopw [7] (fun i wr => ∃ (k : Nat), k ≤ l.length ∧ i = .int .i64 k ∧ Hid (okAll (l.take k)) ∧ Below w.heap.size w wr) (fun i _ => l.length - (intOf i).toNat)
  case atStart => exact ⟨0, Nat.zero_le _, rfl, fun x hx => by simp at hx, Below.refl _ _⟩
  case round =>
    obtain ⟨k, hk, rfl, HO, B⟩ := hrel
    by_cases hlt : k < l.length
    · have hlt1 : (k : Int) < (l.length : Int) := by omega
      have hno : l ≠ [] := fun h => by rw [h] at hlt; simp at hlt
      obtain ⟨bk, off, ha', hbw, hcells⟩ := hat.cells.resolve_left hno
      obtain ⟨c0, c1, c2⟩ := hcells k hlt
      have d0 := (B.cell (by exact hbw)).trans c0
      have d1 := (B.cell (by exact hbw)).trans c1
      have d2 := (B.cell (by exact hbw)).trans c2
      have HY : Hid (okRec l[k] = true → okAll (l.take (k + 1))) := fun h => okAll_step HO.out hlt h
      have HN : Hid (okRec l[k] = false → l.all okRec = false) := fun h => all_no hlt h
      clear hcells c0 c1 c2 hno
      subst ha'
      generalize l[k] = r at *
      go_wp2_with fail
      refine (isRecord_calls r _).mono ?_
      rintro e w2 ⟨rfl, hb1⟩
      have B3 : Below w.heap.size w w2 := (B.alloc B.size _).trans (hb1.mono (by have := B.size; simp; omega))
      clear hb1 d0 d1 d2
      cases hr : okRec r
      · have HF := HN.out hr
        have HF2 : Hid (l.all okRec = false) := HF
        clear HF hr HN HY
        go_wp2
        go_ret
        exact ⟨ret_bool HF2.out.symm, B3⟩
      · have HF2 : Hid (okAll (l.take (k + 1))) := HY.out hr
        clear hr HN HY
        go_wp2
        go_roundw
        case rel => exact ⟨k + 1, by omega, by go_num, HF2.out, B3⟩
        case measure => simp [intOf]; omega
    · obtain rfl : k = l.length := by omega
      have HF2 : Hid (l.all okRec = true) := all_yes (by have := HO.out; rwa [List.take_length] at this)
      go_wp2
      go_ret
      exact ⟨ret_bool HF2.out.symm, B⟩

/-- what Write answers -/
def WriteSpec (l : List M.Rec) (a b : ByteArray) (t : List UInt8) (err : Int) : Prop :=
  ((4096 < a.size ∨ 4096 < b.size) ∧ err = 1 ∧ t = []) ∨
  (¬ (4096 < a.size ∨ 4096 < b.size) ∧ (
    (l.all okRec = false ∧ err = 3 ∧ t = []) ∨
    (l.all okRec = true ∧ ((leadsL l a.data.toList b.data.toList = false ∧ err = 9 ∧ t = []) ∨
      (leadsL l a.data.toList b.data.toList = true ∧ err = 0 ∧ t = writE ⟨a.size, b.size, sum a.data.toList, sum b.data.toList, l⟩)))))
theorem writeSpec_same {l : List M.Rec} {a b : ByteArray} {t t' : List UInt8} {e e' : Int} (h : WriteSpec l a b t e) (h' : WriteSpec l a b t' e') : t = t' ∧ e = e' := by
  rcases h with ⟨h1, h2, h3⟩ | ⟨h1, ⟨h2, h3, h4⟩ | ⟨h2, ⟨h3, h4, h5⟩ | ⟨h3, h4, h5⟩⟩⟩ <;>
  rcases h' with ⟨g1, g2, g3⟩ | ⟨g1, ⟨g2, g3, g4⟩ | ⟨g2, ⟨g3, g4, g5⟩ | ⟨g3, g4, g5⟩⟩⟩ <;>
  first
  | exact absurd h1 g1
  | exact absurd g1 h1
  | exact Bool.noConfusion (h2.symm.trans g2)
  | exact ⟨h3.trans g3.symm, h2.trans g2.symm⟩
  | exact ⟨h4.trans g4.symm, h3.trans g3.symm⟩
  | exact ⟨h5.trans g5.symm, h4.trans g4.symm⟩
  | exact Bool.noConfusion (h3.symm.trans g3)
def WritePost (l : List M.Rec) (a b : ByteArray) (w w' : World) (e : Ending) : Prop :=
  (∃ (t : ByteArray) (err : Int), e = .returned (.tuple #[.string t, .int .i64 err]) ∧ WriteSpec l a b t.data.toList err) ∧ Below w.heap.size w w'

set_option maxRecDepth 100000 in
set_option maxHeartbeats 2000000 in
theorem write_calls (n c : Nat) (ad : Option Addr) (l : List M.Rec) (a b : ByteArray) (w : World) (hat : RecsAt w ad n l) (hln : l.length ≤ 140737488351232) (ham : a.size ≤ maxLen) (hbm : b.size ≤ maxLen) :
    Calls Tryz.prog 54 #[.slice ad n c, .string a, .string b] w fun e w' => WritePost l a b w w' e := by
  unfold maxLen at ham hbm
  by_cases h1 : 4096 < a.size
  · have HS : Hid (WriteSpec l a b [] 1) := .inl ⟨.inl h1, rfl, rfl⟩
    have h11 : (4096 : Int) < (a.size : Int) := by omega
    go_enter Tryz.func54, Tryz.ntmps54
    go_wp2
    go_ret2
    exact ⟨⟨⟨#[]⟩, 1, rfl, HS.out⟩, Below.refl _ _⟩
  have h11 : ¬ (4096 : Int) < (a.size : Int) := by omega
  by_cases h2 : 4096 < b.size
  · have HS : Hid (WriteSpec l a b [] 1) := .inl ⟨.inr h2, rfl, rfl⟩
    have h21 : (4096 : Int) < (b.size : Int) := by omega
    go_enter Tryz.func54, Tryz.ntmps54
    go_wp2
    go_ret2
    exact ⟨⟨⟨#[]⟩, 1, rfl, HS.out⟩, Below.refl _ _⟩
  have h21 : ¬ (4096 : Int) < (b.size : Int) := by omega
  have HL : Hid (¬ (4096 < a.size ∨ 4096 < b.size)) := fun h => by omega
  have ha4 : a.size ≤ 4096 := by omega
  have hb4 : b.size ≤ 4096 := by omega
  clear h1 h2
  go_enter Tryz.func54, Tryz.ntmps54
  go_wp2_with fail
  refine (areRecords_calls n c ad l _ hat hln).mono ?_
  rintro e w1 ⟨rfl, b1⟩
  cases hall : l.all okRec
  · have HS : Hid (WriteSpec l a b [] 3) := .inr ⟨HL.out, .inl ⟨hall, rfl, rfl⟩⟩
    clear hall
    go_wp2
    go_ret2
    exact ⟨⟨⟨#[]⟩, 3, rfl, HS.out⟩, b1⟩
  have hok : okAll l := List.all_eq_true.1 hall
  have HA : Hid (l.all okRec = true) := hall
  clear hall
  go_wp2_with fail
  refine (jleads_calls n c ad l a b _ (hat.below b1) hok hln ha4 hb4).mono ?_
  rintro e w2 ⟨rfl, b2⟩
  have B2 : Below w.heap.size w w2 := b1.trans (b2.mono b1.size)
  have hat2 := (hat.below b1).below b2
  cases hld : leadsL l a.data.toList b.data.toList
  · have HS : Hid (WriteSpec l a b [] 9) := .inr ⟨HL.out, .inr ⟨HA.out, .inl ⟨hld, rfl, rfl⟩⟩⟩
    clear hld
    go_wp2
    go_ret2
    exact ⟨⟨⟨#[]⟩, 9, rfl, HS.out⟩, B2⟩
  obtain ⟨eA, eB⟩ := leads_len l _ _ hok hld
  rw [ba_len] at eA eB
  have HD : Hid (leadsL l a.data.toList b.data.toList = true) := hld
  have HEA : Hid (lenA l = a.size) := eA
  have HEB : Hid (lenB l = b.size) := eB
  clear hld eA eB
  go_wp2_with fail
  refine (headOf_calls a b _ ha4 hb4).mono ?_
  rintro e w3 ⟨rfl, b3⟩
  have hat3 := hat2.below b3
  have B3 : Below w.heap.size w w3 := B2.trans (b3.mono B2.size)
  have sa := sum_lt a.data.toList
  have sb := sum_lt b.data.toList
  have HW : Hid (∀ t : ByteArray, t.data.toList = writE ⟨a.size, b.size, sum a.data.toList, sum b.data.toList, l⟩ → WriteSpec l a b t.data.toList 0) := fun t ht => .inr ⟨HL.out, .inr ⟨HA.out, .inr ⟨HD.out, rfl, ht⟩⟩⟩
  clear b3 hat2 b2
  generalize sum a.data.toList = sma at *
  generalize sum b.data.toList = smb at *
  go_wp2_with fail
  refine (jwrite_calls a.size b.size sma smb n c ad l _ ha4 hb4 sa sb (hat3.below ((Below.refl _ _).alloc (Nat.le_refl _) _)) hok (by rw [HEA.out]; omega) (by rw [HEB.out]; omega)).mono ?_
  rintro e w4 ⟨⟨t, rfl, ht⟩, b4⟩
  have HS : Hid (WriteSpec l a b t.data.toList 0) := HW.out t ht
  have B4 : Below w.heap.size w w4 := (B3.alloc B3.size _).trans (b4.mono (by have := B3.size; simp; omega))
  clear ht b4
  go_wp2
  go_ret2
  exact ⟨⟨t, 0, rfl, HS.out⟩, B4⟩

end Go.Proofs.YtlppphmnegdhoabGreatDoor

namespace Go.Proofs.YtlppphmnegdhoabGreatDoor
set_option linter.unusedVariables false
set_option maxRecDepth 100000
open Go.ChangeShapes Go.WideShapes Go.ChangeAt Go.RowKit
open Go.ChangeMaps (open_string shut_string)
open M

theorem laidOut : laidOutB Tryz.prog = true := by kernel_rfl

theorem own_no : ownKnob Tryz.prog.godebug = none := by kernel_rfl
end Go.Proofs.YtlppphmnegdhoabGreatDoor

namespace Go.Proofs.YtlppphmnegdhoabGreatDoor
set_option linter.unusedVariables false
open Go.RowKit
open M

/-- what Undo answers -/
def UndoSpec (b s : ByteArray) (a : List UInt8) (err : Int) : Prop :=
  ((4096 < b.size ∨ 12352 < s.size) ∧ err = 1 ∧ a = []) ∨
  (¬ (4096 < b.size ∨ 12352 < s.size) ∧ (
    ((∀ j, Tells s.data.toList j → False) ∧ err = 8 ∧ a = []) ∨
    ∃ j, Tells s.data.toList j ∧ (
      (¬ (b.size = j.lb ∧ sum b.data.toList = j.sb) ∧ err = 9 ∧ a = []) ∨
      ((b.size = j.lb ∧ sum b.data.toList = j.sb) ∧ (
        (sum (undoL j.l b.data.toList) ≠ j.sa ∧ err = 9 ∧ a = []) ∨ (sum (undoL j.l b.data.toList) = j.sa ∧ err = 0 ∧ a = undoL j.l b.data.toList))))))
def UndoPost (b s : ByteArray) (w w' : World) (e : Ending) : Prop :=
  (∃ (t : ByteArray) (err : Int), e = .returned (.tuple #[.string t, .int .i64 err]) ∧ UndoSpec b s t.data.toList err) ∧ Below w.heap.size w w'

set_option maxRecDepth 100000 in
set_option maxHeartbeats 4000000 in
theorem undo_calls (b s : ByteArray) (w : World) (hbm : b.size ≤ maxLen) (hsm : s.size ≤ maxLen) :
    Calls Tryz.prog 53 #[.string b, .string s] w fun e w' => UndoPost b s w w' e := by
  unfold maxLen at hbm hsm
  by_cases h1 : 4096 < b.size
  · have HS : Hid (UndoSpec b s [] 1) := .inl ⟨.inl h1, rfl, rfl⟩
    have h11 : (4096 : Int) < (b.size : Int) := by omega
    go_enter Tryz.func53, Tryz.ntmps53
    go_wp2
    go_ret2
    exact ⟨⟨⟨#[]⟩, 1, rfl, HS.out⟩, Below.refl _ _⟩
  have h11 : ¬ (4096 : Int) < (b.size : Int) := by omega
  by_cases h2 : 12352 < s.size
  · have HS : Hid (UndoSpec b s [] 1) := .inl ⟨.inr h2, rfl, rfl⟩
    have h21 : (12352 : Int) < (s.size : Int) := by omega
    go_enter Tryz.func53, Tryz.ntmps53
    go_wp2
    go_ret2
    exact ⟨⟨⟨#[]⟩, 1, rfl, HS.out⟩, Below.refl _ _⟩
  have h21 : ¬ (12352 : Int) < (s.size : Int) := by omega
  have HL : Hid (¬ (4096 < b.size ∨ 12352 < s.size)) := fun h => by omega
  have hb4 : b.size ≤ 4096 := by omega
  have hbm2 : b.size ≤ maxLen := by unfold maxLen; omega
  clear h1
  go_enter Tryz.func53, Tryz.ntmps53
  go_wp2_with fail
  refine (read_calls s _ (by omega)).mono ?_
  rintro e w1 (⟨rfl, hno, hb⟩ | ⟨⟨la, lb, sa, sb, l⟩, v, rfl, ht, hown, hb⟩)
  · have HS : Hid (UndoSpec b s [] 8) := .inr ⟨HL.out, .inl ⟨hno, rfl, rfl⟩⟩
    clear hno
    unfold noJn
    go_wp2
    go_ret2
    exact ⟨⟨⟨#[]⟩, 8, rfl, HS.out⟩, hb.alloc hb.size _⟩
  · obtain ⟨a, c, rfl⟩ := own_form hown
    simp only at hown ht
    have hrec := recsAt_own hown
    have HT : Hid (Tells s.data.toList ⟨la, lb, sa, sb, l⟩) := ht
    have hok : okAll l := ht.1.ok
    have hA : lenA l ≤ 4096 := by rw [ht.1.a]; have := ht.1.la; simp at this ⊢; omega
    have hBl : lenB l ≤ 4096 := by rw [ht.1.b]; have := ht.1.lb; simp at this ⊢; omega
    have hsz := hb.size
    clear ht hown
    by_cases hl : b.size = lb
    · have hl1 : ((b.size : Int) == (lb : Int)) = true := by rw [beq_iff_eq]; omega
      by_cases hq : sum b.data.toList = sb
      · have hq1 : (((sum b.data.toList : Nat) : Int) == (sb : Int)) = true := by rw [beq_iff_eq]; omega
        have hfit : lenB l = b.size := by rw [hl]; exact HT.out.1.b
        go_wp2_with fail
        go_quiet ((go_at_call 83; exact Calls.quiet_of_same (sum_calls b _ hbm2)))
        go_wp2_with fail
        refine (undoJ_calls l.length c a l b _ (hrec.below (below_drewN ((Below.refl _ _).alloc (Nat.le_refl _) _) _)) hok hA hBl hfit).mono ?_
        rintro e w2 ⟨⟨t, rfl, ht⟩, hb2⟩
        have B2 : Below w.heap.size w w2 := (below_drewN (hb.alloc hb.size _) _).trans (hb2.mono (by simp; omega))
        have d2 : w2.cell? ⟨w1.heap.size, 2, none⟩ = some (.int .i64 sa) := by rw [(bcell hb2).1 _ _ (by simp)]; simp [go_sem]
        have hz2 : w1.heap.size < w2.heap.size := by have := hb2.size; simp at this; omega
        have hts : t.size ≤ 4096 := by
          have h := undoL_len l b.data.toList hok
          rw [← ht, ba_len] at h
          omega
        have hts2 : t.size ≤ maxLen := by unfold maxLen; omega
        clear hb2
        by_cases hx : sum t.data.toList = sa
        · have HS : Hid (UndoSpec b s t.data.toList 0) := .inr ⟨HL.out, .inr ⟨_, HT.out, .inr ⟨⟨hl, hq⟩, .inr ⟨by rw [← ht]; exact hx, rfl, ht⟩⟩⟩⟩
          have hx1 : (((sum t.data.toList : Nat) : Int) == (sa : Int)) = true := by rw [beq_iff_eq]; omega
          clear ht hx
          go_wp2_with fail
          go_quiet ((go_at_call 83; exact Calls.quiet_of_same (sum_calls t _ hts2)))
          go_wp2
          go_ret2
          exact ⟨⟨t, 0, rfl, HS.out⟩, below_drewN B2 _⟩
        · have HS : Hid (UndoSpec b s [] 9) := .inr ⟨HL.out, .inr ⟨_, HT.out, .inr ⟨⟨hl, hq⟩, .inl ⟨by rw [← ht]; exact hx, rfl, rfl⟩⟩⟩⟩
          have hx1 : (((sum t.data.toList : Nat) : Int) == (sa : Int)) = false := by rw [beq_eq_false_iff_ne]; omega
          clear ht hx
          go_wp2_with fail
          go_quiet ((go_at_call 83; exact Calls.quiet_of_same (sum_calls t _ hts2)))
          go_wp2
          go_ret2
          exact ⟨⟨⟨#[]⟩, 9, rfl, HS.out⟩, below_drewN B2 _⟩
      · have HS : Hid (UndoSpec b s [] 9) := .inr ⟨HL.out, .inr ⟨_, HT.out, .inl ⟨fun h => hq h.2, rfl, rfl⟩⟩⟩
        have hq1 : (((sum b.data.toList : Nat) : Int) == (sb : Int)) = false := by rw [beq_eq_false_iff_ne]; omega
        clear hq
        go_wp2_with fail
        go_quiet ((go_at_call 83; exact Calls.quiet_of_same (sum_calls b _ hbm2)))
        go_wp2
        go_ret2
        exact ⟨⟨⟨#[]⟩, 9, rfl, HS.out⟩, below_drewN (hb.alloc hb.size _) _⟩
    · have HS : Hid (UndoSpec b s [] 9) := .inr ⟨HL.out, .inr ⟨_, HT.out, .inl ⟨fun h => hl h.1, rfl, rfl⟩⟩⟩
      have hl1 : ((b.size : Int) == (lb : Int)) = false := by rw [beq_eq_false_iff_ne]; omega
      have hl4 : ((b.size : Int) != (lb : Int)) = true := by simp; omega
      clear hl
      go_wp2_with fail
      go_quiet (fail)
      go_wp2
      go_ret2
      exact ⟨⟨⟨#[]⟩, 9, rfl, HS.out⟩, below_drewN (hb.alloc hb.size _) _⟩
end Go.Proofs.YtlppphmnegdhoabGreatDoor

namespace Go.Proofs.YtlppphmnegdhoabGreatDoor
set_option linter.unusedVariables false
set_option maxRecDepth 100000
open Go.ChangeShapes Go.WideShapes Go.ChangeAt Go.RowKit
open Go.ChangeMaps (open_string shut_string)
open M

/-- a journal is known by its bytes -/
theorem tells_same {s : List UInt8} {j k : Jn} (hj : Tells s j) (hk : Tells s k) : j = k := by
  have e := tells_body (tells_parts hj).1 hk
  have h1 := (tells_parts hj).2
  have h2 := (tells_parts hk).2
  rw [← e] at h2
  obtain ⟨e1, e2, e3, e4, e5⟩ := heads_same h1 h2
  have n1 := mem_n j.l hj.1.ok (by rw [hj.1.a]; have := hj.1.la; omega) (by rw [hj.1.b]; have := hj.1.lb; omega)
  have n2 := mem_n k.l hk.1.ok (by rw [hk.1.a]; have := hk.1.la; omega) (by rw [hk.1.b]; have := hk.1.lb; omega)
  obtain ⟨m, hm, hm2⟩ := recs_prefix j.l k.l [] hj.1.ok hk.1.ok n1 n2 (by rw [List.append_nil, e5])
  have hm3 : m = [] := by
    match m with
    | [] => rfl
    | r :: m =>
      have := recE_len r
      have h := congrArg List.length hm2
      simp [recsE_cons] at h
      omega
  obtain ⟨a1, a2, a3, a4, a5⟩ := j
  obtain ⟨b1, b2, b3, b4, b5⟩ := k
  simp only at e1 e2 e3 e4 hm
  rw [e1, e2, e3, e4, hm, hm3, List.append_nil]
theorem undoSpec_same {b s : ByteArray} {a a' : List UInt8} {e e' : Int} (h : UndoSpec b s a e) (h' : UndoSpec b s a' e') : a = a' ∧ e = e' := by
  rcases h with ⟨h1, h2, h3⟩ | ⟨h1, ⟨h2, h3, h4⟩ | ⟨j, h2, h3⟩⟩
  · rcases h' with ⟨g1, g2, g3⟩ | ⟨g1, _⟩
    · exact ⟨by rw [h3, g3], by rw [h2, g2]⟩
    · exact absurd h1 g1
  · rcases h' with ⟨g1, _⟩ | ⟨_, ⟨g2, g3, g4⟩ | ⟨j', g2, _⟩⟩
    · exact absurd g1 h1
    · exact ⟨by rw [h4, g4], by rw [h3, g3]⟩
    · exact absurd g2 (fun g => h2 _ g)
  · rcases h' with ⟨g1, _⟩ | ⟨_, ⟨g2, _⟩ | ⟨j', g2, g3⟩⟩
    · exact absurd g1 h1
    · exact absurd h2 (fun g => g2 _ g)
    · obtain rfl := tells_same h2 g2
      rcases h3 with ⟨p, p2, p3⟩ | ⟨p, ⟨p1, p2, p3⟩ | ⟨p1, p2, p3⟩⟩
      · rcases g3 with ⟨q, q2, q3⟩ | ⟨q, _⟩
        · exact ⟨by rw [p3, q3], by rw [p2, q2]⟩
        · exact absurd q p
      · rcases g3 with ⟨q, _⟩ | ⟨q, ⟨q1, q2, q3⟩ | ⟨q1, q2, q3⟩⟩
        · exact absurd p q
        · exact ⟨by rw [p3, q3], by rw [p2, q2]⟩
        · exact absurd q1 p1
      · rcases g3 with ⟨q, _⟩ | ⟨q, ⟨q1, q2, q3⟩ | ⟨q1, q2, q3⟩⟩
        · exact absurd p q
        · exact absurd p1 q1
        · exact ⟨by rw [p3, q3], by rw [p2, q2]⟩

end Go.Proofs.YtlppphmnegdhoabGreatDoor

namespace Go.Proofs.YtlppphmnegdhoabGreatDoor
set_option linter.unusedVariables false
open Go.RowKit
open M

/-- a list that leads goes back -/
theorem leads_undo (l : List M.Rec) : ∀ a b, leadsL l a b = true → undoL l b = a := by
  induction l with
  | nil =>
    intro a b h
    simp [leadsL] at h
    simp [undoL, h.1]
  | cons r l ih =>
    intro a b h
    simp only [leadsL] at h
    simp only [undoL]
    by_cases h0 : r.kind = 0
    · rw [if_pos h0] at h ⊢
      simp only [Bool.and_eq_true, decide_eq_true_eq, beq_iff_eq] at h
      obtain ⟨ha, hb, he, hl⟩ := h
      rw [ih _ _ hl, ← he, List.take_append_drop]
    · rw [if_neg h0] at h ⊢
      by_cases h2 : r.kind = 1
      · rw [if_pos h2] at h ⊢
        simp only [Bool.and_eq_true, decide_eq_true_eq] at h
        exact ih _ _ h.2
      · rw [if_neg h2] at h ⊢
        simp only [Bool.and_eq_true, decide_eq_true_eq, beq_iff_eq] at h
        obtain ⟨ha, he, hl⟩ := h
        rw [ih _ _ hl, ← he, List.take_append_drop]

theorem numE_le (r : M.Rec) (h : okRec r = true) : ((numE (4 * r.n + r.kind).toNat).length : Int) ≤ r.n := by
  have hk := (okRec_iff r).1 h
  unfold numE
  split
  · simp; omega
  · split
    · simp; omega
    · simp; omega
theorem recE_le2 (r : M.Rec) (h : okRec r = true) : ((recE r).length : Int) ≤ 2 * inA r + inB r := by
  have h1 := numE_le r h
  have h2 := (okRec_iff r).1 h
  unfold recE
  rw [List.length_append, ba_len]
  unfold inA inB
  repeat' split
  all_goals omega
theorem recsE_le2 (l : List M.Rec) (h : okAll l) : ((recsE l).length : Int) ≤ 2 * lenA l + lenB l := by
  induction l with
  | nil => simp [recsE, lenA, lenB]
  | cons r l ih =>
    have h1 := recE_le2 r (okAll_cons h).1
    have h2 := ih (okAll_cons h).2
    rw [recsE_cons, List.length_append]
    simp only [lenA, lenB]
    omega
theorem writE_len (a b : ByteArray) (l : List M.Rec) (ha : a.size ≤ 4096) (hb : b.size ≤ 4096) (ho : okAll l) (hA : lenA l = a.size) (hB : lenB l = b.size) (t : ByteArray) (ht : t.data.toList = writE ⟨a.size, b.size, sum a.data.toList, sum b.data.toList, l⟩) : 10 ≤ t.size ∧ t.size ≤ 12352 := by
  have h1 := recsE_le2 l ho
  have h2 := numE_len a.size
  have h3 := numE_len b.size
  have e : t.size = 2 + (numE a.size).length + (numE b.size).length + 4 + (recsE l).length + 2 := by
    rw [← ba_len, ht]
    simp [writE, bodyE, headE, twoE]
    omega
  omega
theorem tells_of (a b : ByteArray) (l : List M.Rec) (ha : a.size ≤ 4096) (hb : b.size ≤ 4096) (ho : okAll l) (hA : lenA l = a.size) (hB : lenB l = b.size) (t : ByteArray) (ht : t.data.toList = writE ⟨a.size, b.size, sum a.data.toList, sum b.data.toList, l⟩) : Tells t.data.toList ⟨a.size, b.size, sum a.data.toList, sum b.data.toList, l⟩ :=
  ⟨⟨ho, hA, hB, ha, hb, sum_lt _, sum_lt _⟩, ht.symm⟩

/-- what the calls answer where a list leads -/
theorem write_ok {l : List M.Rec} {a b : ByteArray} {t : List UInt8} {e : Int} (ha : a.size ≤ 4096) (hb : b.size ≤ 4096) (ho : okAll l) (hl : leadsL l a.data.toList b.data.toList = true) (h : WriteSpec l a b t e) : e = 0 ∧ t = writE ⟨a.size, b.size, sum a.data.toList, sum b.data.toList, l⟩ := by
  have h2 : WriteSpec l a b (writE ⟨a.size, b.size, sum a.data.toList, sum b.data.toList, l⟩) 0 := .inr ⟨fun h => by omega, .inr ⟨all_yes ho, .inr ⟨hl, rfl, rfl⟩⟩⟩
  obtain ⟨h3, h4⟩ := writeSpec_same h h2
  exact ⟨h4, h3⟩
theorem undo_ok {l : List M.Rec} {a b t : ByteArray} {x : List UInt8} {e : Int} (hb : b.size ≤ 4096) (hs : t.size ≤ 12352) (ht : Tells t.data.toList ⟨a.size, b.size, sum a.data.toList, sum b.data.toList, l⟩) (hl : leadsL l a.data.toList b.data.toList = true) (h : UndoSpec b t x e) : e = 0 ∧ x = a.data.toList := by
  have hu := leads_undo l _ _ hl
  have h2 : UndoSpec b t a.data.toList 0 := .inr ⟨fun h => by omega, .inr ⟨_, ht, .inr ⟨⟨rfl, rfl⟩, .inr ⟨by rw [hu], rfl, hu.symm⟩⟩⟩⟩
  obtain ⟨h3, h4⟩ := undoSpec_same h h2
  exact ⟨h4, h3⟩
end Go.Proofs.YtlppphmnegdhoabGreatDoor

namespace Go.Proofs.YtlppphmnegdhoabGreatDoor
set_option linter.unusedVariables false
open Go.RowKit
open M

set_option maxHeartbeats 400000 in
theorem fits_calls (a : ByteArray) (w : World) (ha : a.size ≤ maxLen) :
    Calls Tryz.prog 13 #[.string a] w fun e w' => e = .returned (.bool (decide (a.size ≤ 4096))) ∧ w' = w := by
  unfold maxLen at ha
  by_cases h : a.size ≤ 4096
  · have h1 : (a.size : Int) ≤ 4096 := by omega
    go_enter Tryz.func13, Tryz.ntmps13
    go_wp2
    go_ret
    exact ⟨ret_bool (by simp [h]), rfl⟩
  · have h1 : ¬ (a.size : Int) ≤ 4096 := by omega
    go_enter Tryz.func13, Tryz.ntmps13
    go_wp2
    go_ret
    exact ⟨ret_bool (by simp), rfl⟩

set_option maxRecDepth 100000 in
set_option maxHeartbeats 1000000 in
theorem kwritten_calls (n c : Nat) (ad : Option Addr) (l : List M.Rec) (a b : ByteArray) (w : World) (hat : RecsAt w ad n l) (hln : l.length ≤ 140737488351232) (ha : a.size ≤ 4096) (hb : b.size ≤ 4096) (ho : okAll l) (hl : leadsL l a.data.toList b.data.toList = true) :
    Calls Tryz.prog 33 #[.slice ad n c, .string a, .string b] w fun e w' => (∃ t : ByteArray, e = .returned (.tuple #[.string t, .bool true]) ∧ t.data.toList = writE ⟨a.size, b.size, sum a.data.toList, sum b.data.toList, l⟩ ∧ t.size ≤ 12352 ∧ 10 ≤ t.size) ∧ Below w.heap.size w w' := by
  go_enter Tryz.func33, Tryz.ntmps33
  go_wp2_with fail
  refine (write_calls n c ad l a b _ hat hln (by unfold maxLen; omega) (by unfold maxLen; omega)).mono ?_
  rintro e w1 ⟨⟨t, er, rfl, h1⟩, b1⟩
  obtain ⟨rfl, ht⟩ := write_ok ha hb ho hl h1
  obtain ⟨eA, eB⟩ := leads_len l _ _ ho hl
  rw [ba_len] at eA eB
  obtain ⟨h10, h12⟩ := writE_len a b l ha hb ho eA eB t ht
  have HT : Hid (t.data.toList = writE ⟨a.size, b.size, sum a.data.toList, sum b.data.toList, l⟩) := ht
  have g1 : (10 : Int) ≤ (t.size : Int) := by omega
  have g2 : (t.size : Int) ≤ 12352 := by omega
  clear h1 ht eA eB hl
  go_wp2
  go_ret2
  exact ⟨⟨t, rfl, HT.out, h12, h10⟩, b1⟩

set_option maxRecDepth 100000 in
set_option maxHeartbeats 1000000 in
theorem undone_calls (b t a : ByteArray) (l : List M.Rec) (w : World) (ha : a.size ≤ 4096) (hb : b.size ≤ 4096) (hs : t.size ≤ 12352) (ht : Tells t.data.toList ⟨a.size, b.size, sum a.data.toList, sum b.data.toList, l⟩) (hl : leadsL l a.data.toList b.data.toList = true) :
    Calls Tryz.prog 30 #[.string b, .string t, .string a] w fun e w' => e = .returned (.bool true) ∧ Below w.heap.size w w' := by
  go_enter Tryz.func30, Tryz.ntmps30
  go_wp2_with fail
  refine (undo_calls b t _ (by unfold maxLen; omega) (by unfold maxLen; omega)).mono ?_
  rintro e w1 ⟨⟨x, er, rfl, h1⟩, b1⟩
  obtain ⟨rfl, hx⟩ := undo_ok hb hs ht hl h1
  obtain rfl : x = a := ba_ext hx
  clear h1 hx ht hl
  go_wp2
  go_ret
  exact ⟨rfl, b1⟩

end Go.Proofs.YtlppphmnegdhoabGreatDoor

