import Derived.Test.YtlppphmnegdhoabGreatDoorRows
import Derived.WalkKit
import Derived.WalkSpells
import Derived.WalkLawsBesides
import Derived.Laws.BitsLemmas
import Derived.Lib.ItoaNum
import Derived.Lib.Strings
import Derived.Deep.QuietTactic
import Derived.BigQuiet
import Derived.Laws.BytesArg
import Derived.Deep.MidRow
import Derived.Deep.WholeRow
import Derived.Laws.ResultCell
import Derived.Deep.CutBlock
import Derived.Deep.DeepCutAuto
import Derived.Deep.RegionHeld3
import Derived.Deep.DrawnRows
import Derived.Deep.AppendLies
import Derived.Deep.RegionLaw
import Derived.Great.BuildSlice
import Derived.Laws.AppendOwnNone
import Derived.Laws.OwnMore
import Derived.Lib.AppendStr
import Derived.Deep.RegionWith
import Derived.Shelf.LaysM
import Derived.Shelf.Strconv.Itoa3
import Derived.Test.YtlppphmnegdhoabGreatDoorProg
import Derived.RegionTactic
import Derived.Laws.CopyOwn
import Derived.ProofKit
import Derived.OpenShut
import Derived.ShutString
import Derived.ChangeOld
import Derived.Below
import Derived.SizedLaws
import Derived.Deep.Slices
import Derived.Deep.Strs
import Derived.Test.YtlppphmnegdhoabGreatDoorMa13
namespace Go.Proofs.YtlppphmnegdhoabGreatDoor
set_option linter.unusedVariables false
namespace M
namespace St
/-- the same run with more steps, and another room -/
def lim (S : St) (d r : Nat) : St := { S with steps := S.steps + d, room := r }
theorem lim_put (S : St) (d r : Nat) (l : List Cl) : (S.lim d r).put l = (S.put l).lim d r := by
  have h : (S.lim d r).put l = if S.death ≠ 0 then S.lim d r else if 4096 - S.out.length < l.length then (S.die 6).lim d r else { S with out := S.out ++ l }.lim d r := rfl
  rw [h]
  unfold put
  split
  · rfl
  · split <;> rfl
theorem lim_putText (S : St) (d r : Nat) (x : ByteArray) : (S.lim d r).putText x = (S.putText x).lim d r := lim_put S d r _
theorem lim_putPat (S : St) (d r : Nat) : (S.lim d r).putPat = S.putPat.lim d r := lim_put S d r _
theorem lim_putUQ (S : St) (d r : Nat) : (S.lim d r).putUQ = S.putUQ.lim d r := by
  have h : (S.lim d r).putUQ = if S.quiet then S.lim d r else (S.lim d r).putPat := rfl
  rw [h, lim_putPat]
  unfold putUQ
  split <;> rfl
theorem lim_putFirst (S : St) (d r : Nat) : (S.lim d r).putFirst = S.putFirst.lim d r := by
  have h : (S.lim d r).putFirst = if behNL S.pat = 0 then (S.lim d r).putPat else (S.lim d r).put (partC S.pat 0 (behNL S.pat)) := rfl
  rw [h, lim_putPat, lim_put]
  unfold putFirst
  split <;> rfl
theorem lim_fold (l : List ByteArray) (d r : Nat) : ∀ S : St, l.foldl putText (S.lim d r) = (l.foldl putText S).lim d r := by
  induction l with
  | nil => intro S; rfl
  | cons x l ih => intro S; rw [List.foldl_cons, List.foldl_cons, lim_putText, ih]
theorem lim_putQueue (S : St) (d r : Nat) : (S.lim d r).putQueue = S.putQueue.lim d r := by
  have h : (S.lim d r).putQueue = { S.queue.foldl putText (S.lim d r) with queue := [] } := rfl
  rw [h, lim_fold]
  rfl
theorem lim_endCycle (S : St) (d r : Nat) : (S.lim d r).endCycle = S.endCycle.lim d r := by
  unfold endCycle
  rw [lim_putQueue]
  rfl
theorem lim_endEarly (S : St) (d r : Nat) : (S.lim d r).endEarly = S.endEarly.lim d r := by
  unfold endEarly
  rw [lim_putUQ, lim_putQueue]
  rfl
theorem lim_dropFirst (S : St) (d r : Nat) : (S.lim d r).dropFirst = S.dropFirst.lim d r := by
  have h : (S.lim d r).dropFirst = if behNL S.pat = 0 then (S.lim d r).endCycle else { ({ S with pat := partC S.pat (behNL S.pat) S.pat.length }.lim d r).putQueue with next := 0 } := rfl
  rw [h, lim_endCycle, lim_putQueue]
  unfold dropFirst
  split <;> rfl
theorem lim_show (S : St) (d r : Nat) (k : Cm) : (S.lim d r).show' k = (S.show' k).lim d r := by
  have h : (S.lim d r).show' k = if k.name = 112 then (S.lim d r).putPat else if k.name = 80 then (S.lim d r).putFirst else if k.name = 61 then (S.lim d r).putText (itoa S.line) else if k.name = 105 then (S.lim d r).putText k.text else { S with queue := S.queue ++ [k.text] }.lim d r := rfl
  rw [h, lim_putPat, lim_putFirst, lim_putText, lim_putText]
  unfold show'
  split
  · rfl
  split
  · rfl
  split
  · rfl
  split <;> rfl
theorem lim_lead (S : St) (d r : Nat) (k : Cm) : (S.lim d r).lead k = (S.lead k).lim d r := by
  have h : (S.lim d r).lead k = if k.name = 100 then (S.lim d r).endCycle else if k.name = 68 then (S.lim d r).dropFirst else if k.name = 99 then ((S.lim d r).putText k.text).endCycle else if k.name = 110 then { S with asks := 2 }.lim d r else if k.name = 78 then { S with asks := 3 }.lim d r
    else if k.name = 113 then (S.lim d r).endEarly else if k.name = 98 then { S with next := k.next }.lim d r else if S.mark then { S with mark := false, next := k.next }.lim d r else S.lim d r := rfl
  rw [h, lim_endCycle, lim_dropFirst, lim_putText, lim_endCycle, lim_endEarly]
  unfold lead
  split
  · rfl
  split
  · rfl
  split
  · rfl
  split
  · rfl
  split
  · rfl
  split
  · rfl
  split
  · rfl
  split <;> rfl
theorem lim_holds (S : St) (d r : Nat) (a : Adr) : (S.lim d r).holds a = S.holds a := rfl
theorem lim_ranged (S : St) (d r : Nat) (k : Nat) (a : Cm) : (S.lim d r).ranged k a = ((S.ranged k a).1, (S.ranged k a).2.lim d r) := by
  unfold ranged
  rw [lim_holds, lim_holds]
  have e : (S.lim d r).rng = S.rng := rfl
  rw [e]
  split <;> rfl
theorem lim_selects (S : St) (d r : Nat) (k : Nat) (a : Cm) : (S.lim d r).selects k a = ((S.selects k a).1, (S.selects k a).2.lim d r) := by
  unfold selects
  rw [lim_ranged, lim_holds]
  split
  · rfl
  split <;> rfl
theorem lim_doWithout (S : St) (d r : Nat) : (S.lim d r).doWithout = S.doWithout.lim d r := by
  unfold doWithout
  have e : (S.lim d r).asks = S.asks := rfl
  rw [e, lim_endEarly]
  split <;> rfl
theorem lim_takePre (S : St) (d r : Nat) : (S.lim d r).takePre = S.takePre.lim d r := by
  have e : (S.lim d r).takePre = (if S.asks = 2 then (({ S with asks := 0 } : St).lim d r).putUQ else ({ S with asks := 0 } : St).lim d r).putQueue := rfl
  rw [e, lim_putUQ]
  unfold takePre
  split
  · rw [lim_putQueue]
  · rw [lim_putQueue]
/-- how a step with less compares with one with more: the same; or it died of its limits -/
def Cmp (A B : St) (d r : Nat) : Prop := B = A.lim d r ∨ ((A.death = 4 ∨ A.death = 5) ∧ A.over = true ∧ A.out <+: B.out) ∨ (A.death = 6 ∧ B.death = 6 ∧ A.over = true ∧ B.over = true ∧ A.out = B.out)
theorem Cmp.die {S B : St} {d r : Nat} (h0 : S.death = 0) (hB : S.out <+: B.out) : Cmp (S.die 5) B d r := by
  right; left
  refine ⟨.inr ?_, rfl, hB⟩
  show (if S.death = 0 then 5 else S.death) = 5
  rw [if_pos h0]
theorem fits_lim {S : St} {n d r : Nat} (h : S.fits n = true) (hr : S.room ≤ r) : (S.lim d r).fits n = true := by
  have := of_decide_eq_true h
  exact decide_eq_true (by show n ≤ r; omega)
theorem cmp_subst (S : St) (d r : Nat) (s : Sbs) (h0 : S.death = 0) (hr : S.room ≤ r) : Cmp (S.subst s) ((S.lim d r).subst s) d r := by
  have hpre := (gr_subst (S.lim d r) s).out
  have hp : S.out <+: ((S.lim d r).subst s).out := hpre
  cases hf : S.fits (replC S.pat s (mtsX s.ex (textC S.pat)) 1 0).length
  · by_cases hm : (mtsX s.ex (textC S.pat)).length < s.count
    · left
      unfold subst
      simp only
      have e : (S.lim d r).pat = S.pat := rfl
      rw [e, if_pos hm, if_pos hm]
    · have e : S.subst s = S.die 5 := by unfold subst; simp only; rw [if_neg hm, hf, if_neg (by decide)]
      rw [e]; exact .die h0 hp
  · left
    have hf2 := fits_lim (d := d) hf hr
    unfold subst
    simp only
    have e : (S.lim d r).pat = S.pat := rfl
    rw [e, hf, hf2]
    split
    · rfl
    · simp only [if_true]
      have e2 : ({ S.lim d r with pat := replC S.pat s (mtsX s.ex (textC S.pat)) 1 0, mark := true } : St) = ({ S with pat := replC S.pat s (mtsX s.ex (textC S.pat)) 1 0, mark := true } : St).lim d r := rfl
      rw [e2, lim_putPat]
      split <;> rfl
theorem cmp_change (S : St) (d r : Nat) (c : Cm) (h0 : S.death = 0) (hr : S.room ≤ r) : Cmp (S.change c) ((S.lim d r).change c) d r := by
  have hpre : S.out <+: ((S.lim d r).change c).out := (gr_change (S.lim d r) c).out
  by_cases n1 : c.name = 104
  · left; unfold change; rw [if_pos n1, if_pos n1]; rfl
  by_cases n2 : c.name = 103
  · left; unfold change; rw [if_neg n1, if_neg n1, if_pos n2, if_pos n2]; rfl
  by_cases n3 : c.name = 120
  · left; unfold change; rw [if_neg n1, if_neg n1, if_neg n2, if_neg n2, if_pos n3, if_pos n3]; rfl
  by_cases n4 : c.name = 72
  · cases hf : S.fits (joinC S.hold (nlC (-1)) S.pat).length
    · have e : S.change c = S.die 5 := by unfold change; rw [if_neg n1, if_neg n2, if_neg n3, if_pos n4]; simp only; rw [hf, if_neg (by decide)]
      rw [e]; exact .die h0 hpre
    · left
      have hf2 := fits_lim (d := d) hf hr
      unfold change
      rw [if_neg n1, if_neg n1, if_neg n2, if_neg n2, if_neg n3, if_neg n3, if_pos n4, if_pos n4]
      simp only
      have e1 : (S.lim d r).pat = S.pat := rfl
      have e2 : (S.lim d r).hold = S.hold := rfl
      rw [e1, e2, hf, hf2]; rfl
  by_cases n5 : c.name = 71
  · cases hf : S.fits (joinC S.pat (nlC (-1)) S.hold).length
    · have e : S.change c = S.die 5 := by unfold change; rw [if_neg n1, if_neg n2, if_neg n3, if_neg n4, if_pos n5]; simp only; rw [hf, if_neg (by decide)]
      rw [e]; exact .die h0 hpre
    · left
      have hf2 := fits_lim (d := d) hf hr
      unfold change
      rw [if_neg n1, if_neg n1, if_neg n2, if_neg n2, if_neg n3, if_neg n3, if_neg n4, if_neg n4, if_pos n5, if_pos n5]
      simp only
      have e1 : (S.lim d r).pat = S.pat := rfl
      have e2 : (S.lim d r).hold = S.hold := rfl
      rw [e1, e2, hf, hf2]; rfl
  by_cases n6 : c.name = 115
  · have e1 : S.change c = S.subst c.sub := by unfold change; rw [if_neg n1, if_neg n2, if_neg n3, if_neg n4, if_neg n5, if_pos n6]
    have e2 : (S.lim d r).change c = (S.lim d r).subst c.sub := by unfold change; rw [if_neg n1, if_neg n2, if_neg n3, if_neg n4, if_neg n5, if_pos n6]
    rw [e1, e2]; exact cmp_subst S d r c.sub h0 hr
  · left; unfold change; rw [if_neg n1, if_neg n1, if_neg n2, if_neg n2, if_neg n3, if_neg n3, if_neg n4, if_neg n4, if_neg n5, if_neg n5, if_neg n6, if_neg n6]; rfl
theorem cmp_does (S : St) (d r : Nat) (c : Cm) (h0 : S.death = 0) (hr : S.room ≤ r) : Cmp (S.does c) ((S.lim d r).does c) d r := by
  unfold does
  split
  · left; exact lim_show S d r c
  split
  · exact cmp_change S d r c h0 hr
  split
  · left; exact lim_lead S d r c
  · left; rfl
theorem cmp_reach (S : St) (d r : Nat) (h0 : S.death = 0) (hr : S.room ≤ r) : Cmp S.reach (S.lim d r).reach d r := by
  have hpre : S.out <+: (S.lim d r).reach.out := (pre_reach (S.lim d r)).1
  cases hc : S.cs[S.next]? with
  | none =>
    left
    have hc2 : (S.lim d r).cs[(S.lim d r).next]? = none := hc
    unfold reach
    rw [hc, hc2]
    simp only
    rw [lim_putUQ, lim_endCycle]
  | some c =>
    have hc2 : (S.lim d r).cs[(S.lim d r).next]? = some c := hc
    by_cases hs : S.steps = 0
    · right; left
      have e : S.reach = S.die 4 := by unfold reach; rw [hc]; simp only; rw [if_pos hs]
      rw [e]
      refine ⟨.inl ?_, rfl, hpre⟩
      show (if S.death = 0 then 4 else S.death) = 4
      rw [if_pos h0]
    · have hs2 : ¬ (S.lim d r).steps = 0 := by show ¬ S.steps + d = 0; omega
      have e9 : ({ S.lim d r with steps := (S.lim d r).steps - 1, next := (S.lim d r).next + 1 } : St) = ({ S with steps := S.steps - 1, next := S.next + 1 } : St).lim d r := by
        have : S.steps + d - 1 = S.steps - 1 + d := by omega
        show ({ S with steps := S.steps + d - 1, room := r, next := S.next + 1 } : St) = { S with steps := S.steps - 1 + d, room := r, next := S.next + 1 }
        rw [this]
      unfold reach
      rw [hc, hc2]
      simp only
      rw [if_neg hs, if_neg hs2, e9, lim_selects]
      simp only
      have hk := selects_keep { S with steps := S.steps - 1, next := S.next + 1 } S.next c
      have en : (S.lim d r).next = S.next := rfl
      rw [en]
      generalize (({ S with steps := S.steps - 1, next := S.next + 1 } : St).selects S.next c) = X at *
      split
      · exact cmp_does X.2 d r c (hk.1.trans h0) (by rw [hk.2.1]; exact hr)
      split
      · left; rfl
      · left; rfl
/-- dead of what was put out, or not -/
def D6 (S : St) : Prop := S.death = 0 ∨ (S.death = 6 ∧ S.over = true)
theorem d6_put {S : St} (h : D6 S) (l : List Cl) : D6 (S.put l) := by
  unfold put
  split
  · exact h
  rename_i h0
  split
  · right
    refine ⟨?_, rfl⟩
    show (if S.death = 0 then 6 else S.death) = 6
    rw [if_pos (by simpa using h0)]
  · exact h
theorem d6_fold (l : List ByteArray) : ∀ {S : St}, D6 S → D6 (l.foldl putText S) := by
  induction l with
  | nil => intro S h; exact h
  | cons x l ih => intro S h; exact ih (d6_put h _)
theorem d6_takePre {S : St} (h : S.death = 0) : D6 S.takePre := by
  unfold takePre
  have h0 : D6 { S with asks := 0 } := .inl h
  split
  · have h1 : D6 ({ S with asks := 0 } : St).putUQ := by unfold putUQ; split; exact h0; exact d6_put h0 _
    exact d6_fold _ h1
  · exact d6_fold _ h0
theorem cmp_take (S : St) (d r : Nat) (h0 : S.death = 0) (hr : S.room ≤ r) : Cmp S.take (S.lim d r).take d r := by
  rw [take_eq, take_eq (S.lim d r), lim_takePre]
  have el : (S.lim d r).takeLine = S.takeLine := rfl
  have et : (S.lim d r).took.nl = S.took.nl ∧ (S.lim d r).took.behind = S.took.behind := by
    unfold took
    have e1 : (S.lim d r).lend = S.lend := rfl
    have e2 : (S.lim d r).text = S.text := rfl
    rw [e1, e2]
    split <;> exact ⟨rfl, rfl⟩
  rw [el, et.1, et.2]
  cases hf : S.fits S.takeLine.length
  · rw [if_neg (by decide)]
    rcases d6_takePre h0 with h | ⟨h, ho⟩
    · right; left
      refine ⟨.inr ?_, rfl, ?_⟩
      · show (if S.takePre.death = 0 then 5 else S.takePre.death) = 5
        rw [if_pos h]
      · split
        · exact List.prefix_refl _
        · exact List.prefix_refl _
    · right; right
      refine ⟨?_, ?_, rfl, ?_, ?_⟩
      · show (if S.takePre.death = 0 then 5 else S.takePre.death) = 6
        rw [if_neg (by omega)]; exact h
      · split
        · exact h
        · show (if S.takePre.death = 0 then 5 else S.takePre.death) = 6
          rw [if_neg (by omega)]; exact h
      · split
        · exact ho
        · rfl
      · split <;> rfl
  · rw [if_pos rfl, if_pos (fits_lim hf hr)]
    left; rfl
theorem cmp_move (S : St) (d r : Nat) (h0 : S.death = 0) (hr : S.room ≤ r) : Cmp S.move (S.lim d r).move d r := by
  unfold move
  have e1 : (S.lim d r).asks = S.asks := rfl
  have e2 : (S.lim d r).ask = S.ask := rfl
  rw [e1, e2]
  split
  · exact cmp_reach S d r h0 hr
  split
  · left; rfl
  split
  · left; exact lim_doWithout S d r
  · exact cmp_take S d r h0 hr
end St
namespace DO
end DO
theorem still_lim (S : St) (d r : Nat) : (S.lim d r).still = S.still := rfl
theorem room_takePre (S : St) : S.takePre.room = S.room := by
  unfold St.takePre
  have h0 : St.Same S { S with asks := 0 } := ⟨rfl, rfl, rfl, rfl, rfl, rfl, rfl, rfl⟩
  exact (St.Same.trans (.ite (fun _ => h0.trans (St.same_putUQ _)) (fun _ => h0)) (St.same_putQueue _)).room
theorem room_move (S : St) : S.move.room = S.room := by
  unfold St.move
  split
  · exact (St.same_reach S).room
  split
  · rfl
  split
  · unfold St.doWithout
    split
    · rfl
    · exact (St.same_endEarly S).room
  · rw [St.take_eq]
    split
    · exact room_takePre S
    · exact room_takePre S
/-- with more steps and more room: the same, or the first one died of its limits and the other one put out the same and more -/
theorem goes_lim {S T : St} (hg : Goes S T) : ∀ {d r : Nat} {T' : St}, DO S → S.room ≤ r → Goes (S.lim d r) T' → St.Cmp T T' d r := by
  induction hg with
  | @stop S h =>
    intro d r T' _ _ hg'
    cases hg' with
    | stop _ => exact .inl rfl
    | step k _ => rw [still_lim, h] at k; cases k
  | @step S T h hg ih =>
    intro d r T' hd hr hg'
    cases hg' with
    | stop k => rw [still_lim, h] at k; cases k
    | step _ hg' =>
      have h0 : S.death = 0 := Nat.eq_zero_of_not_pos fun hp => by
        have := hd (by omega)
        unfold St.still at h
        rw [this] at h; cases h
      rcases St.cmp_move S d r h0 hr with e | ⟨a, b, c⟩ | ⟨a, a2, b, b2, c⟩
      · rw [e] at hg'
        exact ih hd.move (by rw [room_move]; exact hr) hg'
      · have et : T = S.move := by
          cases hg with
          | stop _ => rfl
          | step k _ => unfold St.still at k; rw [b] at k; cases k
        subst et
        exact .inr (.inl ⟨a, b, c.trans hg'.out⟩)
      · have et : T = S.move := by
          cases hg with
          | stop _ => rfl
          | step k _ => unfold St.still at k; rw [b] at k; cases k
        have et' : T' = (S.lim d r).move := by
          cases hg' with
          | stop _ => rfl
          | step k _ => unfold St.still at k; rw [b2] at k; cases k
        subst et et'
        exact .inr (.inr ⟨a, a2, b, b2, c⟩)
end M
end Go.Proofs.YtlppphmnegdhoabGreatDoor

namespace Go.Proofs.YtlppphmnegdhoabGreatDoor
set_option linter.unusedVariables false
namespace M
open St
/-- more steps, more room -/
theorem Ran.more {cs : List Cm} {quiet : Bool} {n a d r : Nat} {t : ByteArray} {R R' : St} (h : Ran cs quiet n a t R) (hr : a ≤ r) (g : Ran cs quiet (n + d) r t R') : St.Cmp R R' d r :=
  goes_lim h (fun h => by exact absurd rfl h) hr g
end M
end Go.Proofs.YtlppphmnegdhoabGreatDoor

namespace Go.Proofs.YtlppphmnegdhoabGreatDoor
set_option linter.unusedVariables false
set_option maxRecDepth 100000
open Go.RowKit
open M

theorem strs_one (w : World) (t : ByteArray) (T : TypeId) : StrsAt (w.alloc (.cells #[.string t] T)) (some ⟨w.heap.size, 0, none⟩) [t] := by
  refine ⟨.inr ⟨w.heap.size, 0, rfl, by simp, fun i hi => ?_⟩⟩
  obtain rfl : i = 0 := by simp at hi; exact hi
  rw [cell_of_row _ _ _ _ _ _ (heap_alloc_new w _)]
  rfl
theorem catB_one (t : ByteArray) : catB [t] = t := by show t ++ ⟨#[]⟩ = t; rw [ba_app_nil]
end Go.Proofs.YtlppphmnegdhoabGreatDoor

namespace Go.Proofs.YtlppphmnegdhoabGreatDoor
set_option linter.unusedVariables false
set_option maxRecDepth 100000
open Go.RowKit
open M

set_option maxRecDepth 100000 in
set_option maxHeartbeats 400000 in
theorem pickX_calls (c n : Int) (w : World) (h0 : -9223372036854775808 ≤ c) (h1 : c ≤ 9223372036854775807) (hn : 1 ≤ n) (hn2 : n ≤ 9223372036854775807) :
    Calls Tryz.prog 18 #[.int .i64 c, .int .i64 n] w fun e w' => (∃ x : Nat, e = .returned (.int .i64 x) ∧ (x : Int) < n) ∧ w' = w := by
  by_cases hc : c < 0
  · have hw1 : 0 ≤ -(c + 1) := by omega
    have hw2 : -(c + 1) ≤ 9223372036854775807 := by omega
    go_enter Tryz.func18, Tryz.ntmps18
    go_wp2
    go_ret
    have h2 : (-(c + 1)) % n < n := Int.emod_lt_of_pos _ (by omega)
    have h3 : 0 ≤ (-(c + 1)) % n := Int.emod_nonneg _ (by omega)
    exact ⟨⟨((-(c + 1)) % n).toNat, ret_int (by rw [← Int.neg_tmod, Int.tmod_eq_emod_of_nonneg hw1]; omega), by omega⟩, rfl⟩
  · have hc1 : 0 ≤ c := by omega
    go_enter Tryz.func18, Tryz.ntmps18
    go_wp2
    go_ret
    have h2 : c % n < n := Int.emod_lt_of_pos _ (by omega)
    have h3 : 0 ≤ c % n := Int.emod_nonneg _ (by omega)
    exact ⟨⟨(c % n).toNat, ret_int (by omega), by omega⟩, rfl⟩
theorem baC_pre {a b : List Cl} (h : a <+: b) : (baC a).size ≤ (baC b).size ∧ (baC b).extract 0 (baC a).size = baC a := by
  obtain ⟨c, rfl⟩ := h
  rw [baC_app]
  refine ⟨by simp, ?_⟩
  refine ba_ext ?_
  simp
  exact List.take_of_length_le (Nat.le_of_eq (ba_len _))
/-- with more steps and more room -/
structure PreOk (o j : ByteArray) (x : Int) (o' j' : ByteArray) (x' : Int) : Prop where
  le : o.size ≤ o'.size
  pre : o'.extract 0 o.size = o
  same : x = 0 ∨ x = 6 ∨ x = 2 ∨ x = 1 → o = o' ∧ j = j' ∧ x = x'
theorem PreOk.of_eq {o j : ByteArray} {x : Int} {o' j' : ByteArray} {x' : Int} (h : o = o' ∧ j = j' ∧ x = x') : PreOk o j x o' j' x' := by
  obtain ⟨rfl, rfl, rfl⟩ := h
  exact ⟨Nat.le_refl _, by simp, fun _ => ⟨rfl, rfl, rfl⟩⟩
theorem PlSpec.pre {s : ByteArray} {quiet : Bool} {n d a b : Nat} {t o j o' j' : ByteArray} {x x' : Int} (h : PlSpec s quiet (n : Nat) (a : Nat) t o j x) (g : PlSpec s quiet ((n + d : Nat) : Int) (b : Nat) t o' j' x') (hn : n + d ≤ 5000) (ha : 1 ≤ a) (hab : a ≤ b) (hb : b ≤ 256) : PreOk o j x o' j' x' := by
  have hO1 : ¬ OpenBad (n : Nat) (a : Nat) := by unfold OpenBad; omega
  have hO2 : ¬ OpenBad ((n + d : Nat) : Int) (b : Nat) := by unfold OpenBad; omega
  rcases h with ⟨n1, h1, h2, rfl, rfl⟩ | ⟨cs, h0, h1, h2, rfl, rfl, rfl⟩ | ⟨cs, R, h0, h1, h2, h3, rfl, rfl, _, _, h4, h5⟩ <;> rcases g with ⟨n', g1, g2, rfl, rfl⟩ | ⟨cs', g0, g1, g2, rfl, rfl, rfl⟩ | ⟨cs', R', g0, g1, g2, g3, rfl, rfl, _, _, g4, g5⟩
  · exact .of_eq ⟨rfl, rfl, (h1.same g1).2⟩
  · exact absurd g2 hO2
  · exact absurd (ckv_scr h1 g0 g1) h2
  · exact absurd h2 hO1
  · exact absurd h2 hO1
  · exact absurd h2 hO1
  · exact absurd (ckv_scr g1 h0 h1) g2
  · exact absurd g2 hO2
  · obtain rfl := h1.unique g1
    rw [Int.toNat_natCast, Int.toNat_natCast] at h3 g3
    rcases h3.more hab g3 with rfl | ⟨hd, _, hp⟩ | ⟨hd, hd', _, _, ho⟩
    · refine .of_eq ⟨rfl, ?_, rfl⟩
      by_cases hd : R.death = 0
      · exact ba_ext ((h5 hd).trans (g5 hd).symm)
      · rw [h4 hd, g4 hd]
    · obtain ⟨e1, e2⟩ := baC_pre hp
      exact ⟨e1, e2, fun hx => by omega⟩
    · refine .of_eq ⟨by rw [ho], ?_, by rw [hd, hd']⟩
      rw [h4 (by omega), g4 (by omega)]
end Go.Proofs.YtlppphmnegdhoabGreatDoor

namespace Go.Proofs.YtlppphmnegdhoabGreatDoor
set_option linter.unusedVariables false
set_option maxRecDepth 100000
open Go.RowKit
open M

set_option maxRecDepth 100000 in
set_option maxHeartbeats 8000000 in
theorem prefixed_walk (B : Nat) (s : ByteArray) (quiet : Bool) (steps msteps room mroom : Int) (t : ByteArray) (w : World) (hs : s.size ≤ maxLen) (ht : t.size ≤ maxLen) (hT : TabB B w) (hr1 : -9223372036854775808 ≤ steps) (hr2 : steps ≤ 9223372036854775807) (hr3 : -9223372036854775808 ≤ msteps) (hr4 : msteps ≤ 9223372036854775807) (hr5 : -9223372036854775808 ≤ room) (hr6 : room ≤ 9223372036854775807) (hr7 : -9223372036854775808 ≤ mroom) (hr8 : mroom ≤ 9223372036854775807) :
    Calls Tryz.prog 6 #[.string s, .bool quiet, .int .i64 steps, .int .i64 msteps, .int .i64 room, .int .i64 mroom, .string t] w fun e w' => e = .returned (.bool true) ∧ Below w.heap.size w w' := by
  have HT : Hid (TabB B w) := hT
  clear hT
  go_enter Tryz.func6, Tryz.ntmps6
  go_wp2_with fail
  refine (fits_calls t w ht).mono ?_
  rintro e wq ⟨rfl, hwq⟩
  rw [hwq]
  clear hwq
  by_cases hft : t.size ≤ 4096
  · rw [decide_eq_true hft]
    go_wp2_with fail
    refine (pickX_calls steps 5001 w hr1 hr2 (by decide) (by decide)).mono ?_
    rintro e wq ⟨⟨n, rfl, hn⟩, hwq⟩
    rw [hwq]
    clear hwq
    have b1 : 1 ≤ (5001 : Int) - n := by omega
    have b2 : (5001 : Int) - n ≤ 5001 := by omega
    go_wp2_with fail
    refine (pickX_calls msteps (5001 - n) w hr3 hr4 (by omega) (by omega)).mono ?_
    rintro e wq ⟨⟨d, rfl, hd⟩, hwq⟩
    rw [hwq]
    clear hwq
    have b3 : (n : Int) + d ≤ 5000 := by omega
    go_wp2_with fail
    refine (pickX_calls room 256 w hr5 hr6 (by decide) (by decide)).mono ?_
    rintro e wq ⟨⟨a0, rfl, ha⟩, hwq⟩
    rw [hwq]
    clear hwq
    have b4 : 1 ≤ (257 : Int) - (1 + a0) := by omega
    have b5 : (257 : Int) - (1 + a0) ≤ 257 := by omega
    go_wp2_with fail
    refine (pickX_calls mroom (257 - (1 + a0)) w hr7 hr8 (by omega) (by omega)).mono ?_
    rintro e wq ⟨⟨r0, rfl, hr⟩, hwq⟩
    rw [hwq]
    clear hwq
    have b6 : (1 : Int) + a0 + r0 ≤ 256 := by omega
    have b7 : (a0 : Int) ≤ 255 := by omega
    clear hn hd ha hr b1 b2 b4 b5
    obtain ⟨A, hA⟩ : ∃ A : Nat, (1 : Int) + a0 = (A : Nat) := ⟨1 + a0, by omega⟩
    obtain ⟨M, hM⟩ : ∃ M : Nat, (n : Int) + d = (M : Nat) := ⟨n + d, by omega⟩
    obtain ⟨R, hR⟩ : ∃ R : Nat, (1 : Int) + a0 + r0 = (R : Nat) := ⟨1 + a0 + r0, by omega⟩
    have c1 : M ≤ 5000 := by omega
    have c2 : R ≤ 256 := by omega
    have E1 : Hid (M = n + d) := by show _ = _; omega
    have E2 : Hid (A ≤ R) := by show _ ≤ _; omega
    have E3 : Hid (1 ≤ A) := by show _ ≤ _; omega
    have EA : Hid ((1 : Int) + a0 = (A : Nat)) := hA
    have EM : Hid ((n : Int) + d = (M : Nat)) := hM
    have ER : Hid ((A : Int) + r0 = (R : Nat)) := by show _ = _; omega
    have c3 : A ≤ 256 := by omega
    clear hA hM hR
    have HT1 : Hid (TabB B (w.alloc (.cells #[.string t] 9))) := HT.out.below (((Below.refl w.heap.size w).alloc (Nat.le_refl _) _).mono HT.out.1)
    have HS1 : Hid (StrsAt (w.alloc (.cells #[.string t] 9)) (some ⟨w.heap.size, 0, none⟩) [t]) := strs_one w t _
    have hB1 := (Below.refl w.heap.size w).alloc (Nat.le_refl _) (.cells #[.string t] 9)
    go_wp2_with fail
    rw [EA.out]
    have HC := played_calls B s quiet (n : Nat) (A : Nat) (some ⟨w.heap.size, 0, none⟩) 1 [t] _ hs HT1.out (by omega) (by omega) (by omega) (by omega) HS1.out (by simp) (by rw [catB_one]; exact hft)
    refine HC.mono ?_
    clear HC
    rintro e w2 ⟨B2, out, j, x, rfl, hpl⟩
    rw [catB_one] at hpl
    have HPL : Hid (PlSpec s quiet (n : Nat) (A : Nat) t out j x) := hpl
    have hB2 := hB1.trans (B2.mono hB1.size)
    have hs2 := hB2.size
    have hbn : CB (w2.alloc (.cells #[.string ⟨#[]⟩, .string ⟨#[]⟩, .int .i64 0] 33)) w2.heap.size (plL ⟨#[]⟩ ⟨#[]⟩ 0) := CB.new w2 33 #[.string ⟨#[]⟩, .string ⟨#[]⟩, .int .i64 0] (plL_one _ _ _)
    have hB3 := hB2.alloc (o := .cells #[.string ⟨#[]⟩, .string ⟨#[]⟩, .int .i64 0] 33) hs2
    clear hpl HT1 HS1 B2 hB1 hB2
    go_wp2_with (refine cb_store0 rtPl hbn rfl rfl _ _ rfl rfl (vs := plL out j x) rfl rfl (plL_one _ _ _) ?_
                 intro w4 hb4 O4
                 have l4 := hb4.lt
                 have hB4 := hB3.trans (O4.below (B := w.heap.size) (by omega))
                 have hs4 := hB4.size)
    have HT4 : Hid (TabB B (w4.alloc (.cells #[.string t] 9))) := HT.out.below ((hB4.alloc hs4 _).mono HT.out.1)
    have HS4 : Hid (StrsAt (w4.alloc (.cells #[.string t] 9)) (some ⟨w4.heap.size, 0, none⟩) [t]) := strs_one w4 t _
    have hbA := hb4.below ((Below.refl w4.heap.size w4).alloc (Nat.le_refl _) (.cells #[.string t] 9)) hb4.lt
    have hBA := hB4.alloc (o := .cells #[.string t] 9) hs4
    rw [EM.out, ER.out]
    have HC := played_calls B s quiet (M : Nat) (R : Nat) (some ⟨w4.heap.size, 0, none⟩) 1 [t] _ hs HT4.out (by omega) (by omega) (by omega) (by omega) HS4.out (by simp) (by rw [catB_one]; exact hft)
    refine HC.mono ?_
    clear HC
    rintro e w5 ⟨B5, out', j', x', rfl, hpl'⟩
    rw [catB_one] at hpl'
    have HPM : Hid (PlSpec s quiet (M : Nat) (R : Nat) t out' j' x') := hpl'
    have HPR : Hid (PreOk out j x out' j' x') := by
      have h := HPM.out
      rw [E1.out] at h
      exact HPL.out.pre h (by have := E1.out; omega) E3.out E2.out (by omega)
    have hb5 := hbA.below B5 hbA.lt
    have hB5 := hBA.trans (B5.mono hBA.size)
    have hs5 := hB5.size
    have hl5 := hb5.lt
    have hbn5 : CB (w5.alloc (.cells #[.string ⟨#[]⟩, .string ⟨#[]⟩, .int .i64 0] 33)) w5.heap.size (plL ⟨#[]⟩ ⟨#[]⟩ 0) := CB.new w5 33 #[.string ⟨#[]⟩, .string ⟨#[]⟩, .int .i64 0] (plL_one _ _ _)
    have hb5a := hb5.below ((Below.refl w5.heap.size w5).alloc (Nat.le_refl _) (.cells #[.string ⟨#[]⟩, .string ⟨#[]⟩, .int .i64 0] 33)) hb5.lt
    have hB5a := hB5.alloc (o := .cells #[.string ⟨#[]⟩, .string ⟨#[]⟩, .int .i64 0] 33) hs5
    clear hpl' hbA hBA hb4 hB4 hB3 hbn O4 hb5 hB5 HS4 HT4 B5 E1 E2 E3
    go_wp2_with (first
      | (refine cb_store0 rtPl hbn5 rfl rfl _ _ rfl rfl (vs := plL out' j' x') rfl rfl (plL_one _ _ _) ?_
         intro w6 hb6 O6
         have l6 := hb6.lt
         have hc6 := hb5a.keep (O6.block _ (by omega)) (by rw [O6.size]; exact Nat.le_refl _)
         have hB6 := hB5a.trans (O6.below (B := w.heap.size) (by omega)))
      | refine cb_load0 rtPl hb6 rfl rfl _ rfl rfl ?_)
    refine (backs_calls out' j' t x' w6 (fun hx => HPM.out.back hft hx)).mono ?_
    rintro e w7 ⟨rfl, B7⟩
    have hb7 := hb6.below B7 hb6.lt
    have hc7 := hc6.below B7 hc6.lt
    have hB7 := hB6.trans (B7.mono hB6.size)
    have hs7 := hB7.size
    have HT7 : Hid (TabB B (w7.alloc (.cells #[.string t] 9))) := HT.out.below ((hB7.alloc hs7 _).mono HT.out.1)
    have HS7 : Hid (StrsAt (w7.alloc (.cells #[.string t] 9)) (some ⟨w7.heap.size, 0, none⟩) [t]) := strs_one w7 t _
    have hb7a := hb7.below ((Below.refl w7.heap.size w7).alloc (Nat.le_refl _) (.cells #[.string t] 9)) hb7.lt
    have hc7a := hc7.below ((Below.refl w7.heap.size w7).alloc (Nat.le_refl _) (.cells #[.string t] 9)) hc7.lt
    have hB7a := hB7.alloc (o := .cells #[.string t] 9) hs7
    clear hb6 hc6 hB6 hB5a hb5a hbn5 O6 hb7 hc7 hB7 B7
    go_wp2_with fail
    have HC := copies_calls B (some ⟨w7.heap.size, 0, none⟩) 1 [t] _ HT7.out HS7.out (by simp) (by rw [catB_one]; exact hft)
    refine HC.mono ?_
    clear HC
    rintro e w8 ⟨rfl, B8⟩
    have hb8 := hb7a.below B8 hb7a.lt
    have hc8 := hc7a.below B8 hc7a.lt
    have hB8 := hB7a.trans (B8.mono hB7a.size)
    have e0 := hb8.c 0 _ rfl
    have e1 := hb8.c 1 _ rfl
    have e2 := hb8.c 2 _ rfl
    have l8 := hb8.lt
    have f0 := hc8.c 0 _ rfl
    have f1 := hc8.c 1 _ rfl
    have f2 := hc8.c 2 _ rfl
    have k8 := hc8.lt
    have hle : ¬ (out'.size : Int) < (out.size : Int) := by have := HPR.out.le; omega
    clear hb7a hc7a hB7a HS7 HT7 B8
    by_cases hx : x = 0 ∨ x = 6 ∨ x = 2 ∨ x = 1
    · obtain ⟨rfl, rfl, rfl⟩ := HPR.out.same hx
      rcases hx with rfl | rfl | rfl | rfl
      all_goals
        go_wp2
        go_ret
        exact ⟨rfl, hB8⟩
    · have n0 : (x == 0) = false := by simp only [beq_eq_false_iff_ne, ne_eq]; omega
      have n6 : (x == 6) = false := by simp only [beq_eq_false_iff_ne, ne_eq]; omega
      have n2 : (x == 2) = false := by simp only [beq_eq_false_iff_ne, ne_eq]; omega
      have n1 : (x == 1) = false := by simp only [beq_eq_false_iff_ne, ne_eq]; omega
      clear hx
      go_wp2_with fail
      have hpre : out'.extract 0 out.size = out := HPR.out.pre
      go_region_held3 (fun w' => w'.cell? ⟨w5.heap.size, 0, none⟩ = some (.string out') ∧ w'.cell? ⟨w2.heap.size, 0, none⟩ = some (.string out) ∧ w5.heap.size < w'.heap.size ∧ w2.heap.size < w'.heap.size)
        (go_keep)
        (fail)
      clear e0 e1 e2 f0 f1 f2
      go_wp2
      go_ret
      exact ⟨rfl, hB8.drew⟩
  · rw [decide_eq_false hft]
    go_wp2
    go_ret
    exact ⟨rfl, Below.refl _ _⟩
end Go.Proofs.YtlppphmnegdhoabGreatDoor

