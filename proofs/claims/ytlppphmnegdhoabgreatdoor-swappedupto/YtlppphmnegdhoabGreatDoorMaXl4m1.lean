import Derived.Test.YtlppphmnegdhoabGreatDoorRows
import Derived.WalkKit
import Derived.WalkSpells
import Derived.WalkLawsBesides
import Derived.Laws.BitsLemmas
import Derived.Lib.ItoaNum
import Derived.Lib.Strings
import Derived.Deep.QuietTactic
import Derived.BigQuiet
import Derived.Laws.BytesArg
import Derived.Deep.MidRow
import Derived.Deep.WholeRow
import Derived.Laws.ResultCell
import Derived.Deep.CutBlock
import Derived.Deep.DeepCutAuto
import Derived.Deep.RegionHeld3
import Derived.Deep.DrawnRows
import Derived.Deep.AppendLies
import Derived.Deep.RegionLaw
import Derived.Great.BuildSlice
import Derived.Laws.AppendOwnNone
import Derived.Laws.OwnMore
import Derived.Lib.AppendStr
import Derived.Deep.RegionWith
import Derived.Shelf.LaysM
import Derived.Shelf.Strconv.Itoa3
import Derived.Test.YtlppphmnegdhoabGreatDoorProg
import Derived.RegionTactic
import Derived.Laws.CopyOwn
import Derived.ProofKit
import Derived.OpenShut
import Derived.ShutString
import Derived.ChangeOld
import Derived.Below
import Derived.SizedLaws
import Derived.Deep.Slices
import Derived.Deep.Strs
import Derived.Test.YtlppphmnegdhoabGreatDoorMa13
namespace Go.Proofs.YtlppphmnegdhoabGreatDoor
set_option linter.unusedVariables false
namespace M
namespace St
/-- the same run with more steps, and another room -/
def lim (S : St) (d r : Nat) : St := { S with steps := S.steps + d, room := r }
theorem lim_put (S : St) (d r : Nat) (l : List Cl) : (S.lim d r).put l = (S.put l).lim d r := by
  have h : (S.lim d r).put l = if S.death ≠ 0 then S.lim d r else if 4096 - S.out.length < l.length then (S.die 6).lim d r else { S with out := S.out ++ l }.lim d r := rfl
  rw [h]
  unfold put
  split
  · rfl
  · split <;> rfl
theorem lim_putText (S : St) (d r : Nat) (x : ByteArray) : (S.lim d r).putText x = (S.putText x).lim d r := lim_put S d r _
theorem lim_putPat (S : St) (d r : Nat) : (S.lim d r).putPat = S.putPat.lim d r := lim_put S d r _
theorem lim_putUQ (S : St) (d r : Nat) : (S.lim d r).putUQ = S.putUQ.lim d r := by
  have h : (S.lim d r).putUQ = if S.quiet then S.lim d r else (S.lim d r).putPat := rfl
  rw [h, lim_putPat]
  unfold putUQ
  split <;> rfl
theorem lim_putFirst (S : St) (d r : Nat) : (S.lim d r).putFirst = S.putFirst.lim d r := by
  have h : (S.lim d r).putFirst = if behNL S.pat = 0 then (S.lim d r).putPat else (S.lim d r).put (partC S.pat 0 (behNL S.pat)) := rfl
  rw [h, lim_putPat, lim_put]
  unfold putFirst
  split <;> rfl
theorem lim_fold (l : List ByteArray) (d r : Nat) : ∀ S : St, l.foldl putText (S.lim d r) = (l.foldl putText S).lim d r := by
  induction l with
  | nil => intro S; rfl
  | cons x l ih => intro S; rw [List.foldl_cons, List.foldl_cons, lim_putText, ih]
theorem lim_putQueue (S : St) (d r : Nat) : (S.lim d r).putQueue = S.putQueue.lim d r := by
  have h : (S.lim d r).putQueue = { S.queue.foldl putText (S.lim d r) with queue := [] } := rfl
  rw [h, lim_fold]
  rfl
theorem lim_endCycle (S : St) (d r : Nat) : (S.lim d r).endCycle = S.endCycle.lim d r := by
  unfold endCycle
  rw [lim_putQueue]
  rfl
theorem lim_endEarly (S : St) (d r : Nat) : (S.lim d r).endEarly = S.endEarly.lim d r := by
  unfold endEarly
  rw [lim_putUQ, lim_putQueue]
  rfl
theorem lim_dropFirst (S : St) (d r : Nat) : (S.lim d r).dropFirst = S.dropFirst.lim d r := by
  have h : (S.lim d r).dropFirst = if behNL S.pat = 0 then (S.lim d r).endCycle else { ({ S with pat := partC S.pat (behNL S.pat) S.pat.length }.lim d r).putQueue with next := 0 } := rfl
  rw [h, lim_endCycle, lim_putQueue]
  unfold dropFirst
  split <;> rfl
theorem lim_show (S : St) (d r : Nat) (k : Cm) : (S.lim d r).show' k = (S.show' k).lim d r := by
  have h : (S.lim d r).show' k = if k.name = 112 then (S.lim d r).putPat else if k.name = 80 then (S.lim d r).putFirst else if k.name = 61 then (S.lim d r).putText (itoa S.line) else if k.name = 105 then (S.lim d r).putText k.text else { S with queue := S.queue ++ [k.text] }.lim d r := rfl
  rw [h, lim_putPat, lim_putFirst, lim_putText, lim_putText]
  unfold show'
  split
  · rfl
  split
  · rfl
  split
  · rfl
  split <;> rfl
theorem lim_lead (S : St) (d r : Nat) (k : Cm) : (S.lim d r).lead k = (S.lead k).lim d r := by
  have h : (S.lim d r).lead k = if k.name = 100 then (S.lim d r).endCycle else if k.name = 68 then (S.lim d r).dropFirst else if k.name = 99 then ((S.lim d r).putText k.text).endCycle else if k.name = 110 then { S with asks := 2 }.lim d r else if k.name = 78 then { S with asks := 3 }.lim d r
    else if k.name = 113 then (S.lim d r).endEarly else if k.name = 98 then { S with next := k.next }.lim d r else if S.mark then { S with mark := false, next := k.next }.lim d r else S.lim d r := rfl
  rw [h, lim_endCycle, lim_dropFirst, lim_putText, lim_endCycle, lim_endEarly]
  unfold lead
  split
  · rfl
  split
  · rfl
  split
  · rfl
  split
  · rfl
  split
  · rfl
  split
  · rfl
  split
  · rfl
  split <;> rfl
theorem lim_holds (S : St) (d r : Nat) (a : Adr) : (S.lim d r).holds a = S.holds a := rfl
theorem lim_ranged (S : St) (d r : Nat) (k : Nat) (a : Cm) : (S.lim d r).ranged k a = ((S.ranged k a).1, (S.ranged k a).2.lim d r) := by
  unfold ranged
  rw [lim_holds, lim_holds]
  have e : (S.lim d r).rng = S.rng := rfl
  rw [e]
  split <;> rfl
theorem lim_selects (S : St) (d r : Nat) (k : Nat) (a : Cm) : (S.lim d r).selects k a = ((S.selects k a).1, (S.selects k a).2.lim d r) := by
  unfold selects
  rw [lim_ranged, lim_holds]
  split
  · rfl
  split <;> rfl
theorem lim_doWithout (S : St) (d r : Nat) : (S.lim d r).doWithout = S.doWithout.lim d r := by
  unfold doWithout
  have e : (S.lim d r).asks = S.asks := rfl
  rw [e, lim_endEarly]
  split <;> rfl
theorem lim_takePre (S : St) (d r : Nat) : (S.lim d r).takePre = S.takePre.lim d r := by
  have e : (S.lim d r).takePre = (if S.asks = 2 then (({ S with asks := 0 } : St).lim d r).putUQ else ({ S with asks := 0 } : St).lim d r).putQueue := rfl
  rw [e, lim_putUQ]
  unfold takePre
  split
  · rw [lim_putQueue]
  · rw [lim_putQueue]
/-- how a step with less compares with one with more: the same; or it died of its limits -/
def Cmp (A B : St) (d r : Nat) : Prop := B = A.lim d r ∨ ((A.death = 4 ∨ A.death = 5) ∧ A.over = true ∧ A.out <+: B.out) ∨ (A.death = 6 ∧ B.death = 6 ∧ A.over = true ∧ B.over = true ∧ A.out = B.out)
theorem Cmp.die {S B : St} {d r : Nat} (h0 : S.death = 0) (hB : S.out <+: B.out) : Cmp (S.die 5) B d r := by
  right; left
  refine ⟨.inr ?_, rfl, hB⟩
  show (if S.death = 0 then 5 else S.death) = 5
  rw [if_pos h0]
theorem fits_lim {S : St} {n d r : Nat} (h : S.fits n = true) (hr : S.room ≤ r) : (S.lim d r).fits n = true := by
  have := of_decide_eq_true h
  exact decide_eq_true (by show n ≤ r; omega)
theorem cmp_subst (S : St) (d r : Nat) (s : Sbs) (h0 : S.death = 0) (hr : S.room ≤ r) : Cmp (S.subst s) ((S.lim d r).subst s) d r := by
  have hpre := (gr_subst (S.lim d r) s).out
  have hp : S.out <+: ((S.lim d r).subst s).out := hpre
  cases hf : S.fits (replC S.pat s (mtsX s.ex (textC S.pat)) 1 0).length
  · by_cases hm : (mtsX s.ex (textC S.pat)).length < s.count
    · left
      unfold subst
      simp only
      have e : (S.lim d r).pat = S.pat := rfl
      rw [e, if_pos hm, if_pos hm]
    · have e : S.subst s = S.die 5 := by unfold subst; simp only; rw [if_neg hm, hf, if_neg (by decide)]
      rw [e]; exact .die h0 hp
  · left
    have hf2 := fits_lim (d := d) hf hr
    unfold subst
    simp only
    have e : (S.lim d r).pat = S.pat := rfl
    rw [e, hf, hf2]
    split
    · rfl
    · simp only [if_true]
      have e2 : ({ S.lim d r with pat := replC S.pat s (mtsX s.ex (textC S.pat)) 1 0, mark := true } : St) = ({ S with pat := replC S.pat s (mtsX s.ex (textC S.pat)) 1 0, mark := true } : St).lim d r := rfl
      rw [e2, lim_putPat]
      split <;> rfl
theorem cmp_change (S : St) (d r : Nat) (c : Cm) (h0 : S.death = 0) (hr : S.room ≤ r) : Cmp (S.change c) ((S.lim d r).change c) d r := by
  have hpre : S.out <+: ((S.lim d r).change c).out := (gr_change (S.lim d r) c).out
  by_cases n1 : c.name = 104
  · left; unfold change; rw [if_pos n1, if_pos n1]; rfl
  by_cases n2 : c.name = 103
  · left; unfold change; rw [if_neg n1, if_neg n1, if_pos n2, if_pos n2]; rfl
  by_cases n3 : c.name = 120
  · left; unfold change; rw [if_neg n1, if_neg n1, if_neg n2, if_neg n2, if_pos n3, if_pos n3]; rfl
  by_cases n4 : c.name = 72
  · cases hf : S.fits (joinC S.hold (nlC (-1)) S.pat).length
    · have e : S.change c = S.die 5 := by unfold change; rw [if_neg n1, if_neg n2, if_neg n3, if_pos n4]; simp only; rw [hf, if_neg (by decide)]
      rw [e]; exact .die h0 hpre
    · left
      have hf2 := fits_lim (d := d) hf hr
      unfold change
      rw [if_neg n1, if_neg n1, if_neg n2, if_neg n2, if_neg n3, if_neg n3, if_pos n4, if_pos n4]
      simp only
      have e1 : (S.lim d r).pat = S.pat := rfl
      have e2 : (S.lim d r).hold = S.hold := rfl
      rw [e1, e2, hf, hf2]; rfl
  by_cases n5 : c.name = 71
  · cases hf : S.fits (joinC S.pat (nlC (-1)) S.hold).length
    · have e : S.change c = S.die 5 := by unfold change; rw [if_neg n1, if_neg n2, if_neg n3, if_neg n4, if_pos n5]; simp only; rw [hf, if_neg (by decide)]
      rw [e]; exact .die h0 hpre
    · left
      have hf2 := fits_lim (d := d) hf hr
      unfold change
      rw [if_neg n1, if_neg n1, if_neg n2, if_neg n2, if_neg n3, if_neg n3, if_neg n4, if_neg n4, if_pos n5, if_pos n5]
      simp only
      have e1 : (S.lim d r).pat = S.pat := rfl
      have e2 : (S.lim d r).hold = S.hold := rfl
      rw [e1, e2, hf, hf2]; rfl
  by_cases n6 : c.name = 115
  · have e1 : S.change c = S.subst c.sub := by unfold change; rw [if_neg n1, if_neg n2, if_neg n3, if_neg n4, if_neg n5, if_pos n6]
    have e2 : (S.lim d r).change c = (S.lim d r).subst c.sub := by unfold change; rw [if_neg n1, if_neg n2, if_neg n3, if_neg n4, if_neg n5, if_pos n6]
    rw [e1, e2]; exact cmp_subst S d r c.sub h0 hr
  · left; unfold change; rw [if_neg n1, if_neg n1, if_neg n2, if_neg n2, if_neg n3, if_neg n3, if_neg n4, if_neg n4, if_neg n5, if_neg n5, if_neg n6, if_neg n6]; rfl
theorem cmp_does (S : St) (d r : Nat) (c : Cm) (h0 : S.death = 0) (hr : S.room ≤ r) : Cmp (S.does c) ((S.lim d r).does c) d r := by
  unfold does
  split
  · left; exact lim_show S d r c
  split
  · exact cmp_change S d r c h0 hr
  split
  · left; exact lim_lead S d r c
  · left; rfl
theorem cmp_reach (S : St) (d r : Nat) (h0 : S.death = 0) (hr : S.room ≤ r) : Cmp S.reach (S.lim d r).reach d r := by
  have hpre : S.out <+: (S.lim d r).reach.out := (pre_reach (S.lim d r)).1
  cases hc : S.cs[S.next]? with
  | none =>
    left
    have hc2 : (S.lim d r).cs[(S.lim d r).next]? = none := hc
    unfold reach
    rw [hc, hc2]
    simp only
    rw [lim_putUQ, lim_endCycle]
  | some c =>
    have hc2 : (S.lim d r).cs[(S.lim d r).next]? = some c := hc
    by_cases hs : S.steps = 0
    · right; left
      have e : S.reach = S.die 4 := by unfold reach; rw [hc]; simp only; rw [if_pos hs]
      rw [e]
      refine ⟨.inl ?_, rfl, hpre⟩
      show (if S.death = 0 then 4 else S.death) = 4
      rw [if_pos h0]
    · have hs2 : ¬ (S.lim d r).steps = 0 := by show ¬ S.steps + d = 0; omega
      have e9 : ({ S.lim d r with steps := (S.lim d r).steps - 1, next := (S.lim d r).next + 1 } : St) = ({ S with steps := S.steps - 1, next := S.next + 1 } : St).lim d r := by
        have : S.steps + d - 1 = S.steps - 1 + d := by omega
        show ({ S with steps := S.steps + d - 1, room := r, next := S.next + 1 } : St) = { S with steps := S.steps - 1 + d, room := r, next := S.next + 1 }
        rw [this]
      unfold reach
      rw [hc, hc2]
      simp only
      rw [if_neg hs, if_neg hs2, e9, lim_selects]
      simp only
      have hk := selects_keep { S with steps := S.steps - 1, next := S.next + 1 } S.next c
      have en : (S.lim d r).next = S.next := rfl
      rw [en]
      generalize (({ S with steps := S.steps - 1, next := S.next + 1 } : St).selects S.next c) = X at *
      split
      · exact cmp_does X.2 d r c (hk.1.trans h0) (by rw [hk.2.1]; exact hr)
      split
      · left; rfl
      · left; rfl
/-- dead of what was put out, or not -/
def D6 (S : St) : Prop := S.death = 0 ∨ (S.death = 6 ∧ S.over = true)
theorem d6_put {S : St} (h : D6 S) (l : List Cl) : D6 (S.put l) := by
  unfold put
  split
  · exact h
  rename_i h0
  split
  · right
    refine ⟨?_, rfl⟩
    show (if S.death = 0 then 6 else S.death) = 6
    rw [if_pos (by simpa using h0)]
  · exact h
theorem d6_fold (l : List ByteArray) : ∀ {S : St}, D6 S → D6 (l.foldl putText S) := by
  induction l with
  | nil => intro S h; exact h
  | cons x l ih => intro S h; exact ih (d6_put h _)
theorem d6_takePre {S : St} (h : S.death = 0) : D6 S.takePre := by
  unfold takePre
  have h0 : D6 { S with asks := 0 } := .inl h
  split
  · have h1 : D6 ({ S with asks := 0 } : St).putUQ := by unfold putUQ; split; exact h0; exact d6_put h0 _
    exact d6_fold _ h1
  · exact d6_fold _ h0
theorem cmp_take (S : St) (d r : Nat) (h0 : S.death = 0) (hr : S.room ≤ r) : Cmp S.take (S.lim d r).take d r := by
  rw [take_eq, take_eq (S.lim d r), lim_takePre]
  have el : (S.lim d r).takeLine = S.takeLine := rfl
  have et : (S.lim d r).took.nl = S.took.nl ∧ (S.lim d r).took.behind = S.took.behind := by
    unfold took
    have e1 : (S.lim d r).lend = S.lend := rfl
    have e2 : (S.lim d r).text = S.text := rfl
    rw [e1, e2]
    split <;> exact ⟨rfl, rfl⟩
  rw [el, et.1, et.2]
  cases hf : S.fits S.takeLine.length
  · rw [if_neg (by decide)]
    rcases d6_takePre h0 with h | ⟨h, ho⟩
    · right; left
      refine ⟨.inr ?_, rfl, ?_⟩
      · show (if S.takePre.death = 0 then 5 else S.takePre.death) = 5
        rw [if_pos h]
      · split
        · exact List.prefix_refl _
        · exact List.prefix_refl _
    · right; right
      refine ⟨?_, ?_, rfl, ?_, ?_⟩
      · show (if S.takePre.death = 0 then 5 else S.takePre.death) = 6
        rw [if_neg (by omega)]; exact h
      · split
        · exact h
        · show (if S.takePre.death = 0 then 5 else S.takePre.death) = 6
          rw [if_neg (by omega)]; exact h
      · split
        · exact ho
        · rfl
      · split <;> rfl
  · rw [if_pos rfl, if_pos (fits_lim hf hr)]
    left; rfl
theorem cmp_move (S : St) (d r : Nat) (h0 : S.death = 0) (hr : S.room ≤ r) : Cmp S.move (S.lim d r).move d r := by
  unfold move
  have e1 : (S.lim d r).asks = S.asks := rfl
  have e2 : (S.lim d r).ask = S.ask := rfl
  rw [e1, e2]
  split
  · exact cmp_reach S d r h0 hr
  split
  · left; rfl
  split
  · left; exact lim_doWithout S d r
  · exact cmp_take S d r h0 hr
end St
namespace DO
end DO
theorem still_lim (S : St) (d r : Nat) : (S.lim d r).still = S.still := rfl
theorem room_takePre (S : St) : S.takePre.room = S.room := by
  unfold St.takePre
  have h0 : St.Same S { S with asks := 0 } := ⟨rfl, rfl, rfl, rfl, rfl, rfl, rfl, rfl⟩
  exact (St.Same.trans (.ite (fun _ => h0.trans (St.same_putUQ _)) (fun _ => h0)) (St.same_putQueue _)).room
theorem room_move (S : St) : S.move.room = S.room := by
  unfold St.move
  split
  · exact (St.same_reach S).room
  split
  · rfl
  split
  · unfold St.doWithout
    split
    · rfl
    · exact (St.same_endEarly S).room
  · rw [St.take_eq]
    split
    · exact room_takePre S
    · exact room_takePre S
/-- with more steps and more room: the same, or the first one died of its limits and the other one put out the same and more -/
theorem goes_lim {S T : St} (hg : Goes S T) : ∀ {d r : Nat} {T' : St}, DO S → S.room ≤ r → Goes (S.lim d r) T' → St.Cmp T T' d r := by
  induction hg with
  | @stop S h =>
    intro d r T' _ _ hg'
    cases hg' with
    | stop _ => exact .inl rfl
    | step k _ => rw [still_lim, h] at k; cases k
  | @step S T h hg ih =>
    intro d r T' hd hr hg'
    cases hg' with
    | stop k => rw [still_lim, h] at k; cases k
    | step _ hg' =>
      have h0 : S.death = 0 := Nat.eq_zero_of_not_pos fun hp => by
        have := hd (by omega)
        unfold St.still at h
        rw [this] at h; cases h
      rcases St.cmp_move S d r h0 hr with e | ⟨a, b, c⟩ | ⟨a, a2, b, b2, c⟩
      · rw [e] at hg'
        exact ih hd.move (by rw [room_move]; exact hr) hg'
      · have et : T = S.move := by
          cases hg with
          | stop _ => rfl
          | step k _ => unfold St.still at k; rw [b] at k; cases k
        subst et
        exact .inr (.inl ⟨a, b, c.trans hg'.out⟩)
      · have et : T = S.move := by
          cases hg with
          | stop _ => rfl
          | step k _ => unfold St.still at k; rw [b] at k; cases k
        have et' : T' = (S.lim d r).move := by
          cases hg' with
          | stop _ => rfl
          | step k _ => unfold St.still at k; rw [b2] at k; cases k
        subst et et'
        exact .inr (.inr ⟨a, a2, b, b2, c⟩)
end M
end Go.Proofs.YtlppphmnegdhoabGreatDoor

namespace Go.Proofs.YtlppphmnegdhoabGreatDoor
set_option linter.unusedVariables false
namespace M
open St
/-- more steps, more room -/
theorem Ran.more {cs : List Cm} {quiet : Bool} {n a d r : Nat} {t : ByteArray} {R R' : St} (h : Ran cs quiet n a t R) (hr : a ≤ r) (g : Ran cs quiet (n + d) r t R') : St.Cmp R R' d r :=
  goes_lim h (fun h => by exact absurd rfl h) hr g
end M
end Go.Proofs.YtlppphmnegdhoabGreatDoor

namespace Go.Proofs.YtlppphmnegdhoabGreatDoor
set_option linter.unusedVariables false
set_option maxRecDepth 100000
open Go.RowKit
open M

theorem baC_pre {a b : List Cl} (h : a <+: b) : (baC a).size ≤ (baC b).size ∧ (baC b).extract 0 (baC a).size = baC a := by
  obtain ⟨c, rfl⟩ := h
  rw [baC_app]
  refine ⟨by simp, ?_⟩
  refine ba_ext ?_
  simp
  exact List.take_of_length_le (Nat.le_of_eq (ba_len _))
/-- with more steps and more room -/
structure PreOk (o j : ByteArray) (x : Int) (o' j' : ByteArray) (x' : Int) : Prop where
  le : o.size ≤ o'.size
  pre : o'.extract 0 o.size = o
  same : x = 0 ∨ x = 6 ∨ x = 2 ∨ x = 1 → o = o' ∧ j = j' ∧ x = x'
theorem PreOk.of_eq {o j : ByteArray} {x : Int} {o' j' : ByteArray} {x' : Int} (h : o = o' ∧ j = j' ∧ x = x') : PreOk o j x o' j' x' := by
  obtain ⟨rfl, rfl, rfl⟩ := h
  exact ⟨Nat.le_refl _, by simp, fun _ => ⟨rfl, rfl, rfl⟩⟩
theorem PlSpec.pre {s : ByteArray} {quiet : Bool} {n d a b : Nat} {t o j o' j' : ByteArray} {x x' : Int} (h : PlSpec s quiet (n : Nat) (a : Nat) t o j x) (g : PlSpec s quiet ((n + d : Nat) : Int) (b : Nat) t o' j' x') (hn : n + d ≤ 5000) (ha : 1 ≤ a) (hab : a ≤ b) (hb : b ≤ 256) : PreOk o j x o' j' x' := by
  have hO1 : ¬ OpenBad (n : Nat) (a : Nat) := by unfold OpenBad; omega
  have hO2 : ¬ OpenBad ((n + d : Nat) : Int) (b : Nat) := by unfold OpenBad; omega
  rcases h with ⟨n1, h1, h2, rfl, rfl⟩ | ⟨cs, h0, h1, h2, rfl, rfl, rfl⟩ | ⟨cs, R, h0, h1, h2, h3, rfl, rfl, _, _, h4, h5⟩ <;> rcases g with ⟨n', g1, g2, rfl, rfl⟩ | ⟨cs', g0, g1, g2, rfl, rfl, rfl⟩ | ⟨cs', R', g0, g1, g2, g3, rfl, rfl, _, _, g4, g5⟩
  · exact .of_eq ⟨rfl, rfl, (h1.same g1).2⟩
  · exact absurd g2 hO2
  · exact absurd (ckv_scr h1 g0 g1) h2
  · exact absurd h2 hO1
  · exact absurd h2 hO1
  · exact absurd h2 hO1
  · exact absurd (ckv_scr g1 h0 h1) g2
  · exact absurd g2 hO2
  · obtain rfl := h1.unique g1
    rw [Int.toNat_natCast, Int.toNat_natCast] at h3 g3
    rcases h3.more hab g3 with rfl | ⟨hd, _, hp⟩ | ⟨hd, hd', _, _, ho⟩
    · refine .of_eq ⟨rfl, ?_, rfl⟩
      by_cases hd : R.death = 0
      · exact ba_ext ((h5 hd).trans (g5 hd).symm)
      · rw [h4 hd, g4 hd]
    · obtain ⟨e1, e2⟩ := baC_pre hp
      exact ⟨e1, e2, fun hx => by omega⟩
    · refine .of_eq ⟨by rw [ho], ?_, by rw [hd, hd']⟩
      rw [h4 (by omega), g4 (by omega)]
end Go.Proofs.YtlppphmnegdhoabGreatDoor

namespace Go.Proofs.YtlppphmnegdhoabGreatDoor
set_option linter.unusedVariables false
set_option maxRecDepth 100000
open M

/-- a byte, so that it means itself -/
def plC (c : UInt8) : List UInt8 := if c.toNat = 10 then [92, 110] else if c.toNat = 110 then [110] else [92, c]
def plM (w : List UInt8) : List UInt8 := w.flatMap plC
def mkC (c : UInt8) : Mk := ⟨c.toNat, c.toNat == 110⟩
def mkW (w : List UInt8) : List Mk := w.map mkC
theorem mkC_is (c : UInt8) (k : Nat) (h : k ≠ 110) : (mkC c).is k = false := by
  unfold Mk.is mkC
  by_cases e : c.toNat = 110
  · simp [e]; omega
  · simp [e]
theorem mkC_b (c : UInt8) : UInt8.ofNat (mkC c).b = c := by simp [mkC]
theorem upto_pl (w r : List UInt8) : uptoM (plM w ++ 47 :: r) = some (mkW w, r) := by
  induction w with
  | nil => exact upto_slash 47 r rfl
  | cons c w ih =>
    show uptoM (plC c ++ plM w ++ 47 :: r) = some (mkC c :: mkW w, r)
    rw [List.append_assoc]
    unfold plC
    split
    · rename_i h
      show uptoM (92 :: 110 :: (plM w ++ 47 :: r)) = _
      rw [upto_esc _ _ _ rfl, ih]
      show some (preM ⟨escB 110, false⟩ (mkW w, r)) = _
      have : mkC c = ⟨escB 110, false⟩ := by unfold mkC; rw [h]; rfl
      rw [this]; rfl
    · split
      · rename_i h1 h
        show uptoM (110 :: (plM w ++ 47 :: r)) = _
        rw [upto_plain _ _ (by decide) (by decide), ih]
        have : mkC c = ⟨(110 : UInt8).toNat, true⟩ := by unfold mkC; rw [h]; rfl
        rw [this]; rfl
      · rename_i h1 h
        show uptoM (92 :: c :: (plM w ++ 47 :: r)) = _
        rw [upto_esc _ _ _ rfl, ih]
        have : mkC c = ⟨escB c, false⟩ := by unfold mkC escB; rw [if_neg h]; simp [h]
        rw [this]; rfl
theorem plM_nl (w : List UInt8) : ∀ c ∈ plM w, c.toNat ≠ 10 := by
  intro c hc
  obtain ⟨d, _, h⟩ := List.mem_flatMap.1 hc
  unfold plC at h
  split at h
  · simp at h; rcases h with rfl | rfl <;> decide
  · split at h
    · simp at h; rw [h]; decide
    · simp at h; rcases h with rfl | rfl
      · decide
      · assumption
/-- an item that is one byte -/
def litI (c : UInt8) : It := ⟨false, false, false, [(c.toNat, c.toNat)]⟩
def litX (w : List UInt8) : Ex := ⟨false, false, w.map litI⟩
theorem items_lit (w : List UInt8) : ∀ n, w.length ≤ n → itemsM n (mkW w) = some (w.map litI) := by
  induction w with
  | nil => intro n _; cases n <;> rfl
  | cons c w ih =>
    intro n hn
    match n, hn with
    | n + 1, hn =>
      have hb : bareM (mkC c :: mkW w) = some (litI c, mkW w) := by
        show (if (mkC c).is 46 then _ else if (mkC c).is 91 then _ else if (mkC c).is 42 || (mkC c).is 93 || (mkC c).is 94 || (mkC c).is 36 then none else _) = _
        rw [mkC_is c 46 (by decide), mkC_is c 91 (by decide), mkC_is c 42 (by decide), mkC_is c 93 (by decide), mkC_is c 94 (by decide), mkC_is c 36 (by decide)]
        rfl
      have hs : starM (litI c, mkW w) = (litI c, mkW w) := by
        unfold starM
        cases w with
        | nil => rfl
        | cons d w =>
          show (if (mkC d).is 42 then _ else _) = _
          rw [mkC_is d 42 (by decide)]; rfl
      show itemsM (n + 1) (mkC c :: mkW w) = some (litI c :: w.map litI)
      rw [itemsM]
      have hi : itemM (mkC c :: mkW w) = some (litI c, mkW w) := by
        unfold itemM
        rw [hb]
        show some (starM (litI c, mkW w)) = _
        rw [hs]
      rw [hi]
      show (itemsM n (mkW w)).map (litI c :: ·) = _
      rw [ih n (by simpa using hn)]
      rfl
theorem exp_lit (w : List UInt8) (h : w ≠ []) : expM (mkW w) = some (litX w) := by
  unfold expM
  have h0 : mkW w ≠ [] := by unfold mkW; simpa using h
  rw [if_neg h0]
  have h1 : ((mkW w).head?.map (·.is 94)).getD false = false := by
    cases w with
    | nil => exact absurd rfl h
    | cons c w => exact mkC_is c 94 (by decide)
  have h2 : ((mkW w).getLast?.map (·.is 36)).getD false = false := by
    unfold mkW
    rw [List.getLast?_map]
    cases w.getLast? with
    | none => rfl
    | some c => exact mkC_is c 36 (by decide)
  simp only [h1, h2, Bool.and_false]
  show (itemsM (mkW w).length (mkW w)).map (fun l => (⟨false, false, l⟩ : Ex)) = _
  rw [items_lit w _ (by simp [mkW])]
  rfl
theorem exp_nil : expM (mkW []) = none := rfl
theorem rep_lit (v : List UInt8) : repM (mkW v) = v.map some := by
  unfold repM mkW
  rw [List.map_map]
  apply List.map_congr_left
  intro c _
  show pcM (mkC c) = some c
  unfold pcM
  rw [mkC_is c 38 (by decide)]
  show some (UInt8.ofNat (mkC c).b) = some c
  rw [mkC_b]
/-- the script -/
def swS (w v : List UInt8) : List UInt8 := 115 :: 47 :: (plM w ++ 47 :: (plM v ++ [47, 103]))
def swB (w v : List UInt8) : Sbs := ⟨litX w, v.map some, 1, true, false⟩
def swC (w v : List UInt8) : Cm := ⟨0, zAdr, zAdr, false, 115, 0, 0, ⟨#[]⟩, swB w v, ⟨#[]⟩, ⟨#[]⟩⟩
theorem swS_line (w v : List UInt8) : linesM [] (swS w v) = [swS w v] := by
  have key : ∀ (t acc : List UInt8), (∀ c ∈ t, c.toNat ≠ 10) → acc ++ t ≠ [] → linesM acc t = [acc ++ t] := by
    intro t
    induction t with
    | nil => intro acc _ h; rw [linesM]; simp at h; rw [if_neg h]; simp
    | cons c t ih =>
      intro acc h h2
      rw [linesM, if_neg (h c (by simp)), ih _ (fun d hd => h d (by simp [hd])) (by simp)]
      simp
  refine key (swS w v) [] ?_ (by simp [swS])
  intro c hc
  unfold swS at hc
  simp only [List.mem_cons, List.mem_append, List.not_mem_nil, or_false] at hc
  rcases hc with rfl | rfl | hc | rfl | hc | rfl | rfl
  · decide
  · decide
  · exact plM_nl w c hc
  · decide
  · exact plM_nl v c hc
  · decide
  · decide
theorem swS_cmd (w v : List UInt8) : cmdV (swS w v) = if w = [] then none else some (swC w v) := by
  have h1 : behV (swS w v) = (zAds, swS w v) := rfl
  have hA : uptoM ((47 :: (plM w ++ 47 :: (plM v ++ [47, 103]))).drop 1) = some (mkW w, plM v ++ [47, 103]) := upto_pl w _
  have hA' : uptoM (plM w ++ 47 :: (plM v ++ [47, 103])) = some (mkW w, plM v ++ [47, 103]) := upto_pl w _
  have hB : uptoM (plM v ++ [47, 103]) = some (mkW v, [103]) := upto_pl v _
  have h2 : askedM 0 115 (47 :: (plM w ++ 47 :: (plM v ++ [47, 103]))) = (expM (mkW w)).isSome := by
    show chgA 115 (uptoM (plM w ++ 47 :: (plM v ++ [47, 103]))) = _
    rw [hA']
    show chgB 115 (mkW w) (uptoM (plM v ++ [47, 103])) = _
    rw [hB]
    show ((expM (mkW w)).isSome && flagsM [103]) = _
    rw [show flagsM [103] = true from rfl, Bool.and_true]
  unfold cmdV
  rw [h1]
  show (if askedM 0 115 (47 :: (plM w ++ 47 :: (plM v ++ [47, 103]))) then some (fillV zAds 115 (47 :: (plM w ++ 47 :: (plM v ++ [47, 103])))) else none) = _
  rw [h2]
  by_cases hw : w = []
  · subst hw
    rw [if_pos rfl, exp_nil]; rfl
  · rw [if_neg hw, exp_lit w hw]
    show some (fillV zAds 115 (47 :: (plM w ++ 47 :: (plM v ++ [47, 103])))) = some (swC w v)
    have hs : subV (47 :: (plM w ++ 47 :: (plM v ++ [47, 103]))) = swB w v := by
      unfold subV
      rw [hA]
      simp only [hB, exp_lit w hw, rep_lit]
      rfl
    have hf : fillV zAds 115 (47 :: (plM w ++ 47 :: (plM v ++ [47, 103]))) = ⟨0, zAdr, zAdr, false, 115, 0, 0, ⟨#[]⟩, subV (47 :: (plM w ++ 47 :: (plM v ++ [47, 103]))), ⟨#[]⟩, ⟨#[]⟩⟩ := rfl
    rw [hf, hs]
    rfl
theorem swS_scr (w v : List UInt8) (hw : w ≠ []) : ScrV (swS w v) [swC w v] := by
  refine ⟨[swC w v], ?_, ⟨rfl, fun i h => ?_⟩, rfl⟩
  · rw [swS_line, cmdsV, swS_cmd, if_neg hw]; rfl
  · have : i = 0 := by simp [toV] at h; exact h
    subst this
    exact ⟨fun h => (by cases h), fun h => (by rcases h with h | h <;> cases h)⟩
theorem swS_not (v : List UInt8) (cs : List Cm) : ¬ ScrV (swS [] v) cs := by
  rintro ⟨L, h, _⟩
  rw [swS_line, cmdsV, swS_cmd, if_pos rfl] at h
  cases h
theorem mt_lit : ∀ (w s : List UInt8), mt (w.map litI) s = decide (s = w) := by
  intro w
  induction w with
  | nil => intro s; show mt [] s = _; rw [mt_nil]; cases s <;> simp
  | cons c w ih =>
    intro s
    cases s with
    | nil => show mt (litI c :: w.map litI) [] = _; rw [mt_end]; simp [litI]
    | cons d s =>
      show mt (litI c :: w.map litI) (d :: s) = _
      rw [mt_cons, if_neg (show ¬ (litI c).star = true from fun h => by cases h), ih]
      have : hasI (litI c) d.toNat = decide (d = c) := by
        unfold hasI litI
        by_cases e : d = c
        · subst e; simp
        · have e2 : d.toNat ≠ c.toNat := fun h => e (UInt8.toNat_inj.1 h)
          simp [e]; omega
      rw [this]
      by_cases h1 : d = c <;> by_cases h2 : s = w <;> simp [h1, h2]
/-- does w stand at this place -/
def stA (w s : List UInt8) (i : Nat) : Bool := decide ((s.drop i).take w.length = w)
theorem stA_len {w s : List UInt8} {i : Nat} (h : stA w s i = true) (hw : w ≠ []) : i + w.length ≤ s.length := by
  have := congrArg List.length (of_decide_eq_true h)
  simp at this
  have : 0 < w.length := List.length_pos_iff.2 hw
  omega
theorem match_lit (w s : List UInt8) (i j : Nat) (hw : w ≠ []) : matchX (litX w) s i j = (stA w s i && decide (j = i + w.length)) := by
  unfold matchX
  show (decide (i ≤ j) && decide (j ≤ s.length) && (!false || decide (i = 0)) && (!false || decide (j = s.length)) && mt (w.map litI) (seg s i j)) = _
  rw [mt_lit]
  have hp : 0 < w.length := List.length_pos_iff.2 hw
  by_cases hj : j = i + w.length
  · subst hj
    by_cases hs : stA w s i = true
    · have := stA_len hs hw
      have hs2 : seg s i (i + w.length) = w := by
        have := of_decide_eq_true hs
        rw [seg, List.drop_take, show i + w.length - i = w.length by omega]
        exact this
      simp [hs, hs2, this]
    · have hs' : stA w s i = false := by simpa using hs
      have hs2 : ¬ seg s i (i + w.length) = w := by
        have := of_decide_eq_false hs'
        rw [seg, List.drop_take, show i + w.length - i = w.length by omega]
        exact this
      simp [hs', hs2]
  · have : (decide (i ≤ j) && decide (j ≤ s.length) && decide (seg s i j = w)) = false := by
      rw [Bool.eq_false_iff]
      intro h
      simp only [Bool.and_eq_true, decide_eq_true_eq] at h
      obtain ⟨⟨h1, h2⟩, h3⟩ := h
      have := congrArg List.length h3
      simp [seg] at this
      omega
    simp [hj]
    simpa using this
theorem end_lit (w s : List UInt8) (i : Nat) (hw : w ≠ []) : endX (litX w) s i = if stA w s i then ((i + w.length : Nat) : Int) else -1 := by
  unfold endX
  by_cases hs : stA w s i = true
  · have hl := stA_len hs hw
    rw [if_pos hs]
    cases hf : (List.range (s.length + 1)).reverse.find? (fun q => matchX (litX w) s i q) with
    | none =>
      have := List.find?_eq_none.1 hf (i + w.length) (by simp; omega)
      rw [match_lit w s i _ hw, hs] at this
      simp at this
    | some q =>
      have := List.find?_some hf
      rw [match_lit w s i _ hw, hs] at this
      simp at this
      rw [this]
  · rw [if_neg hs]
    have hs' : stA w s i = false := by simpa using hs
    cases hf : (List.range (s.length + 1)).reverse.find? (fun q => matchX (litX w) s i q) with
    | none => rfl
    | some q =>
      have := List.find?_some hf
      rw [match_lit w s i _ hw, hs'] at this
      cases this
def swF (w v s : List UInt8) : Nat → Nat → List UInt8
  | 0, _ => []
  | f + 1, i => if i < s.length then (if stA w s i then v ++ swF w v s f (i + w.length) else s[i]?.toList ++ swF w v s f (i + 1)) else []
theorem swF_more (w v s : List UInt8) (hw : w ≠ []) : ∀ f i, s.length < f + i → swF w v s f i = swF w v s (f + 1) i := by
  intro f
  induction f with
  | zero => intro i h; rw [swF, swF, if_neg (by omega)]
  | succ f ih =>
    intro i h
    have hp : 0 < w.length := List.length_pos_iff.2 hw
    rw [swF, swF]
    split
    · split
      · rw [ih _ (by omega)]
      · rw [ih _ (by omega)]
    · rfl
theorem textC_app (a b : List Cl) : textC (a ++ b) = textC a ++ textC b := by simp [textC]
theorem replC_sw (l : List Cl) (w v : List UInt8) (hw : w ≠ []) : ∀ f i b k b0, 1 ≤ k → b0 ≤ i → l.length < f + i →
    textC (replC l (swB w v) (mtsF (endX (litX w) (textC l)) (textC l).length f i b) k b0) = ((textC l).drop b0).take (i - b0) ++ swF w v (textC l) f i := by
  have hp : 0 < w.length := List.length_pos_iff.2 hw
  have hlen : (textC l).length = l.length := by simp [textC]
  intro f
  induction f with
  | zero =>
    intro i b k b0 hk hb hf
    rw [mtsF, replC, swF]
    have : ((textC l).drop b0).take (i - b0) = (textC l).drop b0 := by
      exact List.take_of_length_le (by rw [List.length_drop, hlen]; omega)
    show textC (l.drop b0) = ((textC l).drop b0).take (i - b0) ++ []
    rw [this]
    simp [textC]
  | succ f ih =>
    intro i b k b0 hk hb hf
    show _ = ((textC l).drop b0).take (i - b0) ++ swF w v (textC l) (f + 1) i
    rw [mtsF, swF, end_lit w _ i hw]
    by_cases hi : i ≤ l.length
    · rw [if_pos (by omega : i ≤ (textC l).length)]
      by_cases hs : stA w (textC l) i = true
      · have hl := stA_len hs hw
        rw [if_pos hs, if_pos (.inl (by omega)), if_pos (by omega), if_pos hs]
        rw [replC]
        have hr : isRep (swB w v) k = true := by
          unfold isRep
          show (k == 1 || (decide (1 < k) && true)) = true
          by_cases e : k = 1
          · subst e; rfl
          · simp; omega
        rw [if_pos hr, textC_app, textC_app, Int.toNat_natCast, ih _ _ _ _ (by omega) (Nat.le_refl _) (by omega)]
        have h1 : textC (partC l b0 i) = ((textC l).drop b0).take (i - b0) := by unfold partC textC; rw [List.map_take, List.map_drop]
        have h2 : textC (fillC (v.map some) (partC l i (i + w.length))) = v := by
          unfold fillC textC
          rw [List.flatMap_map, List.map_flatMap]
          simp
        show textC (partC l b0 i) ++ textC (fillC (v.map some) (partC l i (i + w.length))) ++ _ = _
        rw [h1, h2]
        show _ ++ (((textC l).drop (i + w.length)).take (i + w.length - (i + w.length)) ++ _) = _
        rw [Nat.sub_self, List.take_zero, List.nil_append, List.append_assoc]
      · rw [if_neg hs, if_neg (by omega), if_neg hs, ih _ _ _ _ hk (by omega) (by omega)]
        show ((textC l).drop b0).take (i + 1 - b0) ++ _ = _
        by_cases e : i < (textC l).length
        · rw [if_pos e, ← List.append_assoc]
          congr 1
          rw [show i + 1 - b0 = (i - b0) + 1 by omega, List.take_add_one, List.getElem?_drop, show b0 + (i - b0) = i by omega]
        · have e2 : i = (textC l).length := by omega
          rw [if_neg e]
          have h3 : swF w v (textC l) f (i + 1) = [] := by
            cases f with
            | zero => rfl
            | succ f => rw [swF, if_neg (by omega)]
          rw [h3, List.append_nil, List.append_nil, List.take_of_length_le (by rw [List.length_drop]; omega), List.take_of_length_le (by rw [List.length_drop]; omega)]
    · rw [if_neg (by omega), if_neg (by omega), replC]
      rw [List.append_nil, List.take_of_length_le (by rw [List.length_drop]; omega)]
      simp [textC]
/-- what becomes of a text -/
def swT (w v s : List UInt8) : List UInt8 := swF w v s (2 * s.length + 3) 0
theorem subst_sw (l : List Cl) (w v : List UInt8) (hw : w ≠ []) : textC (replC l (swB w v) (mtsX (litX w) (textC l)) 1 0) = swT w v (textC l) := by
  have h := replC_sw l w v hw (2 * (textC l).length + 3) 0 (-1) 1 0 (Nat.le_refl _) (Nat.le_refl _) (by simp [textC]; omega)
  show textC (replC l (swB w v) (mtsF (endX (litX w) (textC l)) (textC l).length (2 * (textC l).length + 3) 0 (-1)) 1 0) = _
  rw [h]
  rfl
end Go.Proofs.YtlppphmnegdhoabGreatDoor

namespace Go.Proofs.YtlppphmnegdhoabGreatDoor
set_option linter.unusedVariables false
set_option maxRecDepth 100000
open M
open M.St

/-- the run, at its beginning, with one line -/
def sw0 (w v l : List UInt8) : St := (St0 [swC w v] false 1 256).ext ⟨(l ++ [10]).toArray⟩ true
theorem sw_take (l : List UInt8) (h : ∀ c ∈ l, c.toNat ≠ 10) : (l ++ [10]).takeWhile (fun c => c.toNat != 10) = l := by
  induction l with
  | nil => rfl
  | cons c l ih =>
    have : (c.toNat != 10) = true := by simpa using h c (by simp)
    rw [List.cons_append, List.takeWhile_cons_of_pos (by exact this), ih (fun d hd => h d (by simp [hd]))]
theorem sw_lend (w v l : List UInt8) (h : ∀ c ∈ l, c.toNat ≠ 10) : (sw0 w v l).lend = l.length := by
  show 0 + (((l ++ [10]).drop 0).takeWhile (fun c : UInt8 => c.toNat != 10)).length = l.length
  rw [List.drop_zero, sw_take l h, Nat.zero_add]
theorem sw_size (w v l : List UInt8) : (sw0 w v l).text.size = l.length + 1 := by
  show (l ++ [10]).toArray.size = _
  simp
/-- the line, taken -/
def swLn (l : List UInt8) : List Cl := (l.zipIdx 0).map (fun p => (p.1, (p.2 : Int)))
theorem swLn_text (l : List UInt8) : textC (swLn l) = l := by
  unfold swLn textC
  rw [List.map_map]
  have : ((fun x : Cl => x.1) ∘ fun p : UInt8 × Nat => ((p.1, (p.2 : Int)) : Cl)) = Prod.fst := rfl
  rw [this, List.zipIdx_map_fst]
theorem sw_line (w v l : List UInt8) (h : ∀ c ∈ l, c.toNat ≠ 10) : (sw0 w v l).lineC = swLn l := by
  unfold St.lineC
  rw [sw_lend w v l h]
  show (((((l ++ [10]).drop 0).take (l.length - 0)).zipIdx 0).map _) = _
  rw [List.drop_zero, Nat.sub_zero, List.take_left']
  · rfl
  · rfl
def sw1 (w v l : List UInt8) : St := { sw0 w v l with asks := 0, nl := (l.length : Int), behind := l.length + 1, line := 1, mark := false, pat := swLn l }
theorem sw_1 (w v l : List UInt8) (h : ∀ c ∈ l, c.toNat ≠ 10) (hl : l.length ≤ 256) : (sw0 w v l).still = false ∧ (sw0 w v l).move = sw1 w v l := by
  have ha : (sw0 w v l).ask = 1 := by
    unfold St.ask
    rw [if_neg (fun h => by cases h.1), if_neg]
    rw [sw_size]
    show ¬ l.length + 1 ≤ 0
    omega
  refine ⟨?_, ?_⟩
  · show (false || (decide ((1 : Nat) ≠ 0) && (sw0 w v l).ask == 2)) = false
    rw [ha]; rfl
  · unfold St.move
    rw [if_neg (show ¬ (sw0 w v l).asks = 0 from fun h => by cases h), ha, if_neg (by decide), if_neg (by decide)]
    have e1 := sw_lend w v l h
    have e2 := sw_line w v l h
    have e3 := sw_size w v l
    have hq : (sw0 w v l).putQueue = sw0 w v l := rfl
    have hT : ({ sw0 w v l with asks := 0 } : St).putQueue.took = { sw0 w v l with asks := 0, nl := (l.length : Int), behind := l.length + 1 } := by
      unfold St.took
      have k1 : ({ sw0 w v l with asks := 0 } : St).putQueue.lend = l.length := e1
      have k2 : ({ sw0 w v l with asks := 0 } : St).putQueue.text.size = l.length + 1 := e3
      rw [if_pos (by rw [k1, k2]; omega)]
      show ({ sw0 w v l with asks := 0, nl := (({ sw0 w v l with asks := 0 } : St).putQueue.lend : Int), behind := ({ sw0 w v l with asks := 0 } : St).putQueue.lend + 1 } : St) = _
      rw [k1]
    have hL : ({ sw0 w v l with asks := 0 } : St).putQueue.lineC = swLn l := e2
    show (if ({ ({ sw0 w v l with asks := 0 } : St).putQueue.took with line := 0 + 1, mark := false } : St).fits (({ sw0 w v l with asks := 0 } : St).putQueue.lineC).length then ({ ({ sw0 w v l with asks := 0 } : St).putQueue.took with line := 0 + 1, mark := false, pat := ({ sw0 w v l with asks := 0 } : St).putQueue.lineC } : St) else ({ ({ sw0 w v l with asks := 0 } : St).putQueue.took with line := 0 + 1, mark := false } : St).die 5) = sw1 w v l
    rw [hT, hL]
    rw [if_pos]
    · rfl
    · show decide ((swLn l).length ≤ 256) = true
      simp [swLn]; exact hl
/-- the line, with each w replaced -/
def swPat (w v l : List UInt8) : List Cl := replC (swLn l) (swB w v) (mtsX (litX w) l) 1 0
theorem swPat_text (w v l : List UInt8) (hw : w ≠ []) : textC (swPat w v l) = swT w v l := by
  have := subst_sw (swLn l) w v hw
  rw [swLn_text] at this
  exact this
def swA (w v l : List UInt8) : St := { sw1 w v l with steps := 0, next := 1 }
theorem sw_2 (w v l : List UInt8) : (sw1 w v l).still = false ∧ (sw1 w v l).move = (swA w v l).subst (swB w v) := ⟨rfl, rfl⟩
theorem sw_sub (w v l : List UInt8) (hl : l.length ≤ 256) : (swA w v l).subst (swB w v) = (if (swPat w v l).length ≤ 256 then { swA w v l with pat := swPat w v l, mark := decide (0 < (mtsX (litX w) l).length) } else (swA w v l).die 5) := by
  unfold St.subst
  have e1 : mtsX (swB w v).ex (textC (swA w v l).pat) = mtsX (litX w) l := by
    show mtsX (litX w) (textC (swLn l)) = _
    rw [swLn_text]
  simp only [e1]
  have hc : (swB w v).count = 1 := rfl
  rw [hc]
  have er : replC (swA w v l).pat (swB w v) (mtsX (litX w) l) 1 0 = swPat w v l := rfl
  by_cases h0 : (mtsX (litX w) l).length < 1
  · have h1 : mtsX (litX w) l = [] := List.length_eq_zero_iff.1 (by omega)
    have h2 : swPat w v l = swLn l := by unfold swPat; rw [h1]; rfl
    rw [if_pos h0, h2, if_pos (by simp [swLn]; exact hl)]
    rw [h1]
    rfl
  · rw [if_neg h0, er]
    by_cases h3 : (swPat w v l).length ≤ 256
    · rw [if_pos h3, if_pos (show (swA w v l).fits _ = true from decide_eq_true h3)]
      have : decide (0 < (mtsX (litX w) l).length) = true := decide_eq_true (by omega)
      rw [this]
      rfl
    · rw [if_neg h3, if_neg (show ¬ (swA w v l).fits _ = true from fun h => h3 (of_decide_eq_true h))]
/-- the run, whole -/
theorem sw_ran (w v l : List UInt8) (hw : w ≠ []) (h : ∀ c ∈ l, c.toNat ≠ 10) (hl : l.length ≤ 256) :
    ∃ R, Ran [swC w v] false 1 256 ⟨(l ++ [10]).toArray⟩ R ∧ (256 < (swT w v l).length → R.death = 5 ∧ R.out = []) ∧ ((swT w v l).length ≤ 256 → R.death = 0 ∧ textC R.out = swT w v l ++ [10]) := by
  obtain ⟨a1, a2⟩ := sw_1 w v l h hl
  obtain ⟨b1, b2⟩ := sw_2 w v l
  have ht := swPat_text w v l hw
  have hn : (swT w v l).length = (swPat w v l).length := by rw [← ht]; simp [textC]
  have hs := sw_sub w v l hl
  by_cases h3 : (swPat w v l).length ≤ 256
  · rw [if_pos h3] at hs
    obtain ⟨T, hT⟩ : ∃ T : St, ({ swA w v l with pat := swPat w v l, mark := decide (0 < (mtsX (litX w) l).length) } : St) = T := ⟨_, rfl⟩
    have c0 : T.death = 0 := by rw [← hT]; rfl
    have c1 : T.still = false := by rw [← hT]; rfl
    have c2 : T.move = T.putUQ.endCycle := by rw [← hT]; rfl
    have c3 : T.quiet = false := by rw [← hT]; rfl
    have c4 : T.out = [] := by rw [← hT]; rfl
    have c5 : T.queue = [] := by rw [← hT]; rfl
    have c6 : T.over = false := by rw [← hT]; rfl
    have c7 : T.closed = true := by rw [← hT]; rfl
    have c8 : T.behind = l.length + 1 := by rw [← hT]; rfl
    have c9 : T.text.size = l.length + 1 := by rw [← hT]; exact sw_size w v l
    have c10 : T.pat = swPat w v l := by rw [← hT]
    have d1 : T.putUQ = { T with out := joinC T.pat (nlC T.nl) [] } := by
      unfold St.putUQ
      rw [if_neg (by rw [c3]; decide)]
      unfold St.putPat St.put
      rw [if_neg (by rw [c0]; decide), if_neg (by rw [c4, c10]; simp [joinC]; omega), c4]
      rfl
    obtain ⟨U, hU⟩ : ∃ U : St, T.putUQ.endCycle = U := ⟨_, rfl⟩
    have hU2 : U = { T with out := joinC T.pat (nlC T.nl) [], next := 0, asks := 1, queue := [] } := by
      rw [← hU, d1]
      unfold St.endCycle St.putQueue
      show ({ (T.queue.foldl putText { T with out := joinC T.pat (nlC T.nl) [] }) with queue := [], next := 0, asks := 1 } : St) = _
      rw [c5]
      rfl
    have e0 : U.asks = 1 := by rw [hU2]
    have e1 : U.ask = 3 := by
      unfold St.ask
      have k1 : U.closed = true := by rw [hU2]; exact c7
      have k2 : U.text.size ≤ U.behind := by rw [hU2]; show T.text.size ≤ T.behind; rw [c8, c9]; exact Nat.le_refl _
      rw [if_neg (fun h => by rw [k1] at h; cases h.1), if_pos k2]
    have e2 : U.over = false := by rw [hU2]; exact c6
    have e3 : U.still = false := by
      unfold St.still St.stuck
      rw [e2, e0, e1]; rfl
    have e4 : U.move = { U with over := true } := by
      unfold St.move
      rw [if_neg (by rw [e0]; decide), if_neg (by rw [e1]; decide), if_pos e1]
      unfold St.doWithout
      rw [if_pos e0]
    refine ⟨{ U with over := true }, ?_, fun h9 => absurd h9 (by omega), fun _ => ⟨?_, ?_⟩⟩
    · show Goes (sw0 w v l) _
      refine .step a1 ?_
      rw [a2]
      refine .step b1 ?_
      rw [b2, hs, hT]
      refine .step c1 ?_
      rw [c2, hU]
      refine .step e3 ?_
      rw [e4]
      exact .stop rfl
    · show U.death = 0
      rw [hU2]; exact c0
    · show textC U.out = _
      rw [hU2]
      show textC (joinC T.pat (nlC T.nl) []) = _
      unfold joinC
      rw [textC_app, textC_app, c10, ht]
      show swT w v l ++ [10] ++ [] = _
      rw [List.append_nil]
  · rw [if_neg h3] at hs
    refine ⟨(swA w v l).die 5, ?_, fun _ => ⟨rfl, rfl⟩, fun h9 => absurd h9 (by omega)⟩
    show Goes (sw0 w v l) _
    refine .step a1 ?_
    rw [a2]
    refine .step b1 ?_
    rw [b2, hs]
    exact .stop rfl
/-- what is played -/
structure SwOk (w v l : List UInt8) (out : ByteArray) (x : Int) : Prop where
  long : 256 < (swT w v l).length → x = 5 ∧ out = ⟨#[]⟩
  fine : (swT w v l).length ≤ 256 → x = 0 ∧ out = ⟨(swT w v l ++ [10]).toArray⟩
theorem PlSpec.sw {s : ByteArray} {w v l : List UInt8} {t out j : ByteArray} {x : Int} (hp : PlSpec s false 1 256 t out j x) (hs : s.data.toList = swS w v) (h4 : s.size ≤ 400) (ht : t = ⟨(l ++ [10]).toArray⟩) (hw : w ≠ []) (h : ∀ c ∈ l, c.toNat ≠ 10) (hl : l.length ≤ 256) : SwOk w v l out x := by
  have hv := swS_scr w v hw
  rw [← hs] at hv
  subst ht
  rcases hp with ⟨n, h1, h2, _⟩ | ⟨cs, _, _, h2, _⟩ | ⟨cs, R, h0, h1, h2, h3, rfl, rfl, _, _, _, _⟩
  · exact absurd (ckv_scr h1 h4 hv) h2
  · exact absurd h2 (by unfold OpenBad; omega)
  · obtain rfl := h1.unique hv
    obtain ⟨R', g1, g2, g3⟩ := sw_ran w v l hw h hl
    obtain rfl : R = R' := h3.unique g1
    refine ⟨fun h9 => ?_, fun h9 => ?_⟩
    · obtain ⟨k1, k2⟩ := g2 h9
      rw [k1, k2]; exact ⟨rfl, rfl⟩
    · obtain ⟨k1, k2⟩ := g3 h9
      rw [k1]
      exact ⟨rfl, by unfold baC; rw [k2]⟩
theorem PlSpec.sw0 {s : ByteArray} {v : List UInt8} {t out j : ByteArray} {x steps room : Int} (hp : PlSpec s false steps room t out j x) (hs : s.data.toList = swS [] v) (h4 : s.size ≤ 400) : x = 2 := by
  rcases hp with ⟨n, h1, h2, _⟩ | ⟨cs, _, h1, _⟩ | ⟨cs, R, _, h1, _⟩
  · rcases h1 with ⟨h1, _⟩ | ⟨_, ⟨_, h1, _⟩ | ⟨cs, _, _, h1⟩⟩
    · omega
    · exact h1
    · rw [hs] at h1; exact absurd h1 (swS_not v cs)
  · rw [hs] at h1; exact absurd h1 (swS_not v cs)
  · rw [hs] at h1; exact absurd h1 (swS_not v cs)
end Go.Proofs.YtlppphmnegdhoabGreatDoor

namespace Go.Proofs.YtlppphmnegdhoabGreatDoor
set_option linter.unusedVariables false
set_option maxRecDepth 100000
open Go.RowKit
open M

theorem plM_snoc (l : List UInt8) (i : Nat) (h : i < l.length) : plM (l.take (i + 1)) = plM (l.take i) ++ plC l[i] := by
  unfold plM
  rw [List.take_add_one, List.getElem?_eq_getElem h, List.flatMap_append]
  simp
theorem plC_10 (c : UInt8) (h : c.toNat = 10) : plC c = [92, 110] := by unfold plC; rw [if_pos h]
theorem plC_110 (c : UInt8) (h : c.toNat = 110) : plC c = [110] := by unfold plC; rw [if_neg (by omega), if_pos h]
theorem plC_else (c : UInt8) (h : c.toNat ≠ 10) (h2 : c.toNat ≠ 110) : plC c = [92, c] := by unfold plC; rw [if_neg h, if_neg h2]
theorem ba_one (t : ByteArray) (i : Nat) (h : i < t.size) : (t.extract i (i + 1)).data.toList = [t[i]] := by
  have h2 : i < t.data.size := h
  simp [ByteArray.data_extract]
  rw [List.drop_eq_getElem_cons (by simpa using h2)]
  rfl
set_option maxRecDepth 100000 in
set_option maxHeartbeats 1000000 in
theorem plain_calls (t : ByteArray) (w : World) (ht : t.size ≤ 1048576) :
    Calls Tryz.prog 20 #[.string t] w fun e w' => (∃ r : ByteArray, e = .returned (.string r) ∧ r.data.toList = plM t.data.toList ∧ r.size ≤ 2 * t.size) ∧ w' = w := by
  go_enter Tryz.func20, Tryz.ntmps20
  go_wp2_with fail
  go_loop [3, 4] (fun v3 v4 => ∃ (i : Nat) (r : ByteArray), v3 = .string r ∧ v4 = .int .i64 i ∧ i ≤ t.size ∧ r.size ≤ 2 * i ∧ Hid (r.data.toList = plM (t.data.toList.take i))) (fun _ v4 => t.size - (intOf v4).toNat)
  case atStart => exact ⟨0, ⟨#[]⟩, rfl, rfl, Nat.zero_le _, Nat.le_refl _, rfl⟩
  case round =>
    obtain ⟨i, r, rfl, rfl, hi, hr, HP⟩ := hrel
    by_cases hlt : i < t.size
    · have hlt1 : (i : Int) < (t.size : Int) := by omega
      have hi0 : (0 : Int) ≤ (i : Int) := by omega
      have hi2 : (i : Int) + 1 ≤ (t.size : Int) := by omega
      have hq : t.data.toList[i]'(by rw [ba_len]; exact hlt) = t[i] := rfl
      have HS : Hid (plM (t.data.toList.take (i + 1)) = r.data.toList ++ plC t[i]) := by
        show _ = _
        rw [plM_snoc _ i (by rw [ba_len]; exact hlt), HP.out, hq]
      have H1 : Hid ((t.extract i (i + 1)).data.toList = [t[i]]) := ba_one t i hlt
      clear HP hq
      have hsz1 : ¬ 9223372036854775807 < r.size + 1 := by omega
      have hsz2 : ¬ 9223372036854775807 < r.size + 2 := by omega
      have hez : (t.extract i (i + 1)).size = 1 := by rw [← ba_len, H1.out]; rfl
      obtain ⟨x, hx⟩ : ∃ x, t[i].toNat = x := ⟨_, rfl⟩
      by_cases h10 : x = 10
      · have h101 : ((x : Int) == 10) = true := by simp [h10]
        have HP3 : Hid ((r ++ (⟨#[92, 110]⟩ : ByteArray)).data.toList = plM (t.data.toList.take (i + 1))) := by
          show _ = _
          rw [HS.out, plC_10 _ (by rw [hx]; exact h10), ba_append]
        clear h10 HS H1 hez
        go_wp2
        go_round
        case rel => exact ⟨i + 1, r ++ (⟨#[92, 110]⟩ : ByteArray), rfl, by go_num, by omega, (by rw [ByteArray.size_append']; show r.size + 2 ≤ _; omega), HP3.out⟩
        case measure => first | (simp [intOf]; done) | (simp [intOf]; omega)
      · have h101 : ((x : Int) == 10) = false := by simp; omega
        by_cases h110 : x = 110
        · have h111 : ((x : Int) == 110) = true := by simp [h110]
          have HP3 : Hid ((r ++ (⟨#[110]⟩ : ByteArray)).data.toList = plM (t.data.toList.take (i + 1))) := by
            show _ = _
            rw [HS.out, plC_110 _ (by rw [hx]; exact h110), ba_append]
          clear h10 h110 HS H1 hez
          go_wp2
          go_round
          case rel => exact ⟨i + 1, r ++ (⟨#[110]⟩ : ByteArray), rfl, by go_num, by omega, (by rw [ByteArray.size_append']; show r.size + 1 ≤ _; omega), HP3.out⟩
          case measure => first | (simp [intOf]; done) | (simp [intOf]; omega)
        · have h111 : ((x : Int) == 110) = false := by simp; omega
          have HP3 : Hid ((r ++ (⟨#[92]⟩ : ByteArray) ++ t.extract i (i + 1)).data.toList = plM (t.data.toList.take (i + 1))) := by
            show _ = _
            rw [HS.out, plC_else _ (by rw [hx]; exact h10) (by rw [hx]; exact h110), ba_append, ba_append, H1.out, List.append_assoc]
            rfl
          have HE : Hid ((t.extract i (i + 1)).size = 1) := hez
          clear h10 h110 HS H1 hez
          have hsz3 : ¬ 9223372036854775807 < r.size + 1 + (t.extract i (i + 1)).size := by rw [HE.out]; omega
          go_wp2
          go_round
          case rel => exact ⟨i + 1, r ++ (⟨#[92]⟩ : ByteArray) ++ t.extract i (i + 1), rfl, by go_num, by omega, (by rw [ByteArray.size_append', ByteArray.size_append', HE.out]; show r.size + 1 + 1 ≤ _; omega), HP3.out⟩
          case measure => first | (simp [intOf]; done) | (simp [intOf]; omega)
    · obtain rfl : i = t.size := by omega
      have hlt1 : ¬ (t.size : Int) < (t.size : Int) := by omega
      have HP3 : Hid (r.data.toList = plM t.data.toList) := by
        show _ = _
        rw [HP.out, List.take_of_length_le (by rw [ba_len]; omega)]
      clear HP
      go_wp2
      go_ret
      exact ⟨⟨r, rfl, HP3.out, hr⟩, rfl⟩
theorem stA_size (w s : ByteArray) (i : Nat) (hi : i < s.size) (h : s.size < i + w.size) : stA w.data.toList s.data.toList i = false := by
  unfold stA
  apply decide_eq_false
  intro e
  have := congrArg List.length e
  simp at this
  omega
theorem stA_ext (w s : ByteArray) (i : Nat) (h : i + w.size ≤ s.size) : stA w.data.toList s.data.toList i = ((s.extract i (i + w.size)).toList == w.toList) := by
  unfold stA
  have e1 : (s.extract i (i + w.size)).data.toList = (s.data.toList.drop i).take w.data.toList.length := by
    rw [ba_len]
    simp [ByteArray.data_extract]
  rw [← e1, ByteArray.toList_eq, ByteArray.toList_eq]
  by_cases e : (s.extract i (i + w.size)).data.toList = w.data.toList
  · rw [decide_eq_true e, e]; simp
  · rw [decide_eq_false e]
    exact (beq_eq_false_iff_ne.2 e).symm
set_option maxRecDepth 100000 in
set_option maxHeartbeats 1000000 in
theorem kstands_calls (u s : ByteArray) (i : Nat) (w : World) (hu : u.size ≤ maxLen) (hs : s.size ≤ maxLen) (hi : i < s.size) :
    Calls Tryz.prog 35 #[.string u, .string s, .int .i64 i] w fun e w' => e = .returned (.bool (stA u.data.toList s.data.toList i)) ∧ w' = w := by
  unfold maxLen at hu hs
  by_cases h : i + u.size ≤ s.size
  · have HE : Hid (stA u.data.toList s.data.toList i = ((s.extract i (i + u.size)).toList == u.toList)) := stA_ext u s i h
    have h1 : ¬ (s.size : Int) - (i : Int) < (u.size : Int) := by omega
    have h2 : (i : Int) + (u.size : Int) ≤ (s.size : Int) := by omega
    have h3 : (i : Int) ≤ (i : Int) + (u.size : Int) := by omega
    have h4 : (u.size : Int) ≤ (s.size : Int) - (i : Int) := by omega
    go_enter Tryz.func35, Tryz.ntmps35
    go_wp2
    go_ret
    exact ⟨ret_bool (by rw [HE.out]), rfl⟩
  · have HE : Hid (stA u.data.toList s.data.toList i = false) := stA_size u s i hi (by omega)
    have h1 : (s.size : Int) - (i : Int) < (u.size : Int) := by omega
    have h4 : ¬ (u.size : Int) ≤ (s.size : Int) - (i : Int) := by omega
    go_enter Tryz.func35, Tryz.ntmps35
    go_wp2
    go_ret
    exact ⟨ret_bool (by rw [HE.out]), rfl⟩
theorem oneLine_none (s : ByteArray) (i : Nat) (h : Hid (∀ k, k < i → ∀ hk : k < s.size, s[k].toNat ≠ 10)) (j : Nat) (hj : j ≤ i) : ∀ c ∈ (s.extract 0 j).data.toList, c.toNat ≠ 10 := by
  intro c hc
  simp [ByteArray.data_extract] at hc
  obtain ⟨k, hk, rfl⟩ := List.getElem_of_mem hc
  rw [List.length_take] at hk
  rw [List.getElem_take]
  exact h.out k (by omega) (by have := hk; simp at this; omega)
set_option maxRecDepth 100000 in
set_option maxHeartbeats 1000000 in
theorem oneLine_calls (s : ByteArray) (w : World) (hs : s.size ≤ maxLen) :
    Calls Tryz.prog 19 #[.string s] w fun e w' => (∃ r : ByteArray, e = .returned (.string r) ∧ r.size ≤ 256 ∧ NoNL r) ∧ w' = w := by
  unfold maxLen at hs
  go_enter Tryz.func19, Tryz.ntmps19
  go_wp2_with fail
  go_loop [3] (fun v3 => ∃ i : Nat, v3 = .int .i64 i ∧ i ≤ s.size ∧ i ≤ 256 ∧ Hid (∀ k, k < i → ∀ hk : k < s.size, s[k].toNat ≠ 10)) (fun v3 => s.size - (intOf v3).toNat)
  case atStart => exact ⟨0, rfl, Nat.zero_le _, by omega, fun k hk => absurd hk (Nat.not_lt_zero _)⟩
  case round =>
    obtain ⟨i, rfl, hi, hi5, HP⟩ := hrel
    by_cases hlt : i < s.size
    · have hlt1 : (i : Int) < (s.size : Int) := by omega
      have hi0 : (0 : Int) ≤ (i : Int) := by omega
      obtain ⟨x, hx⟩ : ∃ x, s[i].toNat = x := ⟨_, rfl⟩
      have HR : Hid ((s.extract 0 i).size = i) := by show _ = _; simp; omega
      have HN : Hid (∀ c ∈ (s.extract 0 i).data.toList, c.toNat ≠ 10) := oneLine_none s i HP i (Nat.le_refl _)
      by_cases h10 : x = 10
      · have h101 : ((x : Int) == 10) = true := by simp [h10]
        clear h10
        go_wp2
        go_ret
        exact ⟨⟨s.extract 0 i, rfl, by rw [HR.out]; exact hi5, HN.out⟩, rfl⟩
      · have h101 : ((x : Int) == 10) = false := by simp; omega
        by_cases h256 : i = 256
        · have h257 : ((i : Int) == 256) = true := by simp [h256]
          clear h10
          have HI : Hid (i ≤ 256) := hi5
          clear h256
          go_wp2
          go_ret
          exact ⟨⟨s.extract 0 i, rfl, by rw [HR.out]; exact HI.out, HN.out⟩, rfl⟩
        · have h257 : ((i : Int) == 256) = false := by simp; omega
          have HP2 : Hid (∀ k, k < i + 1 → ∀ hk : k < s.size, s[k].toNat ≠ 10) := by
            intro k hk hk2
            by_cases e : k = i
            · subst e; rw [hx]; exact h10
            · exact HP.out k (by omega) hk2
          have hi6 : i + 1 ≤ 256 := by omega
          clear h10 HP h256
          go_wp2
          go_round
          case rel => exact ⟨i + 1, by go_num, by omega, hi6, HP2.out⟩
          case measure => first | (simp [intOf]; done) | (simp [intOf]; omega)
    · have e : i = s.size := by omega
      have hlt1 : ¬ (i : Int) < (s.size : Int) := by omega
      have HN : Hid (∀ c ∈ (s.extract 0 s.size).data.toList, c.toNat ≠ 10) := oneLine_none s i HP s.size (by omega)
      have HZ : Hid (s.size ≤ 256) := by show _ ≤ _; omega
      clear HP e
      go_wp2
      go_ret
      refine ⟨⟨s, rfl, HZ.out, ?_⟩, rfl⟩
      have h9 := HN.out
      rw [ByteArray.extract_zero_size] at h9
      exact h9
theorem swF_at (u v s : List UInt8) (hu : u ≠ []) (i : Nat) (hi : i < s.length) (f : Nat) (hf : s.length < f + i) :
    swF u v s f i = if stA u s i then v ++ swF u v s f (i + u.length) else s[i] :: swF u v s f (i + 1) := by
  have hp : 0 < u.length := List.length_pos_iff.2 hu
  match f, hf with
  | 0, hf => omega
  | f + 1, hf =>
    rw [← swF_more u v s hu (f) (i + u.length) (by omega), ← swF_more u v s hu f (i + 1) (by omega)]
    rw [swF, if_pos hi, List.getElem?_eq_getElem hi]
    rfl
theorem swF_end (u v s : List UInt8) (i f : Nat) (h : s.length ≤ i) : swF u v s f i = [] := by
  cases f with
  | zero => rfl
  | succ f => rw [swF, if_neg (by omega)]
set_option maxRecDepth 100000 in
set_option maxHeartbeats 1000000 in
theorem swapped_calls (s u v : ByteArray) (w : World) (hs : s.size ≤ 256) (hu : 1 ≤ u.size) (hu2 : u.size ≤ 400) (hv : v.size ≤ 400) :
    Calls Tryz.prog 21 #[.string s, .string u, .string v] w fun e w' => (∃ r : ByteArray, e = .returned (.string r) ∧ r.data.toList = swT u.data.toList v.data.toList s.data.toList ∧ r.size ≤ 102400) ∧ w' = w := by
  have HU : Hid (u.data.toList ≠ []) := by
    intro e
    have := congrArg List.length e
    rw [ba_len] at this
    have h0 : u.size = 0 := this
    omega
  have HF : Hid (s.data.toList.length < 2 * s.size + 3) := by show _ < _; rw [ba_len]; omega
  go_enter Tryz.func21, Tryz.ntmps21
  go_wp2_with fail
  go_loop [7, 8] (fun v5 v6 => ∃ (i : Nat) (r : ByteArray), v5 = .string r ∧ v6 = .int .i64 i ∧ i ≤ s.size ∧ r.size ≤ 400 * i ∧ Hid (swT u.data.toList v.data.toList s.data.toList = r.data.toList ++ swF u.data.toList v.data.toList s.data.toList (2 * s.size + 3) i)) (fun _ v6 => s.size - (intOf v6).toNat)
  case atStart => exact ⟨0, ⟨#[]⟩, rfl, rfl, Nat.zero_le _, Nat.le_refl _, by show swT _ _ _ = _; unfold swT; rw [ba_len]; rfl⟩
  case round =>
    obtain ⟨i, r, rfl, rfl, hi, hr, HP⟩ := hrel
    by_cases hlt : i < s.size
    · have hlt1 : (i : Int) < (s.size : Int) := by omega
      have hi0 : (0 : Int) ≤ (i : Int) := by omega
      have hi2 : (i : Int) + 1 ≤ (s.size : Int) := by omega
      have HA : Hid (swF u.data.toList v.data.toList s.data.toList (2 * s.size + 3) i = if stA u.data.toList s.data.toList i then v.data.toList ++ swF u.data.toList v.data.toList s.data.toList (2 * s.size + 3) (i + u.size) else s[i] :: swF u.data.toList v.data.toList s.data.toList (2 * s.size + 3) (i + 1)) := by
        show _ = _
        rw [swF_at _ _ _ HU.out i (by rw [ba_len]; exact hlt) _ (by rw [ba_len]; omega), ba_len]
        rfl
      have H1 : Hid ((s.extract i (i + 1)).data.toList = [s[i]]) := ba_one s i hlt
      have HL : Hid (stA u.data.toList s.data.toList i = true → i + u.size ≤ s.size) := fun h => by
        have := stA_len h HU.out
        rw [ba_len, ba_len] at this
        exact this
      go_wp2_with fail
      refine (kstands_calls u s i w (by unfold maxLen; omega) (by unfold maxLen; omega) hlt).mono ?_
      rintro e wq ⟨rfl, hwq⟩
      rw [hwq]
      clear hwq
      cases hst : stA u.data.toList s.data.toList i with
      | true =>
        have hl9 := HL.out hst
        have HP3 : Hid (swT u.data.toList v.data.toList s.data.toList = (r ++ v).data.toList ++ swF u.data.toList v.data.toList s.data.toList (2 * s.size + 3) (i + u.size)) := by
          show _ = _
          rw [HP.out, HA.out, if_pos hst, ba_append, List.append_assoc]
        clear hst HP HA H1 HL
        have hsz : ¬ 9223372036854775807 < r.size + v.size := by omega
        go_wp2
        go_round
        case rel => exact ⟨i + u.size, r ++ v, rfl, by go_num, by omega, (by rw [ByteArray.size_append']; have : 400 * (i + u.size) = 400 * i + 400 * u.size := Nat.mul_add _ _ _; omega), HP3.out⟩
        case measure => first | (simp [intOf]; done) | (simp [intOf]; omega)
      | false =>
        have HE : Hid ((s.extract i (i + 1)).size = 1) := by show _ = _; rw [← ba_len, H1.out]; rfl
        have HP3 : Hid (swT u.data.toList v.data.toList s.data.toList = (r ++ s.extract i (i + 1)).data.toList ++ swF u.data.toList v.data.toList s.data.toList (2 * s.size + 3) (i + 1)) := by
          show _ = _
          rw [HP.out, HA.out, if_neg (by rw [hst]; decide), ba_append, H1.out, List.append_assoc]
          rfl
        have hsz : ¬ 9223372036854775807 < r.size + (s.extract i (i + 1)).size := by rw [HE.out]; omega
        clear hst HP HA H1 HL
        go_wp2
        go_round
        case rel => exact ⟨i + 1, r ++ s.extract i (i + 1), rfl, by go_num, by omega, (by rw [ByteArray.size_append', HE.out]; omega), HP3.out⟩
        case measure => first | (simp [intOf]; done) | (simp [intOf]; omega)
    · obtain rfl : i = s.size := by omega
      have hlt1 : ¬ (s.size : Int) < (s.size : Int) := by omega
      have HP3 : Hid (r.data.toList = swT u.data.toList v.data.toList s.data.toList) := by
        show _ = _
        rw [HP.out, swF_end _ _ _ _ _ (by rw [ba_len]; omega), List.append_nil]
      clear HP
      go_wp2
      go_ret
      exact ⟨⟨r, rfl, HP3.out, by omega⟩, rfl⟩
end Go.Proofs.YtlppphmnegdhoabGreatDoor

namespace Go.Proofs.YtlppphmnegdhoabGreatDoor
set_option linter.unusedVariables false
set_option maxRecDepth 100000
open Go.RowKit
open M

theorem strs_two (w : World) (a b : ByteArray) (T : TypeId) : StrsAt (w.alloc (.cells #[.string a, .string b] T)) (some ⟨w.heap.size, 0, none⟩) [a, b] := by
  refine ⟨.inr ⟨w.heap.size, 0, rfl, by simp, fun i hi => ?_⟩⟩
  have h2 : i < 2 := hi
  match i, h2 with
  | 0, _ => rw [cell_of_row _ _ _ _ _ _ (heap_alloc_new w _)]; rfl
  | 1, _ => rw [cell_of_row _ _ _ _ _ _ (heap_alloc_new w _)]; rfl
theorem catB_two (a b : ByteArray) : catB [a, b] = a ++ b := by show a ++ (b ++ ⟨#[]⟩) = a ++ b; rw [ba_app_nil]
theorem PlSpec.long {s : ByteArray} {quiet : Bool} {steps room : Int} {t out j : ByteArray} {x : Int} (h : PlSpec s quiet steps room t out j x) (hs : 400 < s.size) : x = 1 := by
  rcases h with ⟨n, h1, _⟩ | ⟨cs, h1, _⟩ | ⟨cs, R, h1, _⟩
  · rcases h1 with ⟨_, _, h⟩ | ⟨h, _⟩
    · exact h
    · omega
  · omega
  · omega
/-- the script's text -/
def swQ (pw pv : ByteArray) : ByteArray := (⟨#[115, 47]⟩ : ByteArray) ++ pw ++ (⟨#[47]⟩ : ByteArray) ++ pv ++ (⟨#[47, 103]⟩ : ByteArray)
theorem swQ_eq (pw pv : ByteArray) (w v : List UInt8) (h1 : pw.data.toList = plM w) (h2 : pv.data.toList = plM v) : (swQ pw pv).data.toList = swS w v := by
  unfold swQ
  rw [ba_append, ba_append, ba_append, ba_append, h1, h2]
  simp [swS]
theorem swQ_size (pw pv : ByteArray) : (swQ pw pv).size = pw.size + pv.size + 5 := by
  unfold swQ
  simp only [ByteArray.size_append']
  show 2 + pw.size + 1 + pv.size + 2 = _
  omega
theorem plM_len (w : List UInt8) : w.length ≤ (plM w).length := by
  induction w with
  | nil => exact Nat.le_refl _
  | cons c w ih =>
    show w.length + 1 ≤ (plC c ++ plM w).length
    rw [List.length_append]
    have : 1 ≤ (plC c).length := by
      unfold plC
      split
      · simp
      · split <;> simp
    omega
set_option maxRecDepth 100000 in
set_option maxHeartbeats 1000000 in
theorem swapped_walk (B : Nat) (s0 u v : ByteArray) (w : World) (hs : s0.size ≤ 1048576) (hu : u.size ≤ 1048576) (hv : v.size ≤ 1048576) (hT : TabB B w) :
    Calls Tryz.prog 7 #[.string s0, .string u, .string v] w fun e w' => e = .returned (.bool true) ∧ Below w.heap.size w w' := by
  have HT : Hid (TabB B w) := hT
  clear hT
  go_enter Tryz.func7, Tryz.ntmps7
  go_wp2_with fail
  refine (oneLine_calls s0 w (by unfold maxLen; omega)).mono ?_
  rintro e wq ⟨⟨s, rfl, hs2, hnl⟩, hwq⟩
  rw [hwq]
  clear hwq
  have HNL : Hid (NoNL s) := hnl
  clear hnl
  go_wp2_with fail
  refine (plain_calls u w hu).mono ?_
  rintro e wq ⟨⟨pw, rfl, hpw, hpz⟩, hwq⟩
  rw [hwq]
  clear hwq
  have HPW : Hid (pw.data.toList = plM u.data.toList) := hpw
  clear hpw
  have q1 : ¬ 9223372036854775807 < 2 + pw.size := by omega
  have q2 : ¬ 9223372036854775807 < 2 + pw.size + 1 := by omega
  go_wp2_with fail
  refine (plain_calls v w hv).mono ?_
  rintro e wq ⟨⟨pv, rfl, hpv, hpz'⟩, hwq⟩
  rw [hwq]
  clear hwq
  have HPV : Hid (pv.data.toList = plM v.data.toList) := hpv
  clear hpv
  have q3 : ¬ 9223372036854775807 < 2 + pw.size + 1 + pv.size := by omega
  have q4 : ¬ 9223372036854775807 < 2 + pw.size + 1 + pv.size + 2 := by omega
  have HSW : Hid ((swQ pw pv).data.toList = swS u.data.toList v.data.toList) := swQ_eq pw pv _ _ HPW.out HPV.out
  have hz := swQ_size pw pv
  have HLU : Hid (u.size ≤ pw.size) := by
    show _ ≤ _
    have := plM_len u.data.toList
    rw [← HPW.out, ba_len, ba_len] at this
    exact this
  have HLV : Hid (v.size ≤ pv.size) := by
    show _ ≤ _
    have := plM_len v.data.toList
    rw [← HPV.out, ba_len, ba_len] at this
    exact this
  have HT1 : Hid (TabB B (w.alloc (.cells #[.string s, .string ⟨#[10]⟩] 9))) := HT.out.below (((Below.refl w.heap.size w).alloc (Nat.le_refl _) _).mono HT.out.1)
  have HS1 : Hid (StrsAt (w.alloc (.cells #[.string s, .string ⟨#[10]⟩] 9)) (some ⟨w.heap.size, 0, none⟩) [s, ⟨#[10]⟩]) := strs_two w s _ _
  have hB1 := (Below.refl w.heap.size w).alloc (Nat.le_refl _) (.cells #[.string s, .string ⟨#[10]⟩] 9)
  have HCT : Hid (catB [s, ⟨#[10]⟩] = s ++ ⟨#[10]⟩) := catB_two s _
  have HCZ : Hid ((s ++ (⟨#[10]⟩ : ByteArray)).size = s.size + 1) := by show _ = _; rw [ByteArray.size_append']; rfl
  go_wp2_with fail
  obtain ⟨Q, hQ⟩ : ∃ Q, (⟨#[115, 47]⟩ : ByteArray) ++ pw ++ (⟨#[47]⟩ : ByteArray) ++ pv ++ (⟨#[47, 103]⟩ : ByteArray) = Q := ⟨_, rfl⟩
  have hQ2 : swQ pw pv = Q := hQ
  rw [hQ2] at HSW hz
  rw [hQ]
  clear hQ hQ2 q1 q2 q3 q4
  have HC := played_calls B Q false 1 256 (some ⟨w.heap.size, 0, none⟩) 2 [s, ⟨#[10]⟩] _ (by unfold maxLen; omega) HT1.out (by decide) (by decide) (by decide) (by decide) HS1.out (by simp) (by rw [HCT.out, HCZ.out]; omega)
  refine HC.mono ?_
  clear HC
  rintro e w2 ⟨B2, out, j, x, rfl, hpl⟩
  rw [HCT.out] at hpl
  have HPL : Hid (PlSpec Q false 1 256 (s ++ ⟨#[10]⟩) out j x) := hpl
  have hB2 := hB1.trans (B2.mono hB1.size)
  have hs3 := hB2.size
  have hbn : CB (w2.alloc (.cells #[.string ⟨#[]⟩, .string ⟨#[]⟩, .int .i64 0] 33)) w2.heap.size (plL ⟨#[]⟩ ⟨#[]⟩ 0) := CB.new w2 33 #[.string ⟨#[]⟩, .string ⟨#[]⟩, .int .i64 0] (plL_one _ _ _)
  have hB3 := hB2.alloc (o := .cells #[.string ⟨#[]⟩, .string ⟨#[]⟩, .int .i64 0] 33) hs3
  clear hpl HT1 HS1 B2 hB1 hB2
  by_cases hlong : 400 < Q.size
  · have hl1 : (400 : Int) < (Q.size : Int) := by omega
    obtain rfl : x = 1 := HPL.out.long hlong
    go_wp2_with (refine cb_store0 rtPl hbn rfl rfl _ _ rfl rfl (vs := plL out j 1) rfl rfl (plL_one _ _ _) ?_
                 intro w4 hb4 O4
                 have l4 := hb4.lt
                 have d2 := hb4.c 2 _ rfl
                 have hB4 := hB3.trans (O4.below (B := w.heap.size) (by omega)))
    go_ret
    exact ⟨rfl, hB4⟩
  · have hl1 : ¬ (400 : Int) < (Q.size : Int) := by omega
    by_cases hu0 : u.size = 0
    · have hue : u.toList.isEmpty = true := by rw [empty_iff]; exact decide_eq_true hu0
      obtain rfl : x = 2 := HPL.out.sw0 (v := v.data.toList) (by rw [HSW.out]; congr 1; exact List.length_eq_zero_iff.1 (by rw [ba_len]; exact hu0)) (by omega)
      go_wp2_with (refine cb_store0 rtPl hbn rfl rfl _ _ rfl rfl (vs := plL out j 2) rfl rfl (plL_one _ _ _) ?_
                   intro w4 hb4 O4
                   have l4 := hb4.lt
                   have d2 := hb4.c 2 _ rfl
                   have hB4 := hB3.trans (O4.below (B := w.heap.size) (by omega)))
      go_ret
      exact ⟨rfl, hB4⟩
    · have hue : u.toList.isEmpty = false := by rw [empty_iff]; exact decide_eq_false hu0
      have HOK : Hid (SwOk u.data.toList v.data.toList s.data.toList out x) := by
        refine HPL.out.sw HSW.out (by omega) ?_ (fun e => hu0 (by rw [← ba_len, e]; rfl)) HNL.out (by rw [ba_len]; exact hs2)
        exact ba_ext (by rw [ba_append])
      have hu4 : u.size ≤ 400 := by have := HLU.out; omega
      have hv4 : v.size ≤ 400 := by have := HLV.out; omega
      have hu1 : 1 ≤ u.size := by omega
      clear hu0
      go_wp2_with (refine cb_store0 rtPl hbn rfl rfl _ _ rfl rfl (vs := plL out j x) rfl rfl (plL_one _ _ _) ?_
                   intro w4 hb4 O4
                   have l4 := hb4.lt
                   have hB4 := hB3.trans (O4.below (B := w.heap.size) (by omega)))
      refine (swapped_calls s u v w4 hs2 hu1 hu4 hv4).mono ?_
      rintro e wq ⟨⟨r, rfl, hr, hrz⟩, hwq⟩
      rw [hwq]
      clear hwq
      have HR : Hid (r.data.toList = swT u.data.toList v.data.toList s.data.toList) := hr
      have HRL : Hid ((swT u.data.toList v.data.toList s.data.toList).length = r.size) := by show _ = _; rw [← hr, ba_len]
      clear hr
      clear hbn hB3 O4
      by_cases h256 : 256 < r.size
      · have hr1 : (256 : Int) < (r.size : Int) := by omega
        obtain ⟨rfl, rfl⟩ := HOK.out.long (by rw [HRL.out]; exact h256)
        have d0 := hb4.c 0 _ rfl
        have d2 := hb4.c 2 _ rfl
        go_wp2
        go_ret
        exact ⟨rfl, hB4⟩
      · have hr1 : ¬ (256 : Int) < (r.size : Int) := by omega
        obtain ⟨rfl, hout⟩ := HOK.out.fine (by rw [HRL.out]; omega)
        have HO : Hid (out = r ++ ⟨#[10]⟩) := by
          show _ = _
          rw [hout]
          exact ba_ext (by rw [ba_append, HR.out])
        clear hout
        have hq9 : ¬ 9223372036854775807 < s.size + 1 := by omega
        have hq8 : ¬ 9223372036854775807 < r.size + 1 := by omega
        go_wp2_with (refine cb_load0 rtPl hb4 rfl rfl _ rfl rfl ?_)
        have hbz : (s ++ (⟨#[10]⟩ : ByteArray)).size ≤ 4096 := by rw [HCZ.out]; omega
        have HK : (0 : Int) = 0 → BackOk (s ++ (⟨#[10]⟩ : ByteArray)) out j := fun hx => PlSpec.back HPL.out hbz hx
        clear hbz
        have HC := backs_calls out j (s ++ (⟨#[10]⟩ : ByteArray)) 0 w4 HK
        refine HC.mono ?_
        clear HC HK
        rintro e w5 ⟨rfl, B5⟩
        have hb5 := hb4.below B5 hb4.lt
        have hB5 := hB4.trans (B5.mono hB4.size)
        have d0 := hb5.c 0 _ rfl
        have d2 := hb5.c 2 _ rfl
        have l5 := hb5.lt
        clear hb4 hB4
        have hoe : (out.toList == (r ++ (⟨#[10]⟩ : ByteArray)).toList) = true := by rw [HO.out]; simp
        go_wp2
        go_ret
        exact ⟨rfl, hB5⟩
end Go.Proofs.YtlppphmnegdhoabGreatDoor

