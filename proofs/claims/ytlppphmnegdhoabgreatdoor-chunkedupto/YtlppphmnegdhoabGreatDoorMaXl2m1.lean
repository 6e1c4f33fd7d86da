import Derived.Test.YtlppphmnegdhoabGreatDoorRows
import Derived.WalkKit
import Derived.WalkSpells
import Derived.WalkLawsBesides
import Derived.Laws.BitsLemmas
import Derived.Deep.QuietTactic
import Derived.BigQuiet
import Derived.Lib.Strings
import Derived.Laws.BytesArg
import Derived.Deep.MidRow
import Derived.Deep.WholeRow
import Derived.Laws.ResultCell
import Derived.Deep.CutBlock
import Derived.Deep.DeepCutAuto
import Derived.Deep.RegionHeld3
import Derived.Deep.DrawnRows
import Derived.Deep.AppendLies
import Derived.Deep.RegionLaw
import Derived.Great.BuildSlice
import Derived.Lib.ItoaNum
import Derived.Laws.AppendOwnNone
import Derived.Laws.OwnMore
import Derived.Lib.AppendStr
import Derived.Deep.RegionWith
import Derived.Shelf.LaysM
import Derived.Shelf.Strconv.Itoa3
import Derived.Test.YtlppphmnegdhoabGreatDoorProg
import Derived.RegionTactic
import Derived.Laws.CopyOwn
import Derived.ProofKit
import Derived.OpenShut
import Derived.ShutString
import Derived.ChangeOld
import Derived.Below
import Derived.SizedLaws
import Derived.Deep.Slices
import Derived.Deep.Strs
import Derived.Test.YtlppphmnegdhoabGreatDoorMa13
namespace Go.Proofs.YtlppphmnegdhoabGreatDoor
set_option linter.unusedVariables false
set_option maxRecDepth 100000
open Go.RowKit
open M

theorem strs_one (w : World) (t : ByteArray) (T : TypeId) : StrsAt (w.alloc (.cells #[.string t] T)) (some ⟨w.heap.size, 0, none⟩) [t] := by
  refine ⟨.inr ⟨w.heap.size, 0, rfl, by simp, fun i hi => ?_⟩⟩
  obtain rfl : i = 0 := by simp at hi; exact hi
  rw [cell_of_row _ _ _ _ _ _ (heap_alloc_new w _)]
  rfl
theorem catB_one (t : ByteArray) : catB [t] = t := by show t ++ ⟨#[]⟩ = t; rw [ba_app_nil]
set_option maxRecDepth 100000 in
set_option maxHeartbeats 4000000 in
theorem chunked_walk (B : Nat) (s : ByteArray) (quiet : Bool) (steps room : Int) (ap : Option Addr) (cp : Nat) (L : List ByteArray) (w : World) (hs : s.size ≤ maxLen) (hT : TabB B w) (hr1 : -9223372036854775808 ≤ steps) (hr2 : steps ≤ 9223372036854775807) (hr3 : -9223372036854775808 ≤ room) (hr4 : room ≤ 9223372036854775807) (hL : StrsAt w ap L) (hLn : L.length ≤ 1099511627776) (hsum : (catB L).size ≤ 4611686018427387904) :
    Calls Tryz.prog 5 #[.string s, .bool quiet, .int .i64 steps, .int .i64 room, .slice ap L.length cp] w fun e w' => e = .returned (.bool true) ∧ Below w.heap.size w w' := by
  have HT : Hid (TabB B w) := hT
  have HL : Hid (StrsAt w ap L) := hL
  have HLN : Hid (L.length ≤ 1099511627776) := hLn
  clear hT hL
  go_enter Tryz.func5, Tryz.ntmps5
  go_wp2_with fail
  refine (total_calls ap cp L w HL.out hLn hsum).mono ?_
  rintro e wq ⟨rfl, hwq⟩
  rw [hwq]
  clear hwq
  obtain ⟨t, ht⟩ : ∃ t, catB L = t := ⟨_, rfl⟩
  have HTT : Hid (catB L = t) := ht
  rw [ht] at hsum ⊢
  clear ht
  go_wp2_with fail
  refine (fits_calls t w (by unfold maxLen; omega)).mono ?_
  rintro e wq ⟨rfl, hwq⟩
  rw [hwq]
  clear hwq
  by_cases hft : t.size ≤ 4096
  · rw [decide_eq_true hft]
    go_wp2_with fail
    refine (played_calls B s quiet steps room ap cp L w hs HT.out hr1 hr2 hr3 hr4 HL.out HLN.out (by rw [HTT.out]; exact hft)).mono ?_
    rintro e w2 ⟨B2, out, j, x, rfl, hpl⟩
    rw [HTT.out] at hpl
    have HPL : Hid (PlSpec s quiet steps room t out j x) := hpl
    have hs2 := B2.size
    have hbn : CB (w2.alloc (.cells #[.string ⟨#[]⟩, .string ⟨#[]⟩, .int .i64 0] 33)) w2.heap.size (plL ⟨#[]⟩ ⟨#[]⟩ 0) := CB.new w2 33 #[.string ⟨#[]⟩, .string ⟨#[]⟩, .int .i64 0] (plL_one _ _ _)
    have hB3 := B2.alloc (o := .cells #[.string ⟨#[]⟩, .string ⟨#[]⟩, .int .i64 0] 33) hs2
    clear hpl
    go_wp2_with (refine cb_store0 rtPl hbn rfl rfl _ _ rfl rfl (vs := plL out j x) rfl rfl (plL_one _ _ _) ?_
                 intro w4 hb4 O4
                 have l4 := hb4.lt
                 have hB4 := hB3.trans (O4.below (B := w.heap.size) (by omega))
                 have hs4 := hB4.size)
    have HT4 : Hid (TabB B (w4.alloc (.cells #[.string t] 9))) := HT.out.below ((hB4.alloc hs4 _).mono HT.out.1)
    have HS4 : Hid (StrsAt (w4.alloc (.cells #[.string t] 9)) (some ⟨w4.heap.size, 0, none⟩) [t]) := strs_one w4 t _
    have hbA := hb4.below ((Below.refl w4.heap.size w4).alloc (Nat.le_refl _) (.cells #[.string t] 9)) hb4.lt
    have hBA := hB4.alloc (o := .cells #[.string t] 9) hs4
    have HC := played_calls B s quiet steps room (some ⟨w4.heap.size, 0, none⟩) 1 [t] _ hs HT4.out hr1 hr2 hr3 hr4 HS4.out (by simp) (by rw [catB_one]; exact hft)
    refine HC.mono ?_
    clear HC
    rintro e w5 ⟨B5, out', j', x', rfl, hpl'⟩
    rw [catB_one] at hpl'
    obtain ⟨rfl, rfl, rfl⟩ := HPL.out.same hpl'
    have hb5 := hbA.below B5 hbA.lt
    have hB5 := hBA.trans (B5.mono hBA.size)
    have hs5 := hB5.size
    have hl5 := hb5.lt
    have hbn5 : CB (w5.alloc (.cells #[.string ⟨#[]⟩, .string ⟨#[]⟩, .int .i64 0] 33)) w5.heap.size (plL ⟨#[]⟩ ⟨#[]⟩ 0) := CB.new w5 33 #[.string ⟨#[]⟩, .string ⟨#[]⟩, .int .i64 0] (plL_one _ _ _)
    have hb5a := hb5.below ((Below.refl w5.heap.size w5).alloc (Nat.le_refl _) (.cells #[.string ⟨#[]⟩, .string ⟨#[]⟩, .int .i64 0] 33)) hb5.lt
    have hB5a := hB5.alloc (o := .cells #[.string ⟨#[]⟩, .string ⟨#[]⟩, .int .i64 0] 33) hs5
    clear hpl' hbA hBA hb4 hB4 hB3 hbn O4 hb5 hB5 HS4 HT4 B5
    go_wp2_with (first
      | (refine cb_store0 rtPl hbn5 rfl rfl _ _ rfl rfl (vs := plL out j x) rfl rfl (plL_one _ _ _) ?_
         intro w6 hb6 O6
         have l6 := hb6.lt
         have hc6 := hb5a.keep (O6.block _ (by omega)) (by rw [O6.size]; exact Nat.le_refl _)
         have hB6 := hB5a.trans (O6.below (B := w.heap.size) (by omega)))
      | refine cb_load0 rtPl hb6 rfl rfl _ rfl rfl ?_)
    refine (backs_calls out j t x w6 (fun hx => HPL.out.back hft hx)).mono ?_
    rintro e w7 ⟨rfl, B7⟩
    have hb7 := hb6.below B7 hb6.lt
    have hc7 := hc6.below B7 hc6.lt
    have hB7 := hB6.trans (B7.mono hB6.size)
    have HL7 : Hid (StrsAt w7 ap L) := HL.out.below hB7 (Nat.le_refl _)
    have HT7 : Hid (TabB B w7) := HT.out.below (hB7.mono HT.out.1)
    clear hb6 hc6 hB6 hB5a hb5a hbn5 O6
    go_wp2_with fail
    refine (copies_calls B ap cp L w7 HT7.out HL7.out HLN.out (by rw [HTT.out]; exact hft)).mono ?_
    rintro e w8 ⟨rfl, B8⟩
    have hb8 := hb7.below B8 hb7.lt
    have hc8 := hc7.below B8 hc7.lt
    have hB8 := hB7.trans (B8.mono hB7.size)
    have e0 := hb8.c 0 _ rfl
    have e1 := hb8.c 1 _ rfl
    have e2 := hb8.c 2 _ rfl
    have l8 := hb8.lt
    have f0 := hc8.c 0 _ rfl
    have f1 := hc8.c 1 _ rfl
    have f2 := hc8.c 2 _ rfl
    have k8 := hc8.lt
    clear hb7 hc7 hB7
    go_wp2
    go_ret
    exact ⟨rfl, hB8⟩
  · rw [decide_eq_false hft]
    go_wp2
    go_ret
    exact ⟨rfl, Below.refl _ _⟩
end Go.Proofs.YtlppphmnegdhoabGreatDoor

