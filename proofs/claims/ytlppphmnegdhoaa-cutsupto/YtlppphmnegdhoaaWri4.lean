/-
  Write: the program's and the document's.
-/
import Derived.Test.YtlppphmnegdhoaaWri3
namespace Go.Proofs.Ytlppphmnegdhoaa
set_option linter.unusedVariables false
open Go.RowKit
open M

theorem all_no {l : List M.Rec} {k : Nat} (h : k < l.length) (hr : okRec l[k] = false) : l.all okRec = false := by
  rw [List.all_eq_false]
  exact ⟨l[k], List.getElem_mem h, by simp [hr]⟩
theorem all_yes {l : List M.Rec} (h : okAll l) : l.all okRec = true := by
  rw [List.all_eq_true]
  exact h

set_option maxRecDepth 100000 in
set_option maxHeartbeats 1000000 in
theorem areRecords_calls (n c : Nat) (ad : Option Addr) (l : List M.Rec) (w : World) (hat : RecsAt w ad n l) (hln : l.length ≤ 140737488351232) :
    Calls Try.prog 47 #[.slice ad n c] w fun e w' => e = .returned (.bool (l.all okRec)) ∧ Below w.heap.size w w' := by
  have hn := hat.len
  subst hn
  go_enter Try.func47, Try.ntmps47
  go_wp2
  go_loopw [7] (fun i wr => ∃ (k : Nat), k ≤ l.length ∧ i = .int .i64 k ∧ Hid (okAll (l.take k)) ∧ Below w.heap.size w wr) (fun i _ => l.length - (intOf i).toNat)
  case atStart => exact ⟨0, Nat.zero_le _, rfl, fun x hx => by simp at hx, Below.refl _ _⟩
  case round =>
    obtain ⟨k, hk, rfl, HO, B⟩ := hrel
    by_cases hlt : k < l.length
    · have hlt1 : (k : Int) < (l.length : Int) := by omega
      have hno : l ≠ [] := fun h => by rw [h] at hlt; simp at hlt
      obtain ⟨bk, off, ha', hbw, hcells⟩ := hat.cells.resolve_left hno
      obtain ⟨c0, c1, c2⟩ := hcells k hlt
      have d0 := (B.cell (by exact hbw)).trans c0
      have d1 := (B.cell (by exact hbw)).trans c1
      have d2 := (B.cell (by exact hbw)).trans c2
      have HY : Hid (okRec l[k] = true → okAll (l.take (k + 1))) := fun h => okAll_step HO.out hlt h
      have HN : Hid (okRec l[k] = false → l.all okRec = false) := fun h => all_no hlt h
      clear hcells c0 c1 c2 hno
      subst ha'
      generalize l[k] = r at *
      go_wp2_with fail
      refine (isRecord_calls r _).mono ?_
      rintro e w2 ⟨rfl, hb1⟩
      have B3 : Below w.heap.size w w2 := (B.alloc B.size _).trans (hb1.mono (by have := B.size; simp; omega))
      clear hb1 d0 d1 d2
      cases hr : okRec r
      · have HF := HN.out hr
        have HF2 : Hid (l.all okRec = false) := HF
        clear HF hr HN HY
        go_wp2
        go_ret
        exact ⟨ret_bool HF2.out.symm, B3⟩
      · have HF2 : Hid (okAll (l.take (k + 1))) := HY.out hr
        clear hr HN HY
        go_wp2
        go_roundw
        case rel => exact ⟨k + 1, by omega, by go_num, HF2.out, B3⟩
        case measure => simp [intOf]; omega
    · obtain rfl : k = l.length := by omega
      have HF2 : Hid (l.all okRec = true) := all_yes (by have := HO.out; rwa [List.take_length] at this)
      go_wp2
      go_ret
      exact ⟨ret_bool HF2.out.symm, B⟩

/-- what Write answers -/
def WriteSpec (l : List M.Rec) (a b : ByteArray) (t : List UInt8) (err : Int) : Prop :=
  ((4096 < a.size ∨ 4096 < b.size) ∧ err = 1 ∧ t = []) ∨
  (¬ (4096 < a.size ∨ 4096 < b.size) ∧ (
    (l.all okRec = false ∧ err = 3 ∧ t = []) ∨
    (l.all okRec = true ∧ ((leadsL l a.data.toList b.data.toList = false ∧ err = 9 ∧ t = []) ∨
      (leadsL l a.data.toList b.data.toList = true ∧ err = 0 ∧ t = writE ⟨a.size, b.size, sum a.data.toList, sum b.data.toList, l⟩)))))
theorem writeSpec_same {l : List M.Rec} {a b : ByteArray} {t t' : List UInt8} {e e' : Int} (h : WriteSpec l a b t e) (h' : WriteSpec l a b t' e') : t = t' ∧ e = e' := by
  rcases h with ⟨h1, h2, h3⟩ | ⟨h1, ⟨h2, h3, h4⟩ | ⟨h2, ⟨h3, h4, h5⟩ | ⟨h3, h4, h5⟩⟩⟩ <;>
  rcases h' with ⟨g1, g2, g3⟩ | ⟨g1, ⟨g2, g3, g4⟩ | ⟨g2, ⟨g3, g4, g5⟩ | ⟨g3, g4, g5⟩⟩⟩ <;>
  first
  | exact absurd h1 g1
  | exact absurd g1 h1
  | exact Bool.noConfusion (h2.symm.trans g2)
  | exact ⟨h3.trans g3.symm, h2.trans g2.symm⟩
  | exact ⟨h4.trans g4.symm, h3.trans g3.symm⟩
  | exact ⟨h5.trans g5.symm, h4.trans g4.symm⟩
  | exact Bool.noConfusion (h3.symm.trans g3)
def WritePost (l : List M.Rec) (a b : ByteArray) (w w' : World) (e : Ending) : Prop :=
  (∃ (t : ByteArray) (err : Int), e = .returned (.tuple #[.string t, .int .i64 err]) ∧ WriteSpec l a b t.data.toList err) ∧ Below w.heap.size w w'

set_option maxRecDepth 100000 in
set_option maxHeartbeats 2000000 in
theorem write_calls (n c : Nat) (ad : Option Addr) (l : List M.Rec) (a b : ByteArray) (w : World) (hat : RecsAt w ad n l) (hln : l.length ≤ 140737488351232) (ham : a.size ≤ maxLen) (hbm : b.size ≤ maxLen) :
    Calls Try.prog 16 #[.slice ad n c, .string a, .string b] w fun e w' => WritePost l a b w w' e := by
  unfold maxLen at ham hbm
  by_cases h1 : 4096 < a.size
  · have HS : Hid (WriteSpec l a b [] 1) := .inl ⟨.inl h1, rfl, rfl⟩
    have h11 : (4096 : Int) < (a.size : Int) := by omega
    go_enter Try.func16, Try.ntmps16
    go_wp2
    go_ret2
    exact ⟨⟨⟨#[]⟩, 1, rfl, HS.out⟩, Below.refl _ _⟩
  have h11 : ¬ (4096 : Int) < (a.size : Int) := by omega
  by_cases h2 : 4096 < b.size
  · have HS : Hid (WriteSpec l a b [] 1) := .inl ⟨.inr h2, rfl, rfl⟩
    have h21 : (4096 : Int) < (b.size : Int) := by omega
    go_enter Try.func16, Try.ntmps16
    go_wp2
    go_ret2
    exact ⟨⟨⟨#[]⟩, 1, rfl, HS.out⟩, Below.refl _ _⟩
  have h21 : ¬ (4096 : Int) < (b.size : Int) := by omega
  have HL : Hid (¬ (4096 < a.size ∨ 4096 < b.size)) := fun h => by omega
  have ha4 : a.size ≤ 4096 := by omega
  have hb4 : b.size ≤ 4096 := by omega
  clear h1 h2
  go_enter Try.func16, Try.ntmps16
  go_wp2_with fail
  refine (areRecords_calls n c ad l _ hat hln).mono ?_
  rintro e w1 ⟨rfl, b1⟩
  cases hall : l.all okRec
  · have HS : Hid (WriteSpec l a b [] 3) := .inr ⟨HL.out, .inl ⟨hall, rfl, rfl⟩⟩
    clear hall
    go_wp2
    go_ret2
    exact ⟨⟨⟨#[]⟩, 3, rfl, HS.out⟩, b1⟩
  have hok : okAll l := List.all_eq_true.1 hall
  have HA : Hid (l.all okRec = true) := hall
  clear hall
  go_wp2_with fail
  refine (jleads_calls n c ad l a b _ (hat.below b1) hok hln ha4 hb4).mono ?_
  rintro e w2 ⟨rfl, b2⟩
  have B2 : Below w.heap.size w w2 := b1.trans (b2.mono b1.size)
  have hat2 := (hat.below b1).below b2
  cases hld : leadsL l a.data.toList b.data.toList
  · have HS : Hid (WriteSpec l a b [] 9) := .inr ⟨HL.out, .inr ⟨HA.out, .inl ⟨hld, rfl, rfl⟩⟩⟩
    clear hld
    go_wp2
    go_ret2
    exact ⟨⟨⟨#[]⟩, 9, rfl, HS.out⟩, B2⟩
  obtain ⟨eA, eB⟩ := leads_len l _ _ hok hld
  rw [ba_len] at eA eB
  have HD : Hid (leadsL l a.data.toList b.data.toList = true) := hld
  have HEA : Hid (lenA l = a.size) := eA
  have HEB : Hid (lenB l = b.size) := eB
  clear hld eA eB
  go_wp2_with fail
  refine (headOf_calls a b _ ha4 hb4).mono ?_
  rintro e w3 ⟨rfl, b3⟩
  have hat3 := hat2.below b3
  have B3 : Below w.heap.size w w3 := B2.trans (b3.mono B2.size)
  have sa := sum_lt a.data.toList
  have sb := sum_lt b.data.toList
  have HW : Hid (∀ t : ByteArray, t.data.toList = writE ⟨a.size, b.size, sum a.data.toList, sum b.data.toList, l⟩ → WriteSpec l a b t.data.toList 0) := fun t ht => .inr ⟨HL.out, .inr ⟨HA.out, .inr ⟨HD.out, rfl, ht⟩⟩⟩
  clear b3 hat2 b2
  generalize sum a.data.toList = sma at *
  generalize sum b.data.toList = smb at *
  go_wp2_with fail
  refine (jwrite_calls a.size b.size sma smb n c ad l _ ha4 hb4 sa sb (hat3.below ((Below.refl _ _).alloc (Nat.le_refl _) _)) hok (by rw [HEA.out]; omega) (by rw [HEB.out]; omega)).mono ?_
  rintro e w4 ⟨⟨t, rfl, ht⟩, b4⟩
  have HS : Hid (WriteSpec l a b t.data.toList 0) := HW.out t ht
  have B4 : Below w.heap.size w w4 := (B3.alloc B3.size _).trans (b4.mono (by have := B3.size; simp; omega))
  clear ht b4
  go_wp2
  go_ret2
  exact ⟨⟨t, 0, rfl, HS.out⟩, B4⟩

set_option maxRecDepth 100000 in
set_option maxHeartbeats 2000000 in
theorem dwrite_calls (n c : Nat) (ad : Option Addr) (l : List M.Rec) (a b : ByteArray) (w : World) (hat : RecsAt w ad n l) (hln : l.length ≤ 140737488351232) (ham : a.size ≤ maxLen) (hbm : b.size ≤ maxLen) :
    Calls Try.prog 18 #[.slice ad n c, .string a, .string b] w fun e w' => WritePost l a b w w' e := by
  unfold maxLen at ham hbm
  by_cases h1 : 4096 < a.size
  · have HS : Hid (WriteSpec l a b [] 1) := .inl ⟨.inl h1, rfl, rfl⟩
    have h11 : (4096 : Int) < (a.size : Int) := by omega
    go_enter Try.func18, Try.ntmps18
    go_wp2
    go_ret2
    exact ⟨⟨⟨#[]⟩, 1, rfl, HS.out⟩, Below.refl _ _⟩
  have h11 : ¬ (4096 : Int) < (a.size : Int) := by omega
  by_cases h2 : 4096 < b.size
  · have HS : Hid (WriteSpec l a b [] 1) := .inl ⟨.inr h2, rfl, rfl⟩
    have h21 : (4096 : Int) < (b.size : Int) := by omega
    go_enter Try.func18, Try.ntmps18
    go_wp2
    go_ret2
    exact ⟨⟨⟨#[]⟩, 1, rfl, HS.out⟩, Below.refl _ _⟩
  have h21 : ¬ (4096 : Int) < (b.size : Int) := by omega
  have HL : Hid (¬ (4096 < a.size ∨ 4096 < b.size)) := fun h => by omega
  have ha4 : a.size ≤ 4096 := by omega
  have hb4 : b.size ≤ 4096 := by omega
  clear h1 h2
  have hn := hat.len
  subst hn
  go_enter Try.func18, Try.ntmps18
  go_wp2
  go_loopw [8] (fun i wr => ∃ (k : Nat), k ≤ l.length ∧ i = .int .i64 k ∧ Hid (okAll (l.take k)) ∧ Below w.heap.size w wr) (fun i _ => l.length - (intOf i).toNat)
  case atStart => exact ⟨0, Nat.zero_le _, rfl, fun x hx => by simp at hx, Below.refl _ _⟩
  case round =>
    obtain ⟨k, hk, rfl, HO, B⟩ := hrel
    by_cases hlt : k < l.length
    · have hlt1 : (k : Int) < (l.length : Int) := by omega
      have hno : l ≠ [] := fun h => by rw [h] at hlt; simp at hlt
      obtain ⟨bk, off, ha', hbw, hcells⟩ := hat.cells.resolve_left hno
      obtain ⟨c0, c1, c2⟩ := hcells k hlt
      have d0 := (B.cell (by exact hbw)).trans c0
      have d1 := (B.cell (by exact hbw)).trans c1
      have d2 := (B.cell (by exact hbw)).trans c2
      have HY : Hid (okRec l[k] = true → okAll (l.take (k + 1))) := fun h => okAll_step HO.out hlt h
      have HN : Hid (okRec l[k] = false → WriteSpec l a b [] 3) := fun h => .inr ⟨HL.out, .inl ⟨all_no hlt h, rfl, rfl⟩⟩
      clear hcells c0 c1 c2 hno
      subst ha'
      generalize l[k] = r at *
      go_wp2_with fail
      refine (record_calls r _).mono ?_
      rintro e w2 ⟨rfl, hb1⟩
      have B3 : Below w.heap.size w w2 := B.trans (hb1.mono B.size)
      clear hb1 d0 d1 d2
      cases hr : okRec r
      · have HF2 : Hid (WriteSpec l a b [] 3) := HN.out hr
        clear hr HN HY
        go_wp2
        go_ret2
        exact ⟨⟨⟨#[]⟩, 3, rfl, HF2.out⟩, B3⟩
      · have HF2 : Hid (okAll (l.take (k + 1))) := HY.out hr
        clear hr HN HY
        go_wp2
        go_roundw
        case rel => exact ⟨k + 1, by omega, by go_num, HF2.out, B3⟩
        case measure => simp [intOf]; omega
    · obtain rfl : k = l.length := by omega
      have hok : okAll l := by have := HO.out; rwa [List.take_length] at this
      have HA : Hid (l.all okRec = true) := all_yes hok
      go_wp2_with fail
      refine (dleads_calls l.length c ad l a b _ (hat.below B) hok hln ha4 hb4).mono ?_
      rintro e w2 ⟨rfl, b2⟩
      have B2 : Below w.heap.size w w2 := B.trans (b2.mono B.size)
      have hat2 := (hat.below B).below b2
      cases hld : leadsL l a.data.toList b.data.toList
      · have HS : Hid (WriteSpec l a b [] 9) := .inr ⟨HL.out, .inr ⟨HA.out, .inl ⟨hld, rfl, rfl⟩⟩⟩
        clear hld
        go_wp2
        go_ret2
        exact ⟨⟨⟨#[]⟩, 9, rfl, HS.out⟩, B2⟩
      · obtain ⟨eA, eB⟩ := leads_len l _ _ hok hld
        rw [ba_len] at eA eB
        have HD : Hid (leadsL l a.data.toList b.data.toList = true) := hld
        have HEA : Hid (lenA l = a.size) := eA
        have HEB : Hid (lenB l = b.size) := eB
        clear hld eA eB
        go_wp2_with fail
        refine (dsum_calls a _ (by unfold maxLen; omega)).mono ?_
        rintro e w3 ⟨rfl, rfl⟩
        go_wp2_with fail
        refine (dsum_calls b _ (by unfold maxLen; omega)).mono ?_
        rintro e w4 ⟨rfl, rfl⟩
        have sa := sum_lt a.data.toList
        have sb := sum_lt b.data.toList
        have HW : Hid (∀ t : ByteArray, t.data.toList = writE ⟨a.size, b.size, sum a.data.toList, sum b.data.toList, l⟩ → WriteSpec l a b t.data.toList 0) := fun t ht => .inr ⟨HL.out, .inr ⟨HA.out, .inr ⟨HD.out, rfl, ht⟩⟩⟩
        generalize sum a.data.toList = sma at *
        generalize sum b.data.toList = smb at *
        go_wp2_with fail
        refine (written_calls a.size b.size sma smb l.length c ad l _ ha4 hb4 sa sb hat2 hok (by rw [HEA.out]; omega) (by rw [HEB.out]; omega)).mono ?_
        rintro e w5 ⟨⟨t, rfl, ht⟩, b5⟩
        have HS : Hid (WriteSpec l a b t.data.toList 0) := HW.out t ht
        have B5 := B2.trans (b5.mono B2.size)
        clear ht b5
        go_wp2
        go_ret2
        exact ⟨⟨t, 0, rfl, HS.out⟩, B5⟩
end Go.Proofs.Ytlppphmnegdhoaa
