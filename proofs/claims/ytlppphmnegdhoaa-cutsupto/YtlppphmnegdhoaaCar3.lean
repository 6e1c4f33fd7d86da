/-
  The statement on what is written, read, undone and written again.
-/
import Derived.Test.YtlppphmnegdhoaaCar2
import Derived.JoinedCond
import Derived.Deep.CondSized
namespace Go.Proofs.Ytlppphmnegdhoaa
set_option linter.unusedVariables false
set_option maxRecDepth 100000
open Go.ChangeShapes Go.WideShapes Go.ChangeAt Go.RowKit
open Go.ChangeMaps (open_string shut_string)
open M

set_option maxRecDepth 100000 in
set_option maxHeartbeats 2000000 in
theorem carried_walk (n c : Nat) (ad : Option Addr) (raw : List M.Rec) (a : ByteArray) (w : World) (hat : RecsAt w ad n raw) (hwf : ∀ r ∈ raw, wfRec r) (hln : raw.length ≤ 1048576) (ha : a.size ≤ 1048576) (hS : sumS raw ≤ 1048576) :
    Calls Try.prog 6 #[.string a, .slice ad n c] w fun e w' => e = .returned (.bool true) ∧ Below w.heap.size w w' := by
  go_enter Try.func6, Try.ntmps6
  go_wp2_with fail
  refine (moved_calls n c ad raw a _ hat hwf hln ha hS).mono ?_
  rintro e w1 ⟨l, v, b, rfl, hok, hld, hown, hll, hbs, b1⟩
  obtain ⟨a1, c1, rfl⟩ := own_form hown
  have hrec := recsAt_own hown
  have HL : Hid (leadsL l a.data.toList b.data.toList = true) := hld
  clear hld hown
  go_wp2_with fail
  refine (fits_calls a _ (by unfold maxLen; omega)).mono ?_
  rintro e w2 ⟨rfl, hw⟩
  obtain rfl : w1 = w2 := hw.symm
  clear hw
  by_cases h1 : a.size ≤ 4096
  · rw [decide_eq_true h1]
    go_wp2_with fail
    refine (fits_calls b _ (by unfold maxLen; omega)).mono ?_
    rintro e w2 ⟨rfl, hw⟩
    obtain rfl : w1 = w2 := hw.symm
    clear hw
    by_cases h2 : b.size ≤ 4096
    · rw [decide_eq_true h2]
      obtain ⟨eA, eB⟩ := leads_len l _ _ hok HL.out
      rw [ba_len] at eA eB
      have HA : Hid (lenA l = a.size) := eA
      have HB : Hid (lenB l = b.size) := eB
      clear eA eB
      go_wp2_with fail
      refine (kwritten_calls _ _ _ l a b _ hrec (by omega) h1 h2 hok HL.out).mono ?_
      rintro e w2 ⟨⟨t, rfl, ht, hts, ht10⟩, b2⟩
      have HT : Hid (Tells t.data.toList ⟨a.size, b.size, sum a.data.toList, sum b.data.toList, l⟩) := tells_of a b l h1 h2 hok HA.out HB.out t ht
      have HW : Hid (t.data.toList = writE ⟨a.size, b.size, sum a.data.toList, sum b.data.toList, l⟩) := ht
      have B2 := b1.trans (b2.mono b1.size)
      have hrec2 := hrec.below b2
      clear ht b2 hrec
      go_wp2_with fail
      refine (rread_calls t _ (by unfold maxLen; omega)).mono ?_
      rintro e w3 ⟨m, er, v3, rfl, h3, own3, nil3, b3⟩
      obtain ⟨rfl, rfl⟩ := read_ok hts HT.out h3
      obtain ⟨a3, c3, rfl⟩ := own_form own3
      have rec3 := recsAt_own own3
      have rec1 := hrec2.below b3
      have B3 := B2.trans (b3.mono B2.size)
      clear own3 nil3 h3 b3 hrec2
      go_wp2_with fail
      refine (ksame_calls _ _ _ _ _ _ m _ rec1 rec3 (by unfold maxLen; omega)).mono ?_
      rintro e w4 ⟨rfl, q4, rfl⟩
      go_wp2_with fail
      refine (undone_calls b t a m _ h1 h2 hts HT.out HL.out).mono ?_
      rintro e w5 ⟨rfl, b5⟩
      have B5 := (below_drewN B3 q4).trans (b5.mono (by have := B3.size; simp; omega))
      have rec5 : RecsAt w5 a3 m.length m := (rec3.below (below_drewN (Below.refl _ _) q4)).below b5
      clear b5 rec3 rec1
      go_wp2_with fail
      refine (kwritten_calls _ _ _ m a b _ rec5 (by omega) h1 h2 hok HL.out).mono ?_
      rintro e w6 ⟨⟨t', rfl, ht', _, _⟩, b6⟩
      obtain rfl : t = t' := ba_ext (by rw [ht', HW.out])
      have B6 := B5.trans (b6.mono B5.size)
      clear ht' b6 rec5
      go_wp2
      go_ret
      exact ⟨rfl, B6⟩
    · rw [decide_eq_false h2]
      go_wp2
      go_ret
      exact ⟨rfl, b1⟩
  · rw [decide_eq_false h1]
    go_wp2
    go_ret
    exact ⟨rfl, b1⟩

theorem wf_bounds {k : Int} (h : (Lit.int .i64 k).wf = true) : -9223372036854775808 ≤ k ∧ k ≤ 9223372036854775807 := by
  simpa [Lit.wf, IntKind.min, IntKind.max, IntKind.signed, IntKind.bits] using h

/-- one record, as it is read, and what it weighs -/
theorem open_rec2 {H : Type} {enc : TypeId × Value → H} {W : World} {base : Nat} {spare : Nat → Bool} {held : Bool} {n : Nat} {cs : List Value} {x : DataW H × List MemPlace} (h : DataW.trod enc Try.prog W base spare held n 57 cs = some x) : ∃ r : M.Rec, cs = recC r ∧ wfRec r ∧ r.s.size ≤ Rows.uptoBulk x.1 := by
  obtain ⟨y0, y1, y2, m, hx, hl, h0, h1, h2⟩ := Deep.trod_struct3 Try.underlying57 h
  rw [cellsR] at hl
  obtain ⟨k, e0, g0, f0⟩ := DataW.trod_int (t := 3) Try.underlying3 h0
  obtain ⟨q, e1, g1, f1⟩ := DataW.trod_int (t := 3) Try.underlying3 h1
  obtain ⟨s, e2, g2, f2⟩ := DataW.trod_string (t := 9) Try.underlying9 h2
  match cs, hl with
  | [c0, c1, c2], _ =>
    simp [cellsI, cellsS] at e0 e1 e2
    refine ⟨⟨k, q, s⟩, by rw [e0, e1, e2]; rfl, ⟨wf_bounds f0, wf_bounds f1⟩, ?_⟩
    rw [hx, g0, g1, g2]
    simp only [Rows.uptoBulk, Rows.uptoBulkAll, ba_len]
    omega

theorem bulk_sum {H : Type} (f : Nat → M.Rec) (D : Nat → DataW H) : ∀ (n : Nat), (∀ i, i < n → (f i).s.size ≤ Rows.uptoBulk (D i)) → sumS ((List.range n).map f) ≤ Rows.uptoBulkAll ((List.range n).map D) := by
  intro n
  induction n with
  | zero => intro _; simp [sumS]
  | succ n ih =>
    intro h
    have h1 := ih (fun i hi => h i (by omega))
    have h2 := h n (by omega)
    have hap : ∀ (l r : List (DataW H)), Rows.uptoBulkAll (l ++ r) = Rows.uptoBulkAll l + Rows.uptoBulkAll r := by
      intro l r
      induction l with
      | nil => simp [Rows.uptoBulkAll]
      | cons x l ih => simp only [List.cons_append, Rows.uptoBulkAll, ih]; omega
    rw [List.range_succ, List.map_append, List.map_append, sumS_append, hap]
    simp only [List.map_cons, List.map_nil, sumS, Rows.uptoBulkAll]
    omega
theorem bulk_one {H : Type} (d : DataW H) : 1 ≤ Rows.uptoBulk d := by
  cases d with
  | lit l => cases l <;> simp [Rows.uptoBulk]
  | nil => simp [Rows.uptoBulk]
  | ptr d => simp [Rows.uptoBulk]
  | slice elems spare => simp [Rows.uptoBulk]
  | agg parts => simp [Rows.uptoBulk]
  | iface t d => simp [Rows.uptoBulk]
  | map entries => simp [Rows.uptoBulk]
  | held h => simp [Rows.uptoBulk]
theorem bulk_len {H : Type} (l : List (DataW H)) : l.length ≤ Rows.uptoBulkAll l := by
  induction l with
  | nil => simp [Rows.uptoBulkAll]
  | cons x r ih => have := bulk_one x; simp only [Rows.uptoBulkAll, List.length_cons]; omega

theorem open_recs2 {H : Type} {enc : TypeId × Value → H} {W : World} {v : Value} {d : DataW H} {p : List MemPlace} {base : Nat} (hok : Value.okWide Try.prog W .any base 22 v) (h : DataW.Trod enc Try.prog W 0 (fun _ => true) true 22 v d p) :
    ∃ (a : Option Addr) (len cap : Nat) (l : List M.Rec), v = .slice a len cap ∧ RecsAt W a len l ∧ (∀ r ∈ l, wfRec r) ∧ sumS l ≤ Rows.uptoBulk d ∧ l.length ≤ Rows.uptoBulk d := by
  obtain ⟨a, len, cap, rfl⟩ := okWide_slice Try.underlying22 hok
  obtain ⟨fuel, hf⟩ := h
  rcases Deep.open_slice Try.underlying22 hf with ⟨hcs, hx⟩ | ⟨x, len', cap', m, n, D, Pl, hcs, hb, hl, hm, hmm, hx, hel⟩
  · simp [Value.cells] at hcs
    obtain ⟨rfl, rfl, rfl⟩ := hcs
    exact ⟨none, 0, 0, [], rfl, ⟨rfl, .inl rfl⟩, fun r hr => by simp at hr, by simp [sumS], by simp⟩
  · simp [Value.cells] at hcs
    obtain ⟨rfl, rfl, rfl⟩ := hcs
    rw [cellsR] at hel
    simp at hmm
    subst hmm
    have hd : d = .slice ((List.range len).map D) ((List.range (m - len)).map fun j => D (len + j)) := by simp at hx; exact hx.1
    have hex : ∀ i, i < len → ∃ r : M.Rec, W.cells? 0 (x.add (i * 3)) 3 = some (recC r) ∧ wfRec r ∧ r.s.size ≤ Rows.uptoBulk (D i) := fun i hi => by
      obtain ⟨cs, h1, h2⟩ := hel i (by omega)
      obtain ⟨r, rfl, h3, h4⟩ := open_rec2 h2
      exact ⟨r, h1, h3, h4⟩
    have : Inhabited M.Rec := ⟨markR⟩
    obtain ⟨f, hf2⟩ := Deep.choose_lt hex
    refine ⟨some x, len, m, (List.range len).map f, rfl, ⟨by simp, ?_⟩, ?_, ?_, ?_⟩
    · by_cases h0 : len = 0
      · subst h0; exact .inl rfl
      · right
        obtain ⟨b, off, spot⟩ := x
        have hc : ∀ i, i < len → W.cell? ((⟨b, off, spot⟩ : Addr).add (i * 3)) = some (.int .i64 (f i).kind) ∧ W.cell? (((⟨b, off, spot⟩ : Addr).add (i * 3)).add 1) = some (.int .i64 (f i).n) ∧ W.cell? (((⟨b, off, spot⟩ : Addr).add (i * 3)).add 2) = some (.string (f i).s) := fun i hi => by
          obtain ⟨_, _, h3⟩ := World.cells?_some (hf2 i hi).1
          have g0 := h3 0 (by omega)
          have g1 := h3 1 (by omega)
          have g2 := h3 2 (by omega)
          simp [recC] at g0 g1 g2
          exact ⟨by simpa [Addr.add] using g0, g1, g2⟩
        have hspot : spot = none := by
          have := World.cell?_spot (hc 0 (by omega)).1
          simpa [Addr.add] using this
        subst hspot
        have e : ∀ j, (⟨b, off, none⟩ : Addr).add j = ⟨b, off + j, none⟩ := fun j => by unfold Addr.add; split <;> simp_all
        refine ⟨b, off, rfl, ?_, fun i hi => ?_⟩
        · have := World.block_lt_of_cell? W _ (hc 0 (by omega)).1
          rw [e] at this
          exact this
        · have hi' : i < len := by simpa using hi
          obtain ⟨g0, g1, g2⟩ := hc i hi'
          rw [e] at g0 g1 g2
          have e2 : ∀ o j, (⟨b, o, none⟩ : Addr).add j = ⟨b, o + j, none⟩ := fun o j => by unfold Addr.add; split <;> simp_all
          rw [e2] at g1 g2
          simp only [List.getElem_map, List.getElem_range]
          exact ⟨g0, g1, g2⟩
    · intro r hr
      obtain ⟨i, hi, rfl⟩ := List.mem_map.1 hr
      exact (hf2 i (List.mem_range.1 hi)).2.1
    · have h1 := bulk_sum f D len (fun i hi => (hf2 i hi).2.2)
      rw [hd]
      simp only [Rows.uptoBulk]
      omega
    · have h1 := bulk_len ((List.range len).map D)
      rw [hd]
      simp only [Rows.uptoBulk]
      simp at h1 ⊢
      omega

theorem carried_contract (H : Type) (enc : TypeId × Value → H) (W : World) (base : Nat) (args : Array Value) (ds gs : List (DataW H)) (before : List MemPlace)
    (hval : ∀ (j : Nat) t v, Try.f6.params[j]? = some t → args[j]? = some v → Value.okWide Try.prog W .any base t v)
    (hW : DataW.Whole enc Try.prog Try.f6.params.toList Rows.carriedSpec.vars false W args.toList ds gs before) (hk : Rows.uptoSmall H (ds ++ gs) = true) :
    Calls Try.prog 6 args W fun e W' => ∃ v, e = .returned v ∧ Rows.carriedSpec.post enc Try.prog Try.f6 false true false false W args v W' := by
  have hW' := hW
  obtain ⟨p, q, hA0, hV, rfl, hfz, hnd⟩ := hW
  have hA : DataW.TrodAll enc Try.prog W 0 (fun _ => true) true Try.f6.params.toList args.toList ds p := hA0
  rw [Try.params6] at hA hval
  obtain ⟨v0, vs0, d0, ds0, p0, q0, hargs, rfl, rfl, h0, r0⟩ := trodAll_cons hA
  obtain ⟨v1, vs1, d1, ds1, p1, q1, rfl, rfl, rfl, h1, r1⟩ := trodAll_cons r0
  obtain ⟨rfl, rfl, rfl⟩ := trodAll_nil r1
  obtain rfl : args = #[v0, v1] := by cases args; simp_all
  obtain ⟨rfl, rfl⟩ := trodVars_none hV
  have k1 := h1
  have lt1 : ∀ x ∈ p1, x.block < W.heap.size := by obtain ⟨m, hm⟩ := k1; exact DataW.trod_lt m _ _ _ hm
  obtain ⟨a0, rfl, rfl, rfl, w0⟩ := open_string Try.underlying9 (hval 0 9 v0 rfl rfl) h0
  obtain ⟨a1, len1, cap1, l, rfl, hat, hwf, hS, hll⟩ := open_recs2 (hval 1 22 v1 rfl rfl) h1
  have hk2 : Rows.uptoSmall H [.lit (.string a0.data.toList), d1] = true := by simpa using hk
  have hb : Rows.uptoBulkAll ([.lit (.string a0.data.toList), d1] : List (DataW H)) ≤ 1048576 := of_decide_eq_true hk2
  simp only [Rows.uptoBulkAll, Rows.uptoBulk, ba_len] at hb
  clear hA0
  refine (carried_walk len1 cap1 a1 l a0 W hat hwf (by omega) (by omega) (by omega)).mono fun e W' ⟨he, bel⟩ => ?_
  subst he
  exact ⟨_, rfl, _, _, _, [], _, [], hW', trodAll_mk1 (shut_bool Try.underlying4 _), (trodAll_cons_mk (shut_string Try.underlying9 w0) (trodAll_cons_mk (Below.trod laidOut (by kernel_rfl) (of_decide_eq_true (by kernel_rfl)) k1 bel lt1) trodAll_mk0)), rfl, bel.frame _, fun h => by cases h⟩

set_option maxRecDepth 100000 in
theorem carried_lifted (os : Os) (started : os.Started) (H : Type) (enc : TypeId × Value → H) (F : Stop.Interp) :
    ReturnsInHanded {} Try.checked os 6 .any ((Rows.OpenSpec.upto Rows.carriedSpec).pre6 enc Try.prog Try.f6 Rows.carriedUptoRow.domain false) (((Rows.OpenSpec.upto Rows.carriedSpec).at F).post enc Try.prog Try.f6 false true false false) := by
  refine returnsInHanded_of_cond (C := Try.checked) (s := Rows.OpenSpec.upto Rows.carriedSpec) (k := Rows.uptoSmall) rfl own_no started (by kernel_rfl) Try.func6
    (OpenSpec.witness (enc := enc) (C := Try.checked) (s := Rows.OpenSpec.upto Rows.carriedSpec) (k := Rows.uptoSmall) rfl false ⟨#[], #[.string .empty, .slice none 0 0], []⟩ 8 (by kernel_rfl) (by kernel_rfl) (by kernel_rfl)
      (x := ([.lit (.string []), .nil], [], [])) (by kernel_rfl) rfl (by kernel_rfl)) ?_
  intro W base args ds gs before hval hW _ hk _
  exact carried_contract H enc W base args ds gs before hval hW hk

theorem carriedUpto_holds : Rows.CarriedUptoSaid :=
  OpenClaim.holds_of_cond 6 Try.f6 rfl rfl rfl rfl rfl rfl rfl ⟨rfl, rfl, rfl, rfl, rfl⟩ rfl rfl rfl rfl rfl (by kernel_rfl) Try.func6 (by kernel_rfl)
    (of_decide_eq_true (by kernel_rfl)) (by unfold Func.isWrapper; first | (rw [if_pos (by decide +kernel)]; kernel_rfl) | (rw [if_neg (by decide +kernel)]; exact ⟨rfl, rfl⟩))
    (fun os started H enc _ F => carried_lifted os started H enc F)
#print axioms carriedUpto_holds
end Go.Proofs.Ytlppphmnegdhoaa
