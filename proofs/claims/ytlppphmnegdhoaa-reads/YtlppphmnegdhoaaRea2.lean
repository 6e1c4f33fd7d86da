/-
  The statement on Read.
-/
import Derived.Test.YtlppphmnegdhoaaRea1
namespace Go.Proofs.Ytlppphmnegdhoaa
set_option linter.unusedVariables false
set_option maxRecDepth 100000
open Go.ChangeShapes Go.WideShapes Go.ChangeAt Go.RowKit
open Go.ChangeMaps (open_string shut_string)
open M

set_option maxHeartbeats 400000 in
theorem marked_nil (w : World) : Calls Try.prog 23 #[.slice none 0 0] w fun e w' => e = .returned (.slice none 0 0) ∧ w' = w := by
  go_enter Try.func23, Try.ntmps23
  go_wp2
  go_loop [4] (fun i => i = .int .i64 0) (fun _ => 0)
  case atStart => rfl
  case round =>
    subst hrel
    go_wp2
    go_ret
    exact ⟨rfl, rfl⟩
set_option maxHeartbeats 400000 in
theorem full_nil (w : World) : Calls Try.prog 24 #[.slice none 0 0] w fun e w' => e = .returned (.bool true) ∧ w' = w := by
  go_enter Try.func24, Try.ntmps24
  go_wp2
  go_loop [3] (fun i => i = .int .i64 0) (fun _ => 0)
  case atStart => rfl
  case round =>
    subst hrel
    go_wp2
    go_ret
    exact ⟨rfl, rfl⟩

theorem Marks.below {w w' : World} {g k : Nat} (h : Marks w g k) (hb : Below w.heap.size w w') (hg : g < w.heap.size) : Marks w' g k := fun i hi => by
  obtain ⟨a, b, c⟩ := h i hi
  exact ⟨(hb.cell (by exact hg)).trans a, (hb.cell (by exact hg)).trans b, (hb.cell (by exact hg)).trans c⟩
/-- an own row's room -/
theorem room_own {w : World} {g cap : Nat} {cur : Array Value} (h : w.heap[g]? = some (.cells cur 57 (0, 0))) (hc : cur.size = cap * 3) : Room w g cap := by
  intro o ho
  have h1 : w.cell? ⟨g, o, none⟩ = cur[o]? := by simp [World.cell?, h]
  have h2 : w.frozen? ⟨g, o, none⟩ = false := by simp [World.frozen?, h]
  refine ⟨?_, h2⟩
  rw [h1, Array.getElem?_eq_getElem (by omega)]; rfl

set_option maxRecDepth 100000 in
set_option maxHeartbeats 2000000 in
theorem reads_walk (s : ByteArray) (hs : s.size ≤ maxLen) (w : World) :
    Calls Try.prog 4 #[.string s] w fun e w' => e = .returned (.bool true) ∧ Below w.heap.size w w' := by
  have hnil : ∀ w1, (binOp .neq 22 (.slice none 0 0) (.slice none 0 0)).run Try.prog w1 = .ok (.bool false) w1 := fun w1 => by kernel_rfl
  go_enter Try.func4, Try.ntmps4
  go_wp2_with fail
  refine (rread_calls s _ hs).mono ?_
  rintro e w1 ⟨l, er, v1, rfl, h1, own1, nil1, b1⟩
  go_wp2_with fail
  refine (dread_calls s _ hs).mono ?_
  rintro e w2 ⟨l', er', v2, rfl, h2, own2, nil2, b2⟩
  obtain ⟨e1, e2⟩ := readSpec_same h1 h2
  subst e1 e2
  obtain ⟨hlen, herr⟩ := readSpec_len h1
  have HS : Hid (ReadSpec s l er) := h1
  have z1 := b1.size
  have z2 := b2.size
  have own12 := ownsRow_below own1 b2
  have B2 : Below w.heap.size w w2 := b1.trans (b2.mono z1)
  clear h1 h2 nil2
  obtain ⟨a2, c2, rfl⟩ := own_form own2
  have rec2 := recsAt_own own2
  obtain ⟨hl1, ⟨rfl, hn0⟩ | ⟨g, cap, cur, rfl, hg1, hheap, hncap, hcm, hcs, htk⟩⟩ := id own12
  · obtain rfl : l = [] := List.length_eq_zero_iff.1 hn0
    clear hl1 hn0 own12
    have rec1 : RecsAt w2 none 0 [] := ⟨rfl, .inl rfl⟩
    go_wp2_with fail
    refine (same_calls _ _ _ _ _ _ [] _ rec1 rec2 (by simp)).mono ?_
    rintro e w3 ⟨rfl, q3, rfl⟩
    have HN : Hid (er = 0 ∨ True) := herr
    clear herr nil1 own1
    go_wp2_with fail
    all_goals
      refine (marked_nil _).mono ?_
      rintro e w4 ⟨rfl, rfl⟩
      go_wp2_with fail
      refine (rread_calls s _ hs).mono ?_
      rintro e w5 ⟨l5, er5, v5, rfl, h5, own5, nil5, b5⟩
      obtain ⟨e1, e2⟩ := readSpec_same HS.out h5
      subst e1 e2
      obtain ⟨a5, c5, rfl⟩ := own_form own5
      have rec5 := recsAt_own own5
      have rec25 : RecsAt w5 a2 0 [] := ⟨rfl, .inl rfl⟩
      have z5 := b5.size
      have B5 : Below w.heap.size w w5 := (below_drewN B2 q3).trans (b5.mono (by simp; omega))
      clear own5 nil5 h5
      go_wp2_with fail
      refine (same_calls _ _ _ _ _ _ [] _ rec5 rec25 (by simp)).mono ?_
      rintro e w6 ⟨rfl, q6, rfl⟩
      go_wp2_with fail
      refine (full_nil _).mono ?_
      rintro e w7 ⟨rfl, rfl⟩
      go_wp2
      go_ret
      exact ⟨rfl, below_drewN B5 q6⟩
  · have hgw1 : g < w1.heap.size := (own1.lt g rfl).2
    have rec1 := recsAt_own own12
    have hroom : Room w2 g cap := room_own hheap hcs
    have her : er = 0 := by
      rcases herr with h | h
      · exact h
      · by_cases h0 : er = 0
        · exact h0
        · exact absurd (nil1 h0) (by simp)
    subst her
    have HR : Hid (Room w2 g cap) := hroom
    unfold maxLen at hcm
    have h22 : Hid (∀ q, w2.grownBy (w2.drewN q) none) := fun q => ⟨rfl, rfl, rfl, Nat.le_refl _, fun _ _ _ => rfl⟩
    clear hroom hheap htk hcs hl1 herr nil1 own1 own12
    go_wp2_with fail
    refine (same_calls _ _ _ _ _ _ l _ rec1 rec2 (by unfold maxLen; omega)).mono ?_
    rintro e w3 ⟨rfl, q3, rfl⟩
    go_wp2_with fail
    refine (marked_calls g l.length cap _ (by simp; omega) hncap (by omega) (by exact HR.out)).mono ?_
    rintro e w4 ⟨rfl, hM, hG⟩
    have z4 := hG.size
    simp at z4
    have own4 : w4.ownsRow w1.heap.size 57 3 (.slice a2 l.length c2) l.length (recsC l) := by
      have hk : (w2.drewN q3).ownsRow w1.heap.size 57 3 (.slice a2 l.length c2) l.length (recsC l) := own2
      refine hk.kept hG ?_
      cases ho : (Value.slice a2 l.length c2).ownBlock with
      | none => exact .inl rfl
      | some x =>
        refine .inr (fun e => ?_)
        have := (own2.lt x ho).1
        have e2 : x = g := by simpa using e
        omega
    have B4 : Below w.heap.size w w4 := (below_drewN B2 q3).grown hG (by simp; omega) (fun k hk => (by simpa using hk : g = k) ▸ hg1)
    clear hG own2 rec1 rec2
    go_wp2_with fail
    refine (rread_calls s _ hs).mono ?_
    rintro e w5 ⟨l5, er5, v5, rfl, h5, own5, nil5, b5⟩
    obtain ⟨e1, e2⟩ := readSpec_same HS.out h5
    subst e1 e2
    obtain ⟨a5, c5, rfl⟩ := own_form own5
    have rec5 := recsAt_own own5
    have rec2 := recsAt_own (ownsRow_below own4 b5)
    have hM5 : Marks w5 g cap := hM.below b5 (by omega)
    have z5 := b5.size
    have B5 : Below w.heap.size w w5 := B4.trans (b5.mono B4.size)
    clear own4 own5 nil5 h5 hM
    go_wp2_with fail
    refine (same_calls _ _ _ _ _ _ l _ rec5 rec2 (by unfold maxLen; omega)).mono ?_
    rintro e w6 ⟨rfl, q6, rfl⟩
    go_wp2_with fail
    refine (full_calls g cap _ (by simp; omega) (by omega) (by exact hM5)).mono ?_
    rintro e w7 ⟨rfl, b7⟩
    go_wp2
    go_ret
    exact ⟨rfl, (below_drewN B5 q6).trans (b7.mono (by simp; omega))⟩

set_option maxRecDepth 100000 in
theorem reads_lifted (os : Os) (started : os.Started) (H : Type) (enc : TypeId × Value → H) :
    ReturnsInHanded {} Try.checked os 4 .any (Rows.readsSpec.pre6 enc Try.prog Try.f4 Rows.readsRow.domain false) (Rows.readsSpec.post enc Try.prog Try.f4 false true false false) := by
  refine returnsInHanded_of_change (C := Try.checked) own_none started (by kernel_rfl) Try.func4
    (ChangeSpec.witness6 (enc := enc) (C := Try.checked) false ⟨#[], #[.string ByteArray.empty], []⟩ 8 (by kernel_rfl) (by kernel_rfl) (by kernel_rfl) (by kernel_rfl)) ?_
  intro W base args ds gs before hval0 hW hcnd _
  have hval : ∀ (j : Nat) t v, Try.f4.params[j]? = some t → args[j]? = some v → Value.okWide Try.prog W .any base t v := hval0
  have hW' := hW
  obtain ⟨p, q, hA0, hV, rfl, hfz, hnd⟩ := hW
  have hA : DataW.TrodAll enc Try.prog W 0 (fun _ => true) true Try.f4.params.toList args.toList ds p := hA0
  rw [Try.params4] at hA hval
  obtain ⟨v0, vs0, d0, ds0, p0, q0, hargs, rfl, rfl, h0, r0⟩ := trodAll_cons hA
  obtain ⟨rfl, rfl, rfl⟩ := trodAll_nil r0
  obtain rfl : args = #[v0] := by cases args; simp_all
  obtain ⟨rfl, rfl⟩ := trodVars_none hV
  obtain ⟨a0, rfl, rfl, rfl, w0⟩ := open_string Try.underlying9 (hval 0 9 v0 rfl rfl) h0
  clear hA0 hval0
  refine (reads_walk a0 w0 W).mono fun e W' ⟨he, bel⟩ => ?_
  subst he
  exact ⟨_, rfl, _, _, _, [], _, [], hW', trodAll_mk1 (shut_bool Try.underlying4 _), (trodAll_cons_mk (shut_string Try.underlying9 w0) trodAll_mk0), rfl, bel.frame _, fun h => by cases h⟩

theorem reads_holds : Rows.ReadsSaid :=
  OpenClaim.holds_of_wide 4 Try.f4 rfl rfl rfl rfl rfl rfl rfl ⟨rfl, rfl, rfl, rfl, rfl⟩ rfl rfl rfl rfl rfl (by kernel_rfl) Try.func4 (by kernel_rfl)
    (of_decide_eq_true (by kernel_rfl)) (by unfold Func.isWrapper; first | (rw [if_pos (by decide +kernel)]; kernel_rfl) | (rw [if_neg (by decide +kernel)]; exact ⟨rfl, rfl⟩))
    (fun os started H enc _ => reads_lifted os started H enc)
#print axioms reads_holds
end Go.Proofs.Ytlppphmnegdhoaa
