/-
  The statement on Write.
-/
import Derived.Test.YtlppphmnegdhoaaWri5
import Derived.ProofKit
import Derived.OpenShut
import Derived.ShutString
import Derived.ChangeOld
import Derived.Below
import Derived.SizedLaws
import Derived.Deep.Slices
import Derived.Deep.Strs
namespace Go.Proofs.Ytlppphmnegdhoaa
set_option linter.unusedVariables false
set_option maxRecDepth 100000
open Go.ChangeShapes Go.WideShapes Go.ChangeAt Go.RowKit
open Go.ChangeMaps (open_string shut_string)
open M

theorem cellsR : Try.prog.cellsOf 57 = 3 := by kernel_rfl
theorem cellsI : Try.prog.cellsOf 3 = 1 := by kernel_rfl
theorem cellsS : Try.prog.cellsOf 9 = 1 := by kernel_rfl
theorem bytesR : Try.prog.bytesOf 57 = 32 := by kernel_rfl
theorem laidOut : laidOutB Try.prog = true := by kernel_rfl

/-- one record, as it is read -/
theorem open_rec {H : Type} {enc : TypeId × Value → H} {W : World} {base : Nat} {spare : Nat → Bool} {held : Bool} {n : Nat} {cs : List Value} {x : DataW H × List MemPlace} (h : DataW.trod enc Try.prog W base spare held n 57 cs = some x) : ∃ r : M.Rec, cs = recC r := by
  obtain ⟨y0, y1, y2, m, _, hl, h0, h1, h2⟩ := Deep.trod_struct3 Try.underlying57 h
  rw [cellsR] at hl
  obtain ⟨k, e0, _, _⟩ := DataW.trod_int (t := 3) Try.underlying3 h0
  obtain ⟨q, e1, _, _⟩ := DataW.trod_int (t := 3) Try.underlying3 h1
  obtain ⟨s, e2, _, _⟩ := DataW.trod_string (t := 9) Try.underlying9 h2
  match cs, hl with
  | [c0, c1, c2], _ =>
    simp [cellsI, cellsS] at e0 e1 e2
    exact ⟨⟨k, q, s⟩, by rw [e0, e1, e2]; rfl⟩

theorem open_recs {H : Type} {enc : TypeId × Value → H} {W : World} {v : Value} {d : DataW H} {p : List MemPlace} {base : Nat} (hok : Value.okWide Try.prog W .any base 22 v) (h : DataW.Trod enc Try.prog W 0 (fun _ => true) true 22 v d p) :
    ∃ (a : Option Addr) (len cap : Nat) (l : List M.Rec), v = .slice a len cap ∧ RecsAt W a len l ∧ ((d = .nil ∧ len = 0) ∨ ∃ es sp, d = .slice es sp ∧ es.length = len) := by
  obtain ⟨a, len, cap, rfl⟩ := okWide_slice Try.underlying22 hok
  obtain ⟨fuel, hf⟩ := h
  rcases Deep.open_slice Try.underlying22 hf with ⟨hcs, hx⟩ | ⟨x, len', cap', m, n, D, Pl, hcs, hb, hl, hm, hmm, hx, hel⟩
  · simp [Value.cells] at hcs
    obtain ⟨rfl, rfl, rfl⟩ := hcs
    exact ⟨none, 0, 0, [], rfl, ⟨rfl, .inl rfl⟩, .inl ⟨by simp at hx; exact hx.1, rfl⟩⟩
  · simp [Value.cells] at hcs
    obtain ⟨rfl, rfl, rfl⟩ := hcs
    rw [cellsR] at hel
    simp at hmm
    subst hmm
    have hex : ∀ i, i < len → ∃ r : M.Rec, W.cells? 0 (x.add (i * 3)) 3 = some (recC r) := fun i hi => by
      obtain ⟨cs, h1, h2⟩ := hel i (by omega)
      obtain ⟨r, rfl⟩ := open_rec h2
      exact ⟨r, h1⟩
    have : Inhabited M.Rec := ⟨markR⟩
    obtain ⟨f, hf2⟩ := Deep.choose_lt hex
    refine ⟨some x, len, m, (List.range len).map f, rfl, ⟨by simp, ?_⟩, .inr ⟨_, _, by simp at hx; exact hx.1, by simp⟩⟩
    by_cases h0 : len = 0
    · subst h0; exact .inl rfl
    · right
      obtain ⟨b, off, spot⟩ := x
      have hc : ∀ i, i < len → W.cell? ((⟨b, off, spot⟩ : Addr).add (i * 3)) = some (.int .i64 (f i).kind) ∧ W.cell? (((⟨b, off, spot⟩ : Addr).add (i * 3)).add 1) = some (.int .i64 (f i).n) ∧ W.cell? (((⟨b, off, spot⟩ : Addr).add (i * 3)).add 2) = some (.string (f i).s) := fun i hi => by
        obtain ⟨_, _, h3⟩ := World.cells?_some (hf2 i hi)
        have g0 := h3 0 (by omega)
        have g1 := h3 1 (by omega)
        have g2 := h3 2 (by omega)
        simp [recC] at g0 g1 g2
        exact ⟨by simpa [Addr.add] using g0, g1, g2⟩
      have hspot : spot = none := by
        have := World.cell?_spot (hc 0 (by omega)).1
        simpa [Addr.add] using this
      subst hspot
      have e : ∀ j, (⟨b, off, none⟩ : Addr).add j = ⟨b, off + j, none⟩ := fun j => by unfold Addr.add; split <;> simp_all
      refine ⟨b, off, rfl, ?_, fun i hi => ?_⟩
      · have := World.block_lt_of_cell? W _ (hc 0 (by omega)).1
        rw [e] at this
        exact this
      · have hi' : i < len := by simpa using hi
        obtain ⟨g0, g1, g2⟩ := hc i hi'
        rw [e] at g0 g1 g2
        have e2 : ∀ o j, (⟨b, o, none⟩ : Addr).add j = ⟨b, o + j, none⟩ := fun o j => by unfold Addr.add; split <;> simp_all
        rw [e2] at g1 g2
        simp only [List.getElem_map, List.getElem_range]
        exact ⟨g0, g1, g2⟩

theorem own_no : ownKnob Try.prog.godebug = none := by kernel_rfl
set_option maxRecDepth 100000 in
theorem writes_lifted (os : Os) (started : os.Started) (H : Type) (enc : TypeId × Value → H) :
    ReturnsInHanded {} Try.checked os 3 .any (Rows.writesSpec.pre6 enc Try.prog Try.f3 Rows.writesRow.domain false) (Rows.writesSpec.post enc Try.prog Try.f3 false true false false) := by
  refine returnsInHanded_of_change_sized (C := Try.checked) own_no started (by kernel_rfl) Try.func3
    (ChangeSpec.witness6 (enc := enc) (C := Try.checked) false ⟨#[], #[.slice none 0 0, .string ByteArray.empty, .string ByteArray.empty], []⟩ 8 (by kernel_rfl) (by kernel_rfl) (by kernel_rfl) (by kernel_rfl)) ?_
  intro W base args ds gs before hval0 hW hcnd hsz0 _
  have hval : ∀ (j : Nat) t v, Try.f3.params[j]? = some t → args[j]? = some v → Value.okWide Try.prog W .any base t v := hval0
  have hsz : (DataW.weightsEach Try.prog (Try.f3.params.toList ++ Rows.writesSpec.plain.varTypes Try.prog) (ds ++ gs)).all (· ≤ reachBytes) = true := hsz0
  have hW' := hW
  obtain ⟨p, q, hA0, hV, rfl, hfz, hnd⟩ := hW
  have hA : DataW.TrodAll enc Try.prog W 0 (fun _ => true) true Try.f3.params.toList args.toList ds p := hA0
  rw [Try.params3] at hA hval hsz
  obtain ⟨v0, vs0, d0, ds0, p0, q0, hargs, rfl, rfl, h0, r0⟩ := trodAll_cons hA
  obtain ⟨v1, vs1, d1, ds1, p1, q1, rfl, rfl, rfl, h1, r1⟩ := trodAll_cons r0
  obtain ⟨v2, vs2, d2, ds2, p2, q2, rfl, rfl, rfl, h2, r2⟩ := trodAll_cons r1
  obtain ⟨rfl, rfl, rfl⟩ := trodAll_nil r2
  obtain rfl : args = #[v0, v1, v2] := by cases args; simp_all
  obtain ⟨rfl, rfl⟩ := trodVars_none hV
  have k0 := h0
  have lt0 : ∀ x ∈ p0, x.block < W.heap.size := by obtain ⟨m, hm⟩ := k0; exact DataW.trod_lt m _ _ _ hm
  obtain ⟨a0, len0, cap0, l, rfl, hat, hd⟩ := open_recs (hval 0 22 v0 rfl rfl) h0
  obtain ⟨a1, rfl, rfl, rfl, w1⟩ := open_string Try.underlying9 (hval 1 9 v1 rfl rfl) h1
  obtain ⟨a2, rfl, rfl, rfl, w2⟩ := open_string Try.underlying9 (hval 2 9 v2 rfl rfl) h2
  have hln : l.length * 32 ≤ 140737488351232 := by
    rw [← hat.len]
    rcases hd with ⟨_, h⟩ | ⟨es, sp, rfl, h⟩
    · omega
    · have h3 := sized_slice hsz (j := 0) (t := 22) (e := 57) rfl rfl Try.underlying22
      rw [bytesR] at h3
      simp only [reachBytes] at h3
      omega
  clear hA0 hval0
  refine (writes_walk len0 cap0 a0 l a1 a2 W hat hln w1 w2).mono fun e W' ⟨he, bel⟩ => ?_
  subst he
  exact ⟨_, rfl, _, _, _, [], _, [], hW', trodAll_mk1 (shut_bool Try.underlying4 _), (trodAll_cons_mk (Below.trod laidOut (by kernel_rfl) (of_decide_eq_true (by kernel_rfl)) k0 bel lt0) (trodAll_cons_mk (shut_string Try.underlying9 w1) (trodAll_cons_mk (shut_string Try.underlying9 w2) trodAll_mk0))), rfl, bel.frame _, fun h => by cases h⟩

theorem writes_holds : Rows.WritesSaid :=
  OpenClaim.holds_of_wide 3 Try.f3 rfl rfl rfl rfl rfl rfl rfl ⟨rfl, rfl, rfl, rfl, rfl⟩ rfl rfl rfl rfl rfl (by kernel_rfl) Try.func3 (by kernel_rfl)
    (of_decide_eq_true (by kernel_rfl)) (by unfold Func.isWrapper; first | (rw [if_pos (by decide +kernel)]; kernel_rfl) | (rw [if_neg (by decide +kernel)]; exact ⟨rfl, rfl⟩))
    (fun os started H enc _ => writes_lifted os started H enc)
#print axioms writes_holds
end Go.Proofs.Ytlppphmnegdhoaa
