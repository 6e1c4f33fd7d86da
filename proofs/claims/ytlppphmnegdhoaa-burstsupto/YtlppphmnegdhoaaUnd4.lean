/-
  The statement on Undo.
-/
import Derived.Test.YtlppphmnegdhoaaUnd3
import Derived.ProofKit
import Derived.OpenShut
import Derived.ShutString
import Derived.ChangeOld
import Derived.Below
namespace Go.Proofs.Ytlppphmnegdhoaa
set_option linter.unusedVariables false
set_option maxRecDepth 100000
open Go.ChangeShapes Go.WideShapes Go.ChangeAt Go.RowKit
open Go.ChangeMaps (open_string shut_string)
open M

/-- a journal is known by its bytes -/
theorem tells_same {s : List UInt8} {j k : Jn} (hj : Tells s j) (hk : Tells s k) : j = k := by
  have e := tells_body (tells_parts hj).1 hk
  have h1 := (tells_parts hj).2
  have h2 := (tells_parts hk).2
  rw [← e] at h2
  obtain ⟨e1, e2, e3, e4, e5⟩ := heads_same h1 h2
  have n1 := mem_n j.l hj.1.ok (by rw [hj.1.a]; have := hj.1.la; omega) (by rw [hj.1.b]; have := hj.1.lb; omega)
  have n2 := mem_n k.l hk.1.ok (by rw [hk.1.a]; have := hk.1.la; omega) (by rw [hk.1.b]; have := hk.1.lb; omega)
  obtain ⟨m, hm, hm2⟩ := recs_prefix j.l k.l [] hj.1.ok hk.1.ok n1 n2 (by rw [List.append_nil, e5])
  have hm3 : m = [] := by
    match m with
    | [] => rfl
    | r :: m =>
      have := recE_len r
      have h := congrArg List.length hm2
      simp [recsE_cons] at h
      omega
  obtain ⟨a1, a2, a3, a4, a5⟩ := j
  obtain ⟨b1, b2, b3, b4, b5⟩ := k
  simp only at e1 e2 e3 e4 hm
  rw [e1, e2, e3, e4, hm, hm3, List.append_nil]
theorem undoSpec_same {b s : ByteArray} {a a' : List UInt8} {e e' : Int} (h : UndoSpec b s a e) (h' : UndoSpec b s a' e') : a = a' ∧ e = e' := by
  rcases h with ⟨h1, h2, h3⟩ | ⟨h1, ⟨h2, h3, h4⟩ | ⟨j, h2, h3⟩⟩
  · rcases h' with ⟨g1, g2, g3⟩ | ⟨g1, _⟩
    · exact ⟨by rw [h3, g3], by rw [h2, g2]⟩
    · exact absurd h1 g1
  · rcases h' with ⟨g1, _⟩ | ⟨_, ⟨g2, g3, g4⟩ | ⟨j', g2, _⟩⟩
    · exact absurd g1 h1
    · exact ⟨by rw [h4, g4], by rw [h3, g3]⟩
    · exact absurd g2 (fun g => h2 _ g)
  · rcases h' with ⟨g1, _⟩ | ⟨_, ⟨g2, _⟩ | ⟨j', g2, g3⟩⟩
    · exact absurd g1 h1
    · exact absurd h2 (fun g => g2 _ g)
    · obtain rfl := tells_same h2 g2
      rcases h3 with ⟨p, p2, p3⟩ | ⟨p, ⟨p1, p2, p3⟩ | ⟨p1, p2, p3⟩⟩
      · rcases g3 with ⟨q, q2, q3⟩ | ⟨q, _⟩
        · exact ⟨by rw [p3, q3], by rw [p2, q2]⟩
        · exact absurd q p
      · rcases g3 with ⟨q, _⟩ | ⟨q, ⟨q1, q2, q3⟩ | ⟨q1, q2, q3⟩⟩
        · exact absurd p q
        · exact ⟨by rw [p3, q3], by rw [p2, q2]⟩
        · exact absurd q1 p1
      · rcases g3 with ⟨q, _⟩ | ⟨q, ⟨q1, q2, q3⟩ | ⟨q1, q2, q3⟩⟩
        · exact absurd p q
        · exact absurd p1 q1
        · exact ⟨by rw [p3, q3], by rw [p2, q2]⟩

set_option maxRecDepth 100000 in
set_option maxHeartbeats 1000000 in
theorem undoes_walk (b s : ByteArray) (hb : b.size ≤ maxLen) (hs : s.size ≤ maxLen) (w : World) :
    Calls Try.prog 5 #[.string b, .string s] w fun e w' => e = .returned (.bool true) ∧ Below w.heap.size w w' := by
  go_enter Try.func5, Try.ntmps5
  go_wp2_with fail
  refine (undo_calls b s _ hb hs).mono ?_
  rintro e w1 ⟨⟨t, er, rfl, h1⟩, b1⟩
  go_wp2_with fail
  refine (dundo_calls b s _ hb hs).mono ?_
  rintro e w2 ⟨⟨t', er', rfl, h2⟩, b2⟩
  obtain ⟨e1, e2⟩ := undoSpec_same h1 h2
  obtain rfl : t = t' := ba_ext e1
  subst e2
  clear h1 h2 e1
  go_wp2
  go_ret
  exact ⟨rfl, b1.trans (b2.mono b1.size)⟩

theorem own_none : ownKnob Try.prog.godebug = none := by kernel_rfl
set_option maxRecDepth 100000 in
theorem undoes_lifted (os : Os) (started : os.Started) (H : Type) (enc : TypeId × Value → H) :
    ReturnsInHanded {} Try.checked os 5 .any (Rows.undoesSpec.pre6 enc Try.prog Try.f5 Rows.undoesRow.domain false) (Rows.undoesSpec.post enc Try.prog Try.f5 false true false false) := by
  refine returnsInHanded_of_change (C := Try.checked) own_none started (by kernel_rfl) Try.func5
    (ChangeSpec.witness6 (enc := enc) (C := Try.checked) false ⟨#[], #[.string ByteArray.empty, .string ByteArray.empty], []⟩ 8 (by kernel_rfl) (by kernel_rfl) (by kernel_rfl) (by kernel_rfl)) ?_
  intro W base args ds gs before hval0 hW hcnd _
  have hval : ∀ (j : Nat) t v, Try.f5.params[j]? = some t → args[j]? = some v → Value.okWide Try.prog W .any base t v := hval0
  have hW' := hW
  obtain ⟨p, q, hA0, hV, rfl, hfz, hnd⟩ := hW
  have hA : DataW.TrodAll enc Try.prog W 0 (fun _ => true) true Try.f5.params.toList args.toList ds p := hA0
  rw [Try.params5] at hA hval
  obtain ⟨v0, vs0, d0, ds0, p0, q0, hargs, rfl, rfl, h0, r0⟩ := trodAll_cons hA
  obtain ⟨v1, vs1, d1, ds1, p1, q1, rfl, rfl, rfl, h1, r1⟩ := trodAll_cons r0
  obtain ⟨rfl, rfl, rfl⟩ := trodAll_nil r1
  obtain rfl : args = #[v0, v1] := by cases args; simp_all
  obtain ⟨rfl, rfl⟩ := trodVars_none hV
  obtain ⟨a0, rfl, rfl, rfl, w0⟩ := open_string Try.underlying9 (hval 0 9 v0 rfl rfl) h0
  obtain ⟨a1, rfl, rfl, rfl, w1⟩ := open_string Try.underlying9 (hval 1 9 v1 rfl rfl) h1
  clear hA0 hval0
  refine (undoes_walk a0 a1 w0 w1 W).mono fun e W' ⟨he, bel⟩ => ?_
  subst he
  exact ⟨_, rfl, _, _, _, [], _, [], hW', trodAll_mk1 (shut_bool Try.underlying4 _), (trodAll_cons_mk (shut_string Try.underlying9 w0) (trodAll_cons_mk (shut_string Try.underlying9 w1) trodAll_mk0)), rfl, bel.frame _, fun h => by cases h⟩

theorem undoes_holds : Rows.UndoesSaid :=
  OpenClaim.holds_of_wide 5 Try.f5 rfl rfl rfl rfl rfl rfl rfl ⟨rfl, rfl, rfl, rfl, rfl⟩ rfl rfl rfl rfl rfl (by kernel_rfl) Try.func5 (by kernel_rfl)
    (of_decide_eq_true (by kernel_rfl)) (by unfold Func.isWrapper; first | (rw [if_pos (by decide +kernel)]; kernel_rfl) | (rw [if_neg (by decide +kernel)]; exact ⟨rfl, rfl⟩))
    (fun os started H enc _ => undoes_lifted os started H enc)
#print axioms undoes_holds
end Go.Proofs.Ytlppphmnegdhoaa
