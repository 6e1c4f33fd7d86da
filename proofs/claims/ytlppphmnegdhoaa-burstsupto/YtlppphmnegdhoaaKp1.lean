/-
  Journals between two texts: what is packed, joined, undone of them: plain mathematics over the calls' answers.
-/
import Derived.Test.YtlppphmnegdhoaaCar2
import Derived.Test.YtlppphmnegdhoaaLed0
import Derived.Test.YtlppphmnegdhoaaJk1
namespace Go.Proofs.Ytlppphmnegdhoaa
set_option linter.unusedVariables false
open Go.RowKit
open M

theorem leads_exp (l : List M.Rec) : ∀ a b, okAll l → (leadsL l a b = true ↔ leadsE (expL l) a b) := by
  induction l with
  | nil => intro a b _; simp [leadsL, expL, leadsE]
  | cons r l ih =>
    intro a b ho
    have hk := (okRec_iff r).1 (okAll_cons ho).1
    have hl := ba_len r.s
    simp only [leadsL, expL, expR]
    by_cases h0 : r.kind = 0
    · rw [if_pos h0, if_pos h0, leadsE_k]
      simp only [Bool.and_eq_true, decide_eq_true_eq, beq_iff_eq, ih _ _ (okAll_cons ho).2]
    · rw [if_neg h0, if_neg h0]
      by_cases h1 : r.kind = 1
      · rw [if_pos h1, if_pos h1, leadsE_d]
        simp only [Bool.and_eq_true, decide_eq_true_eq, ih _ _ (okAll_cons ho).2]
      · rw [if_neg h1, if_neg h1, leadsE_r]
        have e : r.n.toNat = r.s.data.toList.length := by omega
        simp only [Bool.and_eq_true, decide_eq_true_eq, beq_iff_eq, ih _ _ (okAll_cons ho).2, e]
theorem leads_norm {es : List Ev} {a b : List UInt8} (h : leadsE es a b) : leadsL (norm es) a b = true :=
  (leads_exp _ a b (norm_ok es)).2 ((leadsE_eqv (exp_norm es) a b).1 h)

/-- t is the journal of l, which leads from a to b -/
structure Jour (t a b : ByteArray) (l : List M.Rec) : Prop where
  ok : okAll l
  ld : leadsL l a.data.toList b.data.toList = true
  tx : t.data.toList = writE ⟨a.size, b.size, sum a.data.toList, sum b.data.toList, l⟩
  ha : a.size ≤ 4096
  hb : b.size ≤ 4096
theorem Jour.lens {t a b : ByteArray} {l : List M.Rec} (h : Jour t a b l) : lenA l = a.size ∧ lenB l = b.size := by
  obtain ⟨h1, h2⟩ := leads_len l _ _ h.ok h.ld
  rw [ba_len] at h1 h2
  exact ⟨h1, h2⟩
theorem Jour.tells {t a b : ByteArray} {l : List M.Rec} (h : Jour t a b l) : Tells t.data.toList ⟨a.size, b.size, sum a.data.toList, sum b.data.toList, l⟩ :=
  tells_of a b l h.ha h.hb h.ok h.lens.1 h.lens.2 t h.tx
theorem Jour.len {t a b : ByteArray} {l : List M.Rec} (h : Jour t a b l) : 10 ≤ t.size ∧ t.size ≤ 12352 :=
  writE_len a b l h.ha h.hb h.ok h.lens.1 h.lens.2 t h.tx
theorem Jour.exp {t a b : ByteArray} {l : List M.Rec} (h : Jour t a b l) : leadsE (expL l) a.data.toList b.data.toList := (leads_exp _ _ _ h.ok).1 h.ld
theorem Jour.one {t t' a b : ByteArray} {l : List M.Rec} (h : Jour t a b l) (g : Jour t' a b l) : t = t' := ba_ext (h.tx.trans g.tx.symm)
theorem Jour.evs {t a b : ByteArray} {l : List M.Rec} (h : Jour t a b l) : evA (expL l) = a.size ∧ evB (expL l) = b.size := by
  have h1 := expL_len l h.ok
  have h2 := h.lens
  omega
theorem Jour.pack {t a b x : ByteArray} {l : List M.Rec} {e : Int} (h : Jour t a b l) (hp : PackSpec t x.data.toList e) : e = 0 ∧ Jour x a b (norm (expL l)) := by
  have h2 : PackSpec t (writE ⟨a.size, b.size, sum a.data.toList, sum b.data.toList, norm (expL l)⟩) 0 := .inr ⟨h.len.2, .inr ⟨_, h.tells, rfl, rfl⟩⟩
  obtain ⟨h3, h4⟩ := packSpec_same hp h2
  exact ⟨h4, norm_ok _, leads_norm h.exp, h3, h.ha, h.hb⟩
theorem Jour.join {t u a b c x : ByteArray} {l m : List M.Rec} {e : Int} (h : Jour t a b l) (g : Jour u b c m) (hp : JoinSpec t u x.data.toList e) : e = 0 ∧ Jour x a c (joinN (expL l) (expL m)) := by
  have h2 : JoinSpec t u (writE ⟨a.size, c.size, sum a.data.toList, sum c.data.toList, joinN (expL l) (expL m)⟩) 0 := .inr ⟨⟨h.len.2, g.len.2⟩, .inr ⟨_, _, h.tells, g.tells, .inr ⟨⟨rfl, rfl⟩, rfl, rfl⟩⟩⟩
  obtain ⟨h3, h4⟩ := joinSpec_same hp h2
  exact ⟨h4, norm_ok _, leads_norm (j_leads _ _ _ _ _ h.exp g.exp), h3, h.ha, g.hb⟩

set_option maxRecDepth 100000 in
theorem jwritten_calls (n c : Nat) (ad : Option Addr) (l : List M.Rec) (a b : ByteArray) (w : World) (hat : RecsAt w ad n l) (hln : l.length ≤ 140737488351232) (ha : a.size ≤ 4096) (hb : b.size ≤ 4096) (ho : okAll l) (hl : leadsL l a.data.toList b.data.toList = true) :
    Calls Try.prog 29 #[.slice ad n c, .string a, .string b] w fun e w' => (∃ t : ByteArray, e = .returned (.tuple #[.string t, .bool true]) ∧ Jour t a b l) ∧ Below w.heap.size w w' := by
  refine (kwritten_calls n c ad l a b w hat hln ha hb ho hl).mono ?_
  rintro e w1 ⟨⟨t, rfl, ht, _, _⟩, b1⟩
  exact ⟨⟨t, rfl, ho, hl, ht, ha, hb⟩, b1⟩
theorem jundone_calls (b t a : ByteArray) (l : List M.Rec) (w : World) (h : Jour t a b l) :
    Calls Try.prog 31 #[.string b, .string t, .string a] w fun e w' => e = .returned (.bool true) ∧ Below w.heap.size w w' :=
  undone_calls b t a l w h.ha h.hb h.len.2 h.tells h.ld

set_option maxRecDepth 100000 in
set_option maxHeartbeats 1000000 in
theorem both_calls (t u a b c : ByteArray) (l m : List M.Rec) (w : World) (h : Jour t a b l) (g : Jour u b c m) :
    Calls Try.prog 43 #[.string t, .string u] w fun e w' => (∃ x : ByteArray, e = .returned (.tuple #[.string x, .bool true]) ∧ Jour x a c (joinN (expL l) (expL m))) ∧ Below w.heap.size w w' := by
  have h1 := h.len
  have h2 := g.len
  go_enter Try.func43, Try.ntmps43
  go_wp2_with fail
  refine (rjoin_calls t u _ (by unfold maxLen; omega) (by unfold maxLen; omega)).mono ?_
  rintro e w1 ⟨⟨x, er, rfl, hx⟩, b1⟩
  obtain ⟨rfl, hj⟩ := h.join g hx
  have h3 := hj.len
  have g1 : (10 : Int) ≤ (x.size : Int) := by omega
  clear hx
  go_wp2
  go_ret2
  exact ⟨⟨x, rfl, hj⟩, b1⟩
end Go.Proofs.Ytlppphmnegdhoaa
