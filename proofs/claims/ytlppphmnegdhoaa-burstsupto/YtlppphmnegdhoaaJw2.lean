/-
  The program's walks through a list that may stop within a record: piece, pass.
-/
import Derived.Test.YtlppphmnegdhoaaJw
import Derived.Deep.DeepCutAuto
namespace Go.Proofs.Ytlppphmnegdhoaa
set_option linter.unusedVariables false
open Go.RowKit
open M

set_option maxRecDepth 100000 in
theorem piece_end (b n c p : Nat) (ad : Option Addr) (w : World) (h : WkAt b w (.slice ad n c) n p) (hn : n ≤ 1048576) :
    Calls Try.prog 86 #[.pointer (some ⟨b, 0, none⟩)] w fun e w' => e = .returned (.agg #[.int .i64 0, .int .i64 0, .string ⟨#[]⟩]) ∧ Below w.heap.size w w' := by
  obtain ⟨c0, c1, c2, f1, f2, lt⟩ := h
  have h1 : ¬ (n : Int) < 0 := by omega
  have h2 : decide ((n : Int) < 0) = false := decide_eq_false h1
  go_enter Try.func86, Try.ntmps86
  go_wp2
  go_quiet (fail)
  go_wp2
  refine bodyPost_ret (v := .agg #[.int .i64 0, .int .i64 0, .string ⟨#[]⟩]) (by simp [results, Try.results86, go_sem]) rfl ⟨rfl, ?_⟩
  exact (((below_drewN ((Below.refl _ _).alloc (Nat.le_refl _) _) _).setCell (by simp) _).setCell (by simp) _).setCell (by simp) _

set_option maxRecDepth 100000 in
set_option maxHeartbeats 1000000 in
theorem piece_calls (b c i p : Nat) (ad : Option Addr) (l : List M.Rec) (w : World) (h : WkAt b w (.slice ad l.length c) i p) (hat : RecsAt w ad l.length l) (hok : okAll l) (hn : l.length ≤ 1048576) (hi : i < l.length) (hp : (p : Int) < l[i].n) (h4 : l[i].n ≤ 1048576) :
    Calls Try.prog 86 #[.pointer (some ⟨b, 0, none⟩)] w fun e w' => e = .returned (.agg #[.int .i64 (pieceR l[i] p).kind, .int .i64 (pieceR l[i] p).n, .string (pieceR l[i] p).s]) ∧ Below w.heap.size w w' := by
  obtain ⟨c0, c1, c2, f1, f2, lt⟩ := h
  have hno : l ≠ [] := fun h => by rw [h] at hi; simp at hi
  obtain ⟨bk, off, ha', hbw, hcells⟩ := hat.cells.resolve_left hno
  obtain ⟨d0, d1, d2⟩ := hcells i hi
  have hok1 := (okRec_iff l[i]).1 (hok _ (List.getElem_mem hi))
  clear hcells hno
  subst ha'
  generalize l[i] = r at *
  have h1 : ¬ (i : Int) < 0 := by omega
  have h2 : decide ((i : Int) < 0) = false := decide_eq_false h1
  have h3 : ¬ (l.length : Int) ≤ (i : Int) := by omega
  have h5 : (i : Int) < (l.length : Int) := by omega
  go_enter Try.func86, Try.ntmps86
  go_wp2
  go_quiet (fail)
  go_wp2
  go_region
  all_goals go_wp2
  all_goals go_region
  generalize hW : World.drew _ = W
  have BW : Below w.heap.size w W := by
    rw [← hW]; exact ((below_drewN ((Below.refl _ _).alloc (Nat.le_refl _) _) _).alloc (by simp) _).drew
  have q2 : W.cell? ⟨b, 2, none⟩ = some (.int .i64 p) := (BW.cell (by exact lt)).trans c2
  have x0 : W.cell? ⟨w.heap.size, 0, none⟩ = some (.int .i64 0) := by rw [← hW]; simp [go_sem]
  have x1 : W.cell? ⟨w.heap.size, 1, none⟩ = some (.int .i64 0) := by rw [← hW]; simp [go_sem]
  have x2 : W.cell? ⟨w.heap.size, 2, none⟩ = some (.string ⟨#[]⟩) := by rw [← hW]; simp [go_sem]
  have z0 : W.frozen? ⟨w.heap.size, 0, none⟩ = false := by rw [← hW]; simp [go_sem]
  have z1 : W.frozen? ⟨w.heap.size, 1, none⟩ = false := by rw [← hW]; simp [go_sem]
  have z2 : W.frozen? ⟨w.heap.size, 2, none⟩ = false := by rw [← hW]; simp [go_sem]
  have y0 : W.cell? ⟨w.heap.size + 1, 0, none⟩ = some (.int .i64 r.kind) := by rw [← hW]; simp [go_sem]
  have y1 : W.cell? ⟨w.heap.size + 1, 1, none⟩ = some (.int .i64 (r.n - p)) := by rw [← hW]; simp [go_sem]
  have y2 : W.cell? ⟨w.heap.size + 1, 2, none⟩ = some (.string r.s) := by rw [← hW]; simp [go_sem]
  have y3 : W.frozen? ⟨w.heap.size + 1, 2, none⟩ = false := by rw [← hW]; simp [go_sem]
  have hsz : W.heap.size = w.heap.size + 2 := by rw [← hW]; simp [go_sem]
  clear hW
  have BX : ∀ k, Below w.heap.size w (W.drewN k) := fun k => below_drewN BW k
  by_cases hp0 : p = 0
  · have g1 : ¬ (0 : Int) < (p : Int) := by omega
    have g2 : decide (0 < p) = false := decide_eq_false (by omega)
    have HP : Hid (pieceR r p = ⟨r.kind, r.n - p, r.s⟩) := by show _ = _; unfold pieceR; rw [if_neg (by omega)]
    clear hp0
    go_wp2
    go_quiet (fail)
    go_wp2
    refine bodyPost_ret (v := .agg #[.int .i64 r.kind, .int .i64 (r.n - p), .string r.s]) (by simp [results, Try.results86, go_sem, x0, x1, x2]) rfl ⟨by rw [HP.out], ?_⟩
    exact (((BX _).setCell (by simp) _).setCell (by simp) _).setCell (by simp) _
  · have g1 : (0 : Int) < (p : Int) := by omega
    have g2 : decide (0 < p) = true := decide_eq_true (by omega)
    by_cases hps : p ≤ r.s.size
    · have g3 : (p : Int) ≤ (r.s.size : Int) := by omega
      have HP : Hid (pieceR r p = ⟨r.kind, r.n - p, r.s.extract p r.s.size⟩) := by show _ = _; unfold pieceR; rw [if_pos (by omega)]
      go_wp2
      go_quiet (fail)
      go_wp2
      go_region
      go_wp2
      refine bodyPost_ret (v := .agg #[.int .i64 r.kind, .int .i64 (r.n - p), .string (r.s.extract p r.s.size)]) (by simp [results, Try.results86, go_sem, x0, x1, x2]) rfl ⟨by rw [HP.out], ?_⟩
      exact ((((BX _).setCell (by simp) _).setCell (by simp) _).setCell (by simp) _).setCell (by simp) _
    · have g3 : ¬ (p : Int) ≤ (r.s.size : Int) := by omega
      have HP : Hid (pieceR r p = ⟨r.kind, r.n - p, r.s⟩) := by show _ = _; unfold pieceR; rw [if_neg (by omega)]
      go_wp2
      go_quiet (fail)
      go_wp2
      refine bodyPost_ret (v := .agg #[.int .i64 r.kind, .int .i64 (r.n - p), .string r.s]) (by simp [results, Try.results86, go_sem, x0, x1, x2]) rfl ⟨by rw [HP.out], ?_⟩
      exact (((BX _).setCell (by simp) _).setCell (by simp) _).setCell (by simp) _

set_option maxRecDepth 100000 in
set_option maxHeartbeats 1000000 in
theorem pass_calls (b c i p n : Nat) (ad : Option Addr) (l : List M.Rec) (w : World) (h : WkAt b w (.slice ad l.length c) i p) (hat : RecsAt w ad l.length l) (hfar : ∀ a, ad = some a → a.block < b) (hn : l.length ≤ 1048576) (hi : i < l.length) (hp : p ≤ 1048576) (hn4 : n ≤ 1048576) :
    Calls Try.prog 87 #[.pointer (some ⟨b, 0, none⟩), .int .i64 n] w fun e w' => e = .returned (.tuple #[]) ∧ w.grownBy w' (some b) ∧ (((p : Int) + n < l[i].n ∧ WkAt b w' (.slice ad l.length c) i (p + n)) ∨ (l[i].n ≤ (p : Int) + n ∧ WkAt b w' (.slice ad l.length c) (i + 1) 0)) := by
  have hno : l ≠ [] := fun h => by rw [h] at hi; simp at hi
  obtain ⟨bk, off, ha', hbw, hcells⟩ := hat.cells.resolve_left hno
  obtain ⟨d0, d1, d2⟩ := hcells i hi
  have hbk := hfar _ ha'
  simp only at hbk
  have hne : ¬ bk = b := by omega
  clear hcells hno d0 d2
  subst ha'
  generalize l[i] = r at *
  have h1 : ¬ (i : Int) < 0 := by omega
  have h2 : decide ((i : Int) < 0) = false := decide_eq_false h1
  have h3 : ¬ (l.length : Int) ≤ (i : Int) := by omega
  have h5 : (i : Int) < (l.length : Int) := by omega
  have hw := h
  obtain ⟨c0, c1, c2, f1, f2, lt⟩ := h
  go_enter Try.func87, Try.ntmps87
  go_wp2
  go_quiet (fail)
  go_wp2
  generalize hW : World.setCell _ _ _ = W
  have e : ((p + n : Nat) : Int) = (p : Int) + n := by omega
  have gW : w.grownBy W (some b) := by
    rw [← hW]; exact (grown_drewN (World.grownBy.refl w (some b)) nq).trans (grown_set _ _ _ _)
  have wW : WkAt b W (.slice (some ⟨bk, off, none⟩) l.length c) i (p + n) := by
    rw [← hW, ← e]; exact (hw.keep (below_drewN (Below.refl _ _) nq) lt).set2 (p + n)
  have e1 := gW.cell d1 (by simpa using hne)
  clear hW c0 c1 c2 f1 f2 lt d1 hw
  have hwW := wW
  obtain ⟨c0, c1, c2, f1, f2, lt⟩ := wW
  rw [e] at c2
  by_cases hge : r.n ≤ (p : Int) + n
  · go_wp2
    go_quiet (fail)
    go_wp2
    go_end0
    refine ⟨rfl, ?_, .inr ⟨hge, ?_⟩⟩
    · exact ((grown_drewN gW _).trans (grown_set _ _ _ _)).trans (grown_set _ _ _ _)
    · exact ((hwW.keep (below_drewN (Below.refl _ _) _) lt).set1 (i + 1)).set2 0
  · go_wp2
    go_quiet (fail)
    go_wp2
    go_end0
    exact ⟨rfl, grown_drewN gW _, .inl ⟨by omega, hwW.keep (below_drewN (Below.refl _ _) _) lt⟩⟩
end Go.Proofs.Ytlppphmnegdhoaa
