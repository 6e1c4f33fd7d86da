/-
  The document's expressions: the walk of 'fromTo'.
-/
import Derived.Test.YtlppphmnegdhoaaFa2
import Derived.Deep.RegionWith
namespace Go.Proofs.Ytlppphmnegdhoaa
set_option linter.unusedVariables false
set_option maxRecDepth 100000
open Go.RowKit
open M

theorem stg_match (hd tl : Bool) (l : List It) (s : List UInt8) (j p : Nat) (hj : j ≤ s.length) (h : hd = false ∨ p = 0) : stg tl l s j 0 p = matchX ⟨hd, tl, l⟩ s p j := by
  unfold stg matchX
  rw [List.drop_zero]
  have e1 : decide (j ≤ s.length) = true := decide_eq_true hj
  have e2 : (!hd || decide (p = 0)) = true := by rcases h with h | h <;> simp [h]
  simp only [e1, e2, Bool.and_true, Bool.and_assoc]
/-- what 'fromTo' answers -/
def FromPost (x : Ex) (s : ByteArray) (j : Nat) (w w' : World) (e : Ending) : Prop :=
  ∃ g, e = .returned (.slice (some ⟨g, 0, none⟩) (s.size + 1) (s.size + 1)) ∧ w.heap.size ≤ g ∧ RowF w' g (s.size + 1) (fun p => matchX x s.data.toList p j) ∧ Below w.heap.size w w'
/-- the box of the expression -/
structure FB (b : Nat) (w : World) (hd tl : Bool) (v : Value) : Prop where
  c0 : w.cell? ⟨b, 0, none⟩ = some (.bool hd)
  c1 : w.cell? ⟨b, 1, none⟩ = some (.bool tl)
  c2 : w.cell? ⟨b, 2, none⟩ = some v
  lt : b < w.heap.size
theorem FB.keep {b : Nat} {w w' : World} {hd tl : Bool} {v : Value} (e : FB b w hd tl v) (hk : w'.heap[b]? = w.heap[b]?) (hs : w.heap.size ≤ w'.heap.size) : FB b w' hd tl v := by
  have hc : ∀ o, w'.cell? ⟨b, o, none⟩ = w.cell? ⟨b, o, none⟩ := fun o => World.cell?_of_block hk
  exact ⟨(hc _).trans e.c0, (hc _).trans e.c1, (hc _).trans e.c2, by have := e.lt; omega⟩
theorem FB.below {b B : Nat} {w w' : World} {hd tl : Bool} {v : Value} (e : FB b w hd tl v) (hb : Below B w w') (h : b < B) : FB b w' hd tl v := e.keep (hb.block b h) hb.size
theorem FB.setFar {b : Nat} {w : World} {hd tl : Bool} {v : Value} (e : FB b w hd tl v) {a : Addr} (ha : b ≠ a.block) (u : Value) : FB b (w.setCell a u) hd tl v :=
  e.keep (heap_setCell_other _ _ _ _ ha) (by simp)

set_option maxRecDepth 100000 in
set_option maxHeartbeats 8000000 in
theorem fromTo_calls (hd tl : Bool) (a : Option Addr) (n c : Nat) (L : List IV) (s : ByteArray) (j : Nat) (w : World) (hn : n = L.length) (hit : ItemsAt w a L) (hL : L.length ≤ 8192) (hs : s.size ≤ 256) (hj : j ≤ s.size) :
    Calls Try.prog 95 #[.agg #[.bool hd, .bool tl, .slice a n c], .string s, .int .i64 j] w fun e w' => FromPost ⟨hd, tl, L.map IV.it⟩ s j w w' e := by
  subst hn
  obtain ⟨i0, hi, hz0, hz1, hz2⟩ := info_parts infoBool
  have hmk : ∀ u : World, (Instr.makeSlice 130 (.int .i64 ((s.size : Int) + 1)) (.int .i64 ((s.size : Int) + 1))).run Try.prog u =
      .ok (.slice (some ⟨u.heap.size, 0, none⟩) (s.size + 1) (s.size + 1)) (u.alloc (.cells (madeCells (Value.bool false).cells (s.size + 1)) 4)) := fun u => by
    have h := run_make (P := Try.prog) u 130 4 i0 (.bool false) undBools hi hz0 .i64 .i64 ((s.size : Int) + 1) ((s.size : Int) + 1) (by omega) (Int.le_refl _) (by rw [hz2]; omega) (by omega)
    have e : ((s.size : Int) + 1).toNat = s.size + 1 := by omega
    rw [e, hz1, Nat.mul_one] at h
    exact h
  have hmr : ∀ u : World, RowF (u.alloc (.cells (madeCells (Value.bool false).cells (s.size + 1)) 4)) u.heap.size (s.size + 1) (fun _ => false) := fun u => made_row u _
  generalize madeCells (Value.bool false).cells (s.size + 1) = cur at *
  have HMR : Hid (∀ u : World, RowF (u.alloc (.cells cur 4)) u.heap.size (s.size + 1) (fun _ => false)) := hmr
  have hj1 : (j : Int) < (s.size : Int) + 1 := by omega
  have hl := ba_len s
  have HLN : Hid (s.data.toList.length = s.size) := hl
  have HLM : Hid ((L.map IV.it).length = L.length) := by show _ = _; simp
  clear hmr hl
  go_enter Try.func95, Try.ntmps95
  go_upto_region 2 with fail
  have hrow0 := HMR.out (w.alloc (.cells #[.bool hd, .bool tl, .slice a L.length c] 92))
  have hfb0 : FB w.heap.size ((w.alloc (.cells #[.bool hd, .bool tl, .slice a L.length c] 92)).alloc (.cells cur 4)) hd tl (.slice a L.length c) := by
    constructor <;> simp [go_sem]
  have hB0 : Below w.heap.size w ((w.alloc (.cells #[.bool hd, .bool tl, .slice a L.length c] 92)).alloc (.cells cur 4)) := ((Below.refl _ _).alloc (Nat.le_refl _) _).alloc (by simp) _
  have e0 : (w.alloc (.cells #[.bool hd, .bool tl, .slice a L.length c] 92)).heap.size = w.heap.size + 1 := by simp
  rw [e0] at hrow0
  generalize ((w.alloc (.cells #[.bool hd, .bool tl, .slice a L.length c] 92)).alloc (.cells cur 4)) = W at hrow0 hfb0 hB0 ⊢
  clear e0
  go_cut [] (fun wx => RowF wx (w.heap.size + 1) (s.size + 1) (stg tl (L.map IV.it) s.data.toList j (L.map IV.it).length) ∧ FB w.heap.size wx hd tl (.slice a L.length c) ∧ Below w.heap.size w wx)
  case first =>
    have c0 := hrow0.c j (by omega)
    have f0 := hrow0.fz j (by omega)
    have hlt0 := hrow0.lt
    obtain ⟨x0, x1, x2, xl⟩ := hfb0
    have HEND : Hid (∀ b, b = (!tl || decide (j = s.size)) → RowF (W.setCell ⟨w.heap.size + 1, j, none⟩ (.bool b)) (w.heap.size + 1) (s.size + 1) (stg tl (L.map IV.it) s.data.toList j (L.map IV.it).length)) := fun b hb => by
      refine (hrow0.set j (by omega) b).congr (fun i hi => ?_)
      rw [stg_end tl _ _ j i (by rw [HLN.out]; exact hj), HLN.out, hb]
      by_cases h : i = j <;> simp [h]
    have HFB : Hid (∀ b : Bool, FB w.heap.size (W.setCell ⟨w.heap.size + 1, j, none⟩ (.bool b)) hd tl (.slice a L.length c)) := fun b => (FB.mk x0 x1 x2 xl).setFar (by simp) _
    clear hrow0
    cases tl
    · go_wp2
      go_meet
      exact ⟨HEND.out true rfl, HFB.out true, hB0.setCell (by simp) _⟩
    · by_cases hjs : j = s.size
      · have hjs1 : ((j : Int) == (s.size : Int)) = true := by simp [hjs]
        have HJS : Hid (decide (j = s.size) = true) := decide_eq_true hjs
        clear hjs
        go_wp2
        go_meet
        exact ⟨HEND.out true (by rw [HJS.out]; rfl), HFB.out true, hB0.setCell (by simp) _⟩
      · have hjs1 : ((j : Int) == (s.size : Int)) = false := by rw [beq_eq_false_iff_ne]; omega
        have HJS : Hid (decide (j = s.size) = false) := decide_eq_false hjs
        clear hjs
        go_wp2
        go_meet
        exact ⟨HEND.out false (by rw [HJS.out]; rfl), HFB.out false, hB0.setCell (by simp) _⟩
  case rest =>
    clear hrow0 hfb0 hB0
    obtain ⟨hrow0, hfb0, hB0⟩ := hcut
    rw [HLM.out] at hrow0
    have hbx := hfb0
    obtain ⟨x0, x1, x2, xl⟩ := hbx
    go_wp2
    clear x0 x1 x2 xl
    go_loopw [7, 8] (fun t k' wr => ∃ (kk g : Nat), kk ≤ L.length ∧ k' = .int .i64 ((kk : Int) - 1) ∧ t = .slice (some ⟨g, 0, none⟩) (s.size + 1) (s.size + 1) ∧ w.heap.size < g ∧ RowF wr g (s.size + 1) (stg tl (L.map IV.it) s.data.toList j kk) ∧ FB w.heap.size wr hd tl (.slice a L.length c) ∧ Below w.heap.size w wr) (fun _ k' _ => (intOf k' + 1).toNat)
    case atStart => exact ⟨L.length, w.heap.size + 1, Nat.le_refl _, rfl, rfl, by omega, hrow0, hfb0, hB0⟩
    case round =>
      clear hrow0 hfb0 hB0
      obtain ⟨kk, g, hkk, rfl, rfl, hgw, hrow, hfb, hB⟩ := hrel
      have hbx := hfb
      obtain ⟨x0, x1, x2, xl⟩ := hbx
      obtain rfl | ⟨m, rfl⟩ : kk = 0 ∨ ∃ m, kk = m + 1 := by cases kk with
        | zero => exact .inl rfl
        | succ m => exact .inr ⟨m, rfl⟩
      · cases hd
        · have HM : Hid (RowF wr g (s.size + 1) (fun p => matchX ⟨false, tl, L.map IV.it⟩ s.data.toList p j)) := hrow.congr (fun p hp => stg_match false tl _ _ j p (by rw [HLN.out]; exact hj) (.inl rfl))
          go_wp2
          go_ret
          exact ⟨g, rfl, by omega, HM.out, hB⟩
        · have hg1 : w.heap.size ≤ g := by omega
          go_wp2
          go_loopw [12] (fun p' wi => ∃ pp : Nat, 1 ≤ pp ∧ pp ≤ s.size + 1 ∧ p' = .int .i64 pp ∧ RowF wi g (s.size + 1) (fun q => (decide (q = 0) || decide (pp ≤ q)) && stg tl (L.map IV.it) s.data.toList j 0 q) ∧ Below w.heap.size w wi) (fun p' _ => s.size + 1 - (intOf p').toNat)
          case atStart => exact ⟨1, Nat.le_refl _, by omega, rfl, hrow.congr (fun q hq => by
            have e : (decide (q = 0) || decide (1 ≤ q)) = true := by by_cases h : q = 0 <;> simp [h]; omega
            rw [e]; rfl), hB⟩
          case round =>
            clear hrow hfb x0 x1 x2 xl hB
            obtain ⟨pp, hp1, hp2, rfl, hrow, hB⟩ := hrel
            by_cases hlt : pp ≤ s.size
            · have hlt1 : (pp : Int) ≤ (s.size : Int) := by omega
              have hlt2 : (pp : Int) < (s.size : Int) + 1 := by omega
              have c0 := hrow.c pp (by omega)
              have f0 := hrow.fz pp (by omega)
              have hgl := hrow.lt
              have HR : Hid (RowF (wr.setCell ⟨g, pp, none⟩ (.bool false)) g (s.size + 1) (fun q => (decide (q = 0) || decide (pp + 1 ≤ q)) && stg tl (L.map IV.it) s.data.toList j 0 q)) := (hrow.set pp (by omega) false).congr (fun q hq => by
                by_cases h : q = pp
                · subst h
                  have e1 : decide (q = 0) = false := decide_eq_false (by omega)
                  have e2 : decide (q + 1 ≤ q) = false := decide_eq_false (by omega)
                  simp [e1, e2]
                · have e : decide (pp + 1 ≤ q) = decide (pp ≤ q) := by rw [decide_eq_decide]; omega
                  simp [h, e])
              clear hrow
              go_wp2
              go_roundw
              case rel => exact ⟨pp + 1, by omega, by omega, by go_num, HR.out, hB.setCell hg1 _⟩
              case measure => simp [intOf]; omega
            · have hlt1 : ¬ (pp : Int) ≤ (s.size : Int) := by omega
              have HM : Hid (RowF wr g (s.size + 1) (fun p => matchX ⟨true, tl, L.map IV.it⟩ s.data.toList p j)) := hrow.congr (fun p hp => by
                have e : decide (pp ≤ p) = false := decide_eq_false (by omega)
                rw [e, Bool.or_false]
                by_cases h0 : p = 0
                · rw [decide_eq_true h0, Bool.true_and]
                  exact stg_match true tl _ _ j p (by rw [HLN.out]; exact hj) (.inr h0)
                · rw [decide_eq_false h0, Bool.false_and]
                  simp [matchX, h0])
              go_wp2
              go_ret
              exact ⟨g, rfl, hg1, HM.out, hB⟩
      · have em : (((m + 1 : Nat) : Int) - 1) = (m : Int) := by omega
        rw [em]
        have hm0 : (0 : Int) ≤ (m : Int) := by omega
        have hmL : m < L.length := by omega
        have hml : m < (L.map IV.it).length := by rw [HLM.out]; exact hmL
        have hglt := hrow.lt
        clear em
        go_wp2
        have hrowU := HMR.out wr
        have hrowT := hrow.keep (w' := wr.alloc (.cells cur 4)) (Below.heap_alloc _ _ _ hglt) (by simp)
        have hfbU := hfb.keep (w' := wr.alloc (.cells cur 4)) (Below.heap_alloc _ _ _ hfb.lt) (by simp)
        have hBU := hB.alloc hB.size (.cells cur 4)
        have hszB := hB.size
        obtain ⟨gu, hgu⟩ : ∃ gu, wr.heap.size = gu := ⟨_, rfl⟩
        rw [hgu] at hrowU hszB hglt
        rw [hgu]
        clear hgu
        go_loopw [10] (fun p' wi => ∃ pp : Nat, pp ≤ j + 1 ∧ p' = .int .i64 ((pp : Int) - 1) ∧ RowF wi gu (s.size + 1) (fun q => decide (pp ≤ q) && stg tl (L.map IV.it) s.data.toList j m q) ∧ RowF wi g (s.size + 1) (stg tl (L.map IV.it) s.data.toList j (m + 1)) ∧ FB w.heap.size wi hd tl (.slice a L.length c) ∧ Below w.heap.size w wi) (fun p' _ => (intOf p' + 1).toNat)
        case atStart =>
          refine ⟨j + 1, Nat.le_refl _, by congr 1; omega, hrowU.congr (fun q hq => ?_), hrowT, hfbU, hBU⟩
          unfold stg
          by_cases h : q ≤ j
          · have : ¬ (j + 1 ≤ q) := by omega
            simp [this]
          · simp [h]
        case round =>
          clear hrowU hrowT hfbU hBU hrow hfb x0 x1 x2 xl
          obtain ⟨pp, hpp, rfl, hrU, hrT, hfb, hBi⟩ := hrel
          obtain rfl | ⟨q, rfl⟩ : pp = 0 ∨ ∃ q, pp = q + 1 := by cases pp with
            | zero => exact .inl rfl
            | succ m => exact .inr ⟨m, rfl⟩
          · go_wp2
            go_roundw
            case rel => exact ⟨m, gu, by omega, rfl, rfl, by omega, hrU.congr (fun q hq => by simp), hfb, hBi⟩
            case measure => simp [intOf]
          · have eq1 : (((q + 1 : Nat) : Int) - 1) = (q : Int) := by omega
            rw [eq1]
            have hq0 : (0 : Int) ≤ (q : Int) := by omega
            have hqj : q ≤ j := by omega
            have hno : L ≠ [] := fun e => by rw [e] at hmL; simp at hmL
            have hitI := hit.below hBi
            obtain ⟨gi, hga, hgi, hcells⟩ := hitI.cells.resolve_left hno
            obtain ⟨t0, t1, t2, t3, t4⟩ := hcells m hmL
            have hokI := hitI.ok L[m] (List.getElem_mem hmL)
            have HST : Hid (stg tl (L.map IV.it) s.data.toList j m q = if L[m].it.star then (stg tl (L.map IV.it) s.data.toList j (m + 1) q || ((decide (q < j) && hasI L[m].it ((s.data.toList.getD q 0).toNat)) && stg tl (L.map IV.it) s.data.toList j m (q + 1))) else ((decide (q < j) && hasI L[m].it ((s.data.toList.getD q 0).toNat)) && stg tl (L.map IV.it) s.data.toList j (m + 1) (q + 1))) := by
              have e := stg_step tl (L.map IV.it) s.data.toList j m q hml (by rw [HLN.out]; exact hj) hqj
              rw [List.getElem_map] at e
              exact e
            obtain ⟨⟨x0, x1, x2, xl⟩, hfb9⟩ := And.intro hfb hfb
            have hmLi : (m : Int) < (L.length : Int) := by omega
            clear hcells hno eq1 hitI
            subst hga
            generalize L[m] = x at *
            go_upto_region 10 with fail
            go_cut [11] (fun t wx => t = .bool (decide (q < j) && hasI x.it ((s.data.toList.getD q 0).toNat)) ∧ Below wr.heap.size wr wx)
            case first =>
              have HOK : Hid (∀ wx, Below wr.heap.size wr wx → IVok 0 wx x) := fun wx hb => hokI.below hb
              by_cases hqj2 : q < j
              · have hd1 : decide ((q : Int) < (j : Int)) = true := decide_eq_true (by omega)
                have hd2 : (q : Int) < (j : Int) := by omega
                have hd3 : q < j := hqj2
                have hqs : q < s.size := by omega
                have hqs1 : (q : Int) < (s.size : Int) := by omega
                obtain ⟨by', hby⟩ : ∃ by' : Nat, s[q].toNat = by' := ⟨_, rfl⟩
                have hby2 : by' < 256 := by rw [← hby]; exact s[q].toNat_lt
                have HBY : Hid ((s.data.toList.getD q 0).toNat = by') := by
                  show _ = _
                  rw [List.getD_eq_getElem?_getD, List.getElem?_eq_getElem (by rw [HLN.out]; exact hqs), ← hby]; rfl
                have HD : Hid (decide (q < j) = true) := decide_eq_true hqj2
                clear hqj2
                go_wp2_with fail
                go_region_with (first
                  | (go_at_call 105; refine (has_calls x by' _ 0 (HOK.out _ (by first | exact Below.refl _ _ | exact (Below.refl _ _).drew)) hby2).mono ?_; rintro e w2 ⟨rfl, b2⟩))
                all_goals go_wp2
                all_goals go_meet
                all_goals exact ⟨by rw [HD.out, HBY.out]; rfl, (Below.refl wr.heap.size wr).drew.trans b2⟩
              · have hd1 : decide ((q : Int) < (j : Int)) = false := decide_eq_false (by omega)
                have hd2 : ¬ (q : Int) < (j : Int) := by omega
                have hd4 : decide (q < j) = false := decide_eq_false hqj2
                have HD : Hid (decide (q < j) = false) := decide_eq_false hqj2
                go_wp2_with fail
                go_quiet (fail)
                go_wp2
                go_meet
                exact ⟨by rw [HD.out]; rfl, below_drewN (Below.refl _ _) _⟩
            case rest =>
              obtain ⟨rfl, b2⟩ := hcut
              have hrU2 := hrU.below b2 hrU.lt
              have hrT2 := hrT.below b2 hrT.lt
              have hfb2 := hfb.below b2 hfb.lt
              have hB2 : Below w.heap.size w wc := hBi.trans (b2.mono hBi.size)
              have u2 := (b2.cell (by exact hgi)).trans t2
              have hgi2 : gi < wc.heap.size := by have := b2.size; omega
              obtain ⟨x0', x1', x2', xl'⟩ := hfb2
              have cT := hrT2.c q (by omega)
              have cU := hrU2.c q (by omega)
              have fU := hrU2.fz q (by omega)
              have ltU := hrU2.lt
              have ltT := hrT2.lt
              have HBQ : Hid ((decide (q < j) && hasI x.it ((s.data.toList.getD q 0).toNat)) = true → q < j) := fun h => by simp at h; exact h.1
              have HcT1 : Hid (q < j → wc.cell? ⟨g, q + 1, none⟩ = some (.bool (stg tl (L.map IV.it) s.data.toList j (m + 1) (q + 1)))) := fun h => hrT2.c (q + 1) (by omega)
              have HcU1 : Hid (q < j → wc.cell? ⟨gu, q + 1, none⟩ = some (.bool (stg tl (L.map IV.it) s.data.toList j m (q + 1)))) := fun h => by have := hrU2.c (q + 1) (by omega); simpa using this
              have HR : Hid (∀ b : Bool, b = stg tl (L.map IV.it) s.data.toList j m q → RowF (wc.setCell ⟨gu, q, none⟩ (.bool b)) gu (s.size + 1) (fun z => decide (q ≤ z) && stg tl (L.map IV.it) s.data.toList j m z) ∧ RowF (wc.setCell ⟨gu, q, none⟩ (.bool b)) g (s.size + 1) (stg tl (L.map IV.it) s.data.toList j (m + 1)) ∧ FB w.heap.size (wc.setCell ⟨gu, q, none⟩ (.bool b)) hd tl (.slice (some ⟨gi, 0, none⟩) L.length c) ∧ Below w.heap.size w (wc.setCell ⟨gu, q, none⟩ (.bool b))) := fun b hb => by
                refine ⟨(hrU2.set q (by omega) b).congr (fun z hz => ?_), hrT2.setFar (by simp only; omega) _, (FB.mk x0' x1' x2' xl').setFar (by simp only; omega) _, hB2.setCell (by simp only; omega) _⟩
                by_cases hzq : z = q
                · subst hzq; simp [hb]
                · have e : decide (q + 1 ≤ z) = decide (q ≤ z) := by rw [decide_eq_decide]; omega
                  simp [hzq, e]
              have hqs2 : (q : Int) < (s.size : Int) + 1 := by omega
              clear hrU2 hrT2 hrU hrT hfb hBi b2 t0 t1 t2 t3 t4 hokI x0 x1 x2 xl hfb9
              generalize (decide (q < j) && hasI x.it ((s.data.toList.getD q 0).toNat)) = bin at *
              generalize stg tl (L.map IV.it) s.data.toList j (m + 1) q = v1 at *
              have HFIN : Hid (∀ b : Bool, b = stg tl (L.map IV.it) s.data.toList j m q → ∃ pp : Nat, pp ≤ j + 1 ∧ Value.int .i64 ((q : Int) - 1) = .int .i64 ((pp : Int) - 1) ∧ RowF (wc.setCell ⟨gu, q, none⟩ (.bool b)) gu (s.size + 1) (fun z => decide (pp ≤ z) && stg tl (L.map IV.it) s.data.toList j m z) ∧ RowF (wc.setCell ⟨gu, q, none⟩ (.bool b)) g (s.size + 1) (stg tl (L.map IV.it) s.data.toList j (m + 1)) ∧ FB w.heap.size (wc.setCell ⟨gu, q, none⟩ (.bool b)) hd tl (.slice (some ⟨gi, 0, none⟩) L.length c) ∧ Below w.heap.size w (wc.setCell ⟨gu, q, none⟩ (.bool b))) := fun b hb => ⟨q, by omega, rfl, HR.out b hb⟩
              cases hst : x.it.star
              · have HS2 : Hid (stg tl (L.map IV.it) s.data.toList j m q = (bin && stg tl (L.map IV.it) s.data.toList j (m + 1) (q + 1))) := by show _ = _; rw [HST.out, hst]; rfl
                rw [hst] at u2
                clear HST hst
                cases bin
                · go_wp2
                  go_roundw
                  case rel => exact HFIN.out false (by rw [HS2.out]; rfl)
                  case measure => simp [intOf]
                · have hqj3 := HBQ.out rfl
                  have cT1 := HcT1.out hqj3
                  have hqs3 : (q : Int) + 1 < (s.size : Int) + 1 := by omega
                  generalize stg tl (L.map IV.it) s.data.toList j (m + 1) (q + 1) = v2 at *
                  go_wp2
                  go_roundw
                  case rel => exact HFIN.out v2 (by rw [HS2.out]; rfl)
                  case measure => simp [intOf]
              · have HS2 : Hid (stg tl (L.map IV.it) s.data.toList j m q = (v1 || (bin && stg tl (L.map IV.it) s.data.toList j m (q + 1)))) := by show _ = _; rw [HST.out, hst]; rfl
                rw [hst] at u2
                clear HST hst
                cases v1
                · cases bin
                  · go_wp2
                    go_roundw
                    case rel => exact HFIN.out false (by rw [HS2.out]; rfl)
                    case measure => simp [intOf]
                  · have hqj3 := HBQ.out rfl
                    have cU1 := HcU1.out hqj3
                    have hqs3 : (q : Int) + 1 < (s.size : Int) + 1 := by omega
                    generalize stg tl (L.map IV.it) s.data.toList j m (q + 1) = v2 at *
                    go_wp2
                    go_roundw
                    case rel => exact HFIN.out v2 (by rw [HS2.out]; rfl)
                    case measure => simp [intOf]
                · go_wp2
                  go_roundw
                  case rel => exact HFIN.out true (by rw [HS2.out]; rfl)
                  case measure => simp [intOf]
end Go.Proofs.Ytlppphmnegdhoaa
