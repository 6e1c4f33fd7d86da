/-
  The program's growing short list: 'add', 'all'; the short list of a list.
-/
import Derived.Test.YtlppphmnegdhoaaPl2
namespace Go.Proofs.Ytlppphmnegdhoaa
set_option linter.unusedVariables false
open Go.RowKit
open M

theorem step_append_own_string {P : Program} {w : World} {ops : Array Oper} {o : Oper} {a : Act} {K : Act → World → Prop} {Q : Exit → Act → World → Prop} {E : Prop} (hgd : o.guard = none) (sl x : Operand) (t u : TypeId)
    (ho : o.op = .call { callee := .builtin .append, args := #[sl, x], argTypes := #[t, u] })
    (base : Nat) (e : TypeId) (i : TypeInfo) (ht : P.underlying t = some (.slice e)) (hu : P.underlying u = some .string) (hi : P.info? e = some i) (hz : i.zero = some (.int .u8 0))
    (hsize : i.size = 1) (hby : i.bytes = 1)
    (v : Value) (n : Nat) (xs : List Value) (hs : a.eval sl = v) (hown : w.ownsRow base e 1 v n xs) (s : ByteArray) (hx : a.eval x = .string s)
    (h63 : n + s.size ≤ maxLen) (hbytes : n + s.size ≤ 140737488355328) (hbase : base ≤ w.heap.size)
    (h : ∀ v' w', w'.ownsRow base e 1 v' (n + s.size) (xs ++ Lib.strCells s) → w.grownBy w' v.ownBlock → K (a.put o.dst v') w') :
    if Region.wanted o (yielded ops a.tmps) = true then Oper.wp P o a w K Q else E := by
  have hw : Region.wanted o (yielded ops a.tmps) = true := by simp [Region.wanted, hgd]
  rw [if_pos hw]
  obtain ⟨v', w', hr, h2, h3, h4⟩ := Lib.run_append_own_string (P := P) w base t u o.type e i ht hu hi hz hsize hby v n xs hown s h63 hbytes hbase
  unfold Oper.wp execOp
  simp only [ho, resolve, invoke, builtin, Sem.run_bind, Sem.run_pure, Result.andThen_ok, List.map_toArray, List.map_cons, List.map_nil, hs, hx, hr]
  exact h v' w' h2 h3
theorem SLAt.drew {b : Nat} {w : World} {S : SL} {vo vr : Value} (h : SLAt b w S vo vr) : SLAt b w.drew S vo vr :=
  ⟨h.box.keep rfl, h.out.drew, h.s.drew, h.lt⟩
/-- all but the box and the two rows is as it was -/
def Far (b : Nat) (vo vr : Value) (w w' : World) : Prop := ∀ k, k < w.heap.size → k ≠ b → vo.ownBlock ≠ some k → vr.ownBlock ≠ some k → w'.heap[k]? = w.heap[k]?

set_option maxRecDepth 100000 in
set_option maxHeartbeats 4000000 in
theorem add_calls (b : Nat) (S : SL) (vo vr : Value) (r : M.Rec) (w : World) (h : SLAt b w S vo vr) (hr : okRec r = true) (hn : r.n ≤ 65536) (hm : S.m ≤ 65536) (hd : S.d ≤ 65536) (hs : S.s.length ≤ 65536) (ho : S.out.length ≤ 1048576) :
    Calls Try.prog 83 #[.pointer (some ⟨b, 0, none⟩), .agg #[.int .i64 r.kind, .int .i64 r.n, .string r.s]] w fun e w' => e = .returned (.tuple #[]) ∧ (∃ vo' vr', SLAt b w' (S.add r) vo' vr') ∧ Far b vo vr w w' ∧ Below b w w' := by
  obtain ⟨i0, hi, hz0, hz1, hz2⟩ := info_parts Try.info5
  obtain ⟨L, m, d, s⟩ := S
  simp only at hm hd hs ho
  obtain ⟨ar, cr, hvr⟩ := own_form h.s
  simp only at hvr
  subst hvr
  have hk := (okRec_iff r).1 hr
  obtain ⟨kind, rn, rs⟩ := r
  simp only at hk hn
  obtain ⟨n, rfl⟩ : ∃ n : Nat, rn = n := ⟨rn.toNat, by omega⟩
  have hlt := h.lt
  have hro := h.out.lt
  have hrs := h.s.lt
  obtain ⟨c0, c1, c2, c3, f0, f1, f2, f3⟩ := h.box
  simp only at c0 c1 c2 c3
  rcases hk.2 with ⟨rfl | rfl, hs0⟩ | ⟨rfl, hsn⟩
  · by_cases hp : 0 < d ∨ s ≠ []
    · have HA : Hid (SL.add ⟨L, m, d, s⟩ ⟨0, (n : Int), rs⟩ = ⟨SL.fin ⟨L, m, d, s⟩, n, 0, []⟩) := (if_pos rfl).trans (if_pos hp)
      have hp2 : ¬ (0 : Int) < (d : Int) → (0 : Int) < (s.length : Int) := fun h1 => by
        rcases hp with hp | hp
        · omega
        · have := List.length_pos_iff.2 hp; omega
      clear hp
      by_cases hd0 : 0 < d
      · have hd1 : (0 : Int) < (d : Int) := by omega
        clear hp2
        go_enter Try.func83, Try.ntmps83
        go_wp2_with fail
        refine (settle_calls b ⟨L, m, d, s⟩ vo (.slice ar s.length cr) _ (h.alloc _) hm hd hs ho).mono ?_
        rintro e w1 ⟨rfl, ⟨vo', h1, F1⟩, B1⟩
        have hfar : ∀ k, k < w.heap.size + 1 → k ≠ b → vo.ownBlock ≠ some k → w1.heap[k]? = (w.alloc (.cells #[.int .i64 0, .int .i64 (n : Int), .string rs] 57)).heap[k]? := fun k hk1 hk2 hk3 => F1.1 k (by simp; omega) hk2 hk3
        have x1 : w1.cell? ⟨w.heap.size, 1, none⟩ = some (.int .i64 (n : Int)) := by
          rw [World.cell?_of_block (hfar w.heap.size (by omega) (by omega) (fun e => by have := (hro _ e).2; omega))]
          simp [go_sem]
        have hlt1 := h1.lt
        have hsz := B1.size
        simp at hsz
        clear c0 c1 c2 c3 f0 f1 f2 f3
        obtain ⟨c0, c1, c2, c3, f0, f1, f2, f3⟩ := h1.box
        simp only at c0 c1 c2 c3
        go_wp2
        go_region
        all_goals go_wp2
        all_goals go_end0
        all_goals refine ⟨rfl, ⟨vo', .slice none 0 0, ?_⟩, ?_, ?_⟩
        · rw [HA.out]
          exact (h1.setM n).drew
        · intro k hk1 hk2 hk3 hk4
          refine (heap_setCell_other w1 ⟨b, 1, none⟩ k _ hk2).trans ?_
          exact (hfar k (by omega) hk2 hk3).trans (Below.heap_alloc _ _ _ hk1)
        · exact ((((Below.refl b w).alloc (by omega) _).trans B1).setCell (by simp) _).drew
      · have hd1 : ¬ (0 : Int) < (d : Int) := by omega
        have hl1 := hp2 hd1
        clear hp2
        go_enter Try.func83, Try.ntmps83
        go_wp2_with fail
        refine (settle_calls b ⟨L, m, d, s⟩ vo (.slice ar s.length cr) _ (h.alloc _) hm hd hs ho).mono ?_
        rintro e w1 ⟨rfl, ⟨vo', h1, F1⟩, B1⟩
        have hfar : ∀ k, k < w.heap.size + 1 → k ≠ b → vo.ownBlock ≠ some k → w1.heap[k]? = (w.alloc (.cells #[.int .i64 0, .int .i64 (n : Int), .string rs] 57)).heap[k]? := fun k hk1 hk2 hk3 => F1.1 k (by simp; omega) hk2 hk3
        have x1 : w1.cell? ⟨w.heap.size, 1, none⟩ = some (.int .i64 (n : Int)) := by
          rw [World.cell?_of_block (hfar w.heap.size (by omega) (by omega) (fun e => by have := (hro _ e).2; omega))]
          simp [go_sem]
        have hlt1 := h1.lt
        have hsz := B1.size
        simp at hsz
        clear c0 c1 c2 c3 f0 f1 f2 f3
        obtain ⟨c0, c1, c2, c3, f0, f1, f2, f3⟩ := h1.box
        simp only at c0 c1 c2 c3
        go_wp2
        go_region
        all_goals go_wp2
        all_goals go_end0
        all_goals refine ⟨rfl, ⟨vo', .slice none 0 0, ?_⟩, ?_, ?_⟩
        · rw [HA.out]
          exact (h1.setM n).drew
        · intro k hk1 hk2 hk3 hk4
          refine (heap_setCell_other w1 ⟨b, 1, none⟩ k _ hk2).trans ?_
          exact (hfar k (by omega) hk2 hk3).trans (Below.heap_alloc _ _ _ hk1)
        · exact ((((Below.refl b w).alloc (by omega) _).trans B1).setCell (by simp) _).drew
    · have hd1 : ¬ (0 : Int) < (d : Int) := by omega
      have hl1 : ¬ (0 : Int) < (s.length : Int) := fun h1 => hp (.inr (fun e => by rw [e] at h1; simp at h1))
      have HA : Hid (SL.add ⟨L, m, d, s⟩ ⟨0, (n : Int), rs⟩ = ⟨L, m + n, d, s⟩) := (if_pos rfl).trans (if_neg hp)
      clear hp
      go_enter Try.func83, Try.ntmps83
      go_wp2
      go_region
      all_goals go_wp2
      all_goals go_end0
      all_goals refine ⟨rfl, ⟨vo, .slice ar s.length cr, ?_⟩, ?_, ?_⟩
      · rw [HA.out]
        have e : (m : Int) + n = ((m + n : Nat) : Int) := by omega
        rw [e]
        exact ((h.setM (m + n)).alloc _).drew
      · intro k hk1 hk2 hk3 hk4
        exact (Below.heap_alloc _ _ _ (by simpa using hk1)).trans (heap_setCell_other w ⟨b, 1, none⟩ k _ hk2)
      · exact (((Below.refl b w).setCell (by simp) _).alloc (by simp; omega) _).drew
  · have HA : Hid (SL.add ⟨L, m, d, s⟩ ⟨1, (n : Int), rs⟩ = ⟨L, m, d + n, s⟩) := rfl
    go_enter Try.func83, Try.ntmps83
    go_wp2
    go_region
    all_goals go_wp2
    all_goals go_end0
    all_goals refine ⟨rfl, ⟨vo, .slice ar s.length cr, ?_⟩, ?_, ?_⟩
    · rw [HA.out]
      have e : (d : Int) + n = ((d + n : Nat) : Int) := by omega
      rw [e]
      exact ((h.setD (d + n)).alloc _).drew
    · intro k hk1 hk2 hk3 hk4
      exact (Below.heap_alloc _ _ _ (by simpa using hk1)).trans (heap_setCell_other w ⟨b, 2, none⟩ k _ hk2)
    · exact (((Below.refl b w).setCell (by simp) _).alloc (by simp; omega) _).drew
  · have HA : Hid (SL.add ⟨L, m, d, s⟩ ⟨2, (n : Int), rs⟩ = ⟨L, m, d, s ++ rs.data.toList⟩) := rfl
    go_enter Try.func83, Try.ntmps83
    go_wp2
    go_region_law (first
      | (refine step_append_own_string rfl (.tmp 49) (.tmp 51) 79 9 rfl (b + 1) 5 i0 Try.underlying79 Try.underlying9 hi hz0 hz1 hz2 (.slice ar s.length cr) s.length (bytC s) (by simp [Act.eval]) (h.alloc _).drew.s rs (by simp [Act.eval]) (by unfold maxLen; omega) (by omega) (by simp; omega) ?_
         intro v' w3 hown3 hgrow
         obtain ⟨a', c', hv'⟩ := own_form hown3
         subst hv'
         obtain ⟨hb3, hi3, hB3, hF3⟩ := (h.alloc _).drew.growS hown3 hgrow
         obtain ⟨y0, y1, y2, y3, e0, e1, e2, e3⟩ := hb3
         clear hown3 hgrow c0 c1 c2 c3 f0 f1 f2 f3))
    all_goals go_wp2
    all_goals go_end0
    all_goals refine ⟨rfl, ⟨vo, .slice a' (s.length + rs.size) c', ?_⟩, ?_, ?_⟩
    all_goals first
      | (rw [HA.out]; exact hi3)
      | (intro k hk1 hk2 hk3 hk4; exact (hF3 k (by simp; omega) hk2 hk4).trans (Below.heap_alloc _ _ _ hk1))
      | exact ((Below.refl b w).alloc (by omega) _).drew.trans hB3

set_option maxRecDepth 100000 in
set_option maxHeartbeats 1000000 in
theorem all_calls (b : Nat) (S : SL) (vo vr : Value) (w : World) (h : SLAt b w S vo vr) (hm : S.m ≤ 65536) (hd : S.d ≤ 65536) (hs : S.s.length ≤ 65536) (ho : S.out.length ≤ 1048576) :
    Calls Try.prog 84 #[.pointer (some ⟨b, 0, none⟩)] w fun e w' => ∃ v, e = .returned v ∧ w'.ownsRow (b + 1) 57 3 v S.fin.length (recsC S.fin) ∧ Below b w w' := by
  go_enter Try.func84, Try.ntmps84
  go_wp2_with fail
  refine (settle_calls b S vo vr _ h hm hd hs ho).mono ?_
  rintro e w1 ⟨rfl, ⟨vo', h1, F1⟩, B1⟩
  obtain ⟨c0, c1, c2, c3, f0, f1, f2, f3⟩ := h1.box
  obtain ⟨a1, k1, hv⟩ := own_form h1.out
  simp only at hv
  have hlt := h1.lt
  have hown := h1.out
  simp only at hown
  subst hv
  go_wp2
  go_ret
  exact ⟨_, rfl, hown, B1⟩

/-- what the growing list's bounds are -/
theorem SL.bounds {S : SL} {es : List Ev} (h : S.Is es) (hA : evA es ≤ 4096) (hB : evB es ≤ 4096) : S.m ≤ 65536 ∧ S.d ≤ 65536 ∧ S.s.length ≤ 65536 ∧ S.out.length ≤ 1048576 := by
  have h1 := S.lens
  have h2 := norm_len es
  have h3 := norm_ok es
  rw [← SL.is_fin h] at h2 h3
  have h4 : okAll S.out := fun r hr => h3 r (List.mem_append_left _ hr)
  have h5 := count_le S.out h4
  have h6 := lenA_nn S.out h4
  have h7 := lenB_nn S.out h4
  omega
theorem SLAt.new (w : World) (t : TypeId) : SLAt w.heap.size (w.alloc (.cells #[.slice none 0 0, .int .i64 0, .int .i64 0, .slice none 0 0] t)) ⟨[], 0, 0, []⟩ (.slice none 0 0) (.slice none 0 0) := by
  refine ⟨?_, World.ownsRow_nil _ _ _ _, World.ownsRow_nil _ _ _ _, by simp⟩
  constructor <;> simp [go_sem]

set_option maxRecDepth 100000 in
set_option maxHeartbeats 2000000 in
theorem short_of_calls (n c : Nat) (ad : Option Addr) (l : List M.Rec) (w : World) (hat : RecsAt w ad n l) (hok : okAll l) (hA : lenA l ≤ 4096) (hB : lenB l ≤ 4096) :
    Calls Try.prog 59 #[.slice ad n c] w fun e w' => ∃ v, e = .returned v ∧ w'.ownsRow w.heap.size 57 3 v (norm (expL l)).length (recsC (norm (expL l))) ∧ Below w.heap.size w w' := by
  have hn := hat.len
  subst hn
  have hcl := count_le l hok
  go_enter Try.func59, Try.ntmps59
  go_wp2
  go_loopw [8] (fun i wr => ∃ (k : Nat) (S : SL) (vo vr : Value), k ≤ l.length ∧ i = .int .i64 k ∧ SLAt w.heap.size wr S vo vr ∧ S.Is (expL (l.take k)) ∧ Below w.heap.size w wr) (fun i _ => l.length - (intOf i).toNat)
  case atStart => exact ⟨0, ⟨[], 0, 0, []⟩, _, _, Nat.zero_le _, rfl, SLAt.new w _, SL.is_nil, (Below.refl _ _).alloc (Nat.le_refl _) _⟩
  case round =>
    obtain ⟨k, S, vo, vr, hk, rfl, hS, hI, B⟩ := hrel
    have hz := B.size
    have hex := expL_len l hok
    have htk : evA (expL (l.take k)) ≤ 4096 ∧ evB (expL (l.take k)) ≤ 4096 := by
      have e := expL_append (l.take k) (l.drop k)
      rw [List.take_append_drop] at e
      rw [e, evA_append, evB_append] at hex
      omega
    obtain ⟨b1, b2, b3, b4⟩ := SL.bounds hI htk.1 htk.2
    by_cases hlt : k < l.length
    · have hlt1 : (k : Int) < (l.length : Int) := by omega
      have hno : l ≠ [] := fun h => by rw [h] at hlt; simp at hlt
      obtain ⟨bk, off, ha', hbw, hcells⟩ := hat.cells.resolve_left hno
      obtain ⟨c0, c1, c2⟩ := hcells k hlt
      have d0 := (B.cell (by exact hbw)).trans c0
      have d1 := (B.cell (by exact hbw)).trans c1
      have d2 := (B.cell (by exact hbw)).trans c2
      have hokr := hok l[k] (List.getElem_mem hlt)
      have hn4 := mem_n l hok hA hB l[k] (List.getElem_mem hlt)
      have HI : Hid ((S.add l[k]).Is (expL (l.take (k + 1)))) := by
        show SL.Is _ _
        rw [exp_take l k hlt]
        exact SL.is_add hI hokr
      clear hcells c0 c1 c2 hno hex htk hI
      subst ha'
      generalize l[k] = r at *
      go_wp2_with fail
      refine (add_calls w.heap.size S vo vr r _ (hS.alloc _) hokr (by omega) b1 b2 b3 b4).mono ?_
      rintro e w1 ⟨rfl, ⟨vo', vr', h1⟩, F1, B1⟩
      have B2 : Below w.heap.size w w1 := (B.alloc (by omega) _).trans B1
      go_wp2
      go_roundw
      case rel => exact ⟨k + 1, S.add r, vo', vr', by omega, by go_num, h1, HI.out, B2⟩
      case measure => simp [intOf]; omega
    · obtain rfl : k = l.length := by omega
      rw [List.take_length] at hI
      have HF : Hid (S.fin = norm (expL l)) := SL.is_fin hI
      clear hI htk hex
      go_wp2_with fail
      refine (all_calls w.heap.size S vo vr _ hS b1 b2 b3 b4).mono ?_
      rintro e w1 ⟨v, rfl, own, B1⟩
      rw [HF.out] at own
      obtain ⟨a1, k1, hv⟩ := own_form own
      have own2 := ownsRow_base own (Nat.le_succ _)
      clear HF own
      generalize hnl : norm (expL l) = nl at own2 hv
      have HN : Hid (norm (expL l) = nl) := hnl
      clear hnl
      subst hv
      go_wp2
      go_ret
      exact ⟨_, rfl, by rw [HN.out]; exact own2, B.trans B1⟩
end Go.Proofs.Ytlppphmnegdhoaa
