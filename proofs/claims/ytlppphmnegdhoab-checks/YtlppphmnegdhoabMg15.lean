import Derived.Test.YtlppphmnegdhoabMg13
import Derived.Test.YtlppphmnegdhoabMg14
import Derived.Test.YtlppphmnegdhoabMg10
import Derived.Test.YtlppphmnegdhoabMg9
/-
  The document's scripts: commands, Check.
-/
namespace Go.Proofs.Ytlppphmnegdhoab
set_option linter.unusedVariables false
set_option maxRecDepth 100000
open Go.RowKit
open M

theorem elCmd : ElT 31 45 23 256 (.agg zCmd.toArray) := ⟨by kernel_rfl, infoCmd, rfl, by decide, by decide, by decide⟩
theorem flat_at (N : Nat) : ∀ (CS : List (List Value)), (∀ c ∈ CS, c.length = N) → ∀ i (h : i < CS.length) j, j < N → CS.flatten[i * N + j]? = CS[i][j]? := by
  intro CS
  induction CS with
  | nil => intro _ i h; simp at h
  | cons c CS ih =>
    intro hN i h j hj
    have hc := hN c (by simp)
    rw [List.flatten_cons]
    cases i with
    | zero => rw [Nat.zero_mul, Nat.zero_add, List.getElem?_append_left (by omega)]; rfl
    | succ i =>
      have e : (i + 1) * N + j = N + (i * N + j) := by rw [Nat.add_mul, Nat.one_mul]; omega
      rw [e, List.getElem?_append_right (by omega), hc, Nat.add_sub_cancel_left]
      exact ih (fun c hc => hN c (by simp [hc])) i (by simpa using h) j hj
theorem ownsRow_only {w w' : World} {base g : Nat} {e : TypeId} {size : Nat} {v : Value} {n : Nat} {xs : List Value} (h : w.ownsRow base e size v n xs) (ho : Only g w w') (hne : v.ownBlock ≠ some g) : w'.ownsRow base e size v n xs := by
  obtain ⟨h1, h2⟩ := h
  refine ⟨h1, ?_⟩
  rcases h2 with h2 | ⟨q, cap, cur, e1, e2, e3, e4⟩
  · exact .inl h2
  · refine .inr ⟨q, cap, cur, e1, e2, ?_, e4⟩
    rw [ho.block q (fun e => hne (by rw [e1, ← e]; rfl))]; exact e3
/-- commands and their cells -/
def CsOk (L : List (Nat × List UInt8)) (CS : List (List Value)) : Prop := CS.length = L.length ∧ ∀ j (h : j < L.length) (h' : j < CS.length), CmdC CS[j] L[j]
theorem cmds_own {w : World} {B : Nat} {a : Option Addr} {c : Nat} {L : List (Nat × List UInt8)} {CS : List (List Value)} (h : w.ownsRow B 45 23 (.slice a L.length c) L.length CS.flatten) (ho : CsOk L CS) (hs : L.length ≤ 8192) : CmdsD w a L := by
  refine ⟨hs, fun i hi => ?_⟩
  have hi' : i < CS.length := by rw [ho.1]; exact hi
  have hN : ∀ c ∈ CS, c.length = 23 := fun c hc => by
    obtain ⟨j, hj, rfl⟩ := List.getElem_of_mem hc
    exact (ho.2 j (by rw [← ho.1]; exact hj) hj).1
  obtain ⟨g, hg⟩ : ∃ g, a = some ⟨g, 0, none⟩ := by
    rcases h.2 with ⟨_, hz⟩ | ⟨g, cap, cur, hv, _⟩
    · omega
    · simp at hv; exact ⟨g, hv.1⟩
  subst hg
  obtain ⟨_, _, h11, hlt, t, h13, ht⟩ := ho.2 i hi hi'
  have c11 := h.cells rfl (i * 23 + 11) _ ((flat_at 23 CS hN i hi' 11 (by decide)).trans h11)
  have c13 := h.cells rfl (i * 23 + 13) _ ((flat_at 23 CS hN i hi' 13 (by decide)).trans h13)
  rw [Addr.add_mid, Nat.zero_add] at c11 c13
  exact ⟨g, rfl, (h.lt g rfl).2, c11, hlt, t, c13, ht⟩
def CmPost (s : ByteArray) (w : World) (e : Ending) (w' : World) : Prop :=
  Below w.heap.size w w' ∧ ((∃ v, e = .returned (.tuple #[v, .bool false]) ∧ ∀ l, cmdsM (linesM [] s.data.toList) = some l → ¬ Linked l) ∨ ∃ (a : Option Addr) (c : Nat) (l : List (Nat × List UInt8)), e = .returned (.tuple #[.slice a l.length c, .bool true]) ∧ cmdsM (linesM [] s.data.toList) = some l ∧ Linked l ∧ l.length ≤ 400)
theorem cmds_snoc (l : List (List UInt8)) (i : Nat) (h : i < l.length) (L : List (Nat × List UInt8)) (hh : cmdsM l = (cmdsM (l.drop i)).map (L ++ ·)) : cmdsM l = (cmdM l[i]).bind (fun c => (cmdsM (l.drop (i + 1))).map ((L ++ [c]) ++ ·)) := by
  rw [hh, List.drop_eq_getElem_cons h, cmdsM]
  cases cmdM l[i] with
  | none => rfl
  | some c => cases cmdsM (l.drop (i + 1)) <;> simp
set_option maxRecDepth 100000 in
set_option maxHeartbeats 2000000 in
theorem commands_calls (s : ByteArray) (w : World) (hs : s.size ≤ 400) :
    Calls Try.prog 7 #[.string s] w fun e w' => CmPost s w e w' := by
  have hzv := (zero_of_info (show (Try.prog.info? 45).map (fun i => (i.zero, i.size)) = some (some (.agg zCmd.toArray), 23) by kernel_rfl)).1
  go_enter Try.func7, Try.ntmps7
  go_wp2_with fail
  refine (lines_calls s w hs).mono ?_
  rintro e w1 ⟨B1, T, a, c, rfl, hln, hown, hok, hTs⟩
  obtain ⟨S, hS⟩ : ∃ S, linesM [] s.data.toList = S := ⟨_, rfl⟩
  have HS : Hid (linesM [] s.data.toList = S) := hS
  have HT : Hid (S = T.map (fun t => t.data.toList)) := by show _ = _; rw [← hS, hln]
  obtain ⟨nT, hnT⟩ : ∃ n, T.length = n := ⟨_, rfl⟩
  have HNT : Hid (T.length = nT) := hnT
  have HTC : Hid (∀ i (h : i < T.length), ∃ g, a = some ⟨g, 0, none⟩ ∧ g < w1.heap.size ∧ w1.cell? ⟨g, i, none⟩ = some (.string T[i])) := fun i hi => by
    obtain ⟨g, hg⟩ : ∃ g, a = some ⟨g, 0, none⟩ := by
      rcases hown.2 with ⟨_, hz⟩ | ⟨g, cap, cur, hv, _⟩
      · omega
      · simp at hv; exact ⟨g, hv.1⟩
    subst hg
    have c1 := hown.cells rfl i (.string T[i]) (by simp [strsC, hi])
    rw [Addr.add_mid, Nat.zero_add] at c1
    exact ⟨g, rfl, (hown.lt g rfl).2, c1⟩
  have HOK : Hid (LnOk s T) := hok
  rw [hnT] at hTs ⊢
  clear hS hln hnT hown hok
  go_wp2_with fail
  go_loopw [4, 6] (fun v4 v6 wr => ∃ (i : Nat) (L : List (Nat × List UInt8)) (CS : List (List Value)), v6 = .int .i64 i ∧ i ≤ nT ∧ L.length = i ∧ Hid (CsOk L CS) ∧ Hid (cmdsM S = (cmdsM (S.drop i)).map (L ++ ·)) ∧ wr.ownsRow w1.heap.size 45 23 v4 L.length CS.flatten ∧ Below w1.heap.size w1 wr) (fun _ v6 _ => nT - (intOf v6).toNat)
  case atStart =>
    refine ⟨0, [], [], rfl, Nat.zero_le _, rfl, ⟨rfl, fun j h => by simp at h⟩, ?_, World.ownsRow_nil _ _ _ _, Below.refl _ _⟩
    show _ = _
    rw [List.drop_zero]
    cases cmdsM S <;> rfl
  case round =>
    obtain ⟨i, L, CS, rfl, hin, hLi, HCS, HCM, hownC, hB⟩ := hrel
    obtain ⟨av, cv, hvv⟩ := own_form hownC
    subst hvv
    have HLI : Hid (L.length = i) := hLi
    rw [hLi] at hownC ⊢
    clear hLi
    have hwb := hB.size
    by_cases hlt : i < nT
    · have hlt1 : (i : Int) < (nT : Int) := by omega
      have h0 : (0 : Int) ≤ (i : Int) := by omega
      have hiT : i < T.length := by rw [HNT.out]; exact hlt
      obtain ⟨g, rfl, hg, ct⟩ := HTC.out i hiT
      have ct2 := (hB.cell (by exact hg)).trans ct
      have hg2 : g < wr.heap.size := by omega
      have hiS : i < S.length := by rw [HT.out, List.length_map]; exact hiT
      have hSi : S[i] = T[i].data.toList := by simp [HT.out]
      have HC2 : Hid (cmdsM S = (cmdM T[i].data.toList).bind (fun c => (cmdsM (S.drop (i + 1))).map ((L ++ [c]) ++ ·))) := by
        show _ = _
        rw [cmds_snoc S i hiS L HCM.out, hSi]
      have hts := (HOK.out T[i] (List.getElem_mem _)).1
      generalize T[i] = tx at *
      clear HCM hSi
      go_wp2_with fail
      refine (command_calls tx _ (by omega)).mono ?_
      rintro e w2 ⟨B2, cs, hcl, hc1, hor⟩
      have hw2 := B2.size
      have hB2 : Below w1.heap.size w1 w2 := hB.trans (B2.mono (by omega))
      have hownC2 := ownsRow_below hownC B2
      have hbn : CB (w2.alloc (.cells zCmd.toArray 45)) w2.heap.size zCmd := CB.new w2 _ _ zCmd_one
      have hB3 : Below w1.heap.size w1 (w2.alloc (.cells zCmd.toArray 45)) := hB2.alloc (by omega) _
      have hownC3 : (w2.alloc (.cells zCmd.toArray 45)).ownsRow w1.heap.size 45 23 (.slice av i cv) i CS.flatten := hownC2.alloc _
      have hsz3 : (w2.alloc (.cells zCmd.toArray 45)).heap.size = w2.heap.size + 1 := by simp
      have hne : ∀ k, (Value.slice av i cv).ownBlock = some k → k < w2.heap.size := fun k hk => (hownC2.lt k hk).2
      rcases hor with ⟨hno, rfl⟩ | ⟨cm, hsome, hcc, rfl⟩
      · have HF : Hid (cmdsM S = none) := by show _ = _; rw [HC2.out, hno]; rfl
        clear hno HC2
        go_wp2_with (refine cb_store0 rtCmd hbn rfl rfl _ _ rfl rfl rfl hcl hc1 ?_; intro w5 hb5 O5)
        go_ret2
        exact ⟨(B1.trans (hB3.mono B1.size)).trans (O5.below (by have := B1.size; omega)), .inl ⟨_, rfl, fun l hl => by rw [HS.out, HF.out] at hl; cases hl⟩⟩
      · have HC3 : Hid (cmdsM S = (cmdsM (S.drop (i + 1))).map ((L ++ [cm]) ++ ·)) := by show _ = _; rw [HC2.out, hsome]; rfl
        have HCS2 : Hid (CsOk (L ++ [cm]) (CS ++ [cs])) := by
          have hlen := HCS.out.1
          refine ⟨by simp [hlen], fun j h h' => ?_⟩
          by_cases e : j < L.length
          · rw [List.getElem_append_left (by omega), List.getElem_append_left e]
            exact HCS.out.2 j e (by omega)
          · have e2 : j = L.length := by simp at h; omega
            subst e2
            rw [List.getElem_append_right (by omega), List.getElem_append_right (Nat.le_refl _)]
            simp [hlen]
            exact hcc
        have hn2 : (Value.slice av i cv).ownBlock ≠ some w2.heap.size := fun e => by have := hne _ e; omega
        clear hsome hcc HC2 HCS
        go_wp2_with (first
          | (refine cb_store0 rtCmd hbn rfl rfl _ _ rfl rfl rfl hcl hc1 ?_; intro w5 hb5 O5; have hown5 := ownsRow_only hownC3 O5 hn2; have hB5 := hB3.trans (O5.below (B := w1.heap.size) (by omega)); have hs5 := O5.size)
          | refine cb_load0 rtCmd hb5 hcl rfl _ rfl rfl ?_
          | refine gb_build elCmd rfl _ rfl cs rfl hcl ?_
          | (refine gb_append elCmd (hown5.alloc _) w5.heap.size cs (heap_alloc_new w5 _) hcl hc1 (by omega) (by simp; omega) rfl _ _ rfl rfl rfl ?_
             intro v' w6 hown6 hgrow6
             have hB6 : Below w1.heap.size w1 w6 := (hB5.alloc (by omega) _).grown hgrow6 (by simp; omega) (fun k hk => (hown5.lt k hk).1)
             obtain ⟨av', cv', hvv⟩ := own_form hown6
             subst hvv
             clear hgrow6))
        go_roundw
        case rel =>
          refine ⟨i + 1, L ++ [cm], CS ++ [cs], by go_num, by omega, by rw [List.length_append, HLI.out]; rfl, HCS2.out, HC3.out, ?_, hB6⟩
          rw [List.length_append, HLI.out, List.flatten_append]
          simpa using hown6
        case measure => first | (simp [intOf]; done) | (simp [intOf]; omega)
    · obtain rfl : i = nT := by omega
      have HF : Hid (cmdsM S = some L) := by
        show _ = _
        rw [HCM.out, List.drop_of_length_le (by rw [HT.out, List.length_map, HNT.out]; exact Nat.le_refl _)]
        simp [cmdsM]
      have hcd : CmdsD wr av L := cmds_own (by rw [HLI.out]; exact hownC) HCS.out (by rw [HLI.out]; omega)
      have hBw : Below w.heap.size w wr := B1.trans (hB.mono B1.size)
      clear HCM HCS
      go_wp2_with fail
      have HCL := linked_calls av cv L wr hcd
      rw [HLI.out] at HCL
      refine HCL.mono ?_
      clear HCL
      rintro e w2 ⟨⟨r, rfl, hr⟩, rfl⟩
      have HR : Hid (r = true ↔ Linked L) := hr
      clear hr hcd
      cases r
      · go_wp2
        go_ret2
        exact ⟨hBw, .inl ⟨_, rfl, fun l hl hk => by
          rw [HS.out, HF.out] at hl
          simp only [Option.some.injEq] at hl
          subst hl
          exact Bool.noConfusion (HR.out.2 hk)⟩⟩
      · go_wp2
        go_ret2
        exact ⟨hBw, .inr ⟨av, cv, L, by rw [HLI.out]; rfl, by rw [HS.out]; exact HF.out, (by have h9 := HR.out; simpa using h9), by rw [HLI.out]; omega⟩⟩
def CkPost (s : ByteArray) (w : World) (e : Ending) (w' : World) : Prop := (∃ n x : Int, e = .returned (.tuple #[.int .i64 n, .int .i64 x]) ∧ CheckSpec s n x) ∧ Below w.heap.size w w'
set_option maxRecDepth 100000 in
set_option maxHeartbeats 1000000 in
theorem dcheck_calls (s : ByteArray) (w : World) (hs : s.size ≤ maxLen) :
    Calls Try.prog 5 #[.string s] w fun e w' => CkPost s w e w' := by
  unfold maxLen at hs
  by_cases h1 : 400 < s.size
  · have h11 : (400 : Int) < (s.size : Int) := by omega
    go_enter Try.func5, Try.ntmps5
    go_wp2
    go_ret2
    exact ⟨⟨0, 1, rfl, .inl ⟨h1, rfl, rfl⟩⟩, Below.refl _ _⟩
  · have h11 : ¬ (400 : Int) < (s.size : Int) := by omega
    have h12 : s.size ≤ 400 := by omega
    go_enter Try.func5, Try.ntmps5
    go_wp2_with fail
    refine (commands_calls s w h12).mono ?_
    rintro e w2 ⟨B2, ⟨v, rfl, hno⟩ | ⟨a, c, l, rfl, hsome, hlk, hl⟩⟩
    · have HS : Hid (CheckSpec s 0 2) := .inr ⟨h12, .inl ⟨hno, rfl, rfl⟩⟩
      clear hno
      go_wp2
      go_ret2
      exact ⟨⟨0, 2, rfl, HS.out⟩, B2⟩
    · have HS : Hid (CheckSpec s l.length 0) := .inr ⟨h12, .inr ⟨l, hsome, hlk, rfl, rfl⟩⟩
      clear hsome hlk
      go_wp2
      go_ret2
      exact ⟨⟨l.length, 0, rfl, HS.out⟩, B2⟩
end Go.Proofs.Ytlppphmnegdhoab

/-
  The program's scripts: digitAt, labelOf, readNumber.
-/
namespace Go.Proofs.Ytlppphmnegdhoab
set_option linter.unusedVariables false
set_option maxRecDepth 100000
open Go.RowKit
open M

/-- the digit at the beginning of a text, or -1 -/
def digI : List UInt8 → Int
  | [] => -1
  | c :: _ => if digB c.toNat then ((c.toNat - 48 : Nat) : Int) else -1
set_option maxRecDepth 100000 in
theorem digitAt_calls (s : ByteArray) (k : Nat) (w : World) (hs : s.size ≤ 400) (hk : k ≤ s.size) :
    Calls Try.prog 44 #[.string s, .int .i64 k] w fun e w' => e = .returned (.int .i64 (digI (s.data.toList.drop k))) ∧ w' = w := by
  have h0 : ¬ (k : Int) < 0 := by omega
  by_cases hlt : k < s.size
  · have hlt1 : ¬ (s.size : Int) ≤ (k : Int) := by omega
    have hlt2 : (k : Int) < (s.size : Int) := by omega
    obtain ⟨x, hx⟩ : ∃ x : Nat, s[k].toNat = x := ⟨_, rfl⟩
    have hxc : x < 256 := by rw [← hx]; exact s[k].toNat_lt
    have HD : Hid (digI (s.data.toList.drop k) = if digB x then ((x - 48 : Nat) : Int) else -1) := by
      show _ = _
      rw [get_drop s k hlt, digI, hx]
    by_cases h48 : 48 ≤ x
    · have h481 : ¬ (x : Int) < 48 := by omega
      have h482 : (48 : Int) ≤ (x : Int) := by omega
      by_cases h57 : x ≤ 57
      · have h571 : ¬ (57 : Int) < (x : Int) := by omega
        have HD2 : Hid (digI (s.data.toList.drop k) = (x : Int) - 48) := by
          show _ = _
          have e : digB x = true := by simp [digB]; omega
          rw [HD.out, e, if_pos rfl]; omega
        clear HD
        go_enter Try.func44, Try.ntmps44
        go_wp2
        go_ret
        refine ⟨?_, rfl⟩
        rw [HD2.out]
        first | rfl | go_num | simp
      · have h571 : (57 : Int) < (x : Int) := by omega
        have HD2 : Hid (digI (s.data.toList.drop k) = -1) := by
          show _ = _
          have e : digB x = false := by simp [digB]; omega
          rw [HD.out, e]; rfl
        clear HD
        go_enter Try.func44, Try.ntmps44
        go_wp2
        go_ret
        exact ⟨by rw [HD2.out]; rfl, rfl⟩
    · have h481 : (x : Int) < 48 := by omega
      have HD2 : Hid (digI (s.data.toList.drop k) = -1) := by
        show _ = _
        have e : digB x = false := by simp [digB]; omega
        rw [HD.out, e]; rfl
      clear HD
      go_enter Try.func44, Try.ntmps44
      go_wp2
      go_ret
      exact ⟨by rw [HD2.out]; rfl, rfl⟩
  · have hlt1 : (s.size : Int) ≤ (k : Int) := by omega
    have HD2 : Hid (digI (s.data.toList.drop k) = -1) := by
      show _ = _
      rw [List.drop_of_length_le (by rw [ba_len]; omega)]; rfl
    go_enter Try.func44, Try.ntmps44
    go_wp2
    go_ret
    exact ⟨by rw [HD2.out]; rfl, rfl⟩
/-- a label's byte, or 0 -/
def labB (t : List UInt8) : Nat := if letM t then (match t with | [] => 0 | c :: _ => c.toNat) else 0
set_option maxRecDepth 100000 in
theorem labelOf_calls (s : ByteArray) (w : World) (hs : s.size ≤ 400) :
    Calls Try.prog 30 #[.string s] w fun e w' => e = .returned (.int .u8 (labB s.data.toList)) ∧ w' = w := by
  by_cases h1 : s.size = 1
  · have h11 : ((s.size : Int) != 1) = false := by simp [h1]
    have h12 : 0 < s.size := by omega
    have h13 : (0 : Int) < (s.size : Int) := by omega
    obtain ⟨x, hx⟩ : ∃ x : Nat, s[0].toNat = x := ⟨_, rfl⟩
    have hxc : x < 256 := by rw [← hx]; exact s[0].toNat_lt
    have HL : Hid (labB s.data.toList = if decide (97 ≤ x) && decide (x ≤ 122) then x else 0) := by
      show _ = _
      have e := get_drop s 0 h12
      rw [List.drop_zero, List.drop_of_length_le (by rw [ba_len]; omega)] at e
      rw [e, ← hx]; rfl
    clear h1
    by_cases ha : 97 ≤ x
    · have ha1 : ¬ (x : Int) < 97 := by omega
      by_cases hb : x ≤ 122
      · have hb1 : ¬ (122 : Int) < (x : Int) := by omega
        have HF : Hid (labB s.data.toList = x) := by show _ = _; rw [HL.out, decide_eq_true ha, decide_eq_true hb]; rfl
        go_enter Try.func30, Try.ntmps30
        go_wp2
        go_ret
        exact ⟨by rw [HF.out]; rfl, rfl⟩
      · have hb1 : (122 : Int) < (x : Int) := by omega
        have HF : Hid (labB s.data.toList = 0) := by show _ = _; rw [HL.out, decide_eq_true ha, decide_eq_false hb]; rfl
        go_enter Try.func30, Try.ntmps30
        go_wp2
        go_ret
        exact ⟨by rw [HF.out]; rfl, rfl⟩
    · have ha1 : (x : Int) < 97 := by omega
      have HF : Hid (labB s.data.toList = 0) := by show _ = _; rw [HL.out, decide_eq_false ha]; rfl
      go_enter Try.func30, Try.ntmps30
      go_wp2
      go_ret
      exact ⟨by rw [HF.out]; rfl, rfl⟩
  · have h11 : ((s.size : Int) != 1) = true := by simp; omega
    have HF : Hid (labB s.data.toList = 0) := by
      show _ = _
      have hl := ba_len s
      match hd : s.data.toList with
      | [] => rfl
      | [c] => rw [hd] at hl; simp at hl; omega
      | c :: d :: t => rfl
    clear h1
    go_enter Try.func30, Try.ntmps30
    go_wp2
    go_ret
    exact ⟨by rw [HF.out]; rfl, rfl⟩
/-- how many digits a line number has, 4 at most -/
def numL (t : List UInt8) : Nat := match t with
  | [] => 0
  | c :: _ => if posB c.toNat then digs 4 t else 0
theorem digI_pos (t : List UInt8) (m : Nat) (h : 0 ≤ digI t) : ∃ c r, t = c :: r ∧ digB c.toNat = true ∧ digI t = ((c.toNat - 48 : Nat) : Int) ∧ digs (m + 1) t = digs m r + 1 := by
  match t with
  | [] => simp [digI] at h
  | c :: r =>
    cases hd : digB c.toNat
    · simp [digI, hd] at h
    · exact ⟨c, r, rfl, hd, by simp [digI, hd], by rw [digs, hd]; rfl⟩
theorem digI_neg (t : List UInt8) (m : Nat) (h : ¬ 0 ≤ digI t) : digs m t = 0 := by
  match t, m with
  | t, 0 => rfl
  | [], m + 1 => rfl
  | c :: r, m + 1 =>
    cases hd : digB c.toNat
    · rw [digs, hd]; rfl
    · simp [digI, hd] at h
theorem digI_le (t : List UInt8) : digI t ≤ 9 ∧ -1 ≤ digI t := by
  match t with
  | [] => simp [digI]
  | c :: r =>
    cases hd : digB c.toNat
    · simp [digI, hd]
    · have : 48 ≤ c.toNat ∧ c.toNat ≤ 57 := by simpa [digB] using hd
      simp [digI, hd]; omega
def NmPost (s : ByteArray) (k : Nat) (w : World) (e : Ending) (w' : World) : Prop := (∃ (n : Int) (q : Nat), q = k + numL (s.data.toList.drop k) ∧ e = .returned (.tuple #[.int .i64 n, .int .i64 q]) ∧ q ≤ s.size) ∧ w' = w
set_option maxRecDepth 100000 in
set_option maxHeartbeats 1000000 in
theorem prNum_calls (s : ByteArray) (k : Nat) (w : World) (hs : s.size ≤ 400) (hk : k ≤ s.size) :
    Calls Try.prog 37 #[.string s, .int .i64 k] w fun e w' => NmPost s k w e w' := by
  go_enter Try.func37, Try.ntmps37
  go_wp2_with fail
  refine (digitAt_calls s k w hs hk).mono ?_
  rintro e w1 ⟨rfl, rfl⟩
  go_wp2_with fail
  go_loop [6, 7, 8] (fun v6 v7 v8 => ∃ (n : Nat) (d : Nat), v6 = .int .i64 n ∧ v7 = .int .i64 ((k + d : Nat) : Int) ∧ v8 = .int .i64 (digI (s.data.toList.drop (k + d))) ∧ k + d ≤ s.size ∧ d ≤ 4 ∧ n + 1 ≤ 10 ^ d ∧ (d = 0 ∨ 1 ≤ n) ∧ Hid (d = 0 ∨ numL (s.data.toList.drop k) = d + digs (4 - d) (s.data.toList.drop (k + d)))) (fun _ v7 _ => s.size + 1 - (intOf v7).toNat)
  case atStart => exact ⟨0, 0, rfl, rfl, rfl, by omega, by omega, by simp, .inl rfl, .inl rfl⟩
  case round =>
    obtain ⟨n, d, rfl, rfl, rfl, hkd, hd4, hn, hnd, HNL⟩ := hrel
    have hn4 : n + 1 ≤ 10000 := Nat.le_trans hn (Nat.pow_le_pow_right (by decide) hd4)
    have HN : Hid (n + 1 ≤ 10 ^ d) := hn
    clear hn
    obtain ⟨q, hq⟩ : ∃ q, k + d = q := ⟨_, rfl⟩
    have HQ : Hid (k + d = q) := hq
    have hqd : (q : Int) - (k : Int) = (d : Int) := by omega
    rw [hq] at hkd HNL ⊢
    clear hq
    have hle := digI_le (s.data.toList.drop q)
    obtain ⟨dg, hdg⟩ : ∃ dg, digI (s.data.toList.drop q) = dg := ⟨_, rfl⟩
    have HDG : Hid (digI (s.data.toList.drop q) = dg) := hdg
    rw [hdg] at hle ⊢
    clear hdg
    by_cases hp : 0 ≤ dg
    · by_cases hd3 : d < 4
      · have hd31 : (d : Int) < 4 := by omega
        obtain ⟨c, r, hcr, hdc, hdv, hds⟩ := digI_pos (s.data.toList.drop q) (3 - d) (by rw [HDG.out]; exact hp)
        have hqs : q + 1 ≤ s.size := by
          refine Nat.lt_of_not_le fun h => ?_
          rw [List.drop_of_length_le (by rw [ba_len]; omega)] at hcr; cases hcr
        have hdr : s.data.toList.drop (q + 1) = r := by rw [← List.drop_drop, hcr]; rfl
        by_cases hz : n = 0 ∧ dg = 0
        · -- a nought ahead
          obtain ⟨hz1, hz2⟩ := hz
          have hd0 : d = 0 := by omega
          have HF : Hid (numL (s.data.toList.drop k) = 0) := by
            show _ = _
            have hqk : q = k := by have := HQ.out; omega
            rw [← hqk, hcr, numL]
            have : c.toNat = 48 := by
              have h1 : 48 ≤ c.toNat ∧ c.toNat ≤ 57 := by simpa [digB] using hdc
              rw [HDG.out, hz2] at hdv; omega
            rw [this]; rfl
          subst hz1 hz2
          clear hcr hdc hdv hds hdr HNL
          go_wp2
          go_ret2
          exact ⟨⟨0, k, by rw [HF.out]; rfl, rfl, hk⟩, rfl⟩
        · have HNL2 : Hid (numL (s.data.toList.drop k) = (d + 1) + digs (4 - (d + 1)) (s.data.toList.drop (q + 1))) := by
            show _ = _
            have e4 : 4 - (d + 1) = 3 - d := by omega
            have e5 : 4 - d = (3 - d) + 1 := by omega
            rw [hdr, e4]
            rcases HNL.out with hd0 | h
            · subst hd0
              have hqk : q = k := by have := HQ.out; omega
              have hn0 : n = 0 := by have := HN.out; omega
              have hpos : posB c.toNat = true := by
                have h1 : 48 ≤ c.toNat ∧ c.toNat ≤ 57 := by simpa [digB] using hdc
                have h2 : c.toNat ≠ 48 := fun e => hz ⟨hn0, by rw [← HDG.out, hdv, e]; rfl⟩
                simp [posB]; omega
              rw [← hqk, hcr]
              show (if posB c.toNat then digs 4 (c :: r) else 0) = _
              rw [hpos, if_pos rfl, ← hcr]
              have : digs (3 - 0 + 1) (s.data.toList.drop q) = digs (3 - 0) r + 1 := hds
              rw [show (4 : Nat) = 3 - 0 + 1 from rfl, this]; omega
            · rw [h, e5, hds]; omega
          have hgt : (n = 0 ∧ dg ≠ 0) ∨ n ≠ 0 := by
            by_cases e : n = 0
            · exact .inl ⟨e, fun h => hz ⟨e, h⟩⟩
            · exact .inr e
          obtain ⟨dn, hdn⟩ : ∃ dn : Nat, dg = dn := ⟨dg.toNat, by omega⟩
          have HN2 : Hid (10 * n + dn + 1 ≤ 10 ^ (d + 1)) := by
            show _ ≤ _
            have := HN.out
            rw [Nat.pow_succ]; omega
          have hge : 1 ≤ 10 * n + dn := by omega
          subst hdn
          clear hcr hdc hdv hds hdr HNL hz
          rcases hgt with ⟨e1, e2⟩ | e1
          · have e3 : ((dn : Int) == 0) = false := by simp; omega
            subst e1
            go_wp2_with fail
            have HC := digitAt_calls s (q + 1) w1 hs hqs
            rw [show ((q + 1 : Nat) : Int) = (q : Int) + 1 from rfl] at HC
            refine HC.mono ?_
            clear HC
            rintro e w2 ⟨rfl, rfl⟩
            go_wp2
            go_round
            case rel => exact ⟨10 * 0 + dn, d + 1, by first | go_num | (simp; omega), by rw [← Nat.add_assoc, HQ.out]; go_num, by rw [← Nat.add_assoc, HQ.out], by rw [← Nat.add_assoc, HQ.out]; exact hqs, by omega, HN2.out, .inr hge, .inr (by rw [← Nat.add_assoc, HQ.out]; exact HNL2.out)⟩
            case measure => first | (simp [intOf]; done) | (simp [intOf]; omega)
          · have e3 : ((n : Int) == 0) = false := by simp; omega
            go_wp2_with fail
            have HC := digitAt_calls s (q + 1) w1 hs hqs
            rw [show ((q + 1 : Nat) : Int) = (q : Int) + 1 from rfl] at HC
            refine HC.mono ?_
            clear HC
            rintro e w2 ⟨rfl, rfl⟩
            go_wp2
            go_round
            case rel => exact ⟨10 * n + dn, d + 1, by first | go_num | (simp; omega), by rw [← Nat.add_assoc, HQ.out]; go_num, by rw [← Nat.add_assoc, HQ.out], by rw [← Nat.add_assoc, HQ.out]; exact hqs, by omega, HN2.out, .inr hge, .inr (by rw [← Nat.add_assoc, HQ.out]; exact HNL2.out)⟩
            case measure => first | (simp [intOf]; done) | (simp [intOf]; omega)
      · obtain rfl : d = 4 := by omega
        have HF : Hid (k + numL (s.data.toList.drop k) = q) := by
          show _ = _
          rcases HNL.out with h | h
          · omega
          · rw [h]
            have := HQ.out
            show k + (4 + digs 0 _) = q
            rw [digs]; omega
        clear HNL
        go_wp2
        go_ret2
        exact ⟨⟨n, q, HF.out.symm, rfl, hkd⟩, rfl⟩
    · have hp1 : ¬ (0 : Int) ≤ dg := hp
      have HF : Hid (k + numL (s.data.toList.drop k) = q) := by
        show _ = _
        have hno : ∀ m, digs m (s.data.toList.drop q) = 0 := fun m => digI_neg _ m (by rw [HDG.out]; exact hp)
        rcases HNL.out with h | h
        · subst h
          have hqk : k = q := HQ.out
          subst hqk
          have : numL (s.data.toList.drop k) = 0 := by
            match hcr : s.data.toList.drop k with
            | [] => rfl
            | c :: r =>
              show (if posB c.toNat then digs 4 (c :: r) else 0) = 0
              rw [← hcr, hno 4]; split <;> rfl
          rw [this]; rfl
        · rw [h, hno]
          have := HQ.out
          omega
      clear HNL
      go_wp2
      go_ret2
      exact ⟨⟨n, q, HF.out.symm, rfl, hkd⟩, rfl⟩
end Go.Proofs.Ytlppphmnegdhoab

/-
  The program's scripts: readBetween, readAddress.
-/
namespace Go.Proofs.Ytlppphmnegdhoab
set_option linter.unusedVariables false
set_option maxRecDepth 100000
open Go.RowKit
open M

theorem rtPExp : RowT 52 3 := ⟨⟨_, Try.underlying52, rfl⟩, by kernel_rfl⟩
theorem rtPAddr : RowT 54 5 := ⟨⟨_, Try.underlying54, rfl⟩, by kernel_rfl⟩
theorem mks_nil (t r : List UInt8) (h : mksM t = ([], r)) : r = t := by
  match t with
  | [] => rw [mksM] at h; simp at h; exact h
  | [c] =>
    rw [mksM] at h
    split at h
    · simp at h; exact h.symm
    · simp at h
  | c :: d :: t =>
    rw [mksM] at h
    split at h
    · simp at h; exact h.symm
    · split at h
      · split at h
        · simp at h; exact h.symm
        · simp [preR] at h
      · simp [preR] at h
def NoNL (s : ByteArray) : Prop := ∀ c ∈ s.data.toList, c.toNat ≠ 10
theorem NoNL.drop {s : ByteArray} (h : NoNL s) (k : Nat) : ∀ c ∈ s.data.toList.drop k, c.toNat ≠ 10 := fun c hc => h c (List.mem_of_mem_drop hc)
theorem upto_mk (t : List UInt8) (m : List Mk) (r : List UInt8) (hn : ∀ c ∈ t, c.toNat ≠ 10) (hm : mksM t = (m, r)) : (∀ r', r = 47 :: r' → uptoM t = some (m, r')) ∧ ((∀ r', r ≠ 47 :: r') → uptoM t = none) := by
  have hup := upto_mks t hn
  rw [hm] at hup
  refine ⟨fun r' e => ?_, fun h => ?_⟩
  · subst e; rw [hup]; rfl
  · rw [hup]
    split
    · rename_i h9; exact absurd h9 (h _)
    · rfl
/-- between slashes, by what Read found -/
theorem bet_read (t : List UInt8) (m m3 : List Mk) (r : List UInt8) (hn : ∀ c ∈ t, c.toNat ≠ 10) (hm : mksM t = (m, r)) (u : List UInt8) (hu : mksM u = (m3, r)) (hB : m3 ≠ [] → expM m = none) :
    (stB u 47 = false → betM (uptoM t) = none) ∧ (stB u 47 = true → u = t → m = []) ∧ (stB u 47 = true → m3 = [] ∧ ∃ r', r = 47 :: r' ∧ uptoM t = some (m, r') ∧ u = 47 :: r') := by
  obtain ⟨p1, p2⟩ := upto_mk t m r hn hm
  refine ⟨fun h => ?_, fun h e => ?_, fun h => ?_⟩
  · by_cases hr : ∃ r', r = 47 :: r'
    · obtain ⟨r', hr⟩ := hr
      rw [p1 r' hr, betM]
      have h3 : m3 ≠ [] := fun e => by
        subst e
        have := mks_nil u r hu
        rw [← this, hr] at h
        cases h
      rw [hB h3]; rfl
    · rw [p2 (fun r' e => hr ⟨r', e⟩)]; rfl
  · obtain ⟨h3, r', h4, h5⟩ := (stB_slash u m3 r hu).1 h
    rw [e, hm] at hu
    simp at hu
    rw [hu]; exact h3
  · obtain ⟨h3, r', h4, h5⟩ := (stB_slash u m3 r hu).1 h
    exact ⟨h3, r', h4, p1 r' h4, h5⟩
/-- an expression's cells, an address's, the addresses' -/
def E3 (vs : List Value) : Prop := ∃ (h t : Bool) (a : Option Addr) (l c : Nat), vs = [.bool h, .bool t, .slice a l c]
theorem E3.len {vs : List Value} (h : E3 vs) : vs.length = 3 := by obtain ⟨_, _, _, _, _, rfl⟩ := h; rfl
theorem E3.one {vs : List Value} (h : E3 vs) : ∀ v ∈ vs, v.oneCell' = true := by obtain ⟨_, _, _, _, _, rfl⟩ := h; simp [Value.oneCell']
def A5 (vs : List Value) : Prop := ∃ (k n : Int) (h t : Bool) (a : Option Addr) (l c : Nat), vs = [.int .i64 k, .int .i64 n, .bool h, .bool t, .slice a l c]
theorem A5.len {vs : List Value} (h : A5 vs) : vs.length = 5 := by obtain ⟨_, _, _, _, _, _, _, rfl⟩ := h; rfl
theorem A5.one {vs : List Value} (h : A5 vs) : ∀ v ∈ vs, v.oneCell' = true := by obtain ⟨_, _, _, _, _, _, _, rfl⟩ := h; simp [Value.oneCell']
def A12 (vs : List Value) : Prop := ∃ (q k n k' n' : Int) (h t h' t' x : Bool) (a a' : Option Addr) (l c l' c' : Nat), vs = [.int .i64 q, .int .i64 k, .int .i64 n, .bool h, .bool t, .slice a l c, .int .i64 k', .int .i64 n', .bool h', .bool t', .slice a' l' c', .bool x]
theorem A12.set11 {vs : List Value} (h : A12 vs) (b : Bool) : A12 (vs.set 11 (.bool b)) := by
  obtain ⟨q, k, n, k', n', h, t, h', t', x, a, a', l, c, l', c', rfl⟩ := h
  exact ⟨q, k, n, k', n', h, t, h', t', b, a, a', l, c, l', c', rfl⟩
theorem A12.part {vs us : List Value} (h : A12 vs) (g : A5 us) (i : Int) : A12 ((vs.set 0 (.int .i64 i)).take 6 ++ us ++ (vs.set 0 (.int .i64 i)).drop (6 + 5)) := by
  obtain ⟨q, k, n, k', n', h, t, h', t', x, a, a', l, c, l', c', rfl⟩ := h
  obtain ⟨k2, n2, h2, t2, a2, l2, c2, rfl⟩ := g
  exact ⟨i, k, n, k2, n2, h, t, h2, t2, x, a, a2, l, c, l2, c2, rfl⟩
def BtPost (s : ByteArray) (k : Nat) (w : World) (e : Ending) (w' : World) : Prop :=
  Below w.heap.size w w' ∧ ∃ vs : List Value, E3 vs ∧
    ((stB (s.data.toList.drop k) 47 = true ∧ ∃ q : Nat, betM (uptoM (s.data.toList.drop (k + 1))) = some (3, s.data.toList.drop q) ∧ k < q ∧ q ≤ s.size ∧ e = .returned (.tuple #[.agg vs.toArray, .int .i64 q, .bool true])) ∨
     ((stB (s.data.toList.drop k) 47 = false ∨ betM (uptoM (s.data.toList.drop (k + 1))) = none) ∧ e = .returned (.tuple #[.agg vs.toArray, .int .i64 k, .bool false])))
set_option maxRecDepth 100000 in
set_option maxHeartbeats 1000000 in
theorem readBetween_calls (s : ByteArray) (k : Nat) (w : World) (hs : s.size ≤ 400) (hk : k ≤ s.size) (hnl : NoNL s) :
    Calls Try.prog 36 #[.string s, .int .i64 k] w fun e w' => BtPost s k w e w' := by
  have hsm : s.size ≤ maxLen := by unfold maxLen; omega
  have HNL : Hid (NoNL s) := hnl
  clear hnl
  have hb0 : CB (w.alloc (.cells #[.bool false, .bool false, .slice none 0 0] 52)) w.heap.size [.bool false, .bool false, .slice none 0 0] := CB.new w _ _ (by simp [Value.oneCell'])
  have B0 : Below w.heap.size w (w.alloc (.cells #[.bool false, .bool false, .slice none 0 0] 52)) := (Below.refl _ _).alloc (Nat.le_refl _) _
  go_enter Try.func36, Try.ntmps36
  go_wp2_with fail
  generalize w.alloc (.cells #[.bool false, .bool false, .slice none 0 0] 52) = W at *
  refine (stands_calls s k 47 _ hsm hk (by decide)).mono ?_
  rintro e w1 ⟨rfl, rfl⟩
  cases hb : stB (s.data.toList.drop k) 47
  · have HB : Hid (stB (s.data.toList.drop k) 47 = false) := hb
    clear hb
    go_wp2_with (refine cb_store0 rtPExp hb0 rfl rfl _ _ rfl rfl rfl rfl (by simp [Value.oneCell']) ?_; intro w5 hb5 O5)
    refine bodyPost_ret (results_cb3 rfl _ _ _ _ rfl rtPExp hb5 rfl) rfl ?_
    exact ⟨B0.trans (O5.below (Nat.le_refl _)), _, ⟨_, _, _, _, _, rfl⟩, .inr ⟨.inl HB.out, rfl⟩⟩
  · have hk1 := stB_size s k 47 hb
    have HB : Hid (stB (s.data.toList.drop k) 47 = true) := hb
    clear hb
    obtain ⟨m, r, hmr⟩ : ∃ m r, mksM (s.data.toList.drop (k + 1)) = (m, r) := ⟨_, _, rfl⟩
    have HM : Hid (mksM (s.data.toList.drop (k + 1)) = (m, r)) := hmr
    clear hmr
    go_wp2_with fail
    have HC := rd_calls s (k + 1) m r w1 (by omega) hk1 HM.out
    rw [show ((k + 1 : Nat) : Int) = (k : Int) + 1 from rfl] at HC
    refine HC.mono ?_
    clear HC
    rintro e w2 ⟨hd, tl, L, m3, n, a, c, rfl, hkn, hns, hm3, hown, B2, hLs, hA, hBB⟩
    have hlen2 : ∀ x, x ≤ s.size → (s.data.toList.drop x).length = s.size - x := fun x _ => by rw [List.length_drop, ba_len]
    obtain ⟨q1, q2, q3⟩ := bet_read (s.data.toList.drop (k + 1)) m m3 r (HNL.out.drop _) HM.out (s.data.toList.drop n) hm3 hBB
    have HN : Hid (stB (s.data.toList.drop n) 47 = false → betM (uptoM (s.data.toList.drop (k + 1))) = none) := q1
    have HZ : Hid (¬ k + 1 < n → betM (uptoM (s.data.toList.drop (k + 1))) = none) := fun h => by
      have hnk : n = k + 1 := by omega
      subst hnk
      rw [HM.out] at hm3
      simp at hm3
      cases hs1 : stB (s.data.toList.drop (k + 1)) 47
      · exact q1 hs1
      · have hm0 := q2 hs1 rfl
        obtain ⟨_, r', _, h5, _⟩ := q3 hs1
        rw [h5, betM, hm0]; rfl
    have HY : Hid (k + 1 < n → stB (s.data.toList.drop n) 47 = true → n + 1 ≤ s.size ∧ betM (uptoM (s.data.toList.drop (k + 1))) = some (3, s.data.toList.drop (n + 1))) := fun h h2 => by
      obtain ⟨h3, r', h4, h5, h6⟩ := q3 h2
      have hmne : m ≠ [] := fun e => by
        subst e
        have e2 : s.data.toList.drop n = s.data.toList.drop (k + 1) := by
          have a1 := mks_nil _ _ HM.out
          have a2 : mksM (s.data.toList.drop n) = ([], r) := by rw [hm3, h3]
          rw [← mks_nil _ _ a2, ← a1]
        have e3 := congrArg List.length e2
        rw [hlen2 n hns, hlen2 (k + 1) hk1] at e3
        omega
      refine ⟨stB_size s n 47 h2, ?_⟩
      rw [h5, betM, hA hmne h3]
      have : s.data.toList.drop (n + 1) = r' := by rw [← List.drop_drop, h6]; rfl
      rw [this]; rfl
    clear q1 q2 q3 hm3 hA hBB hown hlen2
    have hb2 := hb0.below B2 hb0.lt
    have BB2 := B0.trans (B2.mono B0.size)
    have hlt2 := hb2.lt
    have hbn : CB (w2.alloc (.cells #[.bool false, .bool false, .slice none 0 0] 52)) w2.heap.size [.bool false, .bool false, .slice none 0 0] := CB.new w2 _ _ (by simp [Value.oneCell'])
    have hb3 : CB (w2.alloc (.cells #[.bool false, .bool false, .slice none 0 0] 52)) w.heap.size [.bool false, .bool false, .slice none 0 0] := hb2.below ((Below.refl _ _).alloc (Nat.le_refl _) _) hlt2
    have B3 := BB2.alloc (o := .cells #[.bool false, .bool false, .slice none 0 0] 52) (by omega)
    by_cases hkn2 : k + 1 < n
    · have hd1 : decide (k + 1 < n) = true := decide_eq_true hkn2
      rw [hd1]
      go_wp2_with (refine cb_store0 rtPExp hbn rfl rfl _ _ rfl rfl rfl rfl (by simp [Value.oneCell']) ?_; intro w5 hb5 O5; have hb6 := hb3.keep (O5.block _ (by omega)) (by rw [O5.size]; exact Nat.le_refl _))
      refine (stands_calls s n 47 _ hsm hns (by decide)).mono ?_
      rintro e w6 ⟨rfl, rfl⟩
      cases hst : stB (s.data.toList.drop n) 47
      · have HF := HN.out hst
        have HF2 : Hid (betM (uptoM (s.data.toList.drop (k + 1))) = none) := HF
        clear HF hst HN HY HZ
        go_wp2_with (refine cb_store0 rtPExp hb6 rfl rfl _ _ rfl rfl rfl rfl (by simp [Value.oneCell']) ?_; intro w7 hb7 O7)
        refine bodyPost_ret (results_cb3 rfl _ _ _ _ rfl rtPExp hb7 rfl) rfl ?_
        exact ⟨(B3.trans (O5.below (by omega))).trans (O7.below (Nat.le_refl _)), _, ⟨_, _, _, _, _, rfl⟩, .inr ⟨.inr HF2.out, rfl⟩⟩
      · have HF : Hid (n + 1 ≤ s.size ∧ betM (uptoM (s.data.toList.drop (k + 1))) = some (3, s.data.toList.drop (n + 1))) := HY.out hkn2 hst
        clear hst HN HY HZ
        go_wp2_with (first
          | refine cb_load0 rtPExp hb5 rfl rfl _ rfl rfl ?_
          | (refine cb_store0 rtPExp hb6 rfl rfl _ _ rfl rfl rfl rfl (by simp [Value.oneCell']) ?_; intro w7 hb7 O7))
        refine bodyPost_ret (results_cb3 rfl _ _ _ _ rfl rtPExp hb7 rfl) rfl ?_
        exact ⟨(B3.trans (O5.below (by omega))).trans (O7.below (Nat.le_refl _)), _, ⟨_, _, _, _, _, rfl⟩, .inl ⟨HB.out, n + 1, HF.out.2, by omega, HF.out.1, rfl⟩⟩
    · have HF2 : Hid (betM (uptoM (s.data.toList.drop (k + 1))) = none) := HZ.out hkn2
      have hd1 : decide (k + 1 < n) = false := decide_eq_false hkn2
      rw [hd1]
      clear HN HY HZ
      go_wp2_with (first
        | (refine cb_store0 rtPExp hbn rfl rfl _ _ rfl rfl rfl rfl (by simp [Value.oneCell']) ?_; intro w5 hb5 O5; have hb6 := hb3.keep (O5.block _ (by omega)) (by rw [O5.size]; exact Nat.le_refl _))
        | (refine cb_store0 rtPExp hb6 rfl rfl _ _ rfl rfl rfl rfl (by simp [Value.oneCell']) ?_; intro w7 hb7 O7))
      refine bodyPost_ret (results_cb3 rfl _ _ _ _ rfl rtPExp hb7 rfl) rfl ?_
      exact ⟨(B3.trans (O5.below (by omega))).trans (O7.below (Nat.le_refl _)), _, ⟨_, _, _, _, _, rfl⟩, .inr ⟨.inr HF2.out, rfl⟩⟩
end Go.Proofs.Ytlppphmnegdhoab
