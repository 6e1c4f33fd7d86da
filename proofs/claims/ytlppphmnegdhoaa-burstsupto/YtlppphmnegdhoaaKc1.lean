/-
  Texts that are no journal; beginnings of journals: the statement on cuts, its walk.
-/
import Derived.Test.YtlppphmnegdhoaaKp1
namespace Go.Proofs.Ytlppphmnegdhoaa
set_option linter.unusedVariables false
set_option maxRecDepth 100000
open Go.RowKit
open M

/-- a list of records is known where it ends -/
theorem recs_end (l : List M.Rec) : ∀ (l' : List M.Rec) (u u' : List UInt8), okAll l → okAll l' → (∀ r ∈ l, r.n ≤ 4096) → (∀ r ∈ l', r.n ≤ 4096) → lenA l = lenA l' → lenB l = lenB l' → recsE l ++ u = recsE l' ++ u' → u = u' := by
  induction l with
  | nil =>
    intro l' u u' _ ho' _ _ hA hB h
    match l' with
    | [] => exact h
    | r :: l' =>
      exfalso
      have h1 := inAB r (okAll_cons ho').1
      have h2 := ((okRec_iff r).1 (okAll_cons ho').1).1
      have h3 := lenA_nn l' (okAll_cons ho').2
      have h4 := lenB_nn l' (okAll_cons ho').2
      simp only [lenA, lenB] at hA hB
      omega
  | cons r l ih =>
    intro l' u u' ho ho' hn hn' hA hB h
    match l' with
    | [] =>
      exfalso
      have h1 := inAB r (okAll_cons ho).1
      have h2 := ((okRec_iff r).1 (okAll_cons ho).1).1
      have h3 := lenA_nn l (okAll_cons ho).2
      have h4 := lenB_nn l (okAll_cons ho).2
      simp only [lenA, lenB] at hA hB
      omega
    | r' :: l' =>
      rw [recsE_cons, recsE_cons, List.append_assoc, List.append_assoc] at h
      have e1 := rdRec_recE r (recsE l ++ u) (okAll_cons ho).1 (hn r (List.mem_cons_self ..))
      rw [h, rdRec_recE r' _ (okAll_cons ho').1 (hn' r' (List.mem_cons_self ..))] at e1
      simp only [Option.some.injEq, Prod.mk.injEq] at e1
      obtain ⟨rfl, e2⟩ := e1
      simp only [lenA, lenB] at hA hB
      exact ih l' u u' (okAll_cons ho).2 (okAll_cons ho').2 (fun x hx => hn x (List.mem_cons_of_mem _ hx)) (fun x hx => hn' x (List.mem_cons_of_mem _ hx)) (by omega) (by omega) e2.symm
/-- no journal stands at another's beginning -/
theorem tells_prefix {s t : List UInt8} {j k : Jn} (hj : Tells s j) (hk : Tells (s ++ t) k) : t = [] := by
  have e : writE j ++ t = writE k := by rw [hj.2, hk.2]
  unfold writE bodyE headE at e
  simp only [List.cons_append, List.append_assoc, List.cons.injEq, true_and] at e
  have v1 := hj.1
  have v2 := hk.1
  have r1 := rdNum_numE j.la (numE j.lb ++ (twoE j.sa ++ (twoE j.sb ++ (recsE j.l ++ (twoE (sum (82 :: 84 :: (numE j.la ++ (numE j.lb ++ (twoE j.sa ++ (twoE j.sb ++ recsE j.l)))))) ++ t))))) (by have := v1.la; omega)
  rw [e, rdNum_numE k.la _ (by have := v2.la; omega)] at r1
  simp only [Option.some.injEq, Prod.mk.injEq] at r1
  obtain ⟨ea, e⟩ := r1
  have r1 := rdNum_numE k.lb (twoE k.sa ++ (twoE k.sb ++ (recsE k.l ++ twoE (sum (82 :: 84 :: (numE k.la ++ (numE k.lb ++ (twoE k.sa ++ (twoE k.sb ++ recsE k.l))))))))) (by have := v2.lb; omega)
  rw [e, rdNum_numE j.lb _ (by have := v1.lb; omega)] at r1
  simp only [Option.some.injEq, Prod.mk.injEq] at r1
  obtain ⟨eb, e⟩ := r1
  have r1 := rdTwo_twoE j.sa (twoE j.sb ++ (recsE j.l ++ (twoE (sum (82 :: 84 :: (numE j.la ++ (numE j.lb ++ (twoE j.sa ++ (twoE j.sb ++ recsE j.l)))))) ++ t))) v1.sa
  rw [e, rdTwo_twoE k.sa _ v2.sa] at r1
  simp only [Option.some.injEq, Prod.mk.injEq] at r1
  obtain ⟨ec, e⟩ := r1
  have r1 := rdTwo_twoE k.sb (recsE k.l ++ twoE (sum (82 :: 84 :: (numE k.la ++ (numE k.lb ++ (twoE k.sa ++ (twoE k.sb ++ recsE k.l))))))) v2.sb
  rw [e, rdTwo_twoE j.sb _ v1.sb] at r1
  simp only [Option.some.injEq, Prod.mk.injEq] at r1
  obtain ⟨ed, e⟩ := r1
  have a1 := v1.a
  have a2 := v1.b
  have a3 := v2.a
  have a4 := v2.b
  have a5 := v1.la
  have a6 := v1.lb
  have a7 := v2.la
  have a8 := v2.lb
  have h := recs_end j.l k.l _ _ v1.ok v2.ok (mem_n j.l v1.ok (by omega) (by omega)) (mem_n k.l v2.ok (by omega) (by omega)) (by omega) (by omega) e
  have h2 := congrArg List.length h
  simp [twoE] at h2
  exact h2

/-- what is answered of a text that is no journal -/
def wantE (x : ByteArray) : Int := if 12352 < x.size then 1 else 8
theorem none_read {x : ByteArray} {l : List M.Rec} {e : Int} (hx : ∀ j, Tells x.data.toList j → False) (h : ReadSpec x l e) : e = wantE x := by
  unfold wantE
  split
  · exact (readSpec_same h (.inl ⟨by assumption, rfl, rfl⟩)).2
  · exact (readSpec_same h (.inr ⟨by omega, .inl ⟨hx, rfl, rfl⟩⟩)).2
theorem none_undo {x b : ByteArray} {t : List UInt8} {e : Int} (hb : b.size ≤ 4096) (hx : ∀ j, Tells x.data.toList j → False) (h : UndoSpec b x t e) : t = [] ∧ e = wantE x := by
  unfold wantE
  split
  · exact undoSpec_same h (.inl ⟨.inr (by assumption), rfl, rfl⟩)
  · exact undoSpec_same h (.inr ⟨fun h => by omega, .inl ⟨hx, rfl, rfl⟩⟩)
theorem none_pack {x : ByteArray} {t : List UInt8} {e : Int} (hx : ∀ j, Tells x.data.toList j → False) (h : PackSpec x t e) : t = [] ∧ e = wantE x := by
  unfold wantE
  split
  · exact packSpec_same h (.inl ⟨by assumption, rfl, rfl⟩)
  · exact packSpec_same h (.inr ⟨by omega, .inl ⟨hx, rfl, rfl⟩⟩)
theorem none_join1 {x g : ByteArray} {t : List UInt8} {e : Int} (hg : g.size ≤ 12352) (hx : ∀ j, Tells x.data.toList j → False) (h : JoinSpec x g t e) : t = [] ∧ e = wantE x := by
  unfold wantE
  split
  · exact joinSpec_same h (.inl ⟨.inl (by assumption), rfl, rfl⟩)
  · exact joinSpec_same h (.inr ⟨⟨by omega, hg⟩, .inl ⟨.inl hx, rfl, rfl⟩⟩)
theorem none_join2 {x g : ByteArray} {t : List UInt8} {e : Int} (hg : g.size ≤ 12352) (hx : ∀ j, Tells x.data.toList j → False) (h : JoinSpec g x t e) : t = [] ∧ e = wantE x := by
  unfold wantE
  split
  · exact joinSpec_same h (.inl ⟨.inr (by assumption), rfl, rfl⟩)
  · exact joinSpec_same h (.inr ⟨⟨hg, by omega⟩, .inl ⟨.inr hx, rfl, rfl⟩⟩)

set_option maxRecDepth 100000 in
set_option maxHeartbeats 4000000 in
theorem none_calls (x b g : ByteArray) (w : World) (hxm : x.size ≤ maxLen) (hb : b.size ≤ 4096) (hg : g.size ≤ 12352) (hx : ∀ j, Tells x.data.toList j → False) :
    Calls Try.prog 36 #[.string x, .string b, .string g] w fun e w' => e = .returned (.bool true) ∧ Below w.heap.size w w' := by
  have HX : Hid (∀ j, Tells x.data.toList j → False) := hx
  have hbm : b.size ≤ maxLen := by unfold maxLen; omega
  have hgm : g.size ≤ maxLen := by unfold maxLen; omega
  have hnil : ∀ W : World, (binOp .eql 22 (.slice none 0 0) (.slice none 0 0)).run Try.prog W = .ok (.bool true) W := fun W => Lib.run_eql_slice_nil W _ _ none 0 0 0 0 Try.underlying22
  clear hx
  go_enter Try.func36, Try.ntmps36
  go_wp2_with fail
  refine (rread_calls x _ hxm).mono ?_
  rintro e w1 ⟨m, er, v, rfl, h1, _, nil1, b1⟩
  obtain rfl := none_read HX.out h1
  obtain rfl : v = .slice none 0 0 := nil1 (by unfold wantE; split <;> decide)
  clear h1 nil1
  go_wp2_with fail
  refine (undo_calls b x _ hbm hxm).mono ?_
  rintro e w2 ⟨⟨t2, er, rfl, h2⟩, b2⟩
  obtain ⟨h21, rfl⟩ := none_undo hb HX.out h2
  obtain rfl : t2 = ⟨#[]⟩ := ba_ext h21
  have B2 := b1.trans (b2.mono b1.size)
  clear h2 h21 b1 b2
  go_wp2_with fail
  refine (pack_calls x _ hxm).mono ?_
  rintro e w3 ⟨⟨t3, er, rfl, h3⟩, b3⟩
  obtain ⟨h31, rfl⟩ := none_pack HX.out h3
  obtain rfl : t3 = ⟨#[]⟩ := ba_ext h31
  have B3 := B2.trans (b3.mono B2.size)
  clear h3 h31 b3 B2
  go_wp2_with fail
  refine (rjoin_calls x g _ hxm hgm).mono ?_
  rintro e w4 ⟨⟨t4, er, rfl, h4⟩, b4⟩
  obtain ⟨h41, rfl⟩ := none_join1 hg HX.out h4
  obtain rfl : t4 = ⟨#[]⟩ := ba_ext h41
  have B4 := B3.trans (b4.mono B3.size)
  clear h4 h41 b4 B3
  go_wp2_with fail
  refine (rjoin_calls g x _ hgm hxm).mono ?_
  rintro e w5 ⟨⟨t5, er, rfl, h5⟩, b5⟩
  obtain ⟨h51, rfl⟩ := none_join2 hg HX.out h5
  obtain rfl : t5 = ⟨#[]⟩ := ba_ext h51
  have B5 := B4.trans (b5.mono B4.size)
  clear h5 h51 b5 B4
  by_cases hs : 12352 < x.size
  · have hs1 : (12352 : Int) < (x.size : Int) := by omega
    have hw : wantE x = 1 := if_pos hs
    rw [hw]
    clear hw
    go_wp2
    go_ret
    exact ⟨rfl, B5⟩
  · have hs1 : ¬ (12352 : Int) < (x.size : Int) := by omega
    have hw : wantE x = 8 := if_neg hs
    rw [hw]
    clear hw
    go_wp2
    go_ret
    exact ⟨rfl, B5⟩

set_option maxRecDepth 100000 in
set_option maxHeartbeats 4000000 in
theorem cuts_walk (n c : Nat) (ad : Option Addr) (raw : List M.Rec) (a more : ByteArray) (at' : Int) (w : World) (hat : RecsAt w ad n raw) (hwf : ∀ r ∈ raw, wfRec r) (hln : raw.length ≤ 1048576) (hS : a.size + sumS raw + more.size ≤ 1048576) (h0 : -9223372036854775808 ≤ at') (h00 : at' ≤ 9223372036854775807) :
    Calls Try.prog 10 #[.string a, .slice ad n c, .int .i64 at', .string more] w fun e w' => e = .returned (.bool true) ∧ Below w.heap.size w w' := by
  go_enter Try.func10, Try.ntmps10
  go_wp2_with fail
  refine (moved_calls n c ad raw a _ hat hwf hln (by omega) (by omega)).mono ?_
  rintro e w1 ⟨l, v, b, rfl, hok, hld, hown, hll, hbs, b1⟩
  obtain ⟨a1, c1, rfl⟩ := own_form hown
  have rec1 := recsAt_own hown
  have HL : Hid (leadsL l a.data.toList b.data.toList = true) := hld
  clear hld hown
  go_wp2_with fail
  refine (fits_calls a _ (by unfold maxLen; omega)).mono ?_
  rintro e w2 ⟨rfl, hw⟩
  obtain rfl : w1 = w2 := hw.symm
  clear hw
  by_cases h1 : a.size ≤ 4096
  case neg =>
    rw [decide_eq_false h1]
    go_wp2
    go_ret
    exact ⟨rfl, b1⟩
  rw [decide_eq_true h1]
  go_wp2_with fail
  refine (fits_calls b _ (by unfold maxLen; omega)).mono ?_
  rintro e w2 ⟨rfl, hw⟩
  obtain rfl : w1 = w2 := hw.symm
  clear hw
  by_cases h2 : b.size ≤ 4096
  case neg =>
    rw [decide_eq_false h2]
    go_wp2
    go_ret
    exact ⟨rfl, b1⟩
  rw [decide_eq_true h2]
  go_wp2_with fail
  refine (jwritten_calls _ _ _ l a b _ rec1 (by omega) h1 h2 hok HL.out).mono ?_
  rintro e w2 ⟨⟨j, rfl, jj⟩, b2⟩
  have B2 := b1.trans (b2.mono b1.size)
  have lj := jj.len
  have HT : Hid _ := jj.tells
  clear b1 b2 rec1 jj
  go_wp2_with fail
  refine (pick_calls at' j.size _ h0 h00 (by omega) (by omega)).mono ?_
  rintro e w3 ⟨⟨k, rfl, hk⟩, hw⟩
  obtain rfl : w2 = w3 := hw.symm
  clear hw
  have hk2 : k < j.size := by omega
  have hk1 : (k : Int) ≤ (j.size : Int) := by omega
  have HC : Hid (∀ q, Tells (j.extract 0 k).data.toList q → False) := fun q hq => by
    have e1 : (j.extract 0 k).data.toList = j.data.toList.take k := by rw [Lib.extract_data]; simp
    rw [e1] at hq
    have h3 := HT.out
    rw [← List.take_append_drop k j.data.toList] at h3
    have h4 := congrArg List.length (tells_prefix hq h3)
    rw [len_drop] at h4
    simp at h4
    omega
  have HC2 : Hid (more.data.toList ≠ [] → ∀ q, Tells (j ++ more).data.toList q → False) := fun hm q hq => by
    rw [ba_append] at hq
    exact hm (tells_prefix HT.out hq)
  have hxs : (j.extract 0 k).size ≤ 12352 := by rw [ByteArray.size_extract]; omega
  clear HT
  go_wp2_with fail
  refine (none_calls (j.extract 0 k) b j _ (by unfold maxLen; omega) h2 lj.2 HC.out).mono ?_
  rintro e w4 ⟨rfl, b4⟩
  have B4 := B2.trans (b4.mono B2.size)
  clear b4 B2 HC
  cases hae : more.toList.isEmpty
  · have hae2 : (more.toList == []) = false := by cases h : more.toList with
      | nil => rw [h] at hae; simp at hae
      | cons x y => rfl
    have hne : more.data.toList ≠ [] := fun h => by
      rw [← ByteArray.toList_eq] at h
      rw [h] at hae
      simp at hae
    have hc2 := HC2.out hne
    have hcat : j.size + more.size ≤ 9223372036854775807 := by omega
    have hsz : (j ++ more).size = j.size + more.size := ByteArray.size_append' _ _
    have HZ : Hid ((j ++ more).size ≤ maxLen) := by show _ ≤ _; rw [hsz]; unfold maxLen; omega
    have HC3 : Hid (∀ q, Tells (j ++ more).data.toList q → False) := hc2
    clear hc2 hsz hne HC2
    go_wp2_with fail
    refine (none_calls (j ++ more) b j _ HZ.out h2 lj.2 HC3.out).mono ?_
    rintro e w5 ⟨rfl, b5⟩
    have B5 := B4.trans (b5.mono B4.size)
    go_wp2
    go_ret
    exact ⟨rfl, B5⟩
  · have hae2 : (more.toList == []) = true := by simpa using hae
    go_wp2
    go_ret
    exact ⟨rfl, B4⟩
end Go.Proofs.Ytlppphmnegdhoaa
