/- A quoted text has two quotes alone, at its ends, and bytes that can be seen; of two texts one behind the other it is both, without those between: racelaw3.DatumQuotes answers true and leaves its arguments as they were. Conditions: the library's tables hold what their initialisers lay. -/
import Derived.Test.YtjkfcmadoeifgaaDoorFj
import Derived.Test.YtjkfcmadoeifgaaDoorAg
import Derived.Test.YtjkfcmadoeifgaaDoorQu
import Derived.Deep.RegionHeld
import Derived.Test.YtjkfcmadoeifgaaDoorCards
import Derived.Test.YtjkfcmadoeifgaaDoorTie
namespace Go.Proofs.YtjkfcmadoeifgaaDoor
open Go.ChangeShapes Go.WideShapes Go.ChangeAt Go.RowKit
theorem hexD_seen (n : Nat) (h : n < 16) : 32 ≤ (hexD n).toNat ∧ (hexD n).toNat ≤ 126 ∧ (hexD n).toNat ≠ 34 := by
  have : ∀ n : Fin 16, 32 ≤ (hexD n.val).toNat ∧ (hexD n.val).toNat ≤ 126 ∧ (hexD n.val).toNat ≠ 34 := by decide
  exact this ⟨n, h⟩
theorem q1_seen (c : UInt8) : ∀ b ∈ q1 c, 32 ≤ b.toNat ∧ b.toNat ≤ 126 ∧ b.toNat ≠ 34 := by
  intro b hb
  unfold q1 at hb
  have hc := c.toNat_lt
  split at hb
  · rename_i hp
    unfold plainB at hp
    simp at hp hb
    subst hb
    exact ⟨hp.1, hp.2.1, hp.2.2.1⟩
  · simp at hb
    rcases hb with rfl | rfl | rfl
    · decide
    · exact hexD_seen _ (by omega)
    · exact hexD_seen _ (by omega)
theorem q1s_seen (l : List UInt8) : ∀ b ∈ l.flatMap q1, 32 ≤ b.toNat ∧ b.toNat ≤ 126 ∧ b.toNat ≠ 34 := by
  intro b hb
  obtain ⟨c, _, h⟩ := List.mem_flatMap.1 hb
  exact q1_seen c b h
theorem quote_len (l : List UInt8) : (quoteV l).length = (l.flatMap q1).length + 2 := by unfold quoteV; simp
theorem quote_at (l : List UInt8) (i : Nat) (h : i < (quoteV l).length) : 32 ≤ ((quoteV l).getD i 0).toNat ∧ ((quoteV l).getD i 0).toNat ≤ 126 ∧ (((quoteV l).getD i 0).toNat = 34 ↔ i = 0 ∨ i = (quoteV l).length - 1) := by
  have hl := quote_len l
  rw [hl] at h ⊢
  unfold quoteV
  cases i with
  | zero => exact ⟨by rw [List.getD_cons_zero]; decide, by rw [List.getD_cons_zero]; decide, by simp⟩
  | succ j =>
    rw [List.getD_cons_succ]
    by_cases hj : j < (l.flatMap q1).length
    · have hm : (l.flatMap q1 ++ [34]).getD j 0 ∈ l.flatMap q1 := by
        rw [List.getD_eq_getElem?_getD, List.getElem?_append_left hj, List.getElem?_eq_getElem hj]
        exact List.getElem_mem hj
      obtain ⟨h1, h2, h3⟩ := q1s_seen l _ hm
      exact ⟨h1, h2, ⟨fun e => absurd e h3, fun e => by omega⟩⟩
    · have he : (l.flatMap q1 ++ [34]).getD j 0 = 34 := by
        rw [List.getD_eq_getElem?_getD, List.getElem?_append_right (by omega), show j - (l.flatMap q1).length = 0 by omega]
        rfl
      rw [he]
      exact ⟨by decide, by decide, ⟨fun _ => by omega, fun _ => by decide⟩⟩
theorem quote_two (S T : List UInt8) (q p r : ByteArray) (hq : q = ⟨(quoteV S).toArray⟩) (hp : p = ⟨(quoteV T).toArray⟩) (hr : r = ⟨(quoteV (S ++ T)).toArray⟩) : r = q.extract 0 (q.size - 1) ++ p.extract 1 p.size := by
  have hqs : q.size = (S.flatMap q1).length + 2 := by rw [hq]; show (quoteV S).length = _; unfold quoteV; simp
  have hps : p.size = (T.flatMap q1).length + 2 := by rw [hp]; show (quoteV T).length = _; unfold quoteV; simp
  rw [hqs, hps, hq, hp, hr]
  apply ByteArray.ext
  apply Array.ext'
  simp only [ByteArray.data_append, ByteArray.data_extract, Array.toList_append, Array.toList_extract, List.extract_eq_take_drop]
  unfold quoteV
  rw [List.flatMap_append]
  generalize S.flatMap q1 = A
  generalize T.flatMap q1 = B
  simp
  rw [List.take_of_length_le (by simp)]
set_option maxRecDepth 100000 in
theorem datumQuotes_first (w : World) (s t : ByteArray) (hT : Tabs w) (hc : 2000 < s.size ∨ s.size ≤ 2000 ∧ 2000 < t.size) :
    Calls Tryd.prog 6 #[.string s, .string t] w fun e w' => e = .returned (.bool true) ∧ Below w.heap.size w w' := by
  have HB := Lib.hid (Below.refl w.heap.size w)
  have HT := Lib.hid hT
  clear hT
  rcases hc with hc | ⟨hc, hv⟩
  · have hc' : (2000 : Int) < (s.size : Int) := by omega
    go_enter Tryd.func6, Tryd.ntmps6
    go_wp2_with (first
      | (go_at_call 8; refine (first_ex _ (HT.out.below HB.out)).mono ?_; rintro e w1 ⟨rfl, hb⟩; have HB := Lib.hid (HB.out.trans (hb.mono HB.out.size)); clear hb))
    go_ret
    exact ⟨rfl, HB.out⟩
  · have hc' : ¬ (2000 : Int) < (s.size : Int) := by omega
    have hv' : (2000 : Int) < (t.size : Int) := by omega
    go_enter Tryd.func6, Tryd.ntmps6
    go_wp2_with (first
      | (go_at_call 8; refine (first_ex _ (HT.out.below HB.out)).mono ?_; rintro e w1 ⟨rfl, hb⟩; have HB := Lib.hid (HB.out.trans (hb.mono HB.out.size)); clear hb))
    go_ret
    exact ⟨rfl, HB.out⟩
set_option maxRecDepth 100000 in
set_option maxHeartbeats 8000000 in
theorem datumQuotes_some (w : World) (s t : ByteArray) (hT : Tabs w) (hs : s.size ≤ 2000) (ht : t.size ≤ 2000) :
    Calls Tryd.prog 6 #[.string s, .string t] w fun e w' => e = .returned (.bool true) ∧ Below w.heap.size w w' := by
  have HB := Lib.hid (Below.refl w.heap.size w)
  have HT := Lib.hid hT
  have hc1 : ¬ (2000 : Int) < (s.size : Int) := by omega
  have hc2 : ¬ (2000 : Int) < (t.size : Int) := by omega
  have hA := fun w => quote_any s (by omega) w
  have hB := fun w => quote_any t (by omega) w
  have hst : (s ++ t).data.toList = s.data.toList ++ t.data.toList := by simp
  have hstz : (s ++ t).size ≤ 1099511627776 := by rw [ByteArray.size_append]; omega
  have hC := fun w => quote_any (s ++ t) hstz w
  have hat := quote_at s.data.toList
  have hq2 := quote_len s.data.toList
  have hp2 := quote_len t.data.toList
  rw [hst] at hC
  obtain ⟨q, hq⟩ : ∃ q : ByteArray, q = ⟨(quoteV s.data.toList).toArray⟩ := ⟨_, rfl⟩
  obtain ⟨p, hp⟩ : ∃ p : ByteArray, p = ⟨(quoteV t.data.toList).toArray⟩ := ⟨_, rfl⟩
  obtain ⟨r, hr⟩ : ∃ r : ByteArray, r = ⟨(quoteV (s.data.toList ++ t.data.toList)).toArray⟩ := ⟨_, rfl⟩
  have hql : q.data.toList = quoteV s.data.toList := by rw [hq]
  have hpl : p.data.toList = quoteV t.data.toList := by rw [hp]
  have hqz : q.size = (s.data.toList.flatMap q1).length + 2 := by rw [Lib.size_eq, hql, hq2]
  have hpz : p.size = (t.data.toList.flatMap q1).length + 2 := by rw [Lib.size_eq, hpl, hp2]
  have HAT : Hid (∀ i (h : i < q.size), 32 ≤ q[i].toNat ∧ q[i].toNat ≤ 126 ∧ (q[i].toNat = 34 ↔ i = 0 ∨ i = q.size - 1)) := fun i h => by
    have e := at_i q i h
    have h2 := hat i (by rw [hq2]; omega)
    rw [hq2] at h2
    rw [e, hql, hqz]
    exact h2
  have HE := Lib.hid (quote_two s.data.toList t.data.toList q p r hq hp hr)
  rw [← hq] at hA
  rw [← hp] at hB
  rw [← hr] at hC
  have HA := fun w => Lib.hid (hA w)
  have HBb := fun w => Lib.hid (hB w)
  have HC := fun w => Lib.hid (hC w)
  have q2 : ¬ (q.size : Int) < 2 := by omega
  have p2 : ¬ (p.size : Int) < 2 := by omega
  have hqb : q.size ≤ 100000 := by
    have h1 := q1s_len s.data.toList
    have h2 : s.data.toList.length = s.size := (Lib.size_eq s).symm
    omega
  have hpb : p.size ≤ 100000 := by
    have h1 := q1s_len t.data.toList
    have h2 : t.data.toList.length = t.size := (Lib.size_eq t).symm
    omega
  clear hA hB hC hat hq2 hp2 hq hp hr hql hpl hqz hpz hst hstz hT hs ht
  go_enter Tryd.func6, Tryd.ntmps6
  go_wp2_with (first
    | (go_at_call 8; refine (first_ex _ (HT.out.below HB.out)).mono ?_; rintro e w1 ⟨rfl, hb⟩; have HB := Lib.hid (HB.out.trans (hb.mono HB.out.size)); clear hb)
    | (go_at_call 23; with_reducible refine (HA _).out.mono ?_; rintro e w2 ⟨rfl, hb⟩; have HB := Lib.hid (HB.out.trans (hb.mono HB.out.size)); clear hb)
    | (go_at_call 23; with_reducible refine (HBb _).out.mono ?_; rintro e w3 ⟨rfl, hb⟩; have HB := Lib.hid (HB.out.trans (hb.mono HB.out.size)); clear hb))
  go_loop [7] (fun i => ∃ k : Nat, i = .int .i64 k ∧ k ≤ q.size) (fun i => q.size - (RowKit.intOf i).toNat)
  case atStart => exact ⟨0, rfl, Nat.zero_le _⟩
  case round =>
    obtain ⟨k, rfl, hk⟩ := hrel
    by_cases hlt : k < q.size
    · obtain ⟨h1, h2, h3⟩ := HAT.out k hlt
      have i1 : ¬ (q[k].toNat : Int) < 32 := by omega
      have i2 : ¬ (126 : Int) < (q[k].toNat : Int) := by omega
      have hki : (k : Int) < (q.size : Int) := by omega
      by_cases h0 : k = 0
      · subst h0
        have i3 : ((q[0].toNat : Int) == 34) = true := by rw [beq_iff_eq]; have := h3.2 (.inl rfl); omega
        clear h1 h2 h3
        go_wp2
        exact ⟨⟨1, rfl, by omega⟩, by simp [RowKit.intOf]; omega⟩
      · have i4 : ((k : Int) == 0) = false := by rw [beq_eq_false_iff_ne]; omega
        by_cases h9 : k = q.size - 1
        · have i3 : ((q[k].toNat : Int) == 34) = true := by rw [beq_iff_eq]; have := h3.2 (.inr h9); omega
          have i5 : ((k : Int) == (q.size : Int) - 1) = true := by rw [beq_iff_eq]; omega
          clear h1 h2 h3 h9
          go_wp2
          exact ⟨⟨k + 1, by simp, by omega⟩, by simp [RowKit.intOf]; omega⟩
        · have i3 : ((q[k].toNat : Int) == 34) = false := by rw [beq_eq_false_iff_ne]; intro e; have := h3.1 (by omega); omega
          have i5 : ((k : Int) == (q.size : Int) - 1) = false := by rw [beq_eq_false_iff_ne]; omega
          clear h1 h2 h3
          go_wp2
          exact ⟨⟨k + 1, by simp, by omega⟩, by simp [RowKit.intOf]; omega⟩
    · obtain rfl : k = q.size := by omega
      have HBD := Lib.hid (HB.out.drew)
      go_wp2
      have hb1 : (0 : Int) ≤ (q.size : Int) - 1 ∧ (q.size : Int) - 1 ≤ (q.size : Int) := by omega
      have hb2 : (0 : Int) ≤ (q.size : Int) - 1 := by omega
      have hb3 : (1 : Int) ≤ (p.size : Int) := by omega
      have hb4 : (1 : Int) ≤ (q.size : Int) := by omega
      have hb5 : (q.size : Int) - 1 ≤ (q.size : Int) := by omega
      have hb6 : ¬ (q.size : Int) < (q.size : Int) - 1 := by omega
      have hb7 : IntKind.i64.wrap ((q.size : Int) - 1) = (q.size : Int) - 1 := by rw [IntKind.wrap_i64]; omega
      have hb8 : ¬ 9223372036854775807 < q.size - 1 + (p.size - 1) := by omega
      have hb9 : ¬ 9223372036854775807 < s.size + t.size := by omega
      go_region_held (fun _ => True) (exact trivial) (first
        | (go_at_call 8; refine (first_ex _ (HT.out.below HBD.out)).mono ?_; rintro e w5 ⟨rfl, hb⟩; have HBE := Lib.hid (HBD.out.trans (hb.mono HBD.out.size)); clear hb)
        | (go_at_call 23; with_reducible refine (HC _).out.mono ?_; rintro e w6 ⟨rfl, hb⟩; have HBF := Lib.hid (HBE.out.trans (hb.mono HBE.out.size)); clear hb))
      go_wp2
      have hfin : (r.toList == (q.extract 0 (q.size - 1) ++ p.extract 1 p.size).toList) = true := by rw [← HE.out]; exact beq_self_eq_true _
      go_ret
      exact ⟨congrArg (fun b => Ending.returned (.bool b)) hfin, HBF.out⟩
theorem datumQuotes_walk (w : World) (s : List UInt8) (_ : s.length ≤ 9223372036854775807) (t : List UInt8) (_ : t.length ≤ 9223372036854775807) (hT : Tabs w) :
    Calls Tryd.prog 6 #[.string ⟨s.toArray⟩, .string ⟨t.toArray⟩] w fun e w' => e = .returned (.bool true) ∧ Below w.heap.size w w' := by
  by_cases h1 : s.length ≤ 2000
  · by_cases h2 : t.length ≤ 2000
    · exact datumQuotes_some w _ _ hT h1 h2
    · exact datumQuotes_first w _ _ hT (.inr ⟨h1, Nat.lt_of_not_le h2⟩)
  · exact datumQuotes_first w _ _ hT (.inl (Nat.lt_of_not_le h1))

set_option maxRecDepth 100000 in
theorem datumQuotes_lifted (os : Os) (started : os.Started) (H : Type) (enc : TypeId × Value → H) :
    ReturnsInHanded {} Tryd.checked os 6 .any (fun w args => (Rows.datumQuotesSpec.pre enc Tryd.prog Tryd.f6 [] false w args ∧ laidMetH Tryd.prog laid3 w) ∧ sizedMet enc Tryd.prog Tryd.f6 (OpenSpec.ofChange Rows.datumQuotesSpec) false w args)
      (Rows.datumQuotesSpec.post enc Tryd.prog Tryd.f6 false true false false) := by
  refine returnsInHanded_of_change_and (C := Tryd.checked) (X := fun w _ => laidMetH Tryd.prog laid3 w) (fun _ _ _ hh h => h.of_heap hh) own started (by kernel_rfl) Tryd.func6
    (ChangeSpec.witness_shaped (enc := enc) (C := Tryd.checked) (os := os) (X := fun w _ => laidMetH Tryd.prog laid3 w) false (World.doorLaid Tryd.prog 400 os) #[.string ⟨#[]⟩, .string ⟨#[]⟩] 8 rfl (World.shaped_of_RefB (by kernel_rfl) (by kernel_rfl)) (by kernel_rfl) (by kernel_rfl) (by kernel_rfl) (door_met os _)) ?_
  intro W base args ds gs before hval0 hW _ _ hL _
  have hval : ∀ (j : Nat) t v, Tryd.f6.params[j]? = some t → args[j]? = some v → Value.okWide Tryd.prog W .any base t v := hval0
  have hW' := hW
  obtain ⟨p, q, hA0, hV, rfl, hfz, hnd⟩ := hW
  have hA : DataW.TrodAll enc Tryd.prog W 0 (fun _ => true) true Tryd.f6.params.toList args.toList ds p := hA0
  rw [Tryd.params6] at hA hval
  obtain ⟨v0, v1, d0, d1, p0, p1, rfl, rfl, rfl, h0, h1⟩ := trodAll_two hA
  obtain ⟨rfl, rfl⟩ := trodVars_none hV
  clear hA0 hval0
  simp only [List.append_nil] at hW'
  have hlt : ∀ x ∈ p0 ++ p1, x.block < W.heap.size := fun x hx => hW'.lt x (by simpa using hx)
  have hT := tabs_of_laid hL
  have k0 := h0
  obtain ⟨s0, rfl, rfl, rfl, wf0⟩ := ChangeMaps.open_string Tryd.underlying9 (hval 0 9 v0 rfl rfl) h0
  have hwf0 : s0.data.toList.length ≤ 9223372036854775807 := by
    have e : s0.data.toList.length = s0.size := by rw [Array.length_toList]; rfl
    rw [e]; unfold maxLen at wf0; omega
  have k1 := h1
  obtain ⟨s1, rfl, rfl, rfl, wf1⟩ := ChangeMaps.open_string Tryd.underlying9 (hval 1 9 v1 rfl rfl) h1
  have hwf1 : s1.data.toList.length ≤ 9223372036854775807 := by
    have e : s1.data.toList.length = s1.size := by rw [Array.length_toList]; rfl
    rw [e]; unfold maxLen at wf1; omega
  refine Calls.mono (?walk : Calls _ _ _ _ fun e w' => e = .returned (.bool true) ∧ Below W.heap.size W w') fun e W' ⟨he, hw⟩ => ?_
  case walk =>
    rw [← bytes_self s0]
    rw [← bytes_self s1]
    exact datumQuotes_walk W s0.data.toList hwf0 s1.data.toList hwf1 hT
  subst he
  exact ⟨_, rfl, post_of_below (pa := [] ++ []) (pv := []) hW' (fun _ _ _ => trodAll_mk1 (shut_bool Tryd.underlying4 _)) (fun sp hsp => trodAll_mk2 (WideElems.Trod_stays laidOut3 (by kernel_rfl) (of_decide_eq_true (by kernel_rfl)) k0 (fun x hx => hw.same (hlt x (by simp [hx]))) (fun x hx => hsp x (by simp [hx]))) (WideElems.Trod_stays laidOut3 (by kernel_rfl) (of_decide_eq_true (by kernel_rfl)) k1 (fun x hx => hw.same (hlt x (by simp [hx]))) (fun x hx => hsp x (by simp [hx])))) (fun _ _ => rfl) (by simp) hw (ok_one (by kernel_rfl) rfl (okWide_bool_mk Tryd.underlying4 _))⟩
theorem datumQuotes_holds : Rows.DatumQuotesSaid :=
  OpenClaim.holds_of_wide 6 Tryd.f6 rfl rfl rfl rfl rfl rfl rfl ⟨rfl, rfl, rfl, rfl, rfl⟩ rfl rfl rfl rfl rfl (by kernel_rfl) Tryd.func6 (by kernel_rfl)
    (of_decide_eq_true (by kernel_rfl)) (by unfold Func.isWrapper; first | (rw [if_pos (by decide +kernel)]; kernel_rfl) | (rw [if_neg (by decide +kernel)]; exact ⟨rfl, rfl⟩))
    (fun os started H enc _ => datumQuotes_lifted os started H enc)
/-- THE TIED CARD. -/
theorem datumQuotes_card : Rows.DatumQuotesCardSaid :=
  Claim7.holds_tied_plain_at .later [] [.data, .data, .data] true (true, "e365411bd106a08e9233803ba0fe4dfaa9695e3b647a3ddff3aaff483a6e1884") false
    datumQuotes_holds (fun _ h => by cases h) (by kernel_rfl) (fun _ h => by cases h) datumQuotes_row_tie rfl ⟨rfl, rfl⟩ (by kernel_rfl) rfl
    (fun f fn hf hfn => by
      obtain rfl : f = 6 := Option.some.inj ((show Tryd.prog.funcNamed "headrace/racelaw3.DatumQuotes" = some 6 by kernel_rfl).symm.trans hf) |>.symm
      obtain rfl : fn = Tryd.f6 := (Option.some.inj (Tryd.func6.symm.trans hfn)).symm
      exact ⟨by kernel_rfl, fun j t ht => by
        rw [Tryd.params6] at ht
        have hm : t ∈ [9, 9] := by simpa using Array.mem_of_getElem? ht
        have hall : ([9, 9].all fun u => !Tryd.prog.wantsStandIn u) = true := by kernel_rfl
        exact (show Tryd.prog.wantsStandIn t = false by simpa using List.all_eq_true.1 hall t hm)⟩)
    (by kernel_rfl)
#print axioms datumQuotes_card
end Go.Proofs.YtjkfcmadoeifgaaDoor
