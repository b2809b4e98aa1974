/- Of any list of floats, num.Sum is the sum from the left as the document says, and the list that it is given stays as it is: racelaw1.NumSums answers true and leaves its argument as it was. Conditions: none beyond the row's own (the listed tables of Go's library, tied to the program's text). -/
import Derived.Test.YtjgbccadjgelbaaDoorRows
import Derived.Test.YtjgbccadjgelbaaDoorCards
import Derived.Test.YtjgbccadjgelbaaDoorTie
import Derived.Test.YtjgbccadjgelbaaDoorRow
import Derived.Test.YtjgbccadjgelbaaDoorY
import Derived.Test.YtjgbccadjgelbaaDoorZ
import Derived.Test.YtjgbccadjgelbaaDoorHelp
import Derived.Deep.QuietTactic
import Derived.BigQuiet
import Derived.Carry
import Derived.SevenTiedAt
namespace Go.Proofs.YtjgbccadjgelbaaDoor
open Go.ChangeShapes Go.WideShapes Go.ChangeAt Go.RowKit
theorem info23 : (Tryd.prog.info? 23).map (fun i => (i.zero, i.size, i.bytes)) = some (some (.float .f64 0), 1, 8) := by kernel_rfl
set_option maxRecDepth 100000 in
theorem numSums_long (ao : Option Addr) (cap n : Nat) (hl : 20000 < n) (_hm : n ≤ maxLen) (w : World) (hT : Tabs w) :
    Calls Tryd.prog 5 #[.slice ao n cap] w fun e w' => e = .returned (.bool true) ∧ Below w.heap.size w w' := by
  have HT := Lib.hid hT; clear hT
  go_enter Tryd.func5, Tryd.ntmps5
  go_wp2_with (first
    | (go_at_call 15; refine (first_any _ HT.out).mono ?_; rintro e w1 ⟨rfl, hb1⟩; have HT1 := Lib.hid (HT.out.below hb1); have HB1 := Lib.hid hb1; clear hb1 HT)
    | (go_at_call 15; refine (first_any _ HT1.out).mono ?_; rintro e w2 ⟨rfl, hb2⟩; have HB2 := Lib.hid hb2; clear hb2))
  go_ret
  exact ⟨rfl, HB1.out.trans (HB2.out.mono HB1.out.size)⟩
theorem one_floats (xs : List Nat) : ∀ u ∈ xs.map (Value.float .f64), u.oneCell' = true := by
  intro u hu
  obtain ⟨b, _, rfl⟩ := List.mem_map.1 hu
  rfl
theorem appended {w w1 w2 : World} {ao : Option Addr} {n : Nat} {xs : List Nat} {o : Obj} {v : Value} (hn : n = xs.length) (hR : HasRow w ao xs) (hT : Tabs w1) (hB : Below w.heap.size w w1)
    (hown : w2.ownsRow w1.heap.size 23 1 v (0 + n) ([] ++ xs.map (Value.float .f64))) (hg : (w1.alloc o).grownBy w2 (Value.slice (some ⟨w1.heap.size, 0, none⟩) 0 0).ownBlock) :
    ∃ ao2 cap2, v = .slice ao2 n cap2 ∧ Hid (n ≤ cap2) ∧ Hid (HasRow w2 ao2 xs) ∧ Hid (HasRow w2 ao xs) ∧ Hid (Tabs w2) ∧ Hid (Below w.heap.size w w2) := by
  rw [List.nil_append, Nat.zero_add] at hown
  obtain ⟨ao2, cap2, h1, h2, h3⟩ := own_row hown
  have hb1 : Below w1.heap.size w1 (w1.alloc o) := (Below.refl _ _).alloc (Nat.le_refl _) o
  have hb2 : Below w1.heap.size w1 w2 := hb1.grown hg hb1.size (fun k hk => by simp [Value.ownBlock] at hk; omega)
  have hB2 : Below w.heap.size w w2 := hB.trans (hb2.mono hB.size)
  exact ⟨ao2, cap2, by rw [h1, hn], by unfold Hid; rw [hn]; exact h2, h3, hR.below hB2, hT.below hb2, hB2⟩
theorem sum_at {ao : Option Addr} {cap n : Nat} {xs : List Nat} (hn : n = xs.length) (hlen : n ≤ 20000) (hcap : n ≤ cap) (w : World) (h : HasRow w ao xs) :
    Calls Tryd.prog 38 #[.slice ao n cap] w fun e w' => e = .returned (.float .f64 (sumN xs)) ∧ Drew w w' := by
  subst hn; exact sum_any ao cap xs hlen hcap w h
theorem rsum_at {ao : Option Addr} {cap n : Nat} {xs : List Nat} (hn : n = xs.length) (hlen : n ≤ 20000) (w : World) (h : HasRow w ao xs) :
    Calls Tryd.prog 39 #[.slice ao n cap] w fun e w' => e = .returned (.float .f64 (sumN xs)) ∧ Drew w w' := by
  subst hn; exact rsum_any ao cap xs hlen w h
theorem same_is (a : Nat) (w : World) : Calls Tryd.prog 17 #[.float .f64 a, .float .f64 a] w fun e w' => e = .returned (.bool true) ∧ w' = w :=
  (same_yes a w).mono fun _ _ ⟨he, hw⟩ => ⟨he, hw.symm⟩
theorem later {w2 w3 : World} {m : Nat} {ao : Option Addr} {xs : List Nat} (hA : HasRow w2 ao xs) (hb : Below (w2.drewN m).heap.size (w2.drewN m) w3) : Hid (Below w2.heap.size w2 w3) ∧ Hid (HasRow w3 ao xs) := by
  have h1 : Below w2.heap.size w2 w3 := (below_drewN (Below.refl _ _) m).trans hb
  exact ⟨h1, hA.below h1⟩
set_option maxRecDepth 100000 in
theorem numSums_short (ao : Option Addr) (cap n : Nat) (xs : List Nat) (hn : n = xs.length) (hl : n ≤ 20000) (hc : n ≤ cap) (hcn : ao = none → cap = 0) (w : World) (hR : HasRow w ao xs) (hT : Tabs w) :
    Calls Tryd.prog 5 #[.slice ao n cap] w fun e w' => e = .returned (.bool true) ∧ Below w.heap.size w w' := by
  have HT := Lib.hid hT; clear hT
  have HR := Lib.hid hR; clear hR
  have HN := Lib.hid hn; clear hn
  have HC := Lib.hid hc; clear hc
  have HCN := Lib.hid hcn; clear hcn
  obtain ⟨i0, hi, hz0, hz1, hz2⟩ := info_parts info23
  go_enter Tryd.func5, Tryd.ntmps5
  go_wp2_with (first
    | (go_at_call 15; refine (first_any _ HT.out).mono ?_; rintro e w1 ⟨rfl, hb1⟩; have HT1 := Lib.hid (HT.out.below hb1); have HB1 := Lib.hid hb1; clear hb1 HT)
    | (at_builtin; refine wpList_append_row rfl _ _ 34 rfl w1.heap.size 23 i0 (.float .f64 0) 1 8 Tryd.underlying34 hi hz0 hz1 hz2 rfl (by decide) _ 0 [] rfl (World.ownsRow_lit w1 #[] 0 (Nat.le_refl _) (by decide) rfl) ao n cap (xs.map (Value.float .f64)) rfl (fun hh => ⟨by have := HCN.out hh; have := HC.out; omega, HCN.out hh⟩) (by rw [List.length_map, ← HN.out, Nat.mul_one]) ((HR.out.below (HB1.out.alloc HB1.out.size _)).cells) (one_floats xs) (by unfold maxLen; omega) (by omega) (by simp) ?_; intro v2 w2 hown hgrow; obtain ⟨ao2, cap2, hv2, HC2, HR2, HA2, HT2, HB2⟩ := appended HN.out HR.out HT1.out HB1.out hown hgrow; clear hown hgrow; subst hv2)
    | (go_at_call 38; refine (sum_at HN.out hl HC2.out _ HR2.out).mono ?_; rintro e w' ⟨rfl, r, rfl⟩))
  go_loopw [5] (fun vi wr => ∃ (k m : Nat), vi = .int .i64 (k : Int) ∧ k ≤ n ∧ wr = w2.drewN m) (fun vi _ => n - (RowKit.intOf vi).toNat)
  case atStart => exact ⟨0, _, rfl, Nat.zero_le _, rfl⟩
  case round =>
    obtain ⟨k, m, rfl, hk, rfl⟩ := hrel
    by_cases hlt : k < n
    · obtain ⟨b, off, rfl, hA⟩ := HA2.out.at (k := k) (by rw [← HN.out]; exact hlt)
      obtain ⟨b2, off2, rfl, hB⟩ := HR2.out.at (k := k) (by rw [← HN.out]; exact hlt)
      obtain ⟨wq, hwq⟩ : ∃ wq, wq = w2.drewN m := ⟨_, rfl⟩
      have HWQ := Lib.hid hwq
      rw [← hwq]
      have hkA := fun q => (show (wq.drewN q).cell? ⟨b, off + k, none⟩ = some (.float .f64 (xs.getD k 0)) by subst hwq; exact hA k (by rw [← HN.out]; exact hlt))
      have hkB := fun q => (show (wq.drewN q).cell? ⟨b2, off2 + k, none⟩ = some (.float .f64 (xs.getD k 0)) by subst hwq; exact hB k (by rw [← HN.out]; exact hlt))
      clear hA hB hwq
      generalize xs.getD k 0 = y at *
      have hk0 : (0 : Int) ≤ (k : Int) := by omega
      have hk1 : (k : Int) < (n : Int) := by omega
      go_wp2
      go_quiet (first | (go_at_call 17; refine Calls.quiet_of_same (same_is _ _)))
      go_wp2
      go_roundw
      case rel => exact ⟨k + 1, m + nq, by go_num, by omega, by rw [HWQ.out, World.drewN_drewN]⟩
      case measure => simp [RowKit.intOf]; omega
    · obtain rfl : k = n := by omega
      go_wp2_with (first
        | (go_at_call 15; refine (first_any _ (tabs_drewN HT2.out _)).mono ?_; rintro e w3 ⟨rfl, hb3⟩; obtain ⟨HB3, HA3⟩ := later HA2.out hb3; clear hb3)
        | (go_at_call 39; refine (rsum_at HN.out hl _ HA3.out).mono ?_; rintro e w' ⟨rfl, r, rfl⟩)
        | (go_at_call 17; refine (same_is _ _).mono ?_; rintro e w' ⟨rfl, rfl⟩))
      go_ret
      exact ⟨rfl, below_drewN (HB2.out.trans (HB3.out.mono HB2.out.size)) _⟩
theorem numSums_walk (ao : Option Addr) (cap : Nat) (xs : List Nat) (hm : xs.length ≤ maxLen) (hc : xs.length ≤ cap) (hcn : ao = none → cap = 0) (_hx : ∀ b ∈ xs, b < 18446744073709551616) (w : World) (hR : HasRow w ao xs) (hT : Tabs w) :
    Calls Tryd.prog 5 #[.slice ao xs.length cap] w fun e w' => e = .returned (.bool true) ∧ Below w.heap.size w w' := by
  by_cases hl : xs.length ≤ 20000
  · exact numSums_short ao cap xs.length xs rfl hl hc hcn w hR hT
  · exact numSums_long ao cap xs.length (by omega) hm w hT
theorem numSums_cells23 : Tryd.prog.cellsOf 23 = 1 := by kernel_rfl
theorem numSums_laidOut : laidOutB Tryd.prog = true := by kernel_rfl
set_option maxRecDepth 100000 in
theorem numSums_lifted (os : Os) (started : os.Started) (H : Type) (enc : TypeId × Value → H) :
    ReturnsInHanded {} Tryd.checked os 5 .any (fun w args => (Rows.numSumsSpec.pre enc Tryd.prog Tryd.f5 [] false w args ∧ laidMetH Tryd.prog laid3 w) ∧ sizedMet enc Tryd.prog Tryd.f5 (OpenSpec.ofChange Rows.numSumsSpec) false w args)
      (Rows.numSumsSpec.post enc Tryd.prog Tryd.f5 false true false false) := by
  refine returnsInHanded_of_change_and (C := Tryd.checked) (X := fun w _ => laidMetH Tryd.prog laid3 w) (fun _ _ _ hh h => h.of_heap hh) own started (by kernel_rfl) Tryd.func5
    (ChangeSpec.witness_shaped (enc := enc) (C := Tryd.checked) (os := os) (X := fun w _ => laidMetH Tryd.prog laid3 w) false (World.doorLaid Tryd.prog 400 os) #[.slice none 0 0] 8 rfl (World.shaped_of_RefB (by kernel_rfl) (by kernel_rfl)) (by kernel_rfl) (by kernel_rfl) (by kernel_rfl) (door_met os _)) ?_
  intro W base args ds gs before hval0 hW _ _ hL _
  have hval : ∀ (j : Nat) t v, Tryd.f5.params[j]? = some t → args[j]? = some v → Value.okWide Tryd.prog W .any base t v := hval0
  have hW' := hW
  obtain ⟨p, q, hA0, hV, rfl, hfz, hnd⟩ := hW
  have hA : DataW.TrodAll enc Tryd.prog W 0 (fun _ => true) true Tryd.f5.params.toList args.toList ds p := hA0
  rw [Tryd.params5] at hA hval
  obtain ⟨v0, d0, rfl, rfl, h0⟩ := trodAll_one hA
  obtain ⟨a0, len, cap0, rfl⟩ := okWide_slice Tryd.underlying34 (hval 0 34 v0 rfl rfl)
  obtain ⟨rfl, rfl⟩ := trodVars_none hV
  have h0k := h0
  obtain ⟨fuel, hf⟩ := h0
  clear hA0 hval0
  simp only [List.append_nil] at hW'
  have hlt : ∀ x ∈ p, x.block < W.heap.size := fun x hx => by simpa using hW'.lt x hx
  have hT := tabs_of_laid hL
  obtain ⟨ao, cap, xs, hv, hm, hc, hcn, hR, hx⟩ := open_floats Tryd.underlying34 Tryd.underlying23 numSums_cells23 hf
  rw [hv] at h0k hW' ⊢
  refine (numSums_walk ao cap xs hm hc hcn hx W hR hT).mono fun e W' ⟨he, hw⟩ => ?_
  subst he
  exact ⟨_, rfl, post_of_below (pa := _) (pv := []) hW' (fun _ _ _ => trodAll_mk1 (shut_bool Tryd.underlying4 _)) (fun sp hsp => trodAll_mk1 (WideElems.Trod_stays numSums_laidOut (by kernel_rfl) (of_decide_eq_true (by kernel_rfl)) h0k (fun x hx => hw.same (hlt x hx)) (fun x hx => by simpa using hsp x (by simpa using hx)))) (fun _ _ => rfl) (List.append_nil _).symm hw (ok_one (by kernel_rfl) rfl (okWide_bool_mk Tryd.underlying4 _))⟩

theorem numSums_holds : Rows.NumSumsSaid :=
  OpenClaim.holds_of_wide 5 Tryd.f5 rfl rfl rfl rfl rfl rfl rfl ⟨rfl, rfl, rfl, rfl, rfl⟩ rfl rfl rfl rfl rfl (by kernel_rfl) Tryd.func5 (by kernel_rfl)
    (of_decide_eq_true (by kernel_rfl)) (by unfold Func.isWrapper; first | (rw [if_pos (by decide +kernel)]; kernel_rfl) | (rw [if_neg (by decide +kernel)]; exact ⟨rfl, rfl⟩))
    (fun os started H enc _ => numSums_lifted os started H enc)
/-- THE TIED CARD. -/
theorem numSums_card : Rows.NumSumsCardSaid :=
  Claim7.holds_tied_plain_at .later [] [.data, .data, .data] true (true, "263a68124a9ec9e14e3c232618efbe301a45d4cac9ae9d43003c9ae83addfa09") false
    numSums_holds (fun _ h => by cases h) (by kernel_rfl) (fun _ h => by cases h) numSums_row_tie rfl ⟨rfl, rfl⟩ (by kernel_rfl) rfl
    (fun f fn hf hfn => by
      obtain rfl : f = 5 := Option.some.inj ((show Tryd.prog.funcNamed "headrace/racelaw1.NumSums" = some 5 by kernel_rfl).symm.trans hf) |>.symm
      obtain rfl : fn = Tryd.f5 := (Option.some.inj (Tryd.func5.symm.trans hfn)).symm
      exact ⟨by kernel_rfl, fun j t ht => by
        rw [Tryd.params5] at ht
        have hm : t ∈ [34] := by simpa using Array.mem_of_getElem? ht
        have hall : ([34].all fun u => !Tryd.prog.wantsStandIn u) = true := by kernel_rfl
        exact (show Tryd.prog.wantsStandIn t = false by simpa using List.all_eq_true.1 hall t hm)⟩)
    (by kernel_rfl)
#print axioms numSums_card
end Go.Proofs.YtjgbccadjgelbaaDoor
