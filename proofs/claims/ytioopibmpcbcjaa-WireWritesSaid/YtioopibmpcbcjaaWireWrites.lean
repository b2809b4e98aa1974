/- What is written stands as the chapter says, byte for byte, and what is told of it is a copy: racelaw2.WireWrites answers true and leaves its argument as it was. Conditions: none. -/
import Derived.Test.YtioopibmpcbcjaaZ
import Derived.Test.YtioopibmpcbcjaaU
import Derived.Test.YtioopibmpcbcjaaT
import Derived.Test.YtioopibmpcbcjaaWireApart
namespace Go.Proofs.Ytioopibmpcbcjaa
open Go.ChangeShapes Go.WideShapes Go.ChangeAt Go.RowKit
theorem WrB.put2 {B : Nat} {w : World} {p : Nat} {l : List UInt8} (h : WrB B w p l) (t : It) (ht : t.wf) (hroom : l.length + 10 + t.s.length ≤ 140737488355328) :
    Calls Try.prog 14 #[.pointer (some ⟨p, 0, none⟩), .agg #[.int .i64 t.k, .int .i64 t.n, .bool t.b, .float .f64 t.x, .string ⟨t.s.toArray⟩]] w fun e w' => e = .returned (.tuple #[]) ∧ WrB B w' p (l ++ itB t) ∧ Below B w w' := by
  obtain ⟨v, hw, hp, hs, hv⟩ := h
  exact (put_any hw t ht hroom).mono fun e w' ⟨he, v', hw', hf, hm⟩ => ⟨he, WrB.of hp hs hv hw' hf hm⟩
set_option maxHeartbeats 1600000 in
set_option maxRecDepth 100000 in
theorem writes_any (w : World) (ao : Option Addr) (cap : Nat) (l : List It) (hI : HasI w ao l) (hm : l.length ≤ 9223372036854775807) (hw : ∀ t ∈ l, t.wf ∧ t.s.length ≤ 20000) (hfl : (flat l).length ≤ 24000) :
    Calls Try.prog 15 #[.slice ao l.length cap] w fun e w' => ∃ v', e = .returned v' ∧ Own w w' v' (flat l) := by
  obtain ⟨j0, hi, hz0, hz1, hz2⟩ := info_parts info5
  have HI := Lib.hid hI
  have HWS := Lib.hid hw
  clear hI hw
  go_enter Try.func15, Try.ntmps15
  go_wp2
  go_loopw [3, 4] (fun r i wr => ∃ k : Nat, i = .int .i64 k ∧ k ≤ l.length ∧ Hid (wr.ownsRow w.heap.size 5 1 r (flat (l.take k)).length (bys (flat (l.take k)))) ∧ Hid (Below w.heap.size w wr)) (fun _ i _ => l.length - (intOf i).toNat)
  case atStart => exact ⟨0, rfl, Nat.zero_le _, World.ownsRow_nil _ _ _ _, Below.refl _ _⟩
  case round =>
    obtain ⟨k, rfl, hk, HO, HB⟩ := hrel
    by_cases hlt : k < l.length
    · rcases HI.out with h0 | ⟨b, off, rfl, hbl, hcell⟩
      · rw [h0] at hlt; simp at hlt
      obtain ⟨i0, i1, i2, i3, i4⟩ := (hcell k hlt).block (HB.out.block b hbl)
      have HFT := Lib.hid (flat_take hlt)
      have hle := flat_take_le l (k + 1)
      rw [HFT.out, List.length_append] at hle
      obtain ⟨⟨_, ⟨n1, n2⟩, x1, _⟩, ht2⟩ := HWS.out (l.getD k default) (by rw [List.getD_eq_getElem?_getD, List.getElem?_eq_getElem hlt]; exact List.getElem_mem hlt)
      generalize l.getD k default = t at *
      obtain ⟨A, hA⟩ : ∃ A, A = flat (l.take k) := ⟨_, rfl⟩
      rw [← hA] at HO HFT hle
      have hX : A.length + (itB t).length ≤ 24000 := by omega
      clear hcell hA hle
      by_cases h0 : t.k = 0
      · rw [h0] at i0
        have hit : itB t = vb (foldN t.n) := by unfold itB; rw [if_pos h0]
        rw [hit] at HFT hX
        have hr := refInt_any t.n n1 n2
        obtain ⟨X, hXe⟩ : ∃ X, X = vb (foldN t.n) := ⟨_, rfl⟩
        rw [← hXe] at HFT hr hX
        have HR := Lib.hid hr
        clear hr h0 hit hXe
        go_wp2_with (first
          | (go_at_call 39; refine (HR.out _).mono ?_; rintro e w1 ⟨v1, rfl, ho1, hb1⟩; have HX1 := Lib.hid (own_has ho1); obtain ⟨ao1, cap1, rfl⟩ := own_slice ho1; have HO1 := Lib.hid ((Fr.of_below hb1 (S := fun k => wr.heap.size ≤ k) (fun _ _ h => h)).own HO.out (fun k hk => by have := (HO.out.lt k hk).2; omega)); have HB1 := Lib.hid (HB.out.trans (hb1.mono HB.out.size)); clear ho1 hb1)
          | (at_builtin; refine wpList_append_has (by simp [Region.wanted]) (.tmp 18) (.tmp 24) rfl j0 hi hz0 hz1 hz2 _ A X rfl w.heap.size HB1.out.size HO1.out ao1 cap1 rfl _ HX1.out (by omega) ?_; intro v2 w2 hown hgrow; have HO2 := Lib.hid hown; have HB2 := Lib.hid (HB1.out.grown hgrow HB1.out.size (fun k hk => (HO1.out.lt k hk).1)); clear hown hgrow))
        exact ⟨⟨k + 1, by simp, by omega, by rw [HFT.out]; exact HO2, HB2⟩, by simp [intOf]; omega⟩
      by_cases h1 : t.k = 1
      · rw [h1] at i0
        have hit : itB t = ([bif t.b then 1 else 0] : List UInt8) := by unfold itB; rw [if_neg h0, if_pos h1]
        rw [hit] at HFT hX
        have hr := refFlag_any t.b
        obtain ⟨X, hXe⟩ : ∃ X, X = ([bif t.b then 1 else 0] : List UInt8) := ⟨_, rfl⟩
        rw [← hXe] at HFT hr hX
        have HR := Lib.hid hr
        clear hr h1 hit hXe
        go_wp2_with (first
          | (go_at_call 40; refine (HR.out _).mono ?_; rintro e w1 ⟨v1, rfl, ho1, hb1⟩; have HX1 := Lib.hid (own_has ho1); obtain ⟨ao1, cap1, rfl⟩ := own_slice ho1; have HO1 := Lib.hid ((Fr.of_below hb1 (S := fun k => wr.heap.size ≤ k) (fun _ _ h => h)).own HO.out (fun k hk => by have := (HO.out.lt k hk).2; omega)); have HB1 := Lib.hid (HB.out.trans (hb1.mono HB.out.size)); clear ho1 hb1)
          | (at_builtin; refine wpList_append_has (by simp [Region.wanted]) (.tmp 28) (.tmp 34) rfl j0 hi hz0 hz1 hz2 _ A X rfl w.heap.size HB1.out.size HO1.out ao1 cap1 rfl _ HX1.out (by omega) ?_; intro v2 w2 hown hgrow; have HO2 := Lib.hid hown; have HB2 := Lib.hid (HB1.out.grown hgrow HB1.out.size (fun k hk => (HO1.out.lt k hk).1)); clear hown hgrow))
        exact ⟨⟨k + 1, by simp, by omega, by rw [HFT.out]; exact HO2, HB2⟩, by simp [intOf]; omega⟩
      by_cases h2 : t.k = 2
      · rw [h2] at i0
        have hit : itB t = w8 8 (canon t.x) := by unfold itB; rw [if_neg h0, if_neg h1, if_pos h2]
        rw [hit] at HFT hX
        have hr := refFloat_any t.x x1
        obtain ⟨X, hXe⟩ : ∃ X, X = w8 8 (canon t.x) := ⟨_, rfl⟩
        rw [← hXe] at HFT hr hX
        have HR := Lib.hid hr
        clear hr h2 hit hXe
        go_wp2_with (first
          | (go_at_call 41; refine (HR.out _).mono ?_; rintro e w1 ⟨v1, rfl, ho1, hb1⟩; have HX1 := Lib.hid (own_has ho1); obtain ⟨ao1, cap1, rfl⟩ := own_slice ho1; have HO1 := Lib.hid ((Fr.of_below hb1 (S := fun k => wr.heap.size ≤ k) (fun _ _ h => h)).own HO.out (fun k hk => by have := (HO.out.lt k hk).2; omega)); have HB1 := Lib.hid (HB.out.trans (hb1.mono HB.out.size)); clear ho1 hb1)
          | (at_builtin; refine wpList_append_has (by simp [Region.wanted]) (.tmp 38) (.tmp 44) rfl j0 hi hz0 hz1 hz2 _ A X rfl w.heap.size HB1.out.size HO1.out ao1 cap1 rfl _ HX1.out (by omega) ?_; intro v2 w2 hown hgrow; have HO2 := Lib.hid hown; have HB2 := Lib.hid (HB1.out.grown hgrow HB1.out.size (fun k hk => (HO1.out.lt k hk).1)); clear hown hgrow))
        exact ⟨⟨k + 1, by simp, by omega, by rw [HFT.out]; exact HO2, HB2⟩, by simp [intOf]; omega⟩
      by_cases h3 : t.k = 3
      · rw [h3] at i0
        have hit : itB t = vb (foldN (t.s.length : Int)) ++ t.s := by unfold itB; rw [if_neg h0, if_neg h1, if_neg h2, if_pos h3]
        rw [hit] at HFT hX
        have hr := refText_any t.s (by omega)
        obtain ⟨X, hXe⟩ : ∃ X, X = vb (foldN (t.s.length : Int)) ++ t.s := ⟨_, rfl⟩
        rw [← hXe] at HFT hr hX
        have HR := Lib.hid hr
        clear hr h3 hit hXe
        go_wp2_with (first
          | (go_at_call 42; refine (HR.out _).mono ?_; rintro e w1 ⟨v1, rfl, ho1, hb1⟩; have HX1 := Lib.hid (own_has ho1); obtain ⟨ao1, cap1, rfl⟩ := own_slice ho1; have HO1 := Lib.hid ((Fr.of_below hb1 (S := fun k => wr.heap.size ≤ k) (fun _ _ h => h)).own HO.out (fun k hk => by have := (HO.out.lt k hk).2; omega)); have HB1 := Lib.hid (HB.out.trans (hb1.mono HB.out.size)); clear ho1 hb1)
          | (at_builtin; refine wpList_append_has (by simp [Region.wanted]) (.tmp 48) (.tmp 54) rfl j0 hi hz0 hz1 hz2 _ A X rfl w.heap.size HB1.out.size HO1.out ao1 cap1 rfl _ HX1.out (by omega) ?_; intro v2 w2 hown hgrow; have HO2 := Lib.hid hown; have HB2 := Lib.hid (HB1.out.grown hgrow HB1.out.size (fun k hk => (HO1.out.lt k hk).1)); clear hown hgrow))
        exact ⟨⟨k + 1, by simp, by omega, by rw [HFT.out]; exact HO2, HB2⟩, by simp [intOf]; omega⟩
      have hit : itB t = [] := by unfold itB; rw [if_neg h0, if_neg h1, if_neg h2, if_neg h3]
      rw [hit, List.append_nil] at HFT
      have b0 : (t.k == 0) = false := by rw [beq_eq_false_iff_ne]; exact h0
      have b1 : (t.k == 1) = false := by rw [beq_eq_false_iff_ne]; exact h1
      have b2 : (t.k == 2) = false := by rw [beq_eq_false_iff_ne]; exact h2
      have b3 : (t.k == 3) = false := by rw [beq_eq_false_iff_ne]; exact h3
      clear h0 h1 h2 h3 hit
      go_wp2
      exact ⟨⟨k + 1, by simp, by omega, by rw [HFT.out]; exact HO, HB⟩, by simp [intOf]; omega⟩
    · obtain rfl : k = l.length := by omega
      rw [List.take_length] at HO
      go_wp2
      go_ret
      exact ⟨_, rfl, HO.out, HB.out⟩
theorem wireWrites_few (w : World) (ao : Option Addr) (cap : Nat) (l : List It) (hI : HasI w ao l) (hm : l.length ≤ 9223372036854775807) (hwf : ∀ t ∈ l, t.wf) (hf : fewB l = false) :
    Calls Try.prog 3 #[.slice ao l.length cap] w fun e w' => e = .returned (.bool true) ∧ Below w.heap.size w w' := by
  have HB := Lib.hid (Below.refl w.heap.size w)
  have HI := Lib.hid hI
  have HWF := Lib.hid hwf
  clear hI hwf
  go_enter Try.func3, Try.ntmps3
  go_wp2_with (first
    | (go_at_call 11; refine (first_any _).mono ?_; rintro e w1 ⟨rfl, hb1⟩; have HB := Lib.hid (HB.out.trans (hb1.mono HB.out.size)); clear hb1)
    | (go_at_call 12; refine (few_any ao cap l hm _ (HI.out.below HB.out) HWF.out).mono ?_; rw [hf]; rintro e w1 ⟨rfl, rfl⟩))
  go_ret
  exact ⟨rfl, HB.out⟩
set_option maxHeartbeats 1600000 in
set_option maxRecDepth 100000 in
theorem wireWrites_some (w : World) (ao : Option Addr) (cap : Nat) (l : List It) (hI : HasI w ao l) (hm : l.length ≤ 9223372036854775807) (hwf : ∀ t ∈ l, t.wf) (hf : fewB l = true) :
    Calls Try.prog 3 #[.slice ao l.length cap] w fun e w' => e = .returned (.bool true) ∧ Below w.heap.size w w' := by
  have HB := Lib.hid (Below.refl w.heap.size w)
  have HI := Lib.hid hI
  have HWF := Lib.hid hwf
  have hfl := few_flat hf hwf
  have HWS : Hid (∀ t ∈ l, t.wf ∧ t.s.length ≤ 20000) := fun t ht => ⟨hwf t ht, few_text hf ht⟩
  clear hI hwf
  go_enter Try.func3, Try.ntmps3
  go_wp2_with (first
    | (go_at_call 11; refine (first_any _).mono ?_; rintro e w1 ⟨rfl, hb1⟩; have HB := Lib.hid (HB.out.trans (hb1.mono HB.out.size)); clear hb1)
    | (go_at_call 12; refine (few_any ao cap l hm _ (HI.out.below HB.out) HWF.out).mono ?_; rw [hf]; rintro e w1 ⟨rfl, rfl⟩)
    | (go_at_call 13; refine (newWriterB (B := w.heap.size) _ HB.out.size).mono ?_; rintro e w1 ⟨p, rfl, hx1, hb1⟩; have HB := Lib.hid (HB.out.trans (hb1.mono HB.out.size)); have HX := Lib.hid hx1; clear hb1 hx1))
  go_loopw [4] (fun i wr => ∃ k : Nat, i = .int .i64 k ∧ k ≤ l.length ∧ Hid (WrB w.heap.size wr p (flat (l.take k))) ∧ Hid (Below w.heap.size w wr)) (fun i _ => l.length - (intOf i).toNat)
  case atStart => exact ⟨0, rfl, Nat.zero_le _, HX, HB⟩
  case round =>
    obtain ⟨k, rfl, hk, HX, HB⟩ := hrel
    by_cases hlt : k < l.length
    · rcases HI.out with h0 | ⟨b, off, rfl, hbl, hcell⟩
      · rw [h0] at hlt; simp at hlt
      obtain ⟨i0, i1, i2, i3, i4⟩ := (hcell k hlt).block (HB.out.block b hbl)
      have HFT := Lib.hid (flat_take hlt)
      have hle := flat_take_le l k
      obtain ⟨ht1, ht2⟩ := HWS.out (l.getD k default) (by rw [List.getD_eq_getElem?_getD, List.getElem?_eq_getElem hlt]; exact List.getElem_mem hlt)
      generalize l.getD k default = t at *
      generalize flat (l.take k) = A at *
      have HT := Lib.hid ht1
      clear hcell ht1
      go_wp2_with (go_at_call 14; refine (HX.out.put2 t HT.out (by omega)).mono ?_; rintro e w2 ⟨rfl, hx1, hb1⟩; have HX := Lib.hid hx1; have HB := Lib.hid (HB.out.trans hb1); clear hx1 hb1)
      exact ⟨⟨k + 1, by simp, by omega, by rw [HFT.out]; exact HX, HB⟩, by simp [intOf]; omega⟩
    · obtain rfl : k = l.length := by omega
      rw [List.take_length] at HX
      have HWR : Hid (∀ wr, Below w.heap.size w wr → Calls Try.prog 15 #[.slice ao l.length cap] wr fun e w' => ∃ v', e = .returned v' ∧ Own wr w' v' (flat l)) := fun wr hb => writes_any wr ao cap l (HI.out.below hb) hm HWS.out hfl
      obtain ⟨F, hF⟩ : ∃ F, F = flat l := ⟨_, rfl⟩
      rw [← hF] at HX HWR hfl
      clear hF
      go_wp2_with (first
        | (go_at_call 15; refine (HWR.out _ HB.out).mono ?_; rintro e w1 ⟨v1, rfl, ho, hb1⟩; have HXA := Lib.hid (HX.out.below hb1 (Nat.le_refl _)); obtain ⟨ao1, cap1, rfl⟩ := own_slice ho; have HO1 := Lib.hid ho; have HB := Lib.hid (HB.out.trans (hb1.mono HB.out.size)); have HB1s := Lib.hid HB.out.size; have HB1 := HB; clear ho hb1)
        | (go_at_call 16; ((with_reducible refine (HXA.out.bytes (by omega)).mono ?_); rintro e w2 ⟨v2, rfl, ho, hb1⟩; have HXB := Lib.hid (HXA.out.below hb1 (Nat.le_refl _)); obtain ⟨ao2, cap2, rfl⟩ := own_slice ho; have HO2 := Lib.hid ho; have HOW := Lib.hid ((Fr.of_below hb1 (S := fun k => w1.heap.size ≤ k) (fun _ _ h => h)).own HO1.out (fun k hk => by have := (HO1.out.lt k hk).2; omega)); have HB2 := Lib.hid hb1; have HB := Lib.hid (HB.out.trans (hb1.mono HB.out.size)); have HSZ := Lib.hid HB.out.size; have HS1 := Lib.hid (show w.heap.size ≤ w1.heap.size by exact HB1s.out); clear ho hb1))
        | (go_at_call 17; refine (same_any (own_has HO2.out) (own_has HOW.out)).mono ?_; rintro e w3 ⟨rfl, hww⟩; obtain rfl := hww.symm))
      go_loopw [7] (fun i wr => ∃ k : Nat, i = .int .i64 k ∧ k ≤ F.length ∧ Hid (∃ cs : List Value, cs.length = F.length ∧ wr.ownsRow w1.heap.size 5 1 (.slice ao2 F.length cap2) F.length cs) ∧ Hid (Below w1.heap.size w1 wr)) (fun i _ => F.length - (intOf i).toNat)
      case atStart => exact ⟨0, rfl, Nat.zero_le _, ⟨bys F, by simp [bys], HO2.out⟩, HB2⟩
      case round =>
        obtain ⟨j, rfl, hj, HC, HBL⟩ := hrel
        by_cases hjl : j < F.length
        · obtain ⟨cs, hcs, hor⟩ := HC.out
          obtain ⟨g, cap3, hsl⟩ := own_shape hor (by omega)
          simp only [Value.slice.injEq] at hsl
          obtain ⟨rfl, -, rfl⟩ := hsl
          have hgb := (hor.lt g rfl).1
          have hcell := hor.cellAt j (by omega)
          obtain ⟨u, hu⟩ : ∃ u, cs[j]? = some u := ⟨_, List.getElem?_eq_getElem (by omega)⟩
          rw [hu] at hcell
          clear hu
          have hfrz := hor.frozenAt j
          have HOR := Lib.hid hor
          have HCS := Lib.hid hcs
          clear HC hor hcs
          go_wp2
          exact ⟨⟨j + 1, by simp, by omega, ⟨_, by rw [List.length_set]; exact HCS.out, (HOR.out.stored j _).1⟩, HBL.out.setCell hgb _⟩, by simp [intOf]; omega⟩
        · obtain rfl : j = F.length := by omega
          have HXC := Lib.hid (HXA.out.below HBL.out (Nat.le_refl _))
          have HOW := Lib.hid ((Fr.of_below HBL.out (S := fun k => w1.heap.size ≤ k) (fun _ _ h => h)).own HO1.out (fun k hk => by have := (HO1.out.lt k hk).2; omega))
          have HB := Lib.hid (HB1.out.trans (HBL.out.mono HB1.out.size))
          clear HXB HO2 HC HX
          go_wp2_with (first
            | (go_at_call 11; refine (first_any _).mono ?_; rintro e w5 ⟨rfl, hb1⟩; have HX5 := Lib.hid (HXC.out.below hb1 (Nat.le_refl _)); have HOW5 := Lib.hid ((Fr.of_below hb1 (S := fun k => wr.heap.size ≤ k) (fun _ _ h => h)).own HOW.out (fun k hk => by have := (HOW.out.lt k hk).2; omega)); have HB5 := Lib.hid (HB.out.trans (hb1.mono HB.out.size)); clear hb1)
            | (go_at_call 16; ((with_reducible refine (HX5.out.bytes (by omega)).mono ?_); rintro e w6 ⟨v6, rfl, ho, hb1⟩; have HO6 := Lib.hid ho; have HOW6 := Lib.hid ((Fr.of_below hb1 (S := fun k => w5.heap.size ≤ k) (fun _ _ h => h)).own HOW5.out (fun k hk => by have := (HOW5.out.lt k hk).2; omega)); have HB6 := Lib.hid (HB5.out.trans (hb1.mono HB5.out.size)); clear ho hb1))
            | (go_at_call 17; refine (same_any (own_has HO6.out) (own_has HOW6.out)).mono ?_; rintro e w7 ⟨rfl, hww⟩; obtain rfl := hww.symm))
          go_ret
          exact ⟨rfl, HB6.out⟩
theorem wireWrites_walk (w : World) (ao : Option Addr) (cap : Nat) (l : List It) (hm' : l.length ≤ cap) (hc : cap ≤ maxLen) (hI : HasI w ao l) (hwf : ∀ t ∈ l, t.wf) :
    Calls Try.prog 3 #[.slice ao l.length cap] w fun e w' => e = .returned (.bool true) ∧ Below w.heap.size w w' := by
  have hm : l.length ≤ 9223372036854775807 := by unfold maxLen at hc; omega
  cases hf : fewB l
  · exact wireWrites_few w ao cap l hI hm hwf hf
  · exact wireWrites_some w ao cap l hI hm hwf hf

set_option maxRecDepth 100000 in
theorem wireWrites_lifted (os : Os) (started : os.Started) (H : Type) (enc : TypeId × Value → H) :
    ReturnsInHanded {} Try.checked os 3 .any (Rows.wireWritesSpec.pre6 enc Try.prog Try.f3 [] false) (Rows.wireWritesSpec.post enc Try.prog Try.f3 false true false false) := by
  refine returnsInHanded_of_change (C := Try.checked) own started (by kernel_rfl) Try.func3
    (ChangeSpec.witness6 (enc := enc) (C := Try.checked) false ⟨#[], #[.slice none 0 0], []⟩ 8 (by kernel_rfl) (by kernel_rfl) (by kernel_rfl) (by kernel_rfl)) ?_
  intro W base args ds gs before hval0 hW _ _
  have hval : ∀ (j : Nat) t v, Try.f3.params[j]? = some t → args[j]? = some v → Value.okWide Try.prog W .any base t v := hval0
  have hW' := hW
  obtain ⟨p, q, hA0, hV, rfl, hfz, hnd⟩ := hW
  have hA : DataW.TrodAll enc Try.prog W 0 (fun _ => true) true Try.f3.params.toList args.toList ds p := hA0
  rw [Try.params3] at hA hval
  obtain ⟨v0, d0, rfl, rfl, h0⟩ := trodAll_one hA
  obtain ⟨b0, len0, cap0, rfl⟩ := okWide_slice Try.underlying22 (hval 0 22 v0 rfl rfl)
  have k0 := h0
  obtain ⟨fuel0, g0⟩ := h0
  obtain ⟨rfl, rfl⟩ := trodVars_none hV
  clear hA0 hval0
  simp only [List.append_nil] at hW'
  have hlt : ∀ x ∈ p, x.block < W.heap.size := fun x hx => hW'.lt x (by simpa using hx)
  obtain ⟨ao0, cp0, xs0, e0, m0, c0, r0, u0⟩ := open_items g0
  rw [e0] at k0 hW' ⊢
  refine Calls.mono (?walk : Calls _ _ _ _ fun e w' => e = .returned (.bool true) ∧ Below W.heap.size W w') fun e W' ⟨he, hw⟩ => ?_
  case walk =>
    exact wireWrites_walk W ao0 cp0 xs0 m0 c0 r0 u0
  subst he
  exact ⟨_, rfl, post_of_below (pa := p) (pv := []) hW' (fun _ _ _ => trodAll_mk1 (shut_bool Try.underlying4 _)) (fun sp hsp => trodAll_mk1 (WideElems.Trod_stays laidOut (by kernel_rfl) (of_decide_eq_true (by kernel_rfl)) k0 (fun x hx => hw.same (hlt x (by simp [hx]))) (fun x hx => hsp x (by simp [hx])))) (fun _ _ => rfl) (by simp) hw (ok_one (by kernel_rfl) rfl (okWide_bool_mk Try.underlying4 _))⟩
/-- THE ROW. -/
theorem wireWrites_holds : Rows.WireWritesSaid :=
  OpenClaim.holds_of_wide 3 Try.f3 rfl rfl rfl rfl rfl rfl rfl ⟨rfl, rfl, rfl, rfl, rfl⟩ rfl rfl rfl rfl rfl (by kernel_rfl) Try.func3 (by kernel_rfl)
    (of_decide_eq_true (by kernel_rfl)) (by unfold Func.isWrapper; first | (rw [if_pos (by decide +kernel)]; kernel_rfl) | (rw [if_neg (by decide +kernel)]; exact ⟨rfl, rfl⟩))
    (fun os started H enc _ => wireWrites_lifted os started H enc)
#print axioms wireWrites_holds
end Go.Proofs.Ytioopibmpcbcjaa
