/- frame.first (the record with which bytes begin) and bytes.Clone. Conditions: none of its own. -/
import Derived.Test.YtcpncmdnefemmaaF
namespace Go.Proofs.Ytcpncmdnefemmaa
open Go.RowKit
theorem summed4_yes {w : World} {ao : Option Addr} {n cap : Nat} {l : List UInt8} (h : SB w.heap.size w ao n cap l) (hs : sumB l 4 = true) : Calls Try.prog 28 #[.slice ao n cap, .int .i64 4] w fun e w' => e = .returned (.tuple #[.slice ao 4 cap, .bool true]) ∧ Below w.heap.size w w' := summed_yes h 4 hs
theorem summed4_no {w : World} {ao : Option Addr} {n cap : Nat} {l : List UInt8} (h : SB w.heap.size w ao n cap l) (hs : sumB l 4 = false) : Calls Try.prog 28 #[.slice ao n cap, .int .i64 4] w fun e w' => e = .returned (.tuple #[.slice none 0 0, .bool false]) ∧ Below w.heap.size w w' := summed_no h 4 (by decide) hs
theorem SB.from8 {B : Nat} {w : World} {ao : Option Addr} {n cap : Nat} {l : List UInt8} (h : SB B w ao n cap l) (h1 : 8 ≤ n) : SB B w (Option.map (fun x => ({ block := x.block, off := x.off + 8 } : Addr)) ao) (n - 8) (cap - 8) (l.drop 8) := h.end_ (lo := 8) h1 rfl rfl
set_option maxRecDepth 100000 in
theorem first_yes {w : World} {ao : Option Addr} {n cap : Nat} {l p : List UInt8} (h : SB w.heap.size w ao n cap l) (hs : firstV l = some p) : Calls Try.prog 26 #[.slice ao n cap] w fun e w' => ∃ ao' c', e = .returned (.tuple #[.slice ao' p.length c', .bool true]) ∧ SB w.heap.size w ao' p.length c' p ∧ Below w.heap.size w w' := by
  have hfl := first_len hs
  have hlen := h.len
  have hle := h.le
  have hmax := h.max
  unfold maxLen at hmax
  unfold firstV at hs
  split at hs
  case isFalse => cases hs
  rename_i s1
  split at hs
  · cases hs
  split at hs
  case isFalse => cases hs
  rename_i hn s2
  have hp : p.length = le (l.take 4) := by
    obtain rfl := Option.some.inj hs
    have := sum_len s2
    rw [List.length_take]; omega
  have HP := Lib.hid (Option.some.inj hs)
  rw [hp]
  have h12 : 12 ≤ n := by omega
  have HQ := Lib.hid hp
  clear hs
  have HT := Lib.hid (h.top (hi := 4) (by omega))
  have HE := Lib.hid (h.from8 (by omega))
  have S1 := Lib.hid s1
  have S2 := Lib.hid s2
  have H := Lib.hid h
  have hlt := le_lt (l := l.take 4) (by rw [List.length_take]; omega)
  clear s1 s2 h hp hfl hlen
  generalize he : le (l.take 4) = a at *
  have HA := Lib.hid he
  clear he
  have ew : IntKind.i64.wrap (a : Int) = a := IntWalk.i64_in _ (by omega)
  go_enter Try.func26, Try.ntmps26
  go_wp2_with (first
    | (go_at_call 28; have t0 := HB; (with_reducible refine (summed_yes ((HE.out.below HB.out).mono HB.out.size) a S2.out).mono ?_); rintro e w2 ⟨rfl, hb⟩; have HB2 := Lib.hid (HB.out.trans (hb.mono HB.out.size)); clear hb)
    | (go_at_call 28; (with_reducible refine (summed4_yes H.out S1.out).mono ?_); rintro e w1 ⟨rfl, hb⟩; have HB := Lib.hid hb; clear hb)
    | (go_at_call 29; (with_reducible refine (number_any (HT.out.below HB.out) rfl).mono ?_); rw [HA.out]; rintro e w' ⟨rfl, rfl⟩))
  go_ret2
  refine ⟨_, _, rfl, ?_, HB2.out⟩
  rw [← HP.out]
  exact HE.out.top (by have := sum_len S2.out; rw [← HE.out.len] at this; omega)
set_option maxRecDepth 100000 in
theorem first_no {w : World} {ao : Option Addr} {n cap : Nat} {l : List UInt8} (h : SB w.heap.size w ao n cap l) (hs : firstV l = none) : Calls Try.prog 26 #[.slice ao n cap] w fun e w' => e = .returned (.tuple #[.slice none 0 0, .bool false]) ∧ Below w.heap.size w w' := by
  have hlen := h.len
  have hle := h.le
  have hmax := h.max
  unfold maxLen at hmax
  have H := Lib.hid h
  unfold firstV at hs
  split at hs
  case isFalse s1 =>
    have S1 := Lib.hid (show sumB l 4 = false by simpa using s1)
    clear s1 hs hlen h
    go_enter Try.func26, Try.ntmps26
    go_wp2_with (first
      | (go_at_call 28; (with_reducible refine (summed4_no H.out S1.out).mono ?_); rintro e w1 ⟨rfl, hb⟩; have HB := Lib.hid hb; clear hb))
    go_ret2
    exact ⟨rfl, HB.out⟩
  rename_i s1
  have h8 : 8 ≤ n := by have := sum_len s1; omega
  have S1 := Lib.hid s1
  have HT := Lib.hid (h.top (hi := 4) (by omega))
  have hlt := le_lt (l := l.take 4) (by rw [List.length_take]; omega)
  split at hs
  · rename_i hn
    clear hs s1 hlen h
    generalize he : le (l.take 4) = a at *
    have HA := Lib.hid he
    clear he
    go_enter Try.func26, Try.ntmps26
    go_wp2_with (first
      | (go_at_call 28; (with_reducible refine (summed4_yes H.out S1.out).mono ?_); rintro e w1 ⟨rfl, hb⟩; have HB := Lib.hid hb; clear hb)
      | (go_at_call 29; (with_reducible refine (number_any (HT.out.below HB.out) rfl).mono ?_); rw [HA.out]; rintro e w' ⟨rfl, rfl⟩))
    go_ret2
    exact ⟨rfl, HB.out⟩
  split at hs
  · cases hs
  rename_i hn s2
  have S2 := Lib.hid (show sumB (l.drop 8) (le (l.take 4)) = false by simpa using s2)
  clear hs s1 s2
  by_cases h8c : cap = 8
  · have hn8 : n = 8 := by omega
    subst hn8
    have HE : Hid (SB w.heap.size w ao (8 - 8) 0 (l.drop 8)) := ⟨by rw [List.length_drop]; omega, by omega, by decide, fun _ => rfl, .inl rfl⟩
    clear h hlen
    subst h8c
    generalize he : le (l.take 4) = a at *
    have HA := Lib.hid he
    clear he
    have ew : IntKind.i64.wrap (a : Int) = a := IntWalk.i64_in _ (by omega)
    go_enter Try.func26, Try.ntmps26
    go_wp2_with (first
      | (go_at_call 28; have t0 := HB; (refine (summed_no ((HE.out.below HB.out).mono HB.out.size) a (by omega) S2.out).mono ?_); rintro e w2 ⟨rfl, hb⟩; have HB2 := Lib.hid (HB.out.trans (hb.mono HB.out.size)); clear hb)
      | (go_at_call 28; (with_reducible refine (summed4_yes H.out S1.out).mono ?_); rintro e w1 ⟨rfl, hb⟩; have HB := Lib.hid hb; clear hb)
      | (go_at_call 29; (with_reducible refine (number_any (HT.out.below HB.out) rfl).mono ?_); rw [HA.out]; rintro e w' ⟨rfl, rfl⟩))
    go_ret2
    exact ⟨rfl, HB2.out⟩
  · have HE := Lib.hid (h.from8 (by omega))
    clear h hlen
    generalize he : le (l.take 4) = a at *
    have HA := Lib.hid he
    clear he
    have ew : IntKind.i64.wrap (a : Int) = a := IntWalk.i64_in _ (by omega)
    go_enter Try.func26, Try.ntmps26
    go_wp2_with (first
      | (go_at_call 28; have t0 := HB; (with_reducible refine (summed_no ((HE.out.below HB.out).mono HB.out.size) a (by omega) S2.out).mono ?_); rintro e w2 ⟨rfl, hb⟩; have HB2 := Lib.hid (HB.out.trans (hb.mono HB.out.size)); clear hb)
      | (go_at_call 28; (with_reducible refine (summed4_yes H.out S1.out).mono ?_); rintro e w1 ⟨rfl, hb⟩; have HB := Lib.hid hb; clear hb)
      | (go_at_call 29; (with_reducible refine (number_any (HT.out.below HB.out) rfl).mono ?_); rw [HA.out]; rintro e w' ⟨rfl, rfl⟩))
    go_ret2
    exact ⟨rfl, HB2.out⟩
set_option maxRecDepth 100000 in
theorem clone_any {B : Nat} {w : World} {ao : Option Addr} {n cap : Nat} {l : List UInt8} (h : SB B w ao n cap l) (hB : B ≤ w.heap.size) (hroom : n ≤ 140737488355328) : Calls Try.prog 27 #[.slice ao n cap] w fun e w' => ∃ v', e = .returned v' ∧ w'.ownsRow w.heap.size 5 1 v' l.length (bys l) ∧ Below w.heap.size w w' := by
  have H := Lib.hid h
  cases ao with
  | none =>
    have h0 := h.nil rfl
    have h1 := h.le
    have h2 := h.len
    obtain rfl : cap = 0 := h0
    obtain rfl : n = 0 := by omega
    obtain rfl : l = [] := List.eq_nil_of_length_eq_zero h2.symm
    clear H h1 h2 h
    have hq := fun w => Lib.run_eql_slice_nil (P := Try.prog) w 22 5 none 0 0 0 0 under22
    go_enter Try.func27, Try.ntmps27
    go_wp2
    go_ret
    exact ⟨_, rfl, World.ownsRow_nil _ _ _ _, Below.refl _ _⟩
  | some ad =>
    clear h
    have hq := fun w => Lib.run_eql_slice_nil (P := Try.prog) w 22 5 (some ad) n cap 0 0 under22
    go_enter Try.func27, Try.ntmps27
    go_wp2_with (first
      | (at_builtin; refine wpList_append_sb (wanted_none rfl _) (.tmp 5) (.tmp 6) rfl rfl (own_nil w) (by simp) rfl ((H.out.below ((below1 w _).mono hB))) (by simpa using hroom) ?_; intro v1 w1 ho1 hg1; have hb := (below1 w (.cells #[] 5)).trans (own_below_grown (own_nil w) (by simp) hg1); have HB := Lib.hid hb; rw [List.nil_append] at ho1; have HO := Lib.hid ho1; clear ho1 hg1 hb))
    go_ret
    exact ⟨_, rfl, HO.out, HB.out⟩
end Go.Proofs.Ytcpncmdnefemmaa
