/- raceref9.seenAt. Conditions: none. -/
import Derived.Test.YtbgccaconhmbaaaGreatDoorJPu
import Derived.Test.YtbgccaconhmbaaaGreatDoorJMk
namespace Go.Proofs.YtbgccaconhmbaaaGreatDoor
open Go.ChangeShapes Go.WideShapes Go.ChangeAt Go.RowKit Go.Deep
set_option maxRecDepth 100000 in
theorem seenAt_any {P : Nat → Prop} {w : World} {v : Value} {l : List SeenV} (hv : HasN P w v l) (s : Nm) :
    Calls Tryz.prog 48 #[v, .string ⟨s.toArray⟩] w fun e w' => e = .returned (.int .i64 (idxI l s)) ∧ Below w.heap.size w w' := by
  obtain ⟨ao, cap, rfl, hca, hcm, _, h4⟩ := hv
  obtain ⟨n, hn⟩ : ∃ n, l.length = n := ⟨_, rfl⟩
  rw [hn] at hca
  rw [hn]
  have hlt := Nat.le_trans hca hcm
  unfold maxLen at hlt
  have HL := Lib.hid hn.symm
  clear hn hca hcm
  obtain ⟨R, hR⟩ : ∃ R, idxI l s = R := ⟨_, rfl⟩
  rw [hR]
  have HR := Lib.hid hR
  clear hR
  go_enter Tryz.func48, Tryz.ntmps48
  go_wp2
  go_loopw [5] (fun i wr => ∃ k : Nat, k ≤ n ∧ i = .int .i64 k ∧ Hid (∀ x ∈ l.take k, x.key ≠ s) ∧ Hid (Below w.heap.size w wr)) (fun i _ => n - (intOf i).toNat)
  case atStart => exact ⟨0, Nat.zero_le _, rfl, Lib.hid (fun x hx => by cases hx), Lib.hid (Below.refl _ _)⟩
  case round =>
    obtain ⟨k, hk, rfl, HK, HB⟩ := hrel
    by_cases hkn : k < n
    · have hkl : k < l.length := by rw [← HL.out]; exact hkn
      obtain ⟨b, o, rfl, _, hb, hc⟩ := h4.resolve_left (fun e => by rw [e] at hkl; exact absurd hkl (Nat.not_lt_zero _))
      have c0 := (((hc k hkl).below HB.out hb).sn).c0
      have hid := fun h : l[k].key = s => idx_at hkl HK.out h
      have hK2 : l[k].key ≠ s → ∀ x ∈ l.take (k + 1), x.key ≠ s := fun hne x hx => by
        rw [List.take_add_one, List.getElem?_eq_getElem hkl] at hx
        rcases List.mem_append.1 hx with hx | hx
        · exact HK.out x hx
        · obtain rfl : x = l[k] := by simpa using hx
          exact hne
      clear h4 hc hb
      generalize l[k] = y at *
      obtain ⟨x, yv, ya, yb, yc⟩ := y
      simp only at c0 hid hK2
      by_cases hx : x = s
      · subst hx
        have hr : (k : Int) = R := by rw [← HR.out]; exact (hid rfl).symm
        subst hr
        clear hK2 HK HR hid
        go_wp2
        go_ret
        exact ⟨rfl, HB.out⟩
      · have HK2 := Lib.hid (hK2 hx)
        have hne : (x == s) = false := beq_eq_false_iff_ne.2 hx
        have hnd : decide (x = s) = false := decide_eq_false hx
        clear hK2 HK hid hx
        go_wp2
        go_roundw
        case rel => exact ⟨k + 1, by omega, by go_num, HK2, HB⟩
        case measure => simp [intOf]; omega
    · obtain rfl : k = n := by omega
      have hr : -1 = R := by
        rw [← HR.out]
        have := HK.out
        rw [List.take_of_length_le (by rw [← HL.out]; exact Nat.le_refl _)] at this
        exact (idx_not this).symm
      subst hr
      clear h4 HK HR
      go_wp2
      go_ret
      exact ⟨rfl, HB.out⟩
end Go.Proofs.YtbgccaconhmbaaaGreatDoor
