/- wal.Open over any load. Conditions: a disk as it lies. -/
import Derived.Test.YtkilkhnoldfhcaaGreatDoorLr
namespace Go.Proofs.YtkilkhnoldfhcaaGreatDoor
open Go.RowKit
/-- What Open answers, and how log and disk stand. -/
def Opened (S : Nat → Prop) (B : Nat) (w : World) (dp : Nat) (r : Option Lg × Dk × Nat) (e : Ending) (w' : World) : Prop :=
  match r.1 with
    | some lg => r.2.2 = 0 ∧ ∃ a C' S', e = .returned (.tuple #[ptr a, .int .i64 0]) ∧ WL B w' a C' lg dp S' r.2.1 ∧ Went S w w' (fun k => C' k ∨ S' k)
    | none => r.2.2 ≠ 0 ∧ e = .returned (.tuple #[.pointer none, .int .i64 (r.2.2 : Int)]) ∧ ∃ S', DK S' w' dp r.2.1 ∧ (∀ k, S' k → B ≤ k) ∧ Went S w w' S'
section
variable {B : Nat} {w w' w1 : World} {a dp : Nat} {C S : Nat → Prop} {lg lg' : Lg} {d d' : Dk}
theorem opened_none {k : Nat} (hk : k ≠ 0) (hd : DK S w dp d) (hS : ∀ j, S j → B ≤ j) (hb : Below w.heap.size w w') : Opened S B w dp (none, d, k) (.returned (.tuple #[.pointer none, .int .i64 (k : Int)])) w' :=
  ⟨hk, rfl, S, hd.below hb, hS, went_below hb⟩
theorem new_log {w3 : World} (h : DK S w3 dp d) (hS : ∀ k, S k → B ≤ k) (hB : B ≤ w3.heap.size) (dir : Nm) (full : Int) (hf : ((full.toNat : Nat) : Int) = full) :
    WL B (w3.alloc (.cells #[ptr dp, nmv dir, .int .i64 full, .slice none 0 0, .int .i64 0] 104)) w3.heap.size (· = w3.heap.size) ⟨dir, full.toNat, [], 0⟩ dp S d := by
  refine ⟨⟨.slice none 0 0, [], ⟨?_, GO.nil _ _ _, rfl, fun k hk => ?_⟩⟩, h.below (below1 _ _), fun k hk => ?_, hS, fun k hk hs => ?_⟩
  · show _ = some (Obj.cells #[ptr dp, nmv dir, .int .i64 ((full.toNat : Nat) : Int), .slice none 0 0, .int .i64 0] 104 (0, 0))
    rw [hf]
    exact heap_alloc_new _ _
  · subst hk; simp
  · subst hk; exact hB
  · have hk : k = w3.heap.size := hk
    have := h.lt k hs
    omega
theorem opened_of {w4 : World} {r : Option Lg × Dk × Nat} {e : Ending} (hs : Started C S B w4 a dp r e w') (ht : Went S w w4 (fun k => C k ∨ S k)) :
    Opened S B w dp r (if r.2.2 = 0 then .returned (.tuple #[ptr a, .int .i64 0]) else .returned (.tuple #[.pointer none, .int .i64 (r.2.2 : Int)])) w' := by
  obtain ⟨_, h2⟩ := hs
  unfold Opened
  revert h2
  cases r.1 with
  | none =>
    rintro ⟨h0, S', hd, hs, hg⟩
    rw [if_neg h0]
    exact ⟨h0, rfl, S', hd, hs, ht.trans hg⟩
  | some lg =>
    rintro ⟨h0, C', S', hw, hg⟩
    rw [if_pos h0]
    exact ⟨h0, a, C', S', rfl, hw, ht.trans hg⟩
set_option maxRecDepth 100000 in
set_option maxHeartbeats 4000000 in
theorem open_any (h : DK S w dp d) (hS : ∀ k, S k → B ≤ k) (hB : B ≤ w.heap.size) (hT : Tabs w) (h6 : 6 ≤ B) (dir : Nm) (hdl : dir.length ≤ 1000) (full : Int) (hfew : (found dir (names d.f)).length ≤ 1000000) (hd : d.done < 9223372036854775807)
    (hld : dir.length ≤ 11 → found dir (names d.f) ≠ [] → ∀ (w1 : World) (a : Nat) (C1 : Nat → Prop), WL B w1 a C1 ⟨dir, full.toNat, found dir (names d.f), 0⟩ dp S d → B ≤ w1.heap.size → Tabs w1 → Calls Tryz.prog 105 #[ptr a] w1 (Started C1 S B w1 a dp (Lg.load ⟨dir, full.toNat, found dir (names d.f), 0⟩ d))) :
    Calls Tryz.prog 23 #[ptr dp, nmv dir, .int .i64 full] w (Opened S B w dp (openL dir full d)) := by
  have HN := Lib.hid (name_any w hT dir (Nat.le_trans hdl (by decide)) 1 (by decide) (by decide))
  have HW := Lib.hid h
  have HT := Lib.hid hT
  have HBW := Lib.hid hB
  have HDN := Lib.hid hd
  have HLD := Lib.hid hld
  have HFW := Lib.hid hfew
  have HS := Lib.hid hS
  have HO : Hid (openL dir full d = if dir = [] ∨ 11 < dir.length then (none, d, 10) else if full < 64 ∨ 262144 < full then (none, d, 1) else if d.off then (none, d, 12) else Lg.start ⟨dir, full.toNat, [], 0⟩ d) := rfl
  have HV : Hid (nameV dir 1 = if dir = [] ∨ 11 < dir.length then ([], 10) else if (1 : Int) < 1 ∨ 99999999 < (1 : Int) then ([], 1) else (segN dir (1 : Int).toNat, 0)) := rfl
  clear h hS hB hT hfew hd hld
  by_cases h1 : dir = [] ∨ 11 < dir.length
  · rw [HV.out, if_pos h1] at HN
    have HO := Lib.hid (HO.out.trans (if_pos h1))
    clear HV h1
    go_enter Tryz.func23, Tryz.ntmps23
    go_wp2_with (go_at_call 21; (refine HN.out.mono ?_); rintro e w1 ⟨rfl, hb⟩; have HB := Lib.hid hb; clear hb)
    go_ret2
    rw [HO.out]
    exact opened_none (by decide) HW.out HS.out HB.out
  rw [HV.out, if_neg h1, if_neg (by decide)] at HN
  have HO := Lib.hid (HO.out.trans (if_neg h1))
  have h11 : 1 ≤ dir.length ∧ dir.length ≤ 11 := by
    cases dir with
    | nil => exact absurd (.inl rfl) h1
    | cons x r => exact ⟨by simp, by by_cases h : (x :: r).length ≤ 11; exact h; exact absurd (.inr (by omega)) h1⟩
  clear HV h1
  by_cases h2 : full < 64 ∨ 262144 < full
  · have HO := Lib.hid (HO.out.trans (if_pos h2))
    rcases (show full < 64 ∨ (¬ full < 64 ∧ 262144 < full) by omega) with h3 | ⟨h3, h4⟩
    · have d1 : decide (full < 64) = true := decide_eq_true h3
      clear h2 h3
      go_enter Tryz.func23, Tryz.ntmps23
      go_wp2_with (go_at_call 21; (refine HN.out.mono ?_); rintro e w1 ⟨rfl, hb⟩; have HB := Lib.hid hb; clear hb)
      go_ret2
      rw [HO.out]
      exact opened_none (by decide) HW.out HS.out HB.out
    · have d1 : decide (full < 64) = false := decide_eq_false h3
      have d2 : decide (262144 < full) = true := decide_eq_true h4
      clear h2 h3 h4
      go_enter Tryz.func23, Tryz.ntmps23
      go_wp2_with (go_at_call 21; (refine HN.out.mono ?_); rintro e w1 ⟨rfl, hb⟩; have HB := Lib.hid hb; clear hb)
      go_ret2
      rw [HO.out]
      exact opened_none (by decide) HW.out HS.out HB.out
  have HO := Lib.hid (HO.out.trans (if_neg h2))
  have d1 : decide (full < 64) = false := decide_eq_false (by omega)
  have d2 : decide (262144 < full) = false := decide_eq_false (by omega)
  have HF : Hid (((full.toNat : Nat) : Int) = full) := by show _ = _; omega
  have hde : d.done < 9223372036854775807 := HDN.out
  clear h2
  cases hoff : d.off with
  | true =>
    have HO := Lib.hid (HO.out.trans (if_pos hoff))
    have HDW := fun w h => Lib.hid (dk_down (S := S) (w := w) (a := dp) (d := d) h)
    rw [hoff] at HDW
    go_enter Tryz.func23, Tryz.ntmps23
    go_wp2_with (first
      | (go_at_call 21; (refine HN.out.mono ?_); rintro e w1 ⟨rfl, hb⟩; have HB := Lib.hid hb; clear hb)
      | (go_at_call 24; (refine (HDW _ (HW.out.below HB.out)).out.mono ?_); rintro e w2 ⟨rfl, rfl⟩))
    go_ret2
    rw [HO.out]
    exact opened_none (by decide) HW.out HS.out HB.out
  | false =>
    have HO := Lib.hid (HO.out.trans (if_neg (by rw [hoff]; decide)))
    have HDW := fun w h => Lib.hid (dk_down (S := S) (w := w) (a := dp) (d := d) h)
    rw [hoff] at HDW
    generalize hst : Lg.start ⟨dir, full.toNat, [], 0⟩ d = r at *
    go_enter Tryz.func23, Tryz.ntmps23
    go_upto_region 9 with (first
      | (go_at_call 21; (refine HN.out.mono ?_); rintro e w1 ⟨rfl, hb⟩; have HB := Lib.hid hb; clear hb)
      | (go_at_call 24; (refine (HDW _ (HW.out.below HB.out)).out.mono ?_); rintro e w2 ⟨rfl, rfl⟩)
      | (go_at_call 65; (refine (sclone_any dir _ (Nat.le_trans hdl (by decide))).mono ?_); rintro e w3 ⟨rfl, hb⟩; have HB := Lib.hid (HB.out.trans (hb.mono HB.out.size)); clear hb))
    have HSZ := Lib.hid HB.out.size
    have HWL := Lib.hid (new_log (HW.out.below HB.out) HS.out (Nat.le_trans HBW.out HB.out.size) dir full HF.out)
    have HWE : Hid (Went S w (w3.alloc (.cells #[ptr dp, nmv dir, .int .i64 full, .slice none 0 0, .int .i64 0] 104)) (fun k => k = w3.heap.size ∨ S k)) :=
      Lib.hid ⟨Tn.of_below (HB.out.trans ((below1 w3 _).mono HB.out.size)), fun k hk => hk.elim (fun e => .inr (e ▸ HSZ.out)) .inl⟩
    have HST := Lib.hid (start_any HWL.out (Nat.le_trans HBW.out (Nat.le_trans HSZ.out (below1 w3 _).size)) (HT.out.below (HB.out.trans ((below1 w3 _).mono HB.out.size))) h6 h11 HFW.out HDN.out (fun hne w1 C1 hw hb ht => HLD.out h11.2 hne w1 _ C1 hw hb ht))
    rw [hst] at HST
    clear hst
    by_cases h0 : r.2.2 = 0
    · have hb0 : (((r.2.2 : Nat) : Int) != 0) = false := by rw [h0]; rfl
      have HR0 := Lib.hid h0
      clear h0
      go_wp2_with (go_at_call 66; (refine HST.out.mono ?_); rintro e w5 he; have HE := Lib.hid (opened_of he HWE.out); obtain ⟨rfl, _⟩ := he)
      go_ret2
      have h1 := HE.out
      rw [if_pos HR0.out] at h1
      rw [HO.out]
      exact h1
    · have hb0 : (((r.2.2 : Nat) : Int) != 0) = true := by simpa using h0
      have HR0 := Lib.hid h0
      clear h0
      go_wp2_with (go_at_call 66; (refine HST.out.mono ?_); rintro e w5 he; have HE := Lib.hid (opened_of he HWE.out); obtain ⟨rfl, _⟩ := he)
      go_ret2
      have h1 := HE.out
      rw [if_neg HR0.out] at h1
      rw [HO.out]
      exact h1
end
end Go.Proofs.YtkilkhnoldfhcaaGreatDoor
