/- Of any list of floats, the least and the most, taken one by one, from the left or from the right, are of the list and stand at its ends: racelaw1.NumEnds answers true and leaves its argument as it was. Conditions: none beyond the row's own (the listed tables of Go's library, tied to the program's text). -/
import Derived.Test.YtjgbccadjgelbaaDoorRows
import Derived.Test.YtjgbccadjgelbaaDoorCards
import Derived.Test.YtjgbccadjgelbaaDoorTie
import Derived.Test.YtjgbccadjgelbaaDoorRow
import Derived.Test.YtjgbccadjgelbaaDoorY
import Derived.Test.YtjgbccadjgelbaaDoorZ
import Derived.Test.YtjgbccadjgelbaaDoorHelp
import Derived.Deep.QuietTactic
import Derived.BigQuiet
import Derived.Carry
import Derived.SevenTiedAt
namespace Go.Proofs.YtjgbccadjgelbaaDoor
open Go.ChangeShapes Go.WideShapes Go.ChangeAt Go.RowKit

/-- 'a' is of the list, and none of the first k (by f) comes before it. -/
def LowAt (xs : List Nat) (f : Nat → Nat) (k a : Nat) : Prop := a < 18446744073709551616 ∧ (∃ j, j < xs.length ∧ rankN (xs.getD j 0) = rankN a) ∧ ∀ i, i < k → rankN a ≤ rankN (xs.getD (f i) 0)
def HighAt (xs : List Nat) (f : Nat → Nat) (k a : Nat) : Prop := a < 18446744073709551616 ∧ (∃ j, j < xs.length ∧ rankN (xs.getD j 0) = rankN a) ∧ ∀ i, i < k → rankN (xs.getD (f i) 0) ≤ rankN a
theorem rank_least (a b : Nat) : rankN (leastN a b) = rankN a ∧ rankN a ≤ rankN b ∨ rankN (leastN a b) = rankN b ∧ rankN b ≤ rankN a := by
  by_cases h : rankN a ≤ rankN b
  · left; exact ⟨by rw [leastN_le h, rank_canon], h⟩
  · right; exact ⟨by rw [leastN_gt h, rank_canon], by omega⟩
theorem rank_most (a b : Nat) : rankN (mostN a b) = rankN a ∧ rankN b ≤ rankN a ∨ rankN (mostN a b) = rankN b ∧ rankN a ≤ rankN b := by
  by_cases h : rankN b ≤ rankN a
  · left; exact ⟨by rw [mostN_le h, rank_canon], h⟩
  · right; exact ⟨by rw [mostN_gt h, rank_canon], by omega⟩
theorem least_lt {a b : Nat} (ha : a < 18446744073709551616) (hb : b < 18446744073709551616) : leastN a b < 18446744073709551616 := by
  by_cases h : rankN a ≤ rankN b
  · rw [leastN_le h]; exact canon_lt ha
  · rw [leastN_gt h]; exact canon_lt hb
theorem most_lt {a b : Nat} (ha : a < 18446744073709551616) (hb : b < 18446744073709551616) : mostN a b < 18446744073709551616 := by
  by_cases h : rankN b ≤ rankN a
  · rw [mostN_le h]; exact canon_lt ha
  · rw [mostN_gt h]; exact canon_lt hb
theorem LowAt.step {xs : List Nat} {f : Nat → Nat} {k a y r : Nat} (h : LowAt xs f k a) (hf : f k < xs.length) (hy : y = xs.getD (f k) 0) (hr : r < 18446744073709551616)
    (hs : rankN r = rankN a ∧ rankN a ≤ rankN y ∨ rankN r = rankN y ∧ rankN y ≤ rankN a) : LowAt xs f (k + 1) r := by
  obtain ⟨_, ⟨j, hj, hj2⟩, h3⟩ := h
  rcases hs with ⟨e, hle⟩ | ⟨e, hle⟩
  · refine ⟨hr, ⟨j, hj, by rw [hj2, e]⟩, fun i hi => ?_⟩
    by_cases h4 : i = k
    · subst h4; rw [e, ← hy]; exact hle
    · rw [e]; exact h3 i (by omega)
  · refine ⟨hr, ⟨f k, hf, by rw [← hy, e]⟩, fun i hi => ?_⟩
    by_cases h4 : i = k
    · subst h4; rw [e, ← hy]; exact Nat.le_refl _
    · rw [e]; exact Nat.le_trans hle (h3 i (by omega))
theorem HighAt.step {xs : List Nat} {f : Nat → Nat} {k a y r : Nat} (h : HighAt xs f k a) (hf : f k < xs.length) (hy : y = xs.getD (f k) 0) (hr : r < 18446744073709551616)
    (hs : rankN r = rankN a ∧ rankN y ≤ rankN a ∨ rankN r = rankN y ∧ rankN a ≤ rankN y) : HighAt xs f (k + 1) r := by
  obtain ⟨_, ⟨j, hj, hj2⟩, h3⟩ := h
  rcases hs with ⟨e, hle⟩ | ⟨e, hle⟩
  · refine ⟨hr, ⟨j, hj, by rw [hj2, e]⟩, fun i hi => ?_⟩
    by_cases h4 : i = k
    · subst h4; rw [e, ← hy]; exact hle
    · rw [e]; exact h3 i (by omega)
  · refine ⟨hr, ⟨f k, hf, by rw [← hy, e]⟩, fun i hi => ?_⟩
    by_cases h4 : i = k
    · subst h4; rw [e, ← hy]; exact Nat.le_refl _
    · rw [e]; exact Nat.le_trans (h3 i (by omega)) hle
theorem LowAt.start {xs : List Nat} {f : Nat → Nat} {j x : Nat} (hj : j < xs.length) (hx : x = xs.getD j 0) (hl : x < 18446744073709551616) : LowAt xs f 0 x :=
  ⟨hl, ⟨j, hj, by rw [hx]⟩, fun i hi => absurd hi (by omega)⟩
theorem HighAt.start {xs : List Nat} {f : Nat → Nat} {j x : Nat} (hj : j < xs.length) (hx : x = xs.getD j 0) (hl : x < 18446744073709551616) : HighAt xs f 0 x :=
  ⟨hl, ⟨j, hj, by rw [hx]⟩, fun i hi => absurd hi (by omega)⟩
theorem swap_or {p q : Prop} (h : p ∨ q) : q ∨ p := Or.comm.1 h
/-- One by one from the left or from the right: the same. -/
theorem low_one {xs : List Nat} {m a b : Nat} (hm : xs.length = m + 1) (ha : LowAt xs (fun i => i) (m + 1) a) (hb : LowAt xs (fun i => m - i) (m + 1) b) : canon b = canon a := by
  obtain ⟨a1, ⟨j, hj, hj2⟩, a3⟩ := ha
  obtain ⟨b1, ⟨i, hi, hi2⟩, b3⟩ := hb
  refine rank_inj b1 a1 (Nat.le_antisymm ?_ ?_)
  · have := b3 (m - j) (by omega)
    simp only [show m - (m - j) = j by omega] at this
    omega
  · have := a3 i (by omega)
    simp only at this
    omega
theorem high_one {xs : List Nat} {m a b : Nat} (hm : xs.length = m + 1) (ha : HighAt xs (fun i => i) (m + 1) a) (hb : HighAt xs (fun i => m - i) (m + 1) b) : canon b = canon a := by
  obtain ⟨a1, ⟨j, hj, hj2⟩, a3⟩ := ha
  obtain ⟨b1, ⟨i, hi, hi2⟩, b3⟩ := hb
  refine rank_inj b1 a1 (Nat.le_antisymm ?_ ?_)
  · have := a3 i (by omega)
    simp only at this
    omega
  · have := b3 (m - j) (by omega)
    simp only [show m - (m - j) = j by omega] at this
    omega
set_option maxRecDepth 100000 in
theorem numEnds_long (ao : Option Addr) (cap n : Nat) (hl : 2000 < n) (_hm : n ≤ maxLen) (w : World) (hT : Tabs w) :
    Calls Tryd.prog 14 #[.slice ao n cap] w fun e w' => e = .returned (.bool true) ∧ Below w.heap.size w w' := by
  have HT := Lib.hid hT; clear hT
  go_enter Tryd.func14, Tryd.ntmps14
  go_wp2_with (first
    | (go_at_call 15; refine (first_any _ HT.out).mono ?_; rintro e w1 ⟨rfl, hb1⟩; have HT1 := Lib.hid (HT.out.below hb1); have HB1 := Lib.hid hb1; clear hb1 HT)
    | (go_at_call 15; refine (first_any _ HT1.out).mono ?_; rintro e w2 ⟨rfl, hb2⟩; have HB2 := Lib.hid hb2; clear hb2))
  go_ret
  exact ⟨rfl, HB1.out.trans (HB2.out.mono HB1.out.size)⟩
set_option maxRecDepth 100000 in
theorem numEnds_none (ao : Option Addr) (cap : Nat) (w : World) (hT : Tabs w) :
    Calls Tryd.prog 14 #[.slice ao 0 cap] w fun e w' => e = .returned (.bool true) ∧ Below w.heap.size w w' := by
  have HT := Lib.hid hT; clear hT
  go_enter Tryd.func14, Tryd.ntmps14
  go_wp2_with (first
    | (go_at_call 15; refine (first_any _ HT.out).mono ?_; rintro e w1 ⟨rfl, hb1⟩; have HT1 := Lib.hid (HT.out.below hb1); have HB1 := Lib.hid hb1; clear hb1 HT)
    | (go_at_call 15; refine (first_any _ HT1.out).mono ?_; rintro e w2 ⟨rfl, hb2⟩; have HB2 := Lib.hid hb2; clear hb2))
  go_ret
  exact ⟨rfl, HB1.out.trans (HB2.out.mono HB1.out.size)⟩
theorem cell_q {w w1 : World} {b off x : Nat} (hb1 : Below w.heap.size w w1) (hb : b < w.heap.size) (hc : w.cell? ⟨b, off, none⟩ = some (.float .f64 x)) (q : Nat) : (w1.drewN q).cell? ⟨b, off, none⟩ = some (.float .f64 x) :=
  (hb1.cell (p := ⟨b, off, none⟩) hb).trans hc
set_option maxRecDepth 100000 in
theorem numEnds_some (b off cap m : Nat) (xs : List Nat) (hn : xs.length = m + 1) (hl : m + 1 ≤ 2000) (hx : ∀ i, i < m + 1 → xs.getD i 0 < 18446744073709551616) (w : World) (hb : b < w.heap.size)
    (hc : ∀ i, i < m + 1 → w.cell? ⟨b, off + i, none⟩ = some (.float .f64 (xs.getD i 0))) (hT : Tabs w) :
    Calls Tryd.prog 14 #[.slice (some ⟨b, off, none⟩) (m + 1) cap] w fun e w' => e = .returned (.bool true) ∧ Below w.heap.size w w' := by
  have HT := Lib.hid hT; clear hT
  have HC := Lib.hid hc; clear hc
  have HX := Lib.hid hx; clear hx
  have HN := Lib.hid hn; clear hn
  obtain ⟨x0, h0⟩ : ∃ x0, x0 = xs.getD 0 0 := ⟨_, rfl⟩
  obtain ⟨xm, hm⟩ : ∃ xm, xm = xs.getD m 0 := ⟨_, rfl⟩
  have H0 := Lib.hid h0; clear h0
  have HM := Lib.hid hm; clear hm
  have hm0 : (m : Int) + 1 - 1 = (m : Int) := by omega
  have hlA : decide ((2000 : Int) < (m : Int) + 1) = false := by simp; omega
  have hlB : ((m : Int) + 1 == 0) = false := by simp; omega
  go_enter Tryd.func14, Tryd.ntmps14
  go_wp2_with (first
    | (go_at_call 15; refine (first_any _ HT.out).mono ?_; rintro e w1 ⟨rfl, hb1⟩; have HT1 := Lib.hid (HT.out.below hb1); have HB1 := Lib.hid hb1; have hq0 := cell_q hb1 hb (off := off) (H0.out ▸ HC.out 0 (by omega)); have hqm := cell_q hb1 hb (HM.out ▸ HC.out m (by omega)); clear hb1 HT))
  go_quiet (fail)
  go_wp2
  go_quiet (fail)
  go_wp2
  have HL0 : Hid (x0 < 18446744073709551616) := by unfold Hid; rw [H0.out]; exact HX.out 0 (by omega)
  have HLM : Hid (xm < 18446744073709551616) := by unfold Hid; rw [HM.out]; exact HX.out m (by omega)
  go_loopw [3, 4, 5, 6, 7] (fun va vb vc vd vi wr => ∃ (k a a2 c c2 q : Nat), va = .float .f64 a ∧ vb = .float .f64 a2 ∧ vc = .float .f64 c ∧ vd = .float .f64 c2 ∧ vi = .int .i64 (k : Int) ∧ k ≤ m + 1 ∧ Hid (LowAt xs (fun i => i) k a) ∧ Hid (LowAt xs (fun i => m - i) k a2) ∧ Hid (HighAt xs (fun i => i) k c) ∧ Hid (HighAt xs (fun i => m - i) k c2) ∧ wr = w1.drewN q) (fun _ _ _ _ vi _ => m + 1 - (RowKit.intOf vi).toNat)
  case atStart => exact ⟨0, _, _, _, _, _, rfl, rfl, rfl, rfl, rfl, Nat.zero_le _, LowAt.start (by have := HN.out; omega) H0.out HL0.out, LowAt.start (by have := HN.out; omega) HM.out HLM.out, HighAt.start (by have := HN.out; omega) H0.out HL0.out, HighAt.start (by have := HN.out; omega) HM.out HLM.out, World.drewN_drewN _ _ _⟩
  case round =>
    obtain ⟨k, a, a2, c, c2, q, rfl, rfl, rfl, rfl, rfl, hk, HA, HA2, HCC, HCC2, rfl⟩ := hrel
    by_cases hlt : k < m + 1
    · obtain ⟨r, hr⟩ : ∃ r, m = k + r := ⟨m - k, by omega⟩
      have hsub : (m : Int) - (k : Int) = (r : Int) := by omega
      have hsub2 : m - k = r := by omega
      obtain ⟨y, hy⟩ : ∃ y, y = xs.getD k 0 := ⟨_, rfl⟩
      obtain ⟨z, hz⟩ : ∃ z, z = xs.getD r 0 := ⟨_, rfl⟩
      have hyl : y < 18446744073709551616 := by rw [hy]; exact HX.out k hlt
      have hzl : z < 18446744073709551616 := by rw [hz]; exact HX.out r (by omega)
      have hqk := cell_q HB1.out hb (off := off + k) (hy ▸ HC.out k hlt)
      have hqr := cell_q HB1.out hb (off := off + r) (hz ▸ HC.out r (by omega))
      have hkn : k < xs.length := by have := HN.out; omega
      have hrn : r < xs.length := by have := HN.out; omega
      obtain ⟨ra, hra⟩ : ∃ ra, leastN a y = ra := ⟨_, rfl⟩
      obtain ⟨rb, hrb⟩ : ∃ rb, leastN z a2 = rb := ⟨_, rfl⟩
      obtain ⟨rc, hrc⟩ : ∃ rc, mostN c y = rc := ⟨_, rfl⟩
      obtain ⟨rd, hrd⟩ : ∃ rd, mostN z c2 = rd := ⟨_, rfl⟩
      have NA : Hid (LowAt xs (fun i => i) (k + 1) ra) := by subst hra; exact HA.out.step hkn hy (least_lt HA.out.1 hyl) (rank_least _ _)
      have NA2 : Hid (LowAt xs (fun i => m - i) (k + 1) rb) := by subst hrb; exact HA2.out.step (by simp only [hsub2]; exact hrn) (by simp only [hsub2]; exact hz) (least_lt hzl HA2.out.1) (swap_or (rank_least _ _))
      have NC : Hid (HighAt xs (fun i => i) (k + 1) rc) := by subst hrc; exact HCC.out.step hkn hy (most_lt HCC.out.1 hyl) (rank_most _ _)
      have NC2 : Hid (HighAt xs (fun i => m - i) (k + 1) rd) := by subst hrd; exact HCC2.out.step (by simp only [hsub2]; exact hrn) (by simp only [hsub2]; exact hz) (most_lt hzl HCC2.out.1) (swap_or (rank_most _ _))
      have HRA := Lib.hid hra
      have HRB := Lib.hid hrb
      have HRC := Lib.hid hrc
      have HRD := Lib.hid hrd
      have HYL := Lib.hid hyl
      have LA := Lib.hid HA.out.1
      have LA2 := Lib.hid HA2.out.1
      have LC := Lib.hid HCC.out.1
      have LC2 := Lib.hid HCC2.out.1
      have HZL := Lib.hid hzl
      have HR := Lib.hid hr
      clear hra hrb hrc hrd hyl hzl hy hz hkn hrn hsub2 hr
      go_wp2_with (first
        | (go_at_call 34; first
            | ((with_reducible refine (least_is a y ra HRA.out LA.out HYL.out _).mono ?_); rintro e w' ⟨rfl, rfl⟩)
            | ((with_reducible refine (least_is z a2 rb HRB.out HZL.out LA2.out _).mono ?_); rintro e w' ⟨rfl, rfl⟩))
        | (go_at_call 35; first
            | ((with_reducible refine (most_is c y rc HRC.out LC.out HYL.out _).mono ?_); rintro e w' ⟨rfl, rfl⟩)
            | ((with_reducible refine (most_is z c2 rd HRD.out HZL.out LC2.out _).mono ?_); rintro e w' ⟨rfl, rfl⟩)))
      go_roundw
      case rel => exact ⟨k + 1, _, _, _, _, _, rfl, rfl, rfl, rfl, by go_num, by omega, NA, NA2, NC, NC2, rfl⟩
      case measure => simp [RowKit.intOf]; omega
    · have hkm : k = m + 1 := by omega
      rw [hkm] at HA HA2 HCC HCC2
      have hlt' : ¬ (k : Int) < (m : Int) + 1 := by omega
      clear hkm hlt hk hm0 hlA hlB hq0 hqm HL0 HLM H0 HM
      go_wp2
      go_loopw [8, 9] (fun vm vi wr => ∃ (t : Bool) (k q : Nat), vm = .bool t ∧ vi = .int .i64 (k : Int) ∧ k ≤ m + 1 ∧ Hid (t = true ∨ ∀ i, i < k → rankN (xs.getD i 0) ≠ rankN a) ∧ wr = w1.drewN q) (fun _ vi _ => m + 1 - (RowKit.intOf vi).toNat)
      case atStart => exact ⟨false, 0, _, rfl, rfl, Nat.zero_le _, Or.inr (fun i hi => absurd hi (by omega)), rfl⟩
      case round =>
        obtain ⟨t, p, q, rfl, rfl, hk, HM, rfl⟩ := hrel
        by_cases hlt : p < m + 1
        · obtain ⟨y, hy⟩ : ∃ y, y = xs.getD p 0 := ⟨_, rfl⟩
          have hyl : y < 18446744073709551616 := by rw [hy]; exact HX.out p hlt
          have hqk := cell_q HB1.out hb (off := off + p) (hy ▸ HC.out p hlt)
          have h1 : rankN a ≤ rankN y := by rw [hy]; exact HA.out.2.2 p hlt
          have h2 : rankN y ≤ rankN c := by rw [hy]; exact HCC.out.2.2 p hlt
          have h3 := cmpN_nonpos h1
          have h4 := cmpN_nonpos h2
          obtain ⟨e1, he1⟩ : ∃ e1, cmpN (rankN a) (rankN y) = e1 := ⟨_, rfl⟩
          obtain ⟨e2, he2⟩ : ∃ e2, cmpN (rankN y) (rankN c) = e2 := ⟨_, rfl⟩
          have hp1 : decide ((0 : Int) < e1) = false := by rw [he1] at h3; simp; omega
          have hp2 : decide ((0 : Int) < e2) = false := by rw [he2] at h4; simp; omega
          have NX : Hid (((t || (e1 == 0)) = true) ∨ ∀ i, i < p + 1 → rankN (xs.getD i 0) ≠ rankN a) := by
            unfold Hid
            rcases HM.out with h | h
            · left; simp [h]
            · by_cases h5 : rankN y = rankN a
              · left
                have : e1 = 0 := by rw [← he1, h5]; exact cmpN_eq _
                simp [this]
              · right
                intro i hi
                by_cases h6 : i = p
                · subst h6; rw [← hy]; exact h5
                · exact h i (by omega)
          have HYL := Lib.hid hyl
          have LA := Lib.hid HA.out.1
          have LC := Lib.hid HCC.out.1
          have E1 := Lib.hid he1
          have E2 := Lib.hid he2
          clear h1 h2 h3 h4 he1 he2 hyl hy
          cases t
          · obtain ⟨u, hu⟩ : ∃ u, (e1 == 0) = u := ⟨_, rfl⟩
            rw [Bool.false_or, hu] at NX
            cases u
            · go_wp2_with (first
                | (go_at_call 36; first
                    | ((with_reducible refine (cmp_is a y e1 E1.out LA.out HYL.out _).mono ?_); rintro e w' ⟨rfl, rfl⟩)
                    | ((with_reducible refine (cmp_is y c e2 E2.out HYL.out LC.out _).mono ?_); rintro e w' ⟨rfl, rfl⟩)))
              go_roundw
              case rel => exact ⟨_, p + 1, _, rfl, by go_num, by omega, NX, rfl⟩
              case measure => simp [RowKit.intOf]; omega
            · go_wp2_with (first
                | (go_at_call 36; first
                    | ((with_reducible refine (cmp_is a y e1 E1.out LA.out HYL.out _).mono ?_); rintro e w' ⟨rfl, rfl⟩)
                    | ((with_reducible refine (cmp_is y c e2 E2.out HYL.out LC.out _).mono ?_); rintro e w' ⟨rfl, rfl⟩)))
              go_roundw
              case rel => exact ⟨_, p + 1, _, rfl, by go_num, by omega, Or.inl rfl, rfl⟩
              case measure => simp [RowKit.intOf]; omega
          · go_wp2_with (first
                | (go_at_call 36; first
                    | ((with_reducible refine (cmp_is a y e1 E1.out LA.out HYL.out _).mono ?_); rintro e w' ⟨rfl, rfl⟩)
                    | ((with_reducible refine (cmp_is y c e2 E2.out HYL.out LC.out _).mono ?_); rintro e w' ⟨rfl, rfl⟩)))
            go_roundw
            case rel => exact ⟨_, p + 1, _, rfl, by go_num, by omega, Or.inl rfl, rfl⟩
            case measure => simp [RowKit.intOf]; omega
        · clear hlt'
          obtain rfl : p = m + 1 := by omega
          have ht : t = true := by
            rcases HM.out with h | h
            · exact h
            · obtain ⟨_, ⟨j, hj, hj2⟩, _⟩ := HA.out
              exact absurd hj2 (h j (by have := HN.out; omega))
          subst ht
          have hA1 := low_one HN.out HA.out HA2.out
          have hC1 := high_one HN.out HCC.out HCC2.out
          obtain ⟨ca, hca⟩ : ∃ ca, canon a = ca := ⟨_, rfl⟩
          obtain ⟨cc, hcc⟩ : ∃ cc, canon c = cc := ⟨_, rfl⟩
          rw [hca] at hA1
          rw [hcc] at hC1
          have B1 := Lib.hid hca
          have B2 := Lib.hid hA1
          have B3 := Lib.hid hcc
          have B4 := Lib.hid hC1
          clear hca hA1 hcc hC1 hlt hk
          go_wp2_with (first
            | (go_at_call 15; refine (first_any _ (tabs_drewN HT1.out _)).mono ?_; rintro e w2 ⟨rfl, hb2⟩; have HB2 := Lib.hid hb2; clear hb2)
            | (go_at_call 21; first
                | ((with_reducible refine (bits_is a ca B1.out _).mono ?_); rintro e w' ⟨rfl, rfl⟩)
                | ((with_reducible refine (bits_is a2 ca B2.out _).mono ?_); rintro e w' ⟨rfl, rfl⟩)
                | ((with_reducible refine (bits_is c cc B3.out _).mono ?_); rintro e w' ⟨rfl, rfl⟩)
                | ((with_reducible refine (bits_is c2 cc B4.out _).mono ?_); rintro e w' ⟨rfl, rfl⟩)))
          go_ret
          exact ⟨by first | rfl | (refine ret_b ?_; simp; done), HB1.out.trans ((below_drewN (Below.refl _ _) _).trans (HB2.out.mono HB1.out.size))⟩
theorem numEnds_walk (ao : Option Addr) (cap : Nat) (xs : List Nat) (hm : xs.length ≤ maxLen) (_hc : xs.length ≤ cap) (_hcn : ao = none → cap = 0) (hx : ∀ b ∈ xs, b < 18446744073709551616) (w : World) (hR : HasRow w ao xs) (hT : Tabs w) :
    Calls Tryd.prog 14 #[.slice ao xs.length cap] w fun e w' => e = .returned (.bool true) ∧ Below w.heap.size w w' := by
  by_cases hl : xs.length ≤ 2000
  · rcases hR with rfl | ⟨b, off, rfl, hb, hc⟩
    · exact numEnds_none ao cap w hT
    · cases hn : xs.length with
      | zero => exact numEnds_none _ cap w hT
      | succ m =>
        refine numEnds_some b off cap m xs hn (by omega) (fun i hi => hx _ ?_) w hb (fun i hi => hc i (by omega)) hT
        rw [List.getD_eq_getElem?_getD, List.getElem?_eq_getElem (by omega), Option.getD_some]
        exact List.getElem_mem _
  · exact numEnds_long ao cap xs.length (by omega) hm w hT
theorem numEnds_cells23 : Tryd.prog.cellsOf 23 = 1 := by kernel_rfl
theorem numEnds_laidOut : laidOutB Tryd.prog = true := by kernel_rfl
set_option maxRecDepth 100000 in
theorem numEnds_lifted (os : Os) (started : os.Started) (H : Type) (enc : TypeId × Value → H) :
    ReturnsInHanded {} Tryd.checked os 14 .any (fun w args => (Rows.numEndsSpec.pre enc Tryd.prog Tryd.f14 [] false w args ∧ laidMetH Tryd.prog laid3 w) ∧ sizedMet enc Tryd.prog Tryd.f14 (OpenSpec.ofChange Rows.numEndsSpec) false w args)
      (Rows.numEndsSpec.post enc Tryd.prog Tryd.f14 false true false false) := by
  refine returnsInHanded_of_change_and (C := Tryd.checked) (X := fun w _ => laidMetH Tryd.prog laid3 w) (fun _ _ _ hh h => h.of_heap hh) own started (by kernel_rfl) Tryd.func14
    (ChangeSpec.witness_shaped (enc := enc) (C := Tryd.checked) (os := os) (X := fun w _ => laidMetH Tryd.prog laid3 w) false (World.doorLaid Tryd.prog 400 os) #[.slice none 0 0] 8 rfl (World.shaped_of_RefB (by kernel_rfl) (by kernel_rfl)) (by kernel_rfl) (by kernel_rfl) (by kernel_rfl) (door_met os _)) ?_
  intro W base args ds gs before hval0 hW _ _ hL _
  have hval : ∀ (j : Nat) t v, Tryd.f14.params[j]? = some t → args[j]? = some v → Value.okWide Tryd.prog W .any base t v := hval0
  have hW' := hW
  obtain ⟨p, q, hA0, hV, rfl, hfz, hnd⟩ := hW
  have hA : DataW.TrodAll enc Tryd.prog W 0 (fun _ => true) true Tryd.f14.params.toList args.toList ds p := hA0
  rw [Tryd.params14] at hA hval
  obtain ⟨v0, d0, rfl, rfl, h0⟩ := trodAll_one hA
  obtain ⟨a0, len, cap0, rfl⟩ := okWide_slice Tryd.underlying34 (hval 0 34 v0 rfl rfl)
  obtain ⟨rfl, rfl⟩ := trodVars_none hV
  have h0k := h0
  obtain ⟨fuel, hf⟩ := h0
  clear hA0 hval0
  simp only [List.append_nil] at hW'
  have hlt : ∀ x ∈ p, x.block < W.heap.size := fun x hx => by simpa using hW'.lt x hx
  have hT := tabs_of_laid hL
  obtain ⟨ao, cap, xs, hv, hm, hc, hcn, hR, hx⟩ := open_floats Tryd.underlying34 Tryd.underlying23 numEnds_cells23 hf
  rw [hv] at h0k hW' ⊢
  refine (numEnds_walk ao cap xs hm hc hcn hx W hR hT).mono fun e W' ⟨he, hw⟩ => ?_
  subst he
  exact ⟨_, rfl, post_of_below (pa := _) (pv := []) hW' (fun _ _ _ => trodAll_mk1 (shut_bool Tryd.underlying4 _)) (fun sp hsp => trodAll_mk1 (WideElems.Trod_stays numEnds_laidOut (by kernel_rfl) (of_decide_eq_true (by kernel_rfl)) h0k (fun x hx => hw.same (hlt x hx)) (fun x hx => by simpa using hsp x (by simpa using hx)))) (fun _ _ => rfl) (List.append_nil _).symm hw (ok_one (by kernel_rfl) rfl (okWide_bool_mk Tryd.underlying4 _))⟩

theorem numEnds_holds : Rows.NumEndsSaid :=
  OpenClaim.holds_of_wide 14 Tryd.f14 rfl rfl rfl rfl rfl rfl rfl ⟨rfl, rfl, rfl, rfl, rfl⟩ rfl rfl rfl rfl rfl (by kernel_rfl) Tryd.func14 (by kernel_rfl)
    (of_decide_eq_true (by kernel_rfl)) (by unfold Func.isWrapper; first | (rw [if_pos (by decide +kernel)]; kernel_rfl) | (rw [if_neg (by decide +kernel)]; exact ⟨rfl, rfl⟩))
    (fun os started H enc _ => numEnds_lifted os started H enc)
/-- THE TIED CARD. -/
theorem numEnds_card : Rows.NumEndsCardSaid :=
  Claim7.holds_tied_plain_at .later [] [.data, .data, .data] true (true, "263a68124a9ec9e14e3c232618efbe301a45d4cac9ae9d43003c9ae83addfa09") false
    numEnds_holds (fun _ h => by cases h) (by kernel_rfl) (fun _ h => by cases h) numEnds_row_tie rfl ⟨rfl, rfl⟩ (by kernel_rfl) rfl
    (fun f fn hf hfn => by
      obtain rfl : f = 14 := Option.some.inj ((show Tryd.prog.funcNamed "headrace/racelaw1.NumEnds" = some 14 by kernel_rfl).symm.trans hf) |>.symm
      obtain rfl : fn = Tryd.f14 := (Option.some.inj (Tryd.func14.symm.trans hfn)).symm
      exact ⟨by kernel_rfl, fun j t ht => by
        rw [Tryd.params14] at ht
        have hm : t ∈ [34] := by simpa using Array.mem_of_getElem? ht
        have hall : ([34].all fun u => !Tryd.prog.wantsStandIn u) = true := by kernel_rfl
        exact (show Tryd.prog.wantsStandIn t = false by simpa using List.all_eq_true.1 hall t hm)⟩)
    (by kernel_rfl)
#print axioms numEnds_card
end Go.Proofs.YtjgbccadjgelbaaDoor
