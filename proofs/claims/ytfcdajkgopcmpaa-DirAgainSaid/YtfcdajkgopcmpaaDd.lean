/- The document's directory (raceref14): New. Conditions: numbers of 64 bits. -/
import Derived.Test.YtfcdajkgopcmpaaDc
namespace Go.Proofs.Ytfcdajkgopcmpaa
open Go.ChangeShapes Go.WideShapes Go.ChangeAt Go.RowKit Go.Deep
theorem foldl_take {α β : Type} {f : β → α → β} {b : β} {l : List α} {k : Nat} (h : k < l.length) : (l.take (k + 1)).foldl f b = f ((l.take k).foldl f b) l[k] := by
  rw [List.take_succ_eq_append_getElem h, List.foldl_append]; rfl
theorem length_new (l : List RV) : (newL l).length = l.length := by
  have : ∀ (l M : List RV), (l.foldl putL M).length = M.length + l.length := by
    intro l
    induction l with
    | nil => intro M; rfl
    | cons r l ih => intro M; rw [List.foldl_cons, ih, length_putL, List.length_cons]; omega
  have := this l []
  simpa [newL] using this
theorem hasR_at {P : Nat → Prop} {w : World} {ao : Option Addr} {n cap : Nat} {l : List RV} (h : HasR P w (.slice ao n cap) l) {k : Nat} (hk : k < l.length) : ∃ b o, ao = some ⟨b, o, none⟩ ∧ b < w.heap.size ∧ P b ∧ RAt w b (o + k * 4) l[k] := by
  obtain ⟨ao', cap', hv, _, _, _, h4⟩ := h
  injection hv with e1 e2 e3
  subst e1 e2 e3
  obtain ⟨b, o, h4, h5, h6, hc⟩ := h4.resolve_left (fun e => by rw [e] at hk; exact absurd hk (Nat.not_lt_zero _))
  exact ⟨b, o, h4, h6, h5, hc k hk⟩
theorem hasR_len {P : Nat → Prop} {w : World} {v : Value} {l : List RV} (h : HasR P w v l) : ∃ ao cap, v = .slice ao l.length cap ∧ l.length ≤ cap ∧ cap ≤ 9223372036854775807 := by
  obtain ⟨ao, cap, hv, h1, h2, _⟩ := h
  exact ⟨ao, cap, hv, h1, Nat.le_trans h2 (by decide)⟩
theorem check_small {l : List RV} (h : checkV l = 0) : l.length ≤ 12 := by
  unfold checkV at h
  rcases Nat.lt_or_ge 12 l.length with hl | hl
  · have h0 : (l.length == 0) = false := by rw [beq_eq_false_iff_ne]; omega
    rw [h0] at h
    simp [hl] at h
  · exact hl
section
variable {P : Nat → Prop} {w : World} {v : Value} {l : List RV}
theorem rd_new (w : World) : RD (· = w.heap.size) (w.alloc (.cells #[.slice none 0 0] 50)) w.heap.size [] :=
  ⟨_, by show (Array.push w.heap _)[w.heap.size]? = some _; exact Array.getElem?_push_size, World.ownsRow_nil _ _ _ _, (fun k hk => by cases hk), rfl, fun k hk => by subst hk; simp⟩
set_option maxRecDepth 100000 in
theorem rnew14_no (h : HasR P w v l) (hw : ∀ r ∈ l, r.wf) (hc : checkV l ≠ 0) : Calls Try.prog 10 #[v] w fun e w' => e = .returned (.tuple #[.pointer none, .int .i64 (checkV l)]) ∧ Below w.heap.size w w' := by
  have HC := Lib.hid (rcheck_any h hw)
  obtain ⟨ao, cap, rfl, _⟩ := hasR_len h
  have hne : (checkV l != 0) = true := by simpa using hc
  clear h hw
  generalize checkV l = c at *
  go_enter Try.func10, Try.ntmps10
  go_wp2_with (go_at_call 25; refine HC.out.mono ?_; rintro e w1 ⟨rfl, hb⟩; have HB := Lib.hid hb; clear hb)
  go_ret2
  exact ⟨rfl, HB.out⟩
set_option maxRecDepth 100000 in
set_option maxHeartbeats 4000000 in
theorem rnew14_yes (h : HasR P w v l) (hw : ∀ r ∈ l, r.wf) (hc : checkV l = 0) : Calls Try.prog 10 #[v] w fun e w' => ∃ a C, e = .returned (.tuple #[ptr a, .int .i64 0]) ∧ RD C w' a (newL l) ∧ (∀ k, C k → w.heap.size ≤ k) ∧ Below w.heap.size w w' := by
  have HC := Lib.hid (rcheck_any h hw)
  rw [hc] at HC
  have h12 := check_small hc
  have H := Lib.hid h
  obtain ⟨ao, cap, rfl, hcp, hcm⟩ := hasR_len h
  obtain ⟨n, hn⟩ : ∃ n, l.length = n := ⟨_, rfl⟩
  have HN := Lib.hid hn
  rw [hn] at H h12 hcp ⊢
  have HCN := HC
  rw [hn] at HCN
  clear h hw hc hn HC
  go_enter Try.func10, Try.ntmps10
  go_wp2_with (go_at_call 25; refine HCN.out.mono ?_; rintro e w1 ⟨rfl, hb⟩; have HB := Lib.hid hb; have HD1 := Lib.hid (rd_new w1); have HW1 := Lib.hid (below1 w1 (.cells #[.slice none 0 0] 50)); clear hb)
  go_loopw [6] (fun vi wr => ∃ k : Nat, vi = .int .i64 k ∧ k ≤ n ∧ Hid (∃ C, RD C wr w1.heap.size (newL (l.take k)) ∧ ∀ q, C q → w1.heap.size ≤ q) ∧ Hid (Below w1.heap.size w1 wr)) (fun vi _ => n - (RowKit.intOf vi).toNat)
  case atStart => exact ⟨0, rfl, Nat.zero_le _, Lib.hid ⟨_, HD1.out, fun q hq => by subst hq; exact Nat.le_refl _⟩, HW1⟩
  case round =>
    obtain ⟨k, rfl, hk, HD, HBR⟩ := hrel
    have HBW := Lib.hid (HB.out.trans (HBR.out.mono HB.out.size))
    by_cases hlt : k < n
    · have hkl : k < l.length := by rw [HN.out]; exact hlt
      obtain ⟨b, o, rfl, hbl, _, hra⟩ := hasR_at H.out hkl
      have d0 := (HBW.out.cell (p := ⟨b, o + k * 4, none⟩) hbl).trans hra.c0
      have d1 := (HBW.out.cell (p := ⟨b, o + k * 4 + 1, none⟩) hbl).trans hra.c1
      have d2 := (HBW.out.cell (p := ⟨b, o + k * 4 + 2, none⟩) hbl).trans hra.c2
      have d3 := (HBW.out.cell (p := ⟨b, o + k * 4 + 3, none⟩) hbl).trans hra.c3
      have HT : Hid (newL (l.take (k + 1)) = putL (newL (l.take k)) l[k]) := Lib.hid (foldl_take hkl)
      have HPT := fun wz C (hd : RD C wz w1.heap.size (newL (l.take k))) => Lib.hid (rput_any hd l[k] (by rw [length_new, List.length_take]; omega))
      clear hra
      generalize l[k] = q at *
      clear hkl
      obtain ⟨C0, hd0, hc0⟩ := HD.out
      have HD0 := Lib.hid hd0
      have HC0 := Lib.hid hc0
      clear hd0 hc0
      go_wp2_with (go_at_call 29; refine (HPT _ _ HD0.out).out.mono ?_; rintro e w3 ⟨rfl, C', g1, g2⟩; have HR3 := Lib.hid g1; have HW3 := Lib.hid g2; clear g1 g2)
      go_roundw
      case rel => exact ⟨k + 1, by go_num, by omega, Lib.hid ⟨C', by rw [HT.out]; exact HR3.out, fun q hq => by
          rcases HW3.out.new q hq with h | h
          · exact HC0.out q h
          · have := HBR.out.size; omega⟩, Lib.hid (HBR.out.trans (HW3.out.tn.below HBR.out.size HC0.out))⟩
      case measure => simp [intOf]; omega
    · obtain rfl : k = n := by omega
      have e : l.take k = l := List.take_of_length_le (by rw [HN.out]; exact Nat.le_refl _)
      rw [e] at HD
      clear e
      obtain ⟨C0, hd0, hc0⟩ := HD.out
      have HD0 := Lib.hid hd0
      have HC0 := Lib.hid hc0
      clear hd0 hc0
      go_wp2
      go_ret2
      exact ⟨w1.heap.size, C0, rfl, HD0.out, fun q hq => Nat.le_trans HB.out.size (HC0.out q hq), HBW.out⟩
end
end Go.Proofs.Ytfcdajkgopcmpaa
