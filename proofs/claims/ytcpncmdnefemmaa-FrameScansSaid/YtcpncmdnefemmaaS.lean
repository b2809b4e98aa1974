/- frame.Scan tells the records of the frames at the beginning, and where they end. Conditions: at most 1000000 bytes. -/
import Derived.Test.YtcpncmdnefemmaaR
namespace Go.Proofs.Ytcpncmdnefemmaa
open Go.RowKit
theorem info_one {w : World} (u : Value) (t : Nat) : ∀ j x, ([u] : List Value)[j]? = some x → (w.alloc (.cells #[u] t)).cell? ((⟨w.heap.size, 0, none⟩ : Addr).add j) = some x := by
  intro j x hx
  match j, hx with
  | 0, hx => simp at hx; subst hx; simp [Addr.add, World.cell?_alloc_new]
def Scanned (W : World) (l : List UInt8) (e : Ending) (w' : World) : Prop :=
  ∃ v us, e = .returned (.tuple #[v, .int .i64 ((scanV l).2 : Nat)]) ∧ Rs W.heap.size w' v us (scanV l).1 ∧ Below W.heap.size W w'
/-- How far a scan has come. -/
def Come (l : List UInt8) (L : List (List UInt8)) (E : Nat) : Prop := scanV l = (L ++ (scanV (l.drop E)).1, E + (scanV (l.drop E)).2) ∧ L.length ≤ E ∧ E ≤ l.length
theorem Come.step {l p : List UInt8} {L : List (List UInt8)} {E : Nat} (h : Come l L E) (hf : firstV (l.drop E) = some p) : Come l (L ++ [p]) (E + (p.length + 12)) := by
  obtain ⟨h1, h2, h3⟩ := h
  have hl := first_len hf
  rw [List.length_drop] at hl
  refine ⟨?_, by rw [List.length_append]; simp; omega, by omega⟩
  rw [h1, scan_some hf, List.drop_drop]
  simp only [List.append_assoc, List.singleton_append, Prod.mk.injEq, true_and]
  omega
theorem Come.done {l : List UInt8} {L : List (List UInt8)} {E : Nat} (h : Come l L E) (hf : firstV (l.drop E) = none) : scanV l = (L, E) := by
  rw [h.1, scan_none hf]; simp
set_option maxRecDepth 100000 in
theorem scan_any {w : World} {ao : Option Addr} {n cap : Nat} {l : List UInt8} (h : SB w.heap.size w ao n cap l) (hroom : n ≤ 1000000) : Calls Try.prog 17 #[.slice ao n cap] w (Scanned w l) := by
  obtain ⟨i0, hi, hz0, hz1, hz2⟩ := info_parts info22
  have hlen := h.len
  have hle := h.le
  have hmax := h.max
  unfold maxLen at hmax
  have HN := Lib.hid hlen
  have H := Lib.hid h
  clear h hlen
  go_enter Try.func17, Try.ntmps17
  go_wp2
  go_loopw [4, 5] (fun r e wr => ∃ (L : List (List UInt8)) (E : Nat) (us : List Value), e = .int .i64 E ∧ E ≤ n ∧ Hid (Rs w.heap.size wr r us L) ∧ Hid (Come l L E) ∧ Hid (Below w.heap.size w wr)) (fun _ e _ => n - (intOf e).toNat)
  case atStart => exact ⟨[], 0, [], rfl, Nat.zero_le _, Rs.nil _ _, ⟨by simp, Nat.le_refl _, Nat.zero_le _⟩, Below.refl _ _⟩
  case round =>
    obtain ⟨L, E, us, rfl, hE, HR, HC, HW⟩ := hrel
    by_cases hcap : cap = E
    · have hnE : n = E := by omega
      subst hnE
      have hd : l.drop n = [] := List.drop_of_length_le (by rw [← HN.out]; exact Nat.le_refl _)
      have HF := Lib.hid (show firstV (l.drop n) = none from by rw [hd]; exact first_short (by simp))
      have HE : Hid (SB w.heap.size w ao 0 0 (l.drop n)) := ⟨by rw [hd]; simp, by omega, by decide, fun _ => rfl, .inl (by omega)⟩
      clear hd
      subst hcap
      go_wp2_with (first
        | (go_at_call 26; (with_reducible refine (first_no ((HE.out.below HW.out).mono HW.out.size) HF.out).mono ?_); rintro e w1 ⟨rfl, hb⟩; have HB := Lib.hid hb; clear hb))
      go_ret2
      exact ⟨u4, us, by rw [HC.out.done HF.out]; exact rfl, by rw [HC.out.done HF.out]; exact HR.out.below HB.out, HW.out.trans (HB.out.mono HW.out.size)⟩
    · have HE := Lib.hid ((H.out.end_ (lo := E) (m := n - E) (c := cap - E) hE rfl rfl))
      have HN2 := HN.out
      cases hf : firstV (l.drop E) with
      | none =>
        have HF := Lib.hid hf
        clear hf HN2
        go_wp2_with (first
          | (go_at_call 26; (with_reducible refine (first_no ((HE.out.below HW.out).mono HW.out.size) HF.out).mono ?_); rintro e w1 ⟨rfl, hb⟩; have HB := Lib.hid hb; clear hb))
        go_ret2
        exact ⟨u4, us, by rw [HC.out.done HF.out]; exact rfl, by rw [HC.out.done HF.out]; exact HR.out.below HB.out, HW.out.trans (HB.out.mono HW.out.size)⟩
      | some p =>
        have HF := Lib.hid hf
        have hp := (first_some hf).1
        have hpl := first_len hf
        rw [List.length_drop, ← HN2] at hpl
        have hL := HC.out.2.1
        clear hf HN2
        go_wp2_with (first
          | (go_at_call 26; (with_reducible refine (first_yes ((HE.out.below HW.out).mono HW.out.size) HF.out).mono ?_); rintro e w1 ⟨po, pc, rfl, hp1, hb⟩; have HP := Lib.hid (hp1.below hb); have HB := Lib.hid hb; clear hb hp1)
          | (go_at_call 27; (with_reducible refine (clone_any HP.out HB.out.size (by omega)).mono ?_); rintro e w2 ⟨u, rfl, hu, hb⟩; obtain ⟨uo, uc, rfl⟩ := own_slice hu; have HU := Lib.hid hu; have HB2 := Lib.hid (HB.out.trans (hb.mono HB.out.size)); have HS2 := Lib.hid hb.size; clear hu hb)
          | (at_builtin; refine wpList_append_own_at _ rfl (.tmp 19) (.tmp 22) 33 rfl w.heap.size 22 i0 (.slice none 0 0) 1 24 under33 hi hz0 hz1 hz2 rfl (by decide) u4 L.length us rfl (((HR.out.below HB2.out).own).alloc _) ⟨w2.heap.size, 0, none⟩ 1 1 [.slice uo p.length uc] rfl rfl (info_one _ 22) (by intro x hx; simp at hx; subst hx; rfl) (by unfold maxLen; omega) (by omega) (by have := HW.out.size; have := HB2.out.size; simp; omega) ?_; intro v3 w3 hown' hgrow _ hat; have HO3 := Lib.hid hown'; have HG3 := Lib.hid hgrow; clear hown' hgrow hat))
        go_roundw
        case rel =>
          have hs := HW.out.size
          have hs2 := HB2.out.size
          refine ⟨L ++ [p], E + (p.length + 12), us ++ [.slice uo p.length uc], by go_num, by omega, ?_, HC.out.step HF.out, ?_⟩
          · exact HR.out.snoc (C := w1.heap.size) ((HB2.out).trans ((below1 w2 _).mono hs2)) (HU.out.alloc _) HB.out.size hs HO3.out HG3.out
          · exact (HW.out.trans (HB2.out.mono hs)).trans ((((below1 w2 _).mono (Nat.le_trans hs hs2))).grown HG3.out (by simp; omega) (fun k hk => ((HR.out.own.lt k hk).1)))
        case measure => simp [intOf]; omega
end Go.Proofs.Ytcpncmdnefemmaa
