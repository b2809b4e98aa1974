/- racelaw5.joined: frames of few rows, one behind the other. Conditions: at most 100 rows of at most 20000 bytes. -/
import Derived.Test.YtcpncmdnefemmaaU
namespace Go.Proofs.Ytcpncmdnefemmaa
open Go.RowKit
set_option maxRecDepth 100000 in
theorem joined_any {B : Nat} {w : World} {ao : Option Addr} {n cap : Nat} {L : List (List UInt8)} (h : RB B w ao n cap L) (hB : B ≤ w.heap.size) (h1 : L.length ≤ 100) (h2 : wei L ≤ 20000) :
    Calls Try.prog 21 #[.slice ao n cap] w fun e w' => ∃ v, e = .returned (.tuple #[v, .bool true]) ∧ w'.ownsRow w.heap.size 5 1 v (joinV L).length (bys (joinV L)) ∧ Below w.heap.size w w' := by
  have hlt := h.lt
  have hl := h.len
  have H := Lib.hid h
  have HL := Lib.hid hl
  have hj : (joinV L).length ≤ 21200 := by have := join_len h2; omega
  have hm := Lib.hid (wei_mem h2)
  have hn : n ≤ 100 := by omega
  clear h hl h1
  go_enter Try.func21, Try.ntmps21
  go_wp2
  go_loopw [4, 5] (fun v i wr => ∃ k : Nat, k ≤ n ∧ i = .int .i64 k ∧ Hid (wr.ownsRow w.heap.size 5 1 v (joinV (L.take k)).length (bys (joinV (L.take k)))) ∧ Hid (Below w.heap.size w wr)) (fun _ i _ => n - (intOf i).toNat)
  case atStart => exact ⟨0, Nat.zero_le _, rfl, World.ownsRow_nil _ _ _ _, Below.refl _ _⟩
  case round =>
    obtain ⟨k, hk, rfl, HO, HW⟩ := hrel
    by_cases hkn : k < n
    · obtain ⟨b, off, ro, c, d, rfl, c1, s1⟩ := (H.out.below (HW.out.mono hB)).at_ hkn
      have hs := HW.out.size
      have HS := Lib.hid (s1.mono (Nat.le_trans hB hs))
      have hlen := s1.len
      have hl20 : (L.getD k []).length ≤ 20000 := hm.out _ (by
        rw [List.getD_eq_getElem?_getD, List.getElem?_eq_getElem (by rw [← HL.out]; exact hkn)]
        exact List.getElem_mem _)
      have HJ := Lib.hid (join_take (l := L) (k := k) (by rw [← HL.out]; exact hkn))
      have hjk := join_take_le L k
      have hb : b < wr.heap.size := World.block_lt_of_cell? _ _ c1
      clear s1
      generalize hp : L.getD k [] = p at *
      generalize joinV (L.take k) = J at *
      have HP := Lib.hid hlen
      have hc20 : c ≤ 20000 := by omega
      clear hp hlen
      go_wp2_with (first
        | (go_at_call 12; (with_reducible refine (frame_any HS.out (by omega)).mono ?_); rintro e w1 ⟨f, rfl, ho1, hb1⟩; obtain ⟨fo, fcap, rfl⟩ := own_slice ho1; have hfl := frame_length p; rw [← HP.out] at hfl; rw [hfl] at ho1 ⊢; clear hfl; have c2 := (hb1.cell (p := ⟨b, off + k, none⟩) hb).trans c1; have HF := Lib.hid (own_sb ho1); have HB1 := Lib.hid hb1; clear ho1 hb1)
        | (at_builtin; refine wpList_append_sb (wanted_none rfl _) (.tmp 35) (.tmp 36) rfl rfl (own_below HO.out HB1.out) (Nat.le_trans hs HB1.out.size) rfl HF.out (by omega) ?_; intro v2 w2 ho2 hg2; have HB2 := Lib.hid (HB1.out.mono hs |>.trans (own_below_grown (own_below HO.out HB1.out) (Nat.le_trans hs HB1.out.size) hg2)); have HO2 := Lib.hid ho2; clear ho2 hg2))
      go_roundw
      case rel => exact ⟨k + 1, by omega, by go_num, by rw [HJ.out]; exact HO2, HW.out.trans HB2.out⟩
      case measure => simp [intOf]; omega
    · obtain rfl : k = n := by omega
      have HE := Lib.hid (show L.take k = L from List.take_of_length_le (by rw [← HL.out]; exact Nat.le_refl _))
      rw [HE.out] at HO
      go_wp2
      go_ret2
      exact ⟨_, rfl, HO.out, HW.out⟩
end Go.Proofs.Ytcpncmdnefemmaa
