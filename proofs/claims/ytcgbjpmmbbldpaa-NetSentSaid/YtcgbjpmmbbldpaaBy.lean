/- raceref.CopyBytes, Bytes. Conditions: bytes as a row holds them. -/
import Derived.Test.YtcgbjpmmbbldpaaMa
namespace Go.Proofs.Ytcgbjpmmbbldpaa
open Go.ChangeShapes Go.WideShapes Go.ChangeAt Go.RowKit Go.Deep
theorem cell_one_new (w : World) (v : Value) (t : TypeId) : ∀ j u, [v][j]? = some u → (w.alloc (.cells #[v] t)).cell? ((⟨w.heap.size, 0, none⟩ : Addr).add j) = some u := by
  intro j u hu
  match j, hu with
  | 0, hu => obtain rfl := Option.some.inj hu; rw [Addr.add_lit]; simp [World.cell?_alloc_new]
  | j + 1, hu => cases hu
set_option maxRecDepth 100000 in
theorem copyBytes_any {C : Nat → Prop} {w : World} {ao : Option Addr} {n cap : Nat} {l : List UInt8} (h : SB C w ao n cap l) (hroom : n ≤ 140737488355328) :
    Calls Try.prog 24 #[.slice ao n cap] w fun e w' => ∃ ao' cap', e = .returned (.slice ao' n cap') ∧ w'.ownsRow w.heap.size 5 1 (.slice ao' n cap') n (bys l) ∧ Below w.heap.size w w' := by
  obtain ⟨i0, hi, hz0, hz1, hz2⟩ := info_parts info5
  have hn := h.len
  have HN := Lib.hid hn
  have H := Lib.hid h
  clear h hn
  go_enter Try.func24, Try.ntmps24
  go_wp2
  go_loopw [3, 4] (fun b i wr => ∃ j : Nat, j ≤ n ∧ i = .int .i64 j ∧ Hid (wr.ownsRow w.heap.size 5 1 b j (bys (l.take j))) ∧ Hid (Below w.heap.size w wr)) (fun _ i _ => n - (intOf i).toNat)
  case atStart => exact ⟨0, by omega, rfl, World.ownsRow_nil _ _ _ _, Below.refl _ _⟩
  case round =>
    obtain ⟨j, hj, rfl, HO, HW⟩ := hrel
    by_cases hjn : j < n
    · rcases (H.out.below HW.out).cells with h0 | ⟨b, off, rfl, _, hcell⟩
      · omega
      have hc := hcell j hjn
      have HT : Hid (l.take (j + 1) = l.take j ++ [l.getD j 0]) := by
        have : j < l.length := by rw [← HN.out]; exact hjn
        rw [List.take_add_one, List.getD_eq_getElem?_getD, List.getElem?_eq_getElem this]; exact rfl
      clear hcell
      generalize l.getD j 0 = y at *
      generalize l.take j = M at *
      have hs := HW.out.size
      have ho := HO.out
      go_wp2_with (first
        | (at_builtin; refine wpList_append_own_at _ rfl (.tmp 11) (.tmp 16) 33 rfl w.heap.size 5 i0 (.int .u8 0) 1 1 under33 hi hz0 hz1 hz2 rfl (by decide) _ _ _ rfl (ho.alloc _) ⟨wr.heap.size, 0, none⟩ 1 1 (bys [y]) rfl rfl (cell_one_new _ _ _) (bys_one _) (by unfold maxLen; omega) (by omega) (by simp; omega) ?_; intro v2 w2 hown' hgrow _ hat; have HO2 := Lib.hid hown'; have HW2 := Lib.hid ((HW.out.alloc hs _).grown hgrow (by simp; omega) (fun k hk => (ho.lt k hk).1)); clear hown' hgrow hat))
      go_roundw
      case rel => exact ⟨j + 1, by omega, by go_num, by rw [HT.out, bys_append]; exact HO2, HW2⟩
      case measure => simp [intOf]; omega
    · obtain rfl : j = n := by omega
      have ho := HO.out
      rw [List.take_of_length_le (by rw [← HN.out]; omega)] at ho
      have HO3 := Lib.hid ho
      obtain ⟨ao', cap', rfl⟩ := own_slice ho
      clear ho HO
      go_wp2
      go_ret
      exact ⟨_, _, rfl, HO3.out, HW.out⟩
theorem bytes_any {B C : Nat → Prop} {w : World} {ao bo : Option Addr} {n cap m bcap : Nat} {l k : List UInt8} (h : SB B w ao n cap l) (h2 : SB C w bo m bcap k) :
    Calls Try.prog 22 #[.slice ao n cap, .slice bo m bcap] w fun e w' => e = .returned (.bool (l == k)) ∧ w = w' := by
  have c1 := h.conv
  have c2 := h2.conv
  clear h h2
  go_enter Try.func22, Try.ntmps22
  go_wp2
  go_ret
  exact ⟨rfl, rfl⟩
end Go.Proofs.Ytcgbjpmmbbldpaa
