/- What is scanned of any bytes, framed again, is their beginning up to where the scan ended, and what is left there begins with no frame: racelaw5.FrameAgain answers true and leaves its argument as it was. Conditions: none. -/
import Derived.Test.YtcpncmdnefemmaaW
import Derived.Test.YtcpncmdnefemmaaZ
import Derived.Deep.QuietTactic
import Derived.BigQuiet
namespace Go.Proofs.Ytcpncmdnefemmaa
open Go.ChangeShapes Go.WideShapes Go.ChangeAt Go.RowKit
theorem frameAgain_long (w : World) (ao : Option Addr) (n cap : Nat) (h : 20000 < n) :
    Calls Try.prog 8 #[.slice ao n cap] w fun e w' => e = .returned (.bool true) ∧ Below w.heap.size w w' := by
  have HB := Lib.hid (Below.refl w.heap.size w)
  have hgt : (20000 : Int) < (n : Int) := by omega
  clear h
  go_enter Try.func8, Try.ntmps8
  go_wp2_with (first
    | (go_at_call 10; (with_reducible refine (first_any _).mono ?_); rintro e w1 ⟨rfl, hb⟩; have HB := Lib.hid (HB.out.trans (hb.mono HB.out.size)); clear hb))
  go_ret
  exact ⟨rfl, HB.out⟩
set_option maxHeartbeats 2000000 in
set_option maxRecDepth 100000 in
theorem frameAgain_walk (w : World) (ao : Option Addr) (cap : Nat) (l : List UInt8) (h : SB w.heap.size w ao l.length cap l) :
    Calls Try.prog 8 #[.slice ao l.length cap] w fun e w' => e = .returned (.bool true) ∧ Below w.heap.size w w' := by
  by_cases hn : 20000 < l.length
  · exact frameAgain_long w ao _ cap hn
  have HB := Lib.hid (Below.refl w.heap.size w)
  obtain ⟨g1, g2, g3, g4⟩ := scan_small (b := l)
  have hcap := h.le
  have H := Lib.hid h
  generalize hN : l.length = n at *
  have HN := Lib.hid hN
  generalize hS : scanV l = S at *
  obtain ⟨L, m⟩ := S
  simp only at g1 g2 g3 g4
  have HS := Lib.hid hS
  have G1 := Lib.hid g1
  have G2 := Lib.hid g2
  have G4 := Lib.hid g4
  have hJ : (joinV L).length = m := by rw [← g2, List.length_take]; omega
  have hLm : L.length ≤ m := by
    rw [← hJ]
    clear hS g1 g2 g4 HS G1 G2 G4 hJ
    induction L with
    | nil => simp
    | cons p r ih => rw [join_cons, List.length_append, frame_length, List.length_cons]; omega
  have HJ := Lib.hid hJ
  clear g1 g2 g4 h hN hS hJ
  go_enter Try.func8, Try.ntmps8
  go_wp2_with (first
    | (go_at_call 10; (with_reducible refine (first_any _).mono ?_); rintro e w1 ⟨rfl, hb⟩; have HB := Lib.hid (HB.out.trans (hb.mono HB.out.size)); clear hb)
    | (go_at_call 17; (with_reducible refine (scan_any ((H.out.below HB.out).mono HB.out.size) (by omega)).mono ?_); rintro e w2 ⟨v2, us, rfl, hr2, hb⟩; rw [HS.out] at hr2 ⊢; obtain ⟨ro, rc, rfl⟩ := own_slice hr2.own; have HR := Lib.hid (hr2.rb rfl); have HS2 := Lib.hid hb.size; have HB := Lib.hid (HB.out.trans (hb.mono HB.out.size)); clear hr2 hb))
  generalize hq : L.length = q at *
  have HQ := Lib.hid hq
  clear hq
  go_loopw [5, 6] (fun v i wr => ∃ k : Nat, k ≤ q ∧ i = .int .i64 k ∧ Hid (wr.ownsRow w2.heap.size 5 1 v (joinV (L.take k)).length (bys (joinV (L.take k)))) ∧ Hid (Below w2.heap.size w2 wr)) (fun _ i _ => q - (intOf i).toNat)
  case atStart => exact ⟨0, Nat.zero_le _, rfl, World.ownsRow_nil _ _ _ _, Below.refl _ _⟩
  case round =>
    obtain ⟨k, hk, rfl, HO, HW⟩ := hrel
    by_cases hkq : k < q
    · obtain ⟨b, off, ro', c, d, rfl, c1, s1⟩ := (HR.out.below HW.out).at_ hkq
      have hs := HW.out.size
      have HSS := Lib.hid (s1.mono hs)
      have hlen := s1.len
      have hl20 : (L.getD k []).length ≤ 262144 := get_small G1.out k
      have HJ2 := Lib.hid (join_take (l := L) (k := k) (by rw [HQ.out]; exact hkq))
      have hjk := join_take_le L k
      rw [HJ.out] at hjk
      clear s1
      generalize hp : L.getD k [] = p at *
      generalize joinV (L.take k) = J at *
      have HP := Lib.hid hlen
      have hc20 : c ≤ 262144 := by omega
      clear hp hlen
      go_wp2_with (first
        | (go_at_call 12; (with_reducible refine (frame_any HSS.out (by omega)).mono ?_); rintro e w3 ⟨f, rfl, ho1, hb1⟩; obtain ⟨fo, fcap, rfl⟩ := own_slice ho1; have hfl := frame_length p; rw [← HP.out] at hfl; rw [hfl] at ho1 ⊢; clear hfl; have HF := Lib.hid (own_sb ho1); have HB1 := Lib.hid hb1; clear ho1 hb1)
        | (at_builtin; refine wpList_append_sb (wanted_none rfl _) (.tmp 38) (.tmp 39) rfl rfl (own_below HO.out HB1.out) (Nat.le_trans hs HB1.out.size) rfl HF.out (by omega) ?_; intro v2 w4 ho2 hg2; have HB2 := Lib.hid (HB1.out.mono hs |>.trans (own_below_grown (own_below HO.out HB1.out) (Nat.le_trans hs HB1.out.size) hg2)); have HO2 := Lib.hid ho2; clear ho2 hg2))
      go_roundw
      case rel => exact ⟨k + 1, by omega, by go_num, by rw [HJ2.out]; exact HO2, HW.out.trans HB2.out⟩
      case measure => simp [intOf]; omega
    · obtain rfl : k = q := by omega
      have HE := Lib.hid (show L.take k = L from List.take_of_length_le (by rw [HQ.out]; exact Nat.le_refl _))
      rw [HE.out] at HO
      obtain ⟨oo, oc, rfl⟩ := own_slice HO.out
      have HOS := Lib.hid (own_sb HO.out)
      have HBW := Lib.hid (HB.out.trans (HW.out.mono HB.out.size))
      have HT := Lib.hid (H.out.top (hi := m) g3)
      have hbb : (joinV L == l.take m) = true := by rw [G2.out]; exact beq_self_eq_true _
      have HBB := Lib.hid hbb
      clear hbb
      have hE : ∃ eo en ec, Hid (SB w.heap.size w eo en ec (l.drop m)) ∧ en ≤ 20000 ∧ ((cap = m ∧ eo = ao ∧ en = 0 ∧ ec = 0) ∨ (cap ≠ m ∧ eo = Option.map (fun x => x.add m) ao ∧ en = n - m ∧ ec = cap - m)) := by
        by_cases hcm : cap = m
        · have hd : l.drop m = [] := List.drop_of_length_le (by have := HN.out; omega)
          exact ⟨ao, 0, 0, ⟨by rw [hd]; simp, by omega, by decide, fun _ => rfl, .inl (by omega)⟩, by omega, .inl ⟨hcm, rfl, rfl, rfl⟩⟩
        · exact ⟨_, _, _, H.out.end_ (lo := m) (m := n - m) (c := cap - m) g3 rfl rfl, by omega, .inr ⟨hcm, rfl, rfl, rfl⟩⟩
      obtain ⟨eo, en, ec, HX, hen, hcase⟩ := hE
      have HZ : ∀ (e : Ending) (w' W : World), Scanned W (l.drop m) e w' → ∃ so sc, e = .returned (.tuple #[.slice so 0 sc, .int .i64 0]) ∧ Below W.heap.size W w' := by
        rintro e w' W ⟨v, us, rfl, hr, hb⟩
        rw [G4.out] at hr ⊢
        obtain ⟨so, sc, rfl⟩ := own_slice hr.own
        exact ⟨so, sc, rfl, hb⟩
      rcases hcase with ⟨rfl, rfl, rfl, rfl⟩ | ⟨hcm, rfl, rfl, rfl⟩
      all_goals
        go_wp2_with (first
          | (go_at_call 16; (with_reducible refine (bytes_any HOS.out (HT.out.below HBW.out)).mono ?_); rw [HBB.out]; rintro e w9 ⟨rfl, rfl⟩)
          | (go_at_call 17; (with_reducible refine (scan_any ((HX.out.below HBW.out).mono HBW.out.size) (by omega)).mono ?_); rintro e w5 hsc; obtain ⟨so, sc, rfl, hb⟩ := HZ _ _ _ hsc; have HBW := Lib.hid (HBW.out.trans (hb.mono HBW.out.size)); clear hb hsc)
          | (go_at_call 10; (with_reducible refine (first_any _).mono ?_); rintro e w4 ⟨rfl, hb⟩; have HBW := Lib.hid (HBW.out.trans (hb.mono HBW.out.size)); clear hb))
        go_ret
        exact ⟨rfl, HBW.out⟩

set_option maxRecDepth 100000 in
theorem frameAgain_lifted (os : Os) (started : os.Started) (H : Type) (enc : TypeId × Value → H) :
    ReturnsInHanded {} Try.checked os 8 .any (Rows.frameAgainSpec.pre6 enc Try.prog Try.f8 [] false) (Rows.frameAgainSpec.post enc Try.prog Try.f8 false true false false) := by
  refine returnsInHanded_of_change (C := Try.checked) own started (by kernel_rfl) Try.func8
    (ChangeSpec.witness6 (enc := enc) (C := Try.checked) false ⟨#[], #[.slice none 0 0], []⟩ 8 (by kernel_rfl) (by kernel_rfl) (by kernel_rfl) (by kernel_rfl)) ?_
  intro W base args ds gs before hval0 hW _ _
  have hval : ∀ (j : Nat) t v, Try.f8.params[j]? = some t → args[j]? = some v → Value.okWide Try.prog W .any base t v := hval0
  have hW' := hW
  obtain ⟨p, q, hA0, hV, rfl, hfz, hnd⟩ := hW
  have hA : DataW.TrodAll enc Try.prog W 0 (fun _ => true) true Try.f8.params.toList args.toList ds p := hA0
  rw [Try.params8] at hA hval
  obtain ⟨v0, d0, rfl, rfl, h0⟩ := trodAll_one hA
  obtain ⟨b0, len0, cap0, rfl⟩ := okWide_slice Try.underlying22 (hval 0 22 v0 rfl rfl)
  have k0 := h0
  obtain ⟨fuel0, g0⟩ := h0
  obtain ⟨rfl, rfl⟩ := trodVars_none hV
  clear hA0 hval0
  simp only [List.append_nil] at hW'
  have hlt : ∀ x ∈ p, x.block < W.heap.size := fun x hx => hW'.lt x (by simpa using hx)
  obtain ⟨ao0, c0, xs0, hv0, r0⟩ := open_sb g0
  refine Calls.mono (?walk : Calls _ _ _ _ fun e w' => e = .returned (.bool true) ∧ Below W.heap.size W w') fun e W' ⟨he, hw⟩ => ?_
  case walk =>
    rw [hv0]
    exact frameAgain_walk W ao0 c0 xs0 r0
  subst he
  exact ⟨_, rfl, post_of_below (pa := p) (pv := []) hW' (fun _ _ _ => trodAll_mk1 (shut_bool Try.underlying4 _)) (fun sp hsp => trodAll_mk1 (WideElems.Trod_stays laidOut (by kernel_rfl) (of_decide_eq_true (by kernel_rfl)) k0 (fun x hx => hw.same (hlt x (by first | (simp [hx]; done) | exact nomatch hx))) (fun x hx => hsp x (by first | (simp [hx]; done) | exact nomatch hx)))) (fun _ _ => rfl) (by simp) hw (ok_one (by kernel_rfl) rfl (okWide_bool_mk Try.underlying4 _))⟩
/-- THE ROW. -/
theorem frameAgain_holds : Rows.FrameAgainSaid :=
  OpenClaim.holds_of_wide 8 Try.f8 rfl rfl rfl rfl rfl rfl rfl ⟨rfl, rfl, rfl, rfl, rfl⟩ rfl rfl rfl rfl rfl (by kernel_rfl) Try.func8 (by kernel_rfl)
    (of_decide_eq_true (by kernel_rfl)) (by unfold Func.isWrapper; first | (rw [if_pos (by decide +kernel)]; kernel_rfl) | (rw [if_neg (by decide +kernel)]; exact ⟨rfl, rfl⟩))
    (fun os started H enc _ => frameAgain_lifted os started H enc)
#print axioms frameAgain_holds
end Go.Proofs.Ytcpncmdnefemmaa
