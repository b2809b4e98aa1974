/- raceref3.Put. Conditions: texts of at most 64 bytes are written. -/
import Derived.Test.YtjkfcmadoeifgaaGreatDoorPw
import Derived.Deep.Onto
import Derived.Deep.AppendLies
namespace Go.Proofs.YtjkfcmadoeifgaaGreatDoor
open Go.RowKit
theorem own_form {w : World} {base : Nat} {v : Value} {l : List UInt8} (h : w.ownsRow base 5 1 v l.length (bys l)) (hl : 0 < l.length) : ∃ g cap, v = .slice (some ⟨g, 0, none⟩) l.length cap := by
  rcases h.2 with ⟨_, h0⟩ | ⟨g, cap, cur, e, _⟩
  · omega
  · exact ⟨g, cap, e⟩
theorem At.grown {B : Nat} {w w' : World} {b : Nat} {v : DV} {r : Value} {n : Nat} {xs : List Value} (h : At w b v) (hg : w.grownBy w' r.ownBlock) (ho : w.ownsRow B 5 1 r n xs) (hb : b < B) : At w' b v :=
  h.fr ((Fr.refl (fun k => r.ownBlock = some k) w).grown hg (fun _ _ h => h)) (fun e => by have := (ho.lt b e).1; omega)
theorem w8_eight (k u : Nat) : (w8 k u).length = k := by
  induction k generalizing u with
  | zero => rfl
  | succ k ih => show (w8 k (u / 256)).length + 1 = _; rw [ih]
set_option maxRecDepth 100000 in
theorem rput_any (v : DV) (hx : v.x < 18446744073709551616) (w : World) :
    Calls Tryz.prog 24 #[vagg v] w fun e w' => ∃ v', e = .returned v' ∧ Own w w' v' (putV v) := by
  have hst := run_stf
  obtain ⟨i0, hi, hz0, hz1, hz2⟩ := info_parts info5
  have HM := fun w => Lib.hid (rmay_any v w)
  have hsh := fun h => may_shape (v := v) h
  have hvl : ∀ n : Int, -9223372036854775808 ≤ n → n < 9223372036854775808 → (vb (foldN n)).length ≤ 10 := fun n h1 h2 => vb_len_le _ (foldN_lt h1 h2)
  unfold putV
  obtain ⟨k, x, s⟩ := v
  have HA := Lib.hid (at_new w ⟨k, x, s⟩)
  have H1 := Lib.hid (below1 w (vobj ⟨k, x, s⟩))
  simp only at hx hsh ⊢
  cases hm : mayV ⟨k, x, s⟩
  · rw [hm] at HM
    rw [if_neg (by simp), show vb (foldN 0) = [0] by rw [show foldN 0 = 0 from rfl, vb_lo (by decide)]; rfl]
    clear hm hsh hx hvl
    go_enter Tryz.func24, Tryz.ntmps24
    go_wp2_with (first
      | (go_at_call 34; ((with_reducible refine (HM _).out.mono ?_); rintro e w1 ⟨rfl, hb⟩; have HA1 := Lib.hid (HA.out.below hb HA.out.lt); have HB1 := Lib.hid (H1.out.trans (hb.mono H1.out.size)); have az := HA1.out.lt; have a0 := HA1.out.c0; have a1 := HA1.out.c1; have a2 := HA1.out.c2; dsimp only at a0 a1 a2; clear hb)))
    go_ret
    exact ⟨_, rfl, World.ownsRow_lit (e := 5) (size := 1) w1 #[.int .u8 0] 1 HB1.out.size (by decide) rfl, HB1.out.alloc HB1.out.size _⟩
  · rw [hm] at HM
    rw [if_pos rfl]
    obtain ⟨hk, hl⟩ := hsh hm
    clear hm hsh
    rcases hk with rfl | rfl | rfl
    · rw [if_neg (by decide), if_neg (by decide)]
      have HI := fun w => Lib.hid (refInt_any 0 (by decide) (by decide) w)
      clear hvl
      go_enter Tryz.func24, Tryz.ntmps24
      go_wp2_with (first
        | (go_at_call 34; ((with_reducible refine (HM _).out.mono ?_); rintro e w1 ⟨rfl, hb⟩; have HA1 := Lib.hid (HA.out.below hb HA.out.lt); have HB1 := Lib.hid (H1.out.trans (hb.mono H1.out.size)); have az := HA1.out.lt; have a0 := HA1.out.c0; have a1 := HA1.out.c1; have a2 := HA1.out.c2; dsimp only at a0 a1 a2; clear hb))
        | (go_at_call 54; ((with_reducible refine (HI _).out.mono ?_); rintro e w2 ⟨v1, rfl, ho, hb⟩; have HO1 := Lib.hid (ho.mono (base' := w.heap.size + 1) az); have HA2 := Lib.hid (HA1.out.below hb HA1.out.lt); have HB2 := Lib.hid (HB1.out.trans (hb.mono HB1.out.size)); have a0 := HA2.out.c0; have a1 := HA2.out.c1; have a2 := HA2.out.c2; dsimp only at a0 a1 a2; clear ho hb)))
      go_ret
      exact ⟨_, rfl, HO1.out.mono (Nat.le_succ _), HB2.out⟩
    · rw [if_pos rfl]
      have HI := fun w => Lib.hid (refInt_any 1 (by decide) (by decide) w)
      have HF := fun w => Lib.hid (refFloat_any x hx w)
      have hv1 := hvl 1 (by omega) (by omega)
      have hpos : 0 < (w8 8 (canon x)).length := by rw [w8_eight]; decide
      have hml : (w8 8 (canon x)).length ≤ 8 := Nat.le_of_eq (w8_eight _ _)
      generalize w8 8 (canon x) = M at *
      generalize vb (foldN 1) = L at *
      clear hvl
      go_enter Tryz.func24, Tryz.ntmps24
      go_wp2_with (first
        | (go_at_call 34; ((with_reducible refine (HM _).out.mono ?_); rintro e w1 ⟨rfl, hb⟩; have HA1 := Lib.hid (HA.out.below hb HA.out.lt); have HB1 := Lib.hid (H1.out.trans (hb.mono H1.out.size)); have az := HA1.out.lt; have a0 := HA1.out.c0; have a1 := HA1.out.c1; have a2 := HA1.out.c2; dsimp only at a0 a1 a2; clear hb))
        | (go_at_call 54; ((with_reducible refine (HI _).out.mono ?_); rintro e w2 ⟨v1, rfl, ho, hb⟩; have HO1 := Lib.hid (ho.mono (base' := w.heap.size + 1) az); have HA2 := Lib.hid (HA1.out.below hb HA1.out.lt); have HB2 := Lib.hid (HB1.out.trans (hb.mono HB1.out.size)); have a0 := HA2.out.c0; have a1 := HA2.out.c1; have a2 := HA2.out.c2; dsimp only at a0 a1 a2; clear ho hb))
        | (go_at_call 55; ((with_reducible refine (HF _).out.mono ?_); rintro e w3 ⟨v2, rfl, ho, hb⟩; obtain ⟨g2, cap2, rfl⟩ := own_form ho hpos; have HN := Lib.hid (ho.cells (g := g2) rfl); have HO2 := Lib.hid (own_below HO1.out hb); have HA3 := Lib.hid (HA2.out.below hb HA2.out.lt); have HB3 := Lib.hid (HB2.out.trans (hb.mono HB2.out.size)); have b0 := HA3.out.c0; have b2 := HA3.out.c2; dsimp only at b0 b2; clear ho hb))
        | (at_builtin; refine wpList_append_own _ rfl (.tmp 14) (.tmp 17) 32 rfl (w.heap.size + 1) 5 i0 (.int .u8 0) 1 1 under31 hi hz0 hz1 hz2 rfl (by decide) _ _ _ rfl HO2.out ⟨g2, 0, none⟩ M.length cap2 (bys M) rfl (by rw [bys_length, Nat.mul_one]) HN.out (bys_one _) (by unfold maxLen; omega) (by omega) (Nat.le_of_lt_succ (Nat.lt_succ_of_le (Nat.le_trans HA3.out.lt (Nat.le_refl _)))) ?_; intro v3 w4 hown' hgrow _; have HO4 := Lib.hid hown'; have HB4 := Lib.hid (HB3.out.grown hgrow HB3.out.size (fun k hk => Nat.le_of_lt (HO2.out.lt k hk).1)); have c0 := (HA3.out.grown hgrow HO2.out (Nat.lt_succ_self _)).c0; dsimp only at c0; clear hown' hgrow))
      go_ret
      refine ⟨_, rfl, ?_, HB4.out⟩
      have := HO4.out.mono (Nat.le_succ w.heap.size)
      rw [List.length_append, bys_append]
      exact this
    · rw [if_neg (by decide), if_pos rfl]
      have HI := fun w => Lib.hid (refInt_any 2 (by decide) (by decide) w)
      have HF := fun w => Lib.hid (refText_any s (by omega) w)
      have hv1 := hvl 2 (by omega) (by omega)
      have hv2 := hvl (s.length : Int) (by omega) (by omega)
      have hpos : 0 < (vb (foldN (s.length : Int)) ++ s).length := by rw [List.length_append]; have := vb_pos (foldN (s.length : Int)); omega
      have hml : (vb (foldN (s.length : Int)) ++ s).length ≤ 80 := by rw [List.length_append]; omega
      generalize vb (foldN (s.length : Int)) ++ s = M at *
      generalize vb (foldN 2) = L at *
      clear hvl hv2
      go_enter Tryz.func24, Tryz.ntmps24
      go_wp2_with (first
        | (go_at_call 34; ((with_reducible refine (HM _).out.mono ?_); rintro e w1 ⟨rfl, hb⟩; have HA1 := Lib.hid (HA.out.below hb HA.out.lt); have HB1 := Lib.hid (H1.out.trans (hb.mono H1.out.size)); have az := HA1.out.lt; have a0 := HA1.out.c0; have a1 := HA1.out.c1; have a2 := HA1.out.c2; dsimp only at a0 a1 a2; clear hb))
        | (go_at_call 54; ((with_reducible refine (HI _).out.mono ?_); rintro e w2 ⟨v1, rfl, ho, hb⟩; have HO1 := Lib.hid (ho.mono (base' := w.heap.size + 1) az); have HA2 := Lib.hid (HA1.out.below hb HA1.out.lt); have HB2 := Lib.hid (HB1.out.trans (hb.mono HB1.out.size)); have a0 := HA2.out.c0; have a1 := HA2.out.c1; have a2 := HA2.out.c2; dsimp only at a0 a1 a2; clear ho hb))
        | (go_at_call 56; ((with_reducible refine (HF _).out.mono ?_); rintro e w3 ⟨v2, rfl, ho, hb⟩; obtain ⟨g2, cap2, rfl⟩ := own_form ho hpos; have HN := Lib.hid (ho.cells (g := g2) rfl); have HO2 := Lib.hid (own_below HO1.out hb); have HA3 := Lib.hid (HA2.out.below hb HA2.out.lt); have HB3 := Lib.hid (HB2.out.trans (hb.mono HB2.out.size)); have b0 := HA3.out.c0; have b2 := HA3.out.c2; dsimp only at b0 b2; clear ho hb))
        | (at_builtin; refine wpList_append_own _ rfl (.tmp 22) (.tmp 25) 32 rfl (w.heap.size + 1) 5 i0 (.int .u8 0) 1 1 under31 hi hz0 hz1 hz2 rfl (by decide) _ _ _ rfl HO2.out ⟨g2, 0, none⟩ M.length cap2 (bys M) rfl (by rw [bys_length, Nat.mul_one]) HN.out (bys_one _) (by unfold maxLen; omega) (by omega) (Nat.le_of_lt_succ (Nat.lt_succ_of_le (Nat.le_trans HA3.out.lt (Nat.le_refl _)))) ?_; intro v3 w4 hown' hgrow _; have HO4 := Lib.hid hown'; have HB4 := Lib.hid (HB3.out.grown hgrow HB3.out.size (fun k hk => Nat.le_of_lt (HO2.out.lt k hk).1)); have c0 := (HA3.out.grown hgrow HO2.out (Nat.lt_succ_self _)).c0; dsimp only at c0; clear hown' hgrow))
      go_ret
      refine ⟨_, rfl, ?_, HB4.out⟩
      have := HO4.out.mono (Nat.le_succ w.heap.size)
      rw [List.length_append, bys_append]
      exact this
end Go.Proofs.YtjkfcmadoeifgaaGreatDoor
