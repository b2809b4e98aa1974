/- racelaw6.DiskRefused answers true, whatever came in: an operation that is refused, but for a fall, changes no file; behind a fall nothing is done till the crash. Conditions: none. -/
import Derived.Test.YtefgnlijgomgpaaX
namespace Go.Proofs.Ytefgnlijgomgpaa
open Go.ChangeShapes Go.WideShapes Go.ChangeAt Go.RowKit
set_option maxRecDepth 100000 in
set_option maxHeartbeats 8000000 in
theorem diskRefused_walk (w : World) (ao : Option Addr) (cap : Nat) (l : List Do) (hl : SO (fun k => k < w.heap.size) w ao l.length cap l) :
    Calls Try.prog 6 #[.slice ao l.length cap] w fun e w' => e = .returned (.bool true) ∧ Below w.heap.size w w' := by
  have H := Lib.hid hl
  have hlt := hl.lt
  clear hl
  cases hf : fewB l with
  | false =>
    have HF := Lib.hid hf
    clear hf
    go_enter Try.func6, Try.ntmps6
    go_wp2_with (first
      | (go_at_call 10; (with_reducible refine (first_any _).mono ?_); rintro e w1 ⟨rfl, hb⟩; have HB1 := Lib.hid hb; clear hb)
      | (go_at_call 11; (with_reducible refine (few_any (H.out.below HB1.out)).mono ?_); rw [HF.out]; rintro e w2 ⟨rfl, hb⟩; have HB2 := Lib.hid (HB1.out.trans (hb.mono HB1.out.size)); clear hb))
    go_ret
    exact ⟨rfl, HB2.out.trans (HB1.out.mono HB2.out.size)⟩
  | true =>
    have HF := Lib.hid hf
    have hsm := few_small hf (H.out.wf)
    have hlen := (few_yes hf).1
    have HSM := Lib.hid hsm
    clear hf hsm
    go_enter Try.func6, Try.ntmps6
    go_wp2_with (first
      | (go_at_call 10; (with_reducible refine (first_any _).mono ?_); rintro e w1 ⟨rfl, hb⟩; have HB1 := Lib.hid hb; clear hb)
      | (go_at_call 11; (with_reducible refine (few_any (H.out.below HB1.out)).mono ?_); rw [HF.out]; rintro e w2 ⟨rfl, hb⟩; have HB2 := Lib.hid (HB1.out.trans (hb.mono HB1.out.size)); clear hb))
    go_wp2_with (go_at_call 12; (with_reducible refine (one_new _).mono ?_); rintro e w3 ⟨rfl, hd, hb⟩; have HD3 := Lib.hid hd; have HB3 := Lib.hid hb; clear hd hb)
    go_loopw [4] (fun i wr => ∃ k : Nat, k ≤ l.length ∧ i = .int .i64 k ∧ Hid (OneD w2.heap.size wr (w2.heap.size + 1) (Dk.zero.run (l.take k))) ∧ Hid (Below w2.heap.size w2 wr)) (fun i _ => l.length - (intOf i).toNat)
    case atStart => exact ⟨0, Nat.zero_le _, rfl, HD3, HB3⟩
    case round =>
      obtain ⟨k, hk, rfl, HD, HB⟩ := hrel
      by_cases hlt2 : k < l.length
      · have hso := (H.out.below (HB2.out.trans (HB.out.mono HB2.out.size)))
        obtain ⟨b, off, rfl, hbw, ho, _⟩ := hso.at_ hlt2
        have hsk := HSM.out _ (List.getElem_mem hlt2)
        have HRT := Lib.hid (run_take Dk.zero l hlt2)
        generalize l[k] = p at *
        have c0 := ho.c0
        have c1 := ho.c1
        have c2 := ho.c2
        have c3 := ho.c3
        obtain ⟨a4, k4, c4, s4⟩ := ho.c4
        obtain ⟨a5, k5, c5, s5⟩ := ho.c5
        have HSK := Lib.hid hsk
        have HS4 := Lib.hid s4
        have HS5 := Lib.hid s5
        clear hsk s4 s5 ho hso
        have HDN := Lib.hid (done_take l k (by omega))
        generalize Dk.zero.run (l.take k) = d at *
        obtain ⟨S, hS, hkk⟩ := HD.out
        have HK0 := Lib.hid (hkk.below (below1 wr (.cells #[.int .i64 p.kind, .int .i64 p.n, nmv p.name, nmv p.to, .slice a4 p.b.length k4, .slice a5 p.picks.length k5] 36)))
        have HSL := Lib.hid hkk.lt
        have HSW := Lib.hid hS
        have HDJ : Hid (∀ k, (fun k => k < w.heap.size) k → ¬ S k) := fun j hj e => by have := hS j e; have := HB2.out.size; simp only at hj; omega
        have hbx := heap_alloc_new wr (.cells #[.int .i64 p.kind, .int .i64 p.n, nmv p.name, nmv p.to, .slice a4 p.b.length k4, .slice a5 p.picks.length k5] 36)
        have ob0 : Hid ((wr.alloc (.cells #[.int .i64 p.kind, .int .i64 p.n, nmv p.name, nmv p.to, .slice a4 p.b.length k4, .slice a5 p.picks.length k5] 36)).cell? ⟨wr.heap.size, 0, none⟩ = some (.int .i64 p.kind)) := by unfold Hid World.cell?; rw [hbx]; rfl
        have ob1 : Hid ((wr.alloc (.cells #[.int .i64 p.kind, .int .i64 p.n, nmv p.name, nmv p.to, .slice a4 p.b.length k4, .slice a5 p.picks.length k5] 36)).cell? ⟨wr.heap.size, 1, none⟩ = some (.int .i64 p.n)) := by unfold Hid World.cell?; rw [hbx]; rfl
        have ob2 : Hid ((wr.alloc (.cells #[.int .i64 p.kind, .int .i64 p.n, nmv p.name, nmv p.to, .slice a4 p.b.length k4, .slice a5 p.picks.length k5] 36)).cell? ⟨wr.heap.size, 2, none⟩ = some (nmv p.name)) := by unfold Hid World.cell?; rw [hbx]; rfl
        have ob3 : Hid ((wr.alloc (.cells #[.int .i64 p.kind, .int .i64 p.n, nmv p.name, nmv p.to, .slice a4 p.b.length k4, .slice a5 p.picks.length k5] 36)).cell? ⟨wr.heap.size, 3, none⟩ = some (nmv p.to)) := by unfold Hid World.cell?; rw [hbx]; rfl
        have ob4 : Hid ((wr.alloc (.cells #[.int .i64 p.kind, .int .i64 p.n, nmv p.name, nmv p.to, .slice a4 p.b.length k4, .slice a5 p.picks.length k5] 36)).cell? ⟨wr.heap.size, 4, none⟩ = some (.slice a4 p.b.length k4)) := by unfold Hid World.cell?; rw [hbx]; rfl
        have ob5 : Hid ((wr.alloc (.cells #[.int .i64 p.kind, .int .i64 p.n, nmv p.name, nmv p.to, .slice a4 p.b.length k4, .slice a5 p.picks.length k5] 36)).cell? ⟨wr.heap.size, 5, none⟩ = some (.slice a5 p.picks.length k5)) := by unfold Hid World.cell?; rw [hbx]; rfl
        clear hS hkk HD hbx
        obtain ⟨d', hd'⟩ : ∃ d', (d.step p).1 = d' := ⟨_, rfl⟩
        obtain ⟨q, hq⟩ : ∃ q, (d.step p).2 = q := ⟨_, rfl⟩
        have HD' := Lib.hid hd'
        have HE := Lib.hid hq
        have hk300 : k ≤ 300 := by omega
        by_cases h8 : p.kind = 8
        · have b8 : (p.kind == 8) = true := by simp [h8]
          have HOFF : Hid (d.off = d.off) := rfl
          clear h8 hd' hq
          go_wp2_with (first
            | (go_at_call 23; (with_reducible refine (dk_files HK0.out).mono ?_); rintro e w3a ⟨fo, fc, rfl, hs, hb⟩; have HSF1 := Lib.hid hs; have HK1 := Lib.hid (HK0.out.below hb); have HB31 := Lib.hid hb; have oc0 := (hb.cell (p := ⟨wr.heap.size, 0, none⟩) (by simp)).trans ob0.out; have oc1 := (hb.cell (p := ⟨wr.heap.size, 1, none⟩) (by simp)).trans ob1.out; have oc2 := (hb.cell (p := ⟨wr.heap.size, 2, none⟩) (by simp)).trans ob2.out; have oc3 := (hb.cell (p := ⟨wr.heap.size, 3, none⟩) (by simp)).trans ob3.out; have oc4 := (hb.cell (p := ⟨wr.heap.size, 4, none⟩) (by simp)).trans ob4.out; have oc5 := (hb.cell (p := ⟨wr.heap.size, 5, none⟩) (by simp)).trans ob5.out; clear hs hb)
            | (go_at_call 25; (with_reducible refine (dk_down HK1.out).mono ?_); rintro e w' ⟨rfl, rfl⟩)
            | (go_at_call 26; (with_reducible refine (dk_writes HK1.out).mono ?_); rintro e w' ⟨rfl, rfl⟩)
            | (go_at_call 13; (refine (does_any HK1.out HSK.out (HS4.out.below ((below1 wr (.cells #[.int .i64 p.kind, .int .i64 p.n, nmv p.name, nmv p.to, .slice a4 p.b.length k4, .slice a5 p.picks.length k5] 36)).trans (HB31.out.mono (by simp)))) (HS5.out.below ((below1 wr (.cells #[.int .i64 p.kind, .int .i64 p.n, nmv p.name, nmv p.to, .slice a4 p.b.length k4, .slice a5 p.picks.length k5] 36)).trans (HB31.out.mono (by simp)))) HDJ.out HDN.out).mono ?_); rintro e w4 ⟨rfl, hd, ht⟩; rw [HE.out]; rw [HD'.out] at hd; have HK2 := Lib.hid hd; have HT4 := Lib.hid ht; have HSF2 := Lib.hid (HSF1.out.tn ht (fun j hj e => by have := HK0.out.lt j e; omega)); have oc0 := ht.cell (p := ⟨wr.heap.size, 0, none⟩) oc0 (fun e => by have := HSL.out _ e; simp at this); clear oc1 oc2 oc3 oc4 oc5 hd ht))
          all_goals
            go_roundw
            case rel =>
              have hb1 : Below w2.heap.size wr w4 := (((below1 wr (.cells #[.int .i64 p.kind, .int .i64 p.n, nmv p.name, nmv p.to, .slice a4 p.b.length k4, .slice a5 p.picks.length k5] 36)).trans (HB31.out.mono (by simp))).mono HB.out.size).trans (HT4.out.below (Nat.le_trans HB.out.size (by have := HB31.out.size; simp at this; omega)) HSW.out)
              have hg : ∀ j, Gw S w3a w4 j → w2.heap.size ≤ j := fun j hj => Gw.lo HSW.out (Nat.le_trans HB.out.size (by have := HB31.out.size; simp at this; omega)) hj
              exact ⟨k + 1, by omega, by go_num, by rw [HRT.out, HD'.out]; exact ⟨_, hg, HK2.out⟩, HB.out.trans hb1⟩
            case measure => simp [intOf]; omega

        have b8 : (p.kind == 8) = false := by simpa using h8
        have hdn : d.done < 9223372036854775807 := HDN.out
        cases hoff : d.off with
        | true =>
          obtain ⟨s1, s2⟩ := step_off hoff h8
          obtain rfl : d' = d := hd'.symm.trans s1
          have HOFF := Lib.hid hoff
          by_cases h1 : 1 ≤ p.kind
          · by_cases h6 : p.kind ≤ 6
            · obtain rfl : q = 12 := hq.symm.trans (s2 h1 h6)
              clear h8 hd' hq s1 s2 hoff
              go_wp2_with (first
                | (go_at_call 23; (with_reducible refine (dk_files HK0.out).mono ?_); rintro e w3a ⟨fo, fc, rfl, hs, hb⟩; have HSF1 := Lib.hid hs; have HK1 := Lib.hid (HK0.out.below hb); have HB31 := Lib.hid hb; have oc0 := (hb.cell (p := ⟨wr.heap.size, 0, none⟩) (by simp)).trans ob0.out; have oc1 := (hb.cell (p := ⟨wr.heap.size, 1, none⟩) (by simp)).trans ob1.out; have oc2 := (hb.cell (p := ⟨wr.heap.size, 2, none⟩) (by simp)).trans ob2.out; have oc3 := (hb.cell (p := ⟨wr.heap.size, 3, none⟩) (by simp)).trans ob3.out; have oc4 := (hb.cell (p := ⟨wr.heap.size, 4, none⟩) (by simp)).trans ob4.out; have oc5 := (hb.cell (p := ⟨wr.heap.size, 5, none⟩) (by simp)).trans ob5.out; clear hs hb)
                | (go_at_call 25; (with_reducible refine (dk_down HK1.out).mono ?_); rintro e w' ⟨rfl, rfl⟩; rw [HOFF.out])
                | (go_at_call 26; (with_reducible refine (dk_writes HK1.out).mono ?_); rintro e w' ⟨rfl, rfl⟩)
                | (go_at_call 13; (refine (does_any HK1.out HSK.out (HS4.out.below ((below1 wr (.cells #[.int .i64 p.kind, .int .i64 p.n, nmv p.name, nmv p.to, .slice a4 p.b.length k4, .slice a5 p.picks.length k5] 36)).trans (HB31.out.mono (by simp)))) (HS5.out.below ((below1 wr (.cells #[.int .i64 p.kind, .int .i64 p.n, nmv p.name, nmv p.to, .slice a4 p.b.length k4, .slice a5 p.picks.length k5] 36)).trans (HB31.out.mono (by simp)))) HDJ.out HDN.out).mono ?_); rintro e w4 ⟨rfl, hd, ht⟩; rw [HE.out]; rw [HD'.out] at hd; have HK2 := Lib.hid hd; have HT4 := Lib.hid ht; have HSF2 := Lib.hid (HSF1.out.tn ht (fun j hj e => by have := HK0.out.lt j e; omega)); have oc0 := ht.cell (p := ⟨wr.heap.size, 0, none⟩) oc0 (fun e => by have := HSL.out _ e; simp at this); clear oc1 oc2 oc3 oc4 oc5 hd ht)
                | (go_at_call 23; (with_reducible refine (dk_files HK2.out).mono ?_); rintro e w5 ⟨go, gc, rfl, hs, hb⟩; have HSF5 := Lib.hid hs; have HSF25 := Lib.hid (HSF2.out.below hb); have HK5 := Lib.hid (HK2.out.below hb); have HB5 := Lib.hid hb; have hz5 : wr.heap.size < w4.heap.size := Nat.lt_of_lt_of_le (Nat.lt_of_lt_of_le (by simp) HB31.out.size) HT4.out.size; have oc0 := (hb.cell (p := ⟨wr.heap.size, 0, none⟩) hz5).trans oc0; clear hs hb)
                | (go_at_call 22; (with_reducible refine (same_any HSF5.out HSF25.out).mono ?_); rintro e w6 ⟨rfl, q, hq⟩; rw [sameF_self]; have hb6 : Below w5.heap.size w5 w6 := below_of_drew hq; have hz6 : wr.heap.size < w5.heap.size := Nat.lt_of_lt_of_le hz5 HB5.out.size; have oc0 := (hb6.cell (p := ⟨wr.heap.size, 0, none⟩) hz6).trans oc0; have HK6 := Lib.hid (HK5.out.below hb6); have HB6 := Lib.hid hb6; clear hb6 hq)
                | (go_at_call 25; (with_reducible refine (dk_down HK6.out).mono ?_); rintro e w' ⟨rfl, rfl⟩; rw [HOFF.out])
                | (go_at_call 26; (with_reducible refine (dk_writes HK6.out).mono ?_); rintro e w' ⟨rfl, rfl⟩; skip))
              all_goals
                go_roundw
                case rel =>
                  have hb1 : Below w2.heap.size wr w4 := (((below1 wr (.cells #[.int .i64 p.kind, .int .i64 p.n, nmv p.name, nmv p.to, .slice a4 p.b.length k4, .slice a5 p.picks.length k5] 36)).trans (HB31.out.mono (by simp))).mono HB.out.size).trans (HT4.out.below (Nat.le_trans HB.out.size (by have := HB31.out.size; simp at this; omega)) HSW.out)
                  have hg : ∀ j, Gw S w3a w4 j → w2.heap.size ≤ j := fun j hj => Gw.lo HSW.out (Nat.le_trans HB.out.size (by have := HB31.out.size; simp at this; omega)) hj
                  have hb2 : Below w2.heap.size wr w6 := hb1.trans ((HB5.out.trans (HB6.out.mono HB5.out.size)).mono (Nat.le_trans HB.out.size hb1.size))
                  exact ⟨k + 1, by omega, by go_num, by rw [HRT.out, HD'.out]; exact ⟨_, hg, HK6.out⟩, HB.out.trans hb2⟩
                case measure => simp [intOf]; omega

            · have h7 : ¬ p.kind ≤ 6 := h6
              clear h8 hd' hq s1 s2 hoff
              go_wp2_with (first
                | (go_at_call 23; (with_reducible refine (dk_files HK0.out).mono ?_); rintro e w3a ⟨fo, fc, rfl, hs, hb⟩; have HSF1 := Lib.hid hs; have HK1 := Lib.hid (HK0.out.below hb); have HB31 := Lib.hid hb; have oc0 := (hb.cell (p := ⟨wr.heap.size, 0, none⟩) (by simp)).trans ob0.out; have oc1 := (hb.cell (p := ⟨wr.heap.size, 1, none⟩) (by simp)).trans ob1.out; have oc2 := (hb.cell (p := ⟨wr.heap.size, 2, none⟩) (by simp)).trans ob2.out; have oc3 := (hb.cell (p := ⟨wr.heap.size, 3, none⟩) (by simp)).trans ob3.out; have oc4 := (hb.cell (p := ⟨wr.heap.size, 4, none⟩) (by simp)).trans ob4.out; have oc5 := (hb.cell (p := ⟨wr.heap.size, 5, none⟩) (by simp)).trans ob5.out; clear hs hb)
                | (go_at_call 25; (with_reducible refine (dk_down HK1.out).mono ?_); rintro e w' ⟨rfl, rfl⟩; rw [HOFF.out])
                | (go_at_call 26; (with_reducible refine (dk_writes HK1.out).mono ?_); rintro e w' ⟨rfl, rfl⟩)
                | (go_at_call 13; (refine (does_any HK1.out HSK.out (HS4.out.below ((below1 wr (.cells #[.int .i64 p.kind, .int .i64 p.n, nmv p.name, nmv p.to, .slice a4 p.b.length k4, .slice a5 p.picks.length k5] 36)).trans (HB31.out.mono (by simp)))) (HS5.out.below ((below1 wr (.cells #[.int .i64 p.kind, .int .i64 p.n, nmv p.name, nmv p.to, .slice a4 p.b.length k4, .slice a5 p.picks.length k5] 36)).trans (HB31.out.mono (by simp)))) HDJ.out HDN.out).mono ?_); rintro e w4 ⟨rfl, hd, ht⟩; rw [HE.out]; rw [HD'.out] at hd; have HK2 := Lib.hid hd; have HT4 := Lib.hid ht; have HSF2 := Lib.hid (HSF1.out.tn ht (fun j hj e => by have := HK0.out.lt j e; omega)); have oc0 := ht.cell (p := ⟨wr.heap.size, 0, none⟩) oc0 (fun e => by have := HSL.out _ e; simp at this); clear oc1 oc2 oc3 oc4 oc5 hd ht)
                | (go_at_call 23; (with_reducible refine (dk_files HK2.out).mono ?_); rintro e w5 ⟨go, gc, rfl, hs, hb⟩; have HSF5 := Lib.hid hs; have HSF25 := Lib.hid (HSF2.out.below hb); have HK5 := Lib.hid (HK2.out.below hb); have HB5 := Lib.hid hb; have hz5 : wr.heap.size < w4.heap.size := Nat.lt_of_lt_of_le (Nat.lt_of_lt_of_le (by simp) HB31.out.size) HT4.out.size; have oc0 := (hb.cell (p := ⟨wr.heap.size, 0, none⟩) hz5).trans oc0; clear hs hb)
                | (go_at_call 22; (with_reducible refine (same_any HSF5.out HSF25.out).mono ?_); rintro e w6 ⟨rfl, q, hq⟩; rw [sameF_self]; have hb6 : Below w5.heap.size w5 w6 := below_of_drew hq; have hz6 : wr.heap.size < w5.heap.size := Nat.lt_of_lt_of_le hz5 HB5.out.size; have oc0 := (hb6.cell (p := ⟨wr.heap.size, 0, none⟩) hz6).trans oc0; have HK6 := Lib.hid (HK5.out.below hb6); have HB6 := Lib.hid hb6; clear hb6 hq)
                | (go_at_call 25; (with_reducible refine (dk_down HK6.out).mono ?_); rintro e w' ⟨rfl, rfl⟩; rw [HOFF.out])
                | (go_at_call 26; (with_reducible refine (dk_writes HK6.out).mono ?_); rintro e w' ⟨rfl, rfl⟩; skip))
              all_goals
                go_roundw
                case rel =>
                  have hb1 : Below w2.heap.size wr w4 := (((below1 wr (.cells #[.int .i64 p.kind, .int .i64 p.n, nmv p.name, nmv p.to, .slice a4 p.b.length k4, .slice a5 p.picks.length k5] 36)).trans (HB31.out.mono (by simp))).mono HB.out.size).trans (HT4.out.below (Nat.le_trans HB.out.size (by have := HB31.out.size; simp at this; omega)) HSW.out)
                  have hg : ∀ j, Gw S w3a w4 j → w2.heap.size ≤ j := fun j hj => Gw.lo HSW.out (Nat.le_trans HB.out.size (by have := HB31.out.size; simp at this; omega)) hj
                  have hb2 : Below w2.heap.size wr w6 := hb1.trans ((HB5.out.trans (HB6.out.mono HB5.out.size)).mono (Nat.le_trans HB.out.size hb1.size))
                  exact ⟨k + 1, by omega, by go_num, by rw [HRT.out, HD'.out]; exact ⟨_, hg, HK6.out⟩, HB.out.trans hb2⟩
                case measure => simp [intOf]; omega

          · have h7 : ¬ 1 ≤ p.kind := h1
            clear h8 hd' hq s1 s2 hoff
            go_wp2_with (first
              | (go_at_call 23; (with_reducible refine (dk_files HK0.out).mono ?_); rintro e w3a ⟨fo, fc, rfl, hs, hb⟩; have HSF1 := Lib.hid hs; have HK1 := Lib.hid (HK0.out.below hb); have HB31 := Lib.hid hb; have oc0 := (hb.cell (p := ⟨wr.heap.size, 0, none⟩) (by simp)).trans ob0.out; have oc1 := (hb.cell (p := ⟨wr.heap.size, 1, none⟩) (by simp)).trans ob1.out; have oc2 := (hb.cell (p := ⟨wr.heap.size, 2, none⟩) (by simp)).trans ob2.out; have oc3 := (hb.cell (p := ⟨wr.heap.size, 3, none⟩) (by simp)).trans ob3.out; have oc4 := (hb.cell (p := ⟨wr.heap.size, 4, none⟩) (by simp)).trans ob4.out; have oc5 := (hb.cell (p := ⟨wr.heap.size, 5, none⟩) (by simp)).trans ob5.out; clear hs hb)
              | (go_at_call 25; (with_reducible refine (dk_down HK1.out).mono ?_); rintro e w' ⟨rfl, rfl⟩; rw [HOFF.out])
              | (go_at_call 26; (with_reducible refine (dk_writes HK1.out).mono ?_); rintro e w' ⟨rfl, rfl⟩)
              | (go_at_call 13; (refine (does_any HK1.out HSK.out (HS4.out.below ((below1 wr (.cells #[.int .i64 p.kind, .int .i64 p.n, nmv p.name, nmv p.to, .slice a4 p.b.length k4, .slice a5 p.picks.length k5] 36)).trans (HB31.out.mono (by simp)))) (HS5.out.below ((below1 wr (.cells #[.int .i64 p.kind, .int .i64 p.n, nmv p.name, nmv p.to, .slice a4 p.b.length k4, .slice a5 p.picks.length k5] 36)).trans (HB31.out.mono (by simp)))) HDJ.out HDN.out).mono ?_); rintro e w4 ⟨rfl, hd, ht⟩; rw [HE.out]; rw [HD'.out] at hd; have HK2 := Lib.hid hd; have HT4 := Lib.hid ht; have HSF2 := Lib.hid (HSF1.out.tn ht (fun j hj e => by have := HK0.out.lt j e; omega)); have oc0 := ht.cell (p := ⟨wr.heap.size, 0, none⟩) oc0 (fun e => by have := HSL.out _ e; simp at this); clear oc1 oc2 oc3 oc4 oc5 hd ht)
              | (go_at_call 23; (with_reducible refine (dk_files HK2.out).mono ?_); rintro e w5 ⟨go, gc, rfl, hs, hb⟩; have HSF5 := Lib.hid hs; have HSF25 := Lib.hid (HSF2.out.below hb); have HK5 := Lib.hid (HK2.out.below hb); have HB5 := Lib.hid hb; have hz5 : wr.heap.size < w4.heap.size := Nat.lt_of_lt_of_le (Nat.lt_of_lt_of_le (by simp) HB31.out.size) HT4.out.size; have oc0 := (hb.cell (p := ⟨wr.heap.size, 0, none⟩) hz5).trans oc0; clear hs hb)
              | (go_at_call 22; (with_reducible refine (same_any HSF5.out HSF25.out).mono ?_); rintro e w6 ⟨rfl, q, hq⟩; rw [sameF_self]; have hb6 : Below w5.heap.size w5 w6 := below_of_drew hq; have hz6 : wr.heap.size < w5.heap.size := Nat.lt_of_lt_of_le hz5 HB5.out.size; have oc0 := (hb6.cell (p := ⟨wr.heap.size, 0, none⟩) hz6).trans oc0; have HK6 := Lib.hid (HK5.out.below hb6); have HB6 := Lib.hid hb6; clear hb6 hq)
              | (go_at_call 25; (with_reducible refine (dk_down HK6.out).mono ?_); rintro e w' ⟨rfl, rfl⟩; rw [HOFF.out])
              | (go_at_call 26; (with_reducible refine (dk_writes HK6.out).mono ?_); rintro e w' ⟨rfl, rfl⟩; skip))
            all_goals
              go_roundw
              case rel =>
                have hb1 : Below w2.heap.size wr w4 := (((below1 wr (.cells #[.int .i64 p.kind, .int .i64 p.n, nmv p.name, nmv p.to, .slice a4 p.b.length k4, .slice a5 p.picks.length k5] 36)).trans (HB31.out.mono (by simp))).mono HB.out.size).trans (HT4.out.below (Nat.le_trans HB.out.size (by have := HB31.out.size; simp at this; omega)) HSW.out)
                have hg : ∀ j, Gw S w3a w4 j → w2.heap.size ≤ j := fun j hj => Gw.lo HSW.out (Nat.le_trans HB.out.size (by have := HB31.out.size; simp at this; omega)) hj
                have hb2 : Below w2.heap.size wr w6 := hb1.trans ((HB5.out.trans (HB6.out.mono HB5.out.size)).mono (Nat.le_trans HB.out.size hb1.size))
                exact ⟨k + 1, by omega, by go_num, by rw [HRT.out, HD'.out]; exact ⟨_, hg, HK6.out⟩, HB.out.trans hb2⟩
              case measure => simp [intOf]; omega

        | false =>
          have ho := out_step (p := p) hoff
          have HOFF := Lib.hid hoff
          by_cases hq0 : q = 0
          · subst hq0
            have hdo := ho.done hq
            rw [hd'] at hdo
            by_cases h1 : 1 ≤ p.kind
            · by_cases h6 : p.kind ≤ 6
              · have HN := Lib.hid (hdo h1 h6)
                clear h8 hd' hq ho hdo hoff
                go_wp2_with (first
                  | (go_at_call 23; (with_reducible refine (dk_files HK0.out).mono ?_); rintro e w3a ⟨fo, fc, rfl, hs, hb⟩; have HSF1 := Lib.hid hs; have HK1 := Lib.hid (HK0.out.below hb); have HB31 := Lib.hid hb; have oc0 := (hb.cell (p := ⟨wr.heap.size, 0, none⟩) (by simp)).trans ob0.out; have oc1 := (hb.cell (p := ⟨wr.heap.size, 1, none⟩) (by simp)).trans ob1.out; have oc2 := (hb.cell (p := ⟨wr.heap.size, 2, none⟩) (by simp)).trans ob2.out; have oc3 := (hb.cell (p := ⟨wr.heap.size, 3, none⟩) (by simp)).trans ob3.out; have oc4 := (hb.cell (p := ⟨wr.heap.size, 4, none⟩) (by simp)).trans ob4.out; have oc5 := (hb.cell (p := ⟨wr.heap.size, 5, none⟩) (by simp)).trans ob5.out; clear hs hb)
                  | (go_at_call 25; (with_reducible refine (dk_down HK1.out).mono ?_); rintro e w' ⟨rfl, rfl⟩; rw [HOFF.out])
                  | (go_at_call 26; (with_reducible refine (dk_writes HK1.out).mono ?_); rintro e w' ⟨rfl, rfl⟩)
                  | (go_at_call 13; (refine (does_any HK1.out HSK.out (HS4.out.below ((below1 wr (.cells #[.int .i64 p.kind, .int .i64 p.n, nmv p.name, nmv p.to, .slice a4 p.b.length k4, .slice a5 p.picks.length k5] 36)).trans (HB31.out.mono (by simp)))) (HS5.out.below ((below1 wr (.cells #[.int .i64 p.kind, .int .i64 p.n, nmv p.name, nmv p.to, .slice a4 p.b.length k4, .slice a5 p.picks.length k5] 36)).trans (HB31.out.mono (by simp)))) HDJ.out HDN.out).mono ?_); rintro e w4 ⟨rfl, hd, ht⟩; rw [HE.out]; rw [HD'.out] at hd; have HK2 := Lib.hid hd; have HT4 := Lib.hid ht; have HSF2 := Lib.hid (HSF1.out.tn ht (fun j hj e => by have := HK0.out.lt j e; omega)); have oc0 := ht.cell (p := ⟨wr.heap.size, 0, none⟩) oc0 (fun e => by have := HSL.out _ e; simp at this); clear oc1 oc2 oc3 oc4 oc5 hd ht)
                  | (go_at_call 23; (with_reducible refine (dk_files HK2.out).mono ?_); rintro e w5 ⟨go, gc, rfl, hs, hb⟩; have HSF5 := Lib.hid hs; have HSF25 := Lib.hid (HSF2.out.below hb); have HK5 := Lib.hid (HK2.out.below hb); have HB5 := Lib.hid hb; have hz5 : wr.heap.size < w4.heap.size := Nat.lt_of_lt_of_le (Nat.lt_of_lt_of_le (by simp) HB31.out.size) HT4.out.size; have oc0 := (hb.cell (p := ⟨wr.heap.size, 0, none⟩) hz5).trans oc0; clear hs hb)
                  | (go_at_call 22; (with_reducible refine (same_any HSF5.out HSF25.out).mono ?_); rintro e w6 ⟨rfl, q, hq⟩; skip; have hb6 : Below w5.heap.size w5 w6 := below_of_drew hq; have hz6 : wr.heap.size < w5.heap.size := Nat.lt_of_lt_of_le hz5 HB5.out.size; have oc0 := (hb6.cell (p := ⟨wr.heap.size, 0, none⟩) hz6).trans oc0; have HK6 := Lib.hid (HK5.out.below hb6); have HB6 := Lib.hid hb6; clear hb6 hq)
                  | (go_at_call 25; (with_reducible refine (dk_down HK6.out).mono ?_); rintro e w' ⟨rfl, rfl⟩; skip)
                  | (go_at_call 26; (with_reducible refine (dk_writes HK6.out).mono ?_); rintro e w' ⟨rfl, rfl⟩; rw [HN.out]))
                all_goals
                  go_roundw
                  case rel =>
                    have hb1 : Below w2.heap.size wr w4 := (((below1 wr (.cells #[.int .i64 p.kind, .int .i64 p.n, nmv p.name, nmv p.to, .slice a4 p.b.length k4, .slice a5 p.picks.length k5] 36)).trans (HB31.out.mono (by simp))).mono HB.out.size).trans (HT4.out.below (Nat.le_trans HB.out.size (by have := HB31.out.size; simp at this; omega)) HSW.out)
                    have hg : ∀ j, Gw S w3a w4 j → w2.heap.size ≤ j := fun j hj => Gw.lo HSW.out (Nat.le_trans HB.out.size (by have := HB31.out.size; simp at this; omega)) hj
                    have hb2 : Below w2.heap.size wr w6 := hb1.trans ((HB5.out.trans (HB6.out.mono HB5.out.size)).mono (Nat.le_trans HB.out.size hb1.size))
                    exact ⟨k + 1, by omega, by go_num, by rw [HRT.out, HD'.out]; exact ⟨_, hg, HK6.out⟩, HB.out.trans hb2⟩
                  case measure => simp [intOf]; omega

              · have h7 : ¬ p.kind ≤ 6 := h6
                clear h8 hd' hq ho hdo hoff
                go_wp2_with (first
                  | (go_at_call 23; (with_reducible refine (dk_files HK0.out).mono ?_); rintro e w3a ⟨fo, fc, rfl, hs, hb⟩; have HSF1 := Lib.hid hs; have HK1 := Lib.hid (HK0.out.below hb); have HB31 := Lib.hid hb; have oc0 := (hb.cell (p := ⟨wr.heap.size, 0, none⟩) (by simp)).trans ob0.out; have oc1 := (hb.cell (p := ⟨wr.heap.size, 1, none⟩) (by simp)).trans ob1.out; have oc2 := (hb.cell (p := ⟨wr.heap.size, 2, none⟩) (by simp)).trans ob2.out; have oc3 := (hb.cell (p := ⟨wr.heap.size, 3, none⟩) (by simp)).trans ob3.out; have oc4 := (hb.cell (p := ⟨wr.heap.size, 4, none⟩) (by simp)).trans ob4.out; have oc5 := (hb.cell (p := ⟨wr.heap.size, 5, none⟩) (by simp)).trans ob5.out; clear hs hb)
                  | (go_at_call 25; (with_reducible refine (dk_down HK1.out).mono ?_); rintro e w' ⟨rfl, rfl⟩; rw [HOFF.out])
                  | (go_at_call 26; (with_reducible refine (dk_writes HK1.out).mono ?_); rintro e w' ⟨rfl, rfl⟩)
                  | (go_at_call 13; (refine (does_any HK1.out HSK.out (HS4.out.below ((below1 wr (.cells #[.int .i64 p.kind, .int .i64 p.n, nmv p.name, nmv p.to, .slice a4 p.b.length k4, .slice a5 p.picks.length k5] 36)).trans (HB31.out.mono (by simp)))) (HS5.out.below ((below1 wr (.cells #[.int .i64 p.kind, .int .i64 p.n, nmv p.name, nmv p.to, .slice a4 p.b.length k4, .slice a5 p.picks.length k5] 36)).trans (HB31.out.mono (by simp)))) HDJ.out HDN.out).mono ?_); rintro e w4 ⟨rfl, hd, ht⟩; rw [HE.out]; rw [HD'.out] at hd; have HK2 := Lib.hid hd; have HT4 := Lib.hid ht; have HSF2 := Lib.hid (HSF1.out.tn ht (fun j hj e => by have := HK0.out.lt j e; omega)); have oc0 := ht.cell (p := ⟨wr.heap.size, 0, none⟩) oc0 (fun e => by have := HSL.out _ e; simp at this); clear oc1 oc2 oc3 oc4 oc5 hd ht)
                  | (go_at_call 23; (with_reducible refine (dk_files HK2.out).mono ?_); rintro e w5 ⟨go, gc, rfl, hs, hb⟩; have HSF5 := Lib.hid hs; have HSF25 := Lib.hid (HSF2.out.below hb); have HK5 := Lib.hid (HK2.out.below hb); have HB5 := Lib.hid hb; have hz5 : wr.heap.size < w4.heap.size := Nat.lt_of_lt_of_le (Nat.lt_of_lt_of_le (by simp) HB31.out.size) HT4.out.size; have oc0 := (hb.cell (p := ⟨wr.heap.size, 0, none⟩) hz5).trans oc0; clear hs hb)
                  | (go_at_call 22; (with_reducible refine (same_any HSF5.out HSF25.out).mono ?_); rintro e w6 ⟨rfl, q, hq⟩; skip; have hb6 : Below w5.heap.size w5 w6 := below_of_drew hq; have hz6 : wr.heap.size < w5.heap.size := Nat.lt_of_lt_of_le hz5 HB5.out.size; have oc0 := (hb6.cell (p := ⟨wr.heap.size, 0, none⟩) hz6).trans oc0; have HK6 := Lib.hid (HK5.out.below hb6); have HB6 := Lib.hid hb6; clear hb6 hq)
                  | (go_at_call 25; (with_reducible refine (dk_down HK6.out).mono ?_); rintro e w' ⟨rfl, rfl⟩; skip)
                  | (go_at_call 26; (with_reducible refine (dk_writes HK6.out).mono ?_); rintro e w' ⟨rfl, rfl⟩; skip))
                all_goals
                  go_roundw
                  case rel =>
                    have hb1 : Below w2.heap.size wr w4 := (((below1 wr (.cells #[.int .i64 p.kind, .int .i64 p.n, nmv p.name, nmv p.to, .slice a4 p.b.length k4, .slice a5 p.picks.length k5] 36)).trans (HB31.out.mono (by simp))).mono HB.out.size).trans (HT4.out.below (Nat.le_trans HB.out.size (by have := HB31.out.size; simp at this; omega)) HSW.out)
                    have hg : ∀ j, Gw S w3a w4 j → w2.heap.size ≤ j := fun j hj => Gw.lo HSW.out (Nat.le_trans HB.out.size (by have := HB31.out.size; simp at this; omega)) hj
                    have hb2 : Below w2.heap.size wr w6 := hb1.trans ((HB5.out.trans (HB6.out.mono HB5.out.size)).mono (Nat.le_trans HB.out.size hb1.size))
                    exact ⟨k + 1, by omega, by go_num, by rw [HRT.out, HD'.out]; exact ⟨_, hg, HK6.out⟩, HB.out.trans hb2⟩
                  case measure => simp [intOf]; omega

            · have h7 : ¬ 1 ≤ p.kind := h1
              clear h8 hd' hq ho hdo hoff
              go_wp2_with (first
                | (go_at_call 23; (with_reducible refine (dk_files HK0.out).mono ?_); rintro e w3a ⟨fo, fc, rfl, hs, hb⟩; have HSF1 := Lib.hid hs; have HK1 := Lib.hid (HK0.out.below hb); have HB31 := Lib.hid hb; have oc0 := (hb.cell (p := ⟨wr.heap.size, 0, none⟩) (by simp)).trans ob0.out; have oc1 := (hb.cell (p := ⟨wr.heap.size, 1, none⟩) (by simp)).trans ob1.out; have oc2 := (hb.cell (p := ⟨wr.heap.size, 2, none⟩) (by simp)).trans ob2.out; have oc3 := (hb.cell (p := ⟨wr.heap.size, 3, none⟩) (by simp)).trans ob3.out; have oc4 := (hb.cell (p := ⟨wr.heap.size, 4, none⟩) (by simp)).trans ob4.out; have oc5 := (hb.cell (p := ⟨wr.heap.size, 5, none⟩) (by simp)).trans ob5.out; clear hs hb)
                | (go_at_call 25; (with_reducible refine (dk_down HK1.out).mono ?_); rintro e w' ⟨rfl, rfl⟩; rw [HOFF.out])
                | (go_at_call 26; (with_reducible refine (dk_writes HK1.out).mono ?_); rintro e w' ⟨rfl, rfl⟩)
                | (go_at_call 13; (refine (does_any HK1.out HSK.out (HS4.out.below ((below1 wr (.cells #[.int .i64 p.kind, .int .i64 p.n, nmv p.name, nmv p.to, .slice a4 p.b.length k4, .slice a5 p.picks.length k5] 36)).trans (HB31.out.mono (by simp)))) (HS5.out.below ((below1 wr (.cells #[.int .i64 p.kind, .int .i64 p.n, nmv p.name, nmv p.to, .slice a4 p.b.length k4, .slice a5 p.picks.length k5] 36)).trans (HB31.out.mono (by simp)))) HDJ.out HDN.out).mono ?_); rintro e w4 ⟨rfl, hd, ht⟩; rw [HE.out]; rw [HD'.out] at hd; have HK2 := Lib.hid hd; have HT4 := Lib.hid ht; have HSF2 := Lib.hid (HSF1.out.tn ht (fun j hj e => by have := HK0.out.lt j e; omega)); have oc0 := ht.cell (p := ⟨wr.heap.size, 0, none⟩) oc0 (fun e => by have := HSL.out _ e; simp at this); clear oc1 oc2 oc3 oc4 oc5 hd ht)
                | (go_at_call 23; (with_reducible refine (dk_files HK2.out).mono ?_); rintro e w5 ⟨go, gc, rfl, hs, hb⟩; have HSF5 := Lib.hid hs; have HSF25 := Lib.hid (HSF2.out.below hb); have HK5 := Lib.hid (HK2.out.below hb); have HB5 := Lib.hid hb; have hz5 : wr.heap.size < w4.heap.size := Nat.lt_of_lt_of_le (Nat.lt_of_lt_of_le (by simp) HB31.out.size) HT4.out.size; have oc0 := (hb.cell (p := ⟨wr.heap.size, 0, none⟩) hz5).trans oc0; clear hs hb)
                | (go_at_call 22; (with_reducible refine (same_any HSF5.out HSF25.out).mono ?_); rintro e w6 ⟨rfl, q, hq⟩; skip; have hb6 : Below w5.heap.size w5 w6 := below_of_drew hq; have hz6 : wr.heap.size < w5.heap.size := Nat.lt_of_lt_of_le hz5 HB5.out.size; have oc0 := (hb6.cell (p := ⟨wr.heap.size, 0, none⟩) hz6).trans oc0; have HK6 := Lib.hid (HK5.out.below hb6); have HB6 := Lib.hid hb6; clear hb6 hq)
                | (go_at_call 25; (with_reducible refine (dk_down HK6.out).mono ?_); rintro e w' ⟨rfl, rfl⟩; skip)
                | (go_at_call 26; (with_reducible refine (dk_writes HK6.out).mono ?_); rintro e w' ⟨rfl, rfl⟩; skip))
              all_goals
                go_roundw
                case rel =>
                  have hb1 : Below w2.heap.size wr w4 := (((below1 wr (.cells #[.int .i64 p.kind, .int .i64 p.n, nmv p.name, nmv p.to, .slice a4 p.b.length k4, .slice a5 p.picks.length k5] 36)).trans (HB31.out.mono (by simp))).mono HB.out.size).trans (HT4.out.below (Nat.le_trans HB.out.size (by have := HB31.out.size; simp at this; omega)) HSW.out)
                  have hg : ∀ j, Gw S w3a w4 j → w2.heap.size ≤ j := fun j hj => Gw.lo HSW.out (Nat.le_trans HB.out.size (by have := HB31.out.size; simp at this; omega)) hj
                  have hb2 : Below w2.heap.size wr w6 := hb1.trans ((HB5.out.trans (HB6.out.mono HB5.out.size)).mono (Nat.le_trans HB.out.size hb1.size))
                  exact ⟨k + 1, by omega, by go_num, by rw [HRT.out, HD'.out]; exact ⟨_, hg, HK6.out⟩, HB.out.trans hb2⟩
                case measure => simp [intOf]; omega

          · by_cases hq12 : q = 12
            · subst hq12
              obtain ⟨f1, f2, f3⟩ := ho.fell hq
              rw [hd'] at f1 f2 f3
              have HOF2 := Lib.hid f1
              have HN := Lib.hid f2
              rcases f3 with f3 | f3
              · have b2 : (p.kind != 2) = false := by simp [f3]
                clear h8 hd' hq ho hoff f1 f2 f3
                cases hsame : sameF (fvs d'.f) (fvs d.f) with
                | true =>
                  have HSAME := Lib.hid hsame
                  clear hsame
                  go_wp2_with (first
                    | (go_at_call 23; (with_reducible refine (dk_files HK0.out).mono ?_); rintro e w3a ⟨fo, fc, rfl, hs, hb⟩; have HSF1 := Lib.hid hs; have HK1 := Lib.hid (HK0.out.below hb); have HB31 := Lib.hid hb; have oc0 := (hb.cell (p := ⟨wr.heap.size, 0, none⟩) (by simp)).trans ob0.out; have oc1 := (hb.cell (p := ⟨wr.heap.size, 1, none⟩) (by simp)).trans ob1.out; have oc2 := (hb.cell (p := ⟨wr.heap.size, 2, none⟩) (by simp)).trans ob2.out; have oc3 := (hb.cell (p := ⟨wr.heap.size, 3, none⟩) (by simp)).trans ob3.out; have oc4 := (hb.cell (p := ⟨wr.heap.size, 4, none⟩) (by simp)).trans ob4.out; have oc5 := (hb.cell (p := ⟨wr.heap.size, 5, none⟩) (by simp)).trans ob5.out; clear hs hb)
                    | (go_at_call 25; (with_reducible refine (dk_down HK1.out).mono ?_); rintro e w' ⟨rfl, rfl⟩; rw [HOFF.out])
                    | (go_at_call 26; (with_reducible refine (dk_writes HK1.out).mono ?_); rintro e w' ⟨rfl, rfl⟩)
                    | (go_at_call 13; (refine (does_any HK1.out HSK.out (HS4.out.below ((below1 wr (.cells #[.int .i64 p.kind, .int .i64 p.n, nmv p.name, nmv p.to, .slice a4 p.b.length k4, .slice a5 p.picks.length k5] 36)).trans (HB31.out.mono (by simp)))) (HS5.out.below ((below1 wr (.cells #[.int .i64 p.kind, .int .i64 p.n, nmv p.name, nmv p.to, .slice a4 p.b.length k4, .slice a5 p.picks.length k5] 36)).trans (HB31.out.mono (by simp)))) HDJ.out HDN.out).mono ?_); rintro e w4 ⟨rfl, hd, ht⟩; rw [HE.out]; rw [HD'.out] at hd; have HK2 := Lib.hid hd; have HT4 := Lib.hid ht; have HSF2 := Lib.hid (HSF1.out.tn ht (fun j hj e => by have := HK0.out.lt j e; omega)); have oc0 := ht.cell (p := ⟨wr.heap.size, 0, none⟩) oc0 (fun e => by have := HSL.out _ e; simp at this); clear oc1 oc2 oc3 oc4 oc5 hd ht)
                    | (go_at_call 23; (with_reducible refine (dk_files HK2.out).mono ?_); rintro e w5 ⟨go, gc, rfl, hs, hb⟩; have HSF5 := Lib.hid hs; have HSF25 := Lib.hid (HSF2.out.below hb); have HK5 := Lib.hid (HK2.out.below hb); have HB5 := Lib.hid hb; have hz5 : wr.heap.size < w4.heap.size := Nat.lt_of_lt_of_le (Nat.lt_of_lt_of_le (by simp) HB31.out.size) HT4.out.size; have oc0 := (hb.cell (p := ⟨wr.heap.size, 0, none⟩) hz5).trans oc0; clear hs hb)
                    | (go_at_call 22; (with_reducible refine (same_any HSF5.out HSF25.out).mono ?_); rintro e w6 ⟨rfl, q, hq⟩; rw [HSAME.out]; have hb6 : Below w5.heap.size w5 w6 := below_of_drew hq; have hz6 : wr.heap.size < w5.heap.size := Nat.lt_of_lt_of_le hz5 HB5.out.size; have oc0 := (hb6.cell (p := ⟨wr.heap.size, 0, none⟩) hz6).trans oc0; have HK6 := Lib.hid (HK5.out.below hb6); have HB6 := Lib.hid hb6; clear hb6 hq)
                    | (go_at_call 25; (with_reducible refine (dk_down HK6.out).mono ?_); rintro e w' ⟨rfl, rfl⟩; rw [HOF2.out])
                    | (go_at_call 26; (with_reducible refine (dk_writes HK6.out).mono ?_); rintro e w' ⟨rfl, rfl⟩; rw [HN.out]))
                  all_goals
                    go_roundw
                    case rel =>
                      have hb1 : Below w2.heap.size wr w4 := (((below1 wr (.cells #[.int .i64 p.kind, .int .i64 p.n, nmv p.name, nmv p.to, .slice a4 p.b.length k4, .slice a5 p.picks.length k5] 36)).trans (HB31.out.mono (by simp))).mono HB.out.size).trans (HT4.out.below (Nat.le_trans HB.out.size (by have := HB31.out.size; simp at this; omega)) HSW.out)
                      have hg : ∀ j, Gw S w3a w4 j → w2.heap.size ≤ j := fun j hj => Gw.lo HSW.out (Nat.le_trans HB.out.size (by have := HB31.out.size; simp at this; omega)) hj
                      have hb2 : Below w2.heap.size wr w6 := hb1.trans ((HB5.out.trans (HB6.out.mono HB5.out.size)).mono (Nat.le_trans HB.out.size hb1.size))
                      exact ⟨k + 1, by omega, by go_num, by rw [HRT.out, HD'.out]; exact ⟨_, hg, HK6.out⟩, HB.out.trans hb2⟩
                    case measure => simp [intOf]; omega

                | false =>
                  have HSAME := Lib.hid hsame
                  clear hsame
                  go_wp2_with (first
                    | (go_at_call 23; (with_reducible refine (dk_files HK0.out).mono ?_); rintro e w3a ⟨fo, fc, rfl, hs, hb⟩; have HSF1 := Lib.hid hs; have HK1 := Lib.hid (HK0.out.below hb); have HB31 := Lib.hid hb; have oc0 := (hb.cell (p := ⟨wr.heap.size, 0, none⟩) (by simp)).trans ob0.out; have oc1 := (hb.cell (p := ⟨wr.heap.size, 1, none⟩) (by simp)).trans ob1.out; have oc2 := (hb.cell (p := ⟨wr.heap.size, 2, none⟩) (by simp)).trans ob2.out; have oc3 := (hb.cell (p := ⟨wr.heap.size, 3, none⟩) (by simp)).trans ob3.out; have oc4 := (hb.cell (p := ⟨wr.heap.size, 4, none⟩) (by simp)).trans ob4.out; have oc5 := (hb.cell (p := ⟨wr.heap.size, 5, none⟩) (by simp)).trans ob5.out; clear hs hb)
                    | (go_at_call 25; (with_reducible refine (dk_down HK1.out).mono ?_); rintro e w' ⟨rfl, rfl⟩; rw [HOFF.out])
                    | (go_at_call 26; (with_reducible refine (dk_writes HK1.out).mono ?_); rintro e w' ⟨rfl, rfl⟩)
                    | (go_at_call 13; (refine (does_any HK1.out HSK.out (HS4.out.below ((below1 wr (.cells #[.int .i64 p.kind, .int .i64 p.n, nmv p.name, nmv p.to, .slice a4 p.b.length k4, .slice a5 p.picks.length k5] 36)).trans (HB31.out.mono (by simp)))) (HS5.out.below ((below1 wr (.cells #[.int .i64 p.kind, .int .i64 p.n, nmv p.name, nmv p.to, .slice a4 p.b.length k4, .slice a5 p.picks.length k5] 36)).trans (HB31.out.mono (by simp)))) HDJ.out HDN.out).mono ?_); rintro e w4 ⟨rfl, hd, ht⟩; rw [HE.out]; rw [HD'.out] at hd; have HK2 := Lib.hid hd; have HT4 := Lib.hid ht; have HSF2 := Lib.hid (HSF1.out.tn ht (fun j hj e => by have := HK0.out.lt j e; omega)); have oc0 := ht.cell (p := ⟨wr.heap.size, 0, none⟩) oc0 (fun e => by have := HSL.out _ e; simp at this); clear oc1 oc2 oc3 oc4 oc5 hd ht)
                    | (go_at_call 23; (with_reducible refine (dk_files HK2.out).mono ?_); rintro e w5 ⟨go, gc, rfl, hs, hb⟩; have HSF5 := Lib.hid hs; have HSF25 := Lib.hid (HSF2.out.below hb); have HK5 := Lib.hid (HK2.out.below hb); have HB5 := Lib.hid hb; have hz5 : wr.heap.size < w4.heap.size := Nat.lt_of_lt_of_le (Nat.lt_of_lt_of_le (by simp) HB31.out.size) HT4.out.size; have oc0 := (hb.cell (p := ⟨wr.heap.size, 0, none⟩) hz5).trans oc0; clear hs hb)
                    | (go_at_call 22; (with_reducible refine (same_any HSF5.out HSF25.out).mono ?_); rintro e w6 ⟨rfl, q, hq⟩; rw [HSAME.out]; have hb6 : Below w5.heap.size w5 w6 := below_of_drew hq; have hz6 : wr.heap.size < w5.heap.size := Nat.lt_of_lt_of_le hz5 HB5.out.size; have oc0 := (hb6.cell (p := ⟨wr.heap.size, 0, none⟩) hz6).trans oc0; have HK6 := Lib.hid (HK5.out.below hb6); have HB6 := Lib.hid hb6; clear hb6 hq)
                    | (go_at_call 25; (with_reducible refine (dk_down HK6.out).mono ?_); rintro e w' ⟨rfl, rfl⟩; rw [HOF2.out])
                    | (go_at_call 26; (with_reducible refine (dk_writes HK6.out).mono ?_); rintro e w' ⟨rfl, rfl⟩; rw [HN.out]))
                  all_goals
                    go_roundw
                    case rel =>
                      have hb1 : Below w2.heap.size wr w4 := (((below1 wr (.cells #[.int .i64 p.kind, .int .i64 p.n, nmv p.name, nmv p.to, .slice a4 p.b.length k4, .slice a5 p.picks.length k5] 36)).trans (HB31.out.mono (by simp))).mono HB.out.size).trans (HT4.out.below (Nat.le_trans HB.out.size (by have := HB31.out.size; simp at this; omega)) HSW.out)
                      have hg : ∀ j, Gw S w3a w4 j → w2.heap.size ≤ j := fun j hj => Gw.lo HSW.out (Nat.le_trans HB.out.size (by have := HB31.out.size; simp at this; omega)) hj
                      have hb2 : Below w2.heap.size wr w6 := hb1.trans ((HB5.out.trans (HB6.out.mono HB5.out.size)).mono (Nat.le_trans HB.out.size hb1.size))
                      exact ⟨k + 1, by omega, by go_num, by rw [HRT.out, HD'.out]; exact ⟨_, hg, HK6.out⟩, HB.out.trans hb2⟩
                    case measure => simp [intOf]; omega

              · have HFS : Hid (sameF (fvs d'.f) (fvs d.f) = true) := by rw [f3]; exact sameF_self _
                clear h8 hd' hq ho hoff f1 f2 f3
                go_wp2_with (first
                  | (go_at_call 23; (with_reducible refine (dk_files HK0.out).mono ?_); rintro e w3a ⟨fo, fc, rfl, hs, hb⟩; have HSF1 := Lib.hid hs; have HK1 := Lib.hid (HK0.out.below hb); have HB31 := Lib.hid hb; have oc0 := (hb.cell (p := ⟨wr.heap.size, 0, none⟩) (by simp)).trans ob0.out; have oc1 := (hb.cell (p := ⟨wr.heap.size, 1, none⟩) (by simp)).trans ob1.out; have oc2 := (hb.cell (p := ⟨wr.heap.size, 2, none⟩) (by simp)).trans ob2.out; have oc3 := (hb.cell (p := ⟨wr.heap.size, 3, none⟩) (by simp)).trans ob3.out; have oc4 := (hb.cell (p := ⟨wr.heap.size, 4, none⟩) (by simp)).trans ob4.out; have oc5 := (hb.cell (p := ⟨wr.heap.size, 5, none⟩) (by simp)).trans ob5.out; clear hs hb)
                  | (go_at_call 25; (with_reducible refine (dk_down HK1.out).mono ?_); rintro e w' ⟨rfl, rfl⟩; rw [HOFF.out])
                  | (go_at_call 26; (with_reducible refine (dk_writes HK1.out).mono ?_); rintro e w' ⟨rfl, rfl⟩)
                  | (go_at_call 13; (refine (does_any HK1.out HSK.out (HS4.out.below ((below1 wr (.cells #[.int .i64 p.kind, .int .i64 p.n, nmv p.name, nmv p.to, .slice a4 p.b.length k4, .slice a5 p.picks.length k5] 36)).trans (HB31.out.mono (by simp)))) (HS5.out.below ((below1 wr (.cells #[.int .i64 p.kind, .int .i64 p.n, nmv p.name, nmv p.to, .slice a4 p.b.length k4, .slice a5 p.picks.length k5] 36)).trans (HB31.out.mono (by simp)))) HDJ.out HDN.out).mono ?_); rintro e w4 ⟨rfl, hd, ht⟩; rw [HE.out]; rw [HD'.out] at hd; have HK2 := Lib.hid hd; have HT4 := Lib.hid ht; have HSF2 := Lib.hid (HSF1.out.tn ht (fun j hj e => by have := HK0.out.lt j e; omega)); have oc0 := ht.cell (p := ⟨wr.heap.size, 0, none⟩) oc0 (fun e => by have := HSL.out _ e; simp at this); clear oc1 oc2 oc3 oc4 oc5 hd ht)
                  | (go_at_call 23; (with_reducible refine (dk_files HK2.out).mono ?_); rintro e w5 ⟨go, gc, rfl, hs, hb⟩; have HSF5 := Lib.hid hs; have HSF25 := Lib.hid (HSF2.out.below hb); have HK5 := Lib.hid (HK2.out.below hb); have HB5 := Lib.hid hb; have hz5 : wr.heap.size < w4.heap.size := Nat.lt_of_lt_of_le (Nat.lt_of_lt_of_le (by simp) HB31.out.size) HT4.out.size; have oc0 := (hb.cell (p := ⟨wr.heap.size, 0, none⟩) hz5).trans oc0; clear hs hb)
                  | (go_at_call 22; (with_reducible refine (same_any HSF5.out HSF25.out).mono ?_); rintro e w6 ⟨rfl, q, hq⟩; rw [HFS.out]; have hb6 : Below w5.heap.size w5 w6 := below_of_drew hq; have hz6 : wr.heap.size < w5.heap.size := Nat.lt_of_lt_of_le hz5 HB5.out.size; have oc0 := (hb6.cell (p := ⟨wr.heap.size, 0, none⟩) hz6).trans oc0; have HK6 := Lib.hid (HK5.out.below hb6); have HB6 := Lib.hid hb6; clear hb6 hq)
                  | (go_at_call 25; (with_reducible refine (dk_down HK6.out).mono ?_); rintro e w' ⟨rfl, rfl⟩; rw [HOF2.out])
                  | (go_at_call 26; (with_reducible refine (dk_writes HK6.out).mono ?_); rintro e w' ⟨rfl, rfl⟩; rw [HN.out]))
                all_goals
                  go_roundw
                  case rel =>
                    have hb1 : Below w2.heap.size wr w4 := (((below1 wr (.cells #[.int .i64 p.kind, .int .i64 p.n, nmv p.name, nmv p.to, .slice a4 p.b.length k4, .slice a5 p.picks.length k5] 36)).trans (HB31.out.mono (by simp))).mono HB.out.size).trans (HT4.out.below (Nat.le_trans HB.out.size (by have := HB31.out.size; simp at this; omega)) HSW.out)
                    have hg : ∀ j, Gw S w3a w4 j → w2.heap.size ≤ j := fun j hj => Gw.lo HSW.out (Nat.le_trans HB.out.size (by have := HB31.out.size; simp at this; omega)) hj
                    have hb2 : Below w2.heap.size wr w6 := hb1.trans ((HB5.out.trans (HB6.out.mono HB5.out.size)).mono (Nat.le_trans HB.out.size hb1.size))
                    exact ⟨k + 1, by omega, by go_num, by rw [HRT.out, HD'.out]; exact ⟨_, hg, HK6.out⟩, HB.out.trans hb2⟩
                  case measure => simp [intOf]; omega

            · obtain rfl : d' = d := hd'.symm.trans (ho.same (by rw [hq]; exact hq0) (by rw [hq]; exact hq12))
              have e0 : ((q : Int) == 0) = false := by simp; omega
              have e12 : ((q : Int) == 12) = false := by simp; omega
              have n0 : ((q : Int) != 0) = true := by simp; omega
              have n12 : ((q : Int) != 12) = true := by simp; omega
              clear h8 hd' hq ho hoff hq0 hq12
              go_wp2_with (first
                | (go_at_call 23; (with_reducible refine (dk_files HK0.out).mono ?_); rintro e w3a ⟨fo, fc, rfl, hs, hb⟩; have HSF1 := Lib.hid hs; have HK1 := Lib.hid (HK0.out.below hb); have HB31 := Lib.hid hb; have oc0 := (hb.cell (p := ⟨wr.heap.size, 0, none⟩) (by simp)).trans ob0.out; have oc1 := (hb.cell (p := ⟨wr.heap.size, 1, none⟩) (by simp)).trans ob1.out; have oc2 := (hb.cell (p := ⟨wr.heap.size, 2, none⟩) (by simp)).trans ob2.out; have oc3 := (hb.cell (p := ⟨wr.heap.size, 3, none⟩) (by simp)).trans ob3.out; have oc4 := (hb.cell (p := ⟨wr.heap.size, 4, none⟩) (by simp)).trans ob4.out; have oc5 := (hb.cell (p := ⟨wr.heap.size, 5, none⟩) (by simp)).trans ob5.out; clear hs hb)
                | (go_at_call 25; (with_reducible refine (dk_down HK1.out).mono ?_); rintro e w' ⟨rfl, rfl⟩; rw [HOFF.out])
                | (go_at_call 26; (with_reducible refine (dk_writes HK1.out).mono ?_); rintro e w' ⟨rfl, rfl⟩)
                | (go_at_call 13; (refine (does_any HK1.out HSK.out (HS4.out.below ((below1 wr (.cells #[.int .i64 p.kind, .int .i64 p.n, nmv p.name, nmv p.to, .slice a4 p.b.length k4, .slice a5 p.picks.length k5] 36)).trans (HB31.out.mono (by simp)))) (HS5.out.below ((below1 wr (.cells #[.int .i64 p.kind, .int .i64 p.n, nmv p.name, nmv p.to, .slice a4 p.b.length k4, .slice a5 p.picks.length k5] 36)).trans (HB31.out.mono (by simp)))) HDJ.out HDN.out).mono ?_); rintro e w4 ⟨rfl, hd, ht⟩; rw [HE.out]; rw [HD'.out] at hd; have HK2 := Lib.hid hd; have HT4 := Lib.hid ht; have HSF2 := Lib.hid (HSF1.out.tn ht (fun j hj e => by have := HK0.out.lt j e; omega)); have oc0 := ht.cell (p := ⟨wr.heap.size, 0, none⟩) oc0 (fun e => by have := HSL.out _ e; simp at this); clear oc1 oc2 oc3 oc4 oc5 hd ht)
                | (go_at_call 23; (with_reducible refine (dk_files HK2.out).mono ?_); rintro e w5 ⟨go, gc, rfl, hs, hb⟩; have HSF5 := Lib.hid hs; have HSF25 := Lib.hid (HSF2.out.below hb); have HK5 := Lib.hid (HK2.out.below hb); have HB5 := Lib.hid hb; have hz5 : wr.heap.size < w4.heap.size := Nat.lt_of_lt_of_le (Nat.lt_of_lt_of_le (by simp) HB31.out.size) HT4.out.size; have oc0 := (hb.cell (p := ⟨wr.heap.size, 0, none⟩) hz5).trans oc0; clear hs hb)
                | (go_at_call 22; (with_reducible refine (same_any HSF5.out HSF25.out).mono ?_); rintro e w6 ⟨rfl, q, hq⟩; rw [sameF_self]; have hb6 : Below w5.heap.size w5 w6 := below_of_drew hq; have hz6 : wr.heap.size < w5.heap.size := Nat.lt_of_lt_of_le hz5 HB5.out.size; have oc0 := (hb6.cell (p := ⟨wr.heap.size, 0, none⟩) hz6).trans oc0; have HK6 := Lib.hid (HK5.out.below hb6); have HB6 := Lib.hid hb6; clear hb6 hq)
                | (go_at_call 25; (with_reducible refine (dk_down HK6.out).mono ?_); rintro e w' ⟨rfl, rfl⟩; rw [HOFF.out])
                | (go_at_call 26; (with_reducible refine (dk_writes HK6.out).mono ?_); rintro e w' ⟨rfl, rfl⟩; skip))
              all_goals
                go_roundw
                case rel =>
                  have hb1 : Below w2.heap.size wr w4 := (((below1 wr (.cells #[.int .i64 p.kind, .int .i64 p.n, nmv p.name, nmv p.to, .slice a4 p.b.length k4, .slice a5 p.picks.length k5] 36)).trans (HB31.out.mono (by simp))).mono HB.out.size).trans (HT4.out.below (Nat.le_trans HB.out.size (by have := HB31.out.size; simp at this; omega)) HSW.out)
                  have hg : ∀ j, Gw S w3a w4 j → w2.heap.size ≤ j := fun j hj => Gw.lo HSW.out (Nat.le_trans HB.out.size (by have := HB31.out.size; simp at this; omega)) hj
                  have hb2 : Below w2.heap.size wr w6 := hb1.trans ((HB5.out.trans (HB6.out.mono HB5.out.size)).mono (Nat.le_trans HB.out.size hb1.size))
                  exact ⟨k + 1, by omega, by go_num, by rw [HRT.out, HD'.out]; exact ⟨_, hg, HK6.out⟩, HB.out.trans hb2⟩
                case measure => simp [intOf]; omega

      · obtain rfl : k = l.length := by omega
        go_wp2_with (go_at_call 10; (with_reducible refine (first_any _).mono ?_); rintro e w5 ⟨rfl, hb⟩; have HB5 := Lib.hid ((HB2.out.trans (HB.out.mono HB2.out.size)).trans (hb.mono (HB2.out.trans (HB.out.mono HB2.out.size)).size)); clear hb)
        go_ret
        exact ⟨rfl, HB5.out⟩

set_option maxRecDepth 100000 in
theorem diskRefused_lifted (os : Os) (started : os.Started) (H : Type) (enc : TypeId × Value → H) :
    ReturnsInHanded {} Try.checked os 6 .any (Rows.diskRefusedSpec.pre6 enc Try.prog Try.f6 [] false) (Rows.diskRefusedSpec.post enc Try.prog Try.f6 false true false false) := by
  refine returnsInHanded_of_change (C := Try.checked) own started (by kernel_rfl) Try.func6
    (ChangeSpec.witness6 (enc := enc) (C := Try.checked) false ⟨#[], #[.slice none 0 0], []⟩ 8 (by kernel_rfl) (by kernel_rfl) (by kernel_rfl) (by kernel_rfl)) ?_
  intro W base args ds gs before hval0 hW _ _
  have hval : ∀ (j : Nat) t v, Try.f6.params[j]? = some t → args[j]? = some v → Value.okWide Try.prog W .any base t v := hval0
  have hW' := hW
  obtain ⟨p, q, hA0, hV, rfl, hfz, hnd⟩ := hW
  have hA : DataW.TrodAll enc Try.prog W 0 (fun _ => true) true Try.f6.params.toList args.toList ds p := hA0
  rw [Try.params6] at hA hval
  obtain ⟨v0, d0, rfl, rfl, h0⟩ := trodAll_one hA
  obtain ⟨b0, len0, cap0, rfl⟩ := okWide_slice Try.underlying22 (hval 0 22 v0 rfl rfl)
  have k0 := h0
  obtain ⟨fuel0, g0⟩ := h0
  obtain ⟨rfl, rfl⟩ := trodVars_none hV
  clear hA0 hval0
  simp only [List.append_nil] at hW'
  have hlt : ∀ x ∈ p, x.block < W.heap.size := fun x hx => hW'.lt x (by simpa using hx)
  obtain ⟨ao0, c0, xs0, hv0, r0⟩ := open_so g0
  refine Calls.mono (?walk : Calls _ _ _ _ fun e w' => e = .returned (.bool true) ∧ Below W.heap.size W w') fun e W' ⟨he, hw⟩ => ?_
  case walk =>
    rw [hv0]
    exact diskRefused_walk W ao0 c0 xs0 r0
  subst he
  exact ⟨_, rfl, post_of_below (pa := p) (pv := []) hW' (fun _ _ _ => trodAll_mk1 (shut_bool Try.underlying4 _)) (fun sp hsp => trodAll_mk1 (WideElems.Trod_stays laidOut (by kernel_rfl) (of_decide_eq_true (by kernel_rfl)) k0 (fun x hx => hw.same (hlt x (by first | (simp [hx]; done) | exact nomatch hx))) (fun x hx => hsp x (by first | (simp [hx]; done) | exact nomatch hx)))) (fun _ _ => rfl) (by simp) hw (ok_one (by kernel_rfl) rfl (okWide_bool_mk Try.underlying4 _))⟩
/-- THE ROW. -/
theorem diskRefused_holds : Rows.DiskRefusedSaid :=
  OpenClaim.holds_of_wide 6 Try.f6 rfl rfl rfl rfl rfl rfl rfl ⟨rfl, rfl, rfl, rfl, rfl⟩ rfl rfl rfl rfl rfl (by kernel_rfl) Try.func6 (by kernel_rfl)
    (of_decide_eq_true (by kernel_rfl)) (by unfold Func.isWrapper; first | (rw [if_pos (by decide +kernel)]; kernel_rfl) | (rw [if_neg (by decide +kernel)]; exact ⟨rfl, rfl⟩))
    (fun os started H enc _ => diskRefused_lifted os started H enc)
#print axioms diskRefused_holds
end Go.Proofs.Ytefgnlijgomgpaa
