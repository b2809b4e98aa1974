/- racelaw6.DiskSynced answers true, whatever came in: behind a Sync that was OK all bytes of that file are there behind any crash, under its new name too. Conditions: none. -/
import Derived.Test.YtefgnlijgomgpaaT
import Derived.Test.YtefgnlijgomgpaaZ
namespace Go.Proofs.Ytefgnlijgomgpaa
open Go.ChangeShapes Go.WideShapes Go.ChangeAt Go.RowKit
theorem bytes_self (s : ByteArray) : (⟨s.data.toList.toArray⟩ : ByteArray) = s := by simp
set_option maxRecDepth 100000 in
set_option maxHeartbeats 4000000 in
theorem diskSynced_walk (w : World) (ao : Option Addr) (cap : Nat) (l : List Do) (hl : SO (fun k => k < w.heap.size) w ao l.length cap l) (name : Nm) (hn : name.length ≤ 9223372036854775807) (to : Nm) (ht : to.length ≤ 9223372036854775807)
    (po : Option Addr) (pc : Nat) (picks : List Int) (hp : SI (fun k => k < w.heap.size) w po picks.length pc picks) :
    Calls Try.prog 8 #[.slice ao l.length cap, nmv name, nmv to, .slice po picks.length pc] w fun e w' => e = .returned (.bool true) ∧ Below w.heap.size w w' := by
  have H := Lib.hid hl
  have HP := Lib.hid hp
  have hlt := hl.lt
  have hplt := hp.lt
  clear hl hp
  cases hf : fewB l with
  | false =>
    have HF := Lib.hid hf
    clear hf
    go_enter Try.func8, Try.ntmps8
    go_wp2_with (first
      | (go_at_call 10; (with_reducible refine (first_any _).mono ?_); rintro e w1 ⟨rfl, hb⟩; have HB1 := Lib.hid hb; clear hb)
      | (go_at_call 11; (with_reducible refine (few_any (H.out.below HB1.out)).mono ?_); rw [HF.out]; rintro e w2 ⟨rfl, hb⟩; have HB2 := Lib.hid (HB1.out.trans (hb.mono HB1.out.size)); clear hb))
    go_ret
    exact ⟨rfl, HB2.out.trans (HB1.out.mono HB2.out.size)⟩
  | true =>
    have HF := Lib.hid hf
    by_cases hn1 : 100 < name.length
    · have hn2 : (100 : Int) < (name.length : Int) := by omega
      clear hf
      go_enter Try.func8, Try.ntmps8
      go_wp2_with (first
        | (go_at_call 10; (with_reducible refine (first_any _).mono ?_); rintro e w1 ⟨rfl, hb⟩; have HB1 := Lib.hid hb; clear hb)
        | (go_at_call 11; (with_reducible refine (few_any (H.out.below HB1.out)).mono ?_); rw [HF.out]; rintro e w2 ⟨rfl, hb⟩; have HB2 := Lib.hid (HB1.out.trans (hb.mono HB1.out.size)); clear hb))
      go_ret
      exact ⟨rfl, HB2.out.trans (HB1.out.mono HB2.out.size)⟩
    have hn2 : ¬ (100 : Int) < (name.length : Int) := by omega
    by_cases ht1 : 100 < to.length
    · have ht2 : (100 : Int) < (to.length : Int) := by omega
      clear hf
      go_enter Try.func8, Try.ntmps8
      go_wp2_with (first
        | (go_at_call 10; (with_reducible refine (first_any _).mono ?_); rintro e w1 ⟨rfl, hb⟩; have HB1 := Lib.hid hb; clear hb)
        | (go_at_call 11; (with_reducible refine (few_any (H.out.below HB1.out)).mono ?_); rw [HF.out]; rintro e w2 ⟨rfl, hb⟩; have HB2 := Lib.hid (HB1.out.trans (hb.mono HB1.out.size)); clear hb))
      go_ret
      exact ⟨rfl, HB2.out.trans (HB1.out.mono HB2.out.size)⟩
    have ht2 : ¬ (100 : Int) < (to.length : Int) := by omega
    have hsm := few_small hf (H.out.wf)
    have hlen := (few_yes hf).1
    have HSM := Lib.hid hsm
    have HN : Hid (name.length ≤ 100) := by have : name.length ≤ 100 := by omega
                                            exact this
    have HTO : Hid (to.length ≤ 100) := by have : to.length ≤ 100 := by omega
                                           exact this
    clear hf hsm
    go_enter Try.func8, Try.ntmps8
    go_wp2_with (first
      | (go_at_call 10; (with_reducible refine (first_any _).mono ?_); rintro e w1 ⟨rfl, hb⟩; have HB1 := Lib.hid hb; clear hb)
      | (go_at_call 11; (with_reducible refine (few_any (H.out.below HB1.out)).mono ?_); rw [HF.out]; rintro e w2 ⟨rfl, hb⟩; have HB2 := Lib.hid (HB1.out.trans (hb.mono HB1.out.size)); clear hb))
    go_wp2_with (go_at_call 12; (with_reducible refine (one_new _).mono ?_); rintro e w3 ⟨rfl, hd, hb⟩; have HD3 := Lib.hid hd; have HB3 := Lib.hid hb; clear hd hb)
    go_loopw [10] (fun i wr => ∃ k : Nat, k ≤ l.length ∧ i = .int .i64 k ∧ Hid (OneD w2.heap.size wr (w2.heap.size + 1) (Dk.zero.run (l.take k))) ∧ Hid (Below w2.heap.size w2 wr)) (fun i _ => l.length - (intOf i).toNat)
    case atStart => exact ⟨0, Nat.zero_le _, rfl, HD3, HB3⟩
    case round =>
      obtain ⟨k, hk, rfl, HD, HB⟩ := hrel
      by_cases hlt2 : k < l.length
      · have hso := (H.out.below (HB2.out.trans (HB.out.mono HB2.out.size)))
        obtain ⟨b, off, rfl, hbw, ho, _⟩ := hso.at_ hlt2
        have hsk := HSM.out _ (List.getElem_mem hlt2)
        have HRT := Lib.hid (run_take Dk.zero l hlt2)
        generalize l[k] = p at *
        have c0 := ho.c0
        have c1 := ho.c1
        have c2 := ho.c2
        have c3 := ho.c3
        obtain ⟨a4, k4, c4, s4⟩ := ho.c4
        obtain ⟨a5, k5, c5, s5⟩ := ho.c5
        have HSK := Lib.hid hsk
        have HS4 := Lib.hid s4
        have HS5 := Lib.hid s5
        have HDN := Lib.hid (done_take l k (by omega))
        clear hsk s4 s5 ho hso
        go_wp2_with (go_at_call 13; (refine (one_does HD.out (Nat.le_trans (Nat.le_refl _) HB.out.size) HSK.out HS4.out HS5.out (fun j hj => Nat.lt_of_lt_of_le hj HB2.out.size) HDN.out).mono ?_); rintro e w4 ⟨rfl, hd, hb⟩; have HD4 := Lib.hid hd; have HB4 := Lib.hid (HB.out.trans hb); clear hd hb)
        go_roundw
        case rel => exact ⟨k + 1, by omega, by go_num, by rw [HRT.out]; exact HD4, HB4⟩
        case measure => simp [intOf]; omega
      · obtain rfl : k = l.length := by omega
        rw [List.take_length] at HD
        have HBW := Lib.hid (HB2.out.trans (HB.out.mono HB2.out.size))
        have HDN := Lib.hid (done_take l l.length hlen)
        have HPW := Lib.hid (HP.out.below HBW.out)
        rw [List.take_length] at HDN
        have HW2 := Lib.hid HB2.out.size
        have HDN2 : Hid ((Dk.zero.run l).done ≤ 300) := by have := done_run Dk.zero l; have h0 : Dk.zero.done = 0 := rfl; rw [h0] at this; exact (by omega : (Dk.zero.run l).done ≤ 300)
        clear HB2 HF HSM hlen
        generalize Dk.zero.run l = d at *
        have hN : name.length ≤ maxLen := by have := HN.out; unfold maxLen; omega
        have hTO : to.length ≤ maxLen := by have := HTO.out; unfold maxLen; omega
        have hTO2 : to.length ≤ 281474976710656 := by have := HTO.out; omega
        have HNN := Lib.hid hN
        have HTT := Lib.hid hTO
        have HTT2 := Lib.hid hTO2
        obtain ⟨S, hS, hk⟩ := HD.out
        have hSl := hk.lt
        have HK := Lib.hid hk
        have hSB : ∀ k, S k → w.heap.size ≤ k := fun k hk => Nat.le_trans HW2.out (hS k hk)
        have HSB := Lib.hid hSB
        have HSL := Lib.hid hSl
        clear hN hTO hTO2 hk hS hSl hSB HD
        cases hr : (d.sync name).2 with
        | succ q =>
          have HR := Lib.hid hr
          clear hr
          go_wp2_with (first
            | (go_at_call 28; (with_reducible refine (dk_sync HK.out HNN.out HDN.out).mono ?_); rintro e w4 ⟨rfl, hd, ht⟩; rw [HR.out]; have HB4 := Lib.hid (HBW.out.trans (ht.below HBW.out.size HSB.out)); clear hd ht)
            | (go_at_call 10; (with_reducible refine (first_any _).mono ?_); rintro e w5 ⟨rfl, hb⟩; have HB5 := Lib.hid (HB4.out.trans (hb.mono HB4.out.size)); clear hb))
          go_ret
          exact ⟨rfl, HB5.out⟩
        | zero =>
          obtain ⟨x, hx, hoff⟩ := sync_ok hr
          have hok := HK.out.ok.sync (s := name)
          have hdn : (d.sync name).1.done < 9223372036854775807 := by have := done_sync d name; have := HDN2.out; omega
          have hrd := read_some hx
          have HR := Lib.hid hr
          have HDN1 := Lib.hid hdn
          have HRD := Lib.hid hrd
          clear hr hdn hrd
          by_cases hr2 : ((d.sync name).1.rename name to).2 = 0
          · obtain ⟨hg1, hg2⟩ := rename_ok hok hx hr2
            have hc1 := crash_safe picks hg1 rfl
            have HR2 := Lib.hid hr2
            have HC1 := Lib.hid hc1
            by_cases hne : name = to
            · subst hne
              have HC2 := Lib.hid hc1
              clear hr2 hg1 hg2 hc1 hx
              go_wp2_with (first
                | (go_at_call 28; (with_reducible refine (dk_sync HK.out HNN.out HDN.out).mono ?_); rintro e w4 ⟨rfl, hd, ht⟩; rw [HR.out]; have HD4 := Lib.hid hd; have HB4 := Lib.hid (HBW.out.trans (ht.below HBW.out.size HSB.out)); have HG4 := Lib.hid (fun k (hk : Gw S wr w4 k) => Gw.lo HSB.out HBW.out.size hk); clear hd ht)
                | (go_at_call 16; (with_reducible refine (dk_read HD4.out HNN.out).mono ?_); rw [HRD.out]; rintro e w5 ⟨ro, rc, rfl, hs, hb⟩; have HS5 := Lib.hid hs; have HD5 := Lib.hid (HD4.out.below hb); have HB5 := Lib.hid (HB4.out.trans (hb.mono HB4.out.size)); have HB45 := Lib.hid hb; clear hs hb)
                | (go_at_call 29; (with_reducible refine (dk_rename HD5.out HNN.out HDN1.out HTT2.out).mono ?_); rintro e w6 ⟨rfl, hd, ht⟩; rw [HR2.out]; have HD6 := Lib.hid hd; have HB6 := Lib.hid (HB5.out.trans (ht.below HB5.out.size HG4.out)); have HG6 := Lib.hid (fun k (hk : Gw (Gw S wr w4) w5 w6 k) => Gw.lo HG4.out HB5.out.size hk); have HS6 := Lib.hid (HS5.out.tn ht (fun k hk e => by have := HD4.out.lt k e; omega)); have HX6 : Hid (∀ k, (fun k => k < w.heap.size) k → ¬ Gw (Gw S wr w4) w5 w6 k) := fun k hk e => Nat.not_lt.2 (HG6.out k e) hk; have HF6 := Lib.hid (fun k (hk : w4.heap.size ≤ k ∧ k < w5.heap.size) => gw_free (w' := w6) HD4.out.lt hk); clear hd ht)
                | (go_at_call 24; (with_reducible refine (dk_crash HD6.out (HP.out.below HB6.out) HX6.out).mono ?_); rintro e w7 ⟨rfl, hd, ht⟩; have HD7 := Lib.hid hd; have HB7 := Lib.hid (HB6.out.trans (ht.below HB6.out.size HG6.out)); have HS7 := Lib.hid (HS6.out.tn ht HF6.out); clear hd ht)
                | (go_at_call 16; (with_reducible refine (dk_read HD7.out HNN.out).mono ?_); rw [HC1.out]; rintro e w8 ⟨qo, qc, rfl, hs, hb⟩; have HS8 := Lib.hid hs; have HD8 := Lib.hid (HD7.out.below hb); have HB8 := Lib.hid (HB7.out.trans (hb.mono HB7.out.size)); have HT8 := Lib.hid (HS7.out.below hb); clear hs hb)
                | (go_at_call 18; (with_reducible refine (bytes_any HS8.out HT8.out).mono ?_); rw [beq_self_eq_true]; rintro e w' ⟨rfl, rfl⟩)
                | (go_at_call 16; (with_reducible refine (dk_read HD8.out HNN.out).mono ?_); rw [HC2.out]; rintro e w9 ⟨qo2, qc2, rfl, hs, hb⟩; have HB9 := Lib.hid (HB8.out.trans (hb.mono HB8.out.size)); clear hs hb)
                | (go_at_call 10; (with_reducible refine (first_any _).mono ?_); rintro e w10 ⟨rfl, hb⟩; have HB10 := Lib.hid (HB9.out.trans (hb.mono HB9.out.size)); clear hb))
              go_ret
              exact ⟨rfl, HB10.out⟩
            · have hc2 := crash_none picks (hg2 hne)
              have HC2 := Lib.hid hc2
              clear hr2 hg1 hg2 hc1 hc2 hx
              go_wp2_with (first
                | (go_at_call 28; (with_reducible refine (dk_sync HK.out HNN.out HDN.out).mono ?_); rintro e w4 ⟨rfl, hd, ht⟩; rw [HR.out]; have HD4 := Lib.hid hd; have HB4 := Lib.hid (HBW.out.trans (ht.below HBW.out.size HSB.out)); have HG4 := Lib.hid (fun k (hk : Gw S wr w4 k) => Gw.lo HSB.out HBW.out.size hk); clear hd ht)
                | (go_at_call 16; (with_reducible refine (dk_read HD4.out HNN.out).mono ?_); rw [HRD.out]; rintro e w5 ⟨ro, rc, rfl, hs, hb⟩; have HS5 := Lib.hid hs; have HD5 := Lib.hid (HD4.out.below hb); have HB5 := Lib.hid (HB4.out.trans (hb.mono HB4.out.size)); have HB45 := Lib.hid hb; clear hs hb)
                | (go_at_call 29; (with_reducible refine (dk_rename HD5.out HNN.out HDN1.out HTT2.out).mono ?_); rintro e w6 ⟨rfl, hd, ht⟩; rw [HR2.out]; have HD6 := Lib.hid hd; have HB6 := Lib.hid (HB5.out.trans (ht.below HB5.out.size HG4.out)); have HG6 := Lib.hid (fun k (hk : Gw (Gw S wr w4) w5 w6 k) => Gw.lo HG4.out HB5.out.size hk); have HS6 := Lib.hid (HS5.out.tn ht (fun k hk e => by have := HD4.out.lt k e; omega)); have HX6 : Hid (∀ k, (fun k => k < w.heap.size) k → ¬ Gw (Gw S wr w4) w5 w6 k) := fun k hk e => Nat.not_lt.2 (HG6.out k e) hk; have HF6 := Lib.hid (fun k (hk : w4.heap.size ≤ k ∧ k < w5.heap.size) => gw_free (w' := w6) HD4.out.lt hk); clear hd ht)
                | (go_at_call 24; (with_reducible refine (dk_crash HD6.out (HP.out.below HB6.out) HX6.out).mono ?_); rintro e w7 ⟨rfl, hd, ht⟩; have HD7 := Lib.hid hd; have HB7 := Lib.hid (HB6.out.trans (ht.below HB6.out.size HG6.out)); have HS7 := Lib.hid (HS6.out.tn ht HF6.out); clear hd ht)
                | (go_at_call 16; (with_reducible refine (dk_read HD7.out HTT.out).mono ?_); rw [HC1.out]; rintro e w8 ⟨qo, qc, rfl, hs, hb⟩; have HS8 := Lib.hid hs; have HD8 := Lib.hid (HD7.out.below hb); have HB8 := Lib.hid (HB7.out.trans (hb.mono HB7.out.size)); have HT8 := Lib.hid (HS7.out.below hb); clear hs hb)
                | (go_at_call 18; (with_reducible refine (bytes_any HS8.out HT8.out).mono ?_); rw [beq_self_eq_true]; rintro e w' ⟨rfl, rfl⟩)
                | (go_at_call 16; (with_reducible refine (dk_read HD8.out HNN.out).mono ?_); rw [HC2.out]; rintro e w9 ⟨qo2, qc2, rfl, hs, hb⟩; have HB9 := Lib.hid (HB8.out.trans (hb.mono HB8.out.size)); clear hs hb)
                | (go_at_call 10; (with_reducible refine (first_any _).mono ?_); rintro e w10 ⟨rfl, hb⟩; have HB10 := Lib.hid (HB9.out.trans (hb.mono HB9.out.size)); clear hb))
              go_ret
              exact ⟨rfl, HB10.out⟩
          · have hc1 := crash_safe picks (d := ((d.sync name).1.rename name to).1) (by rw [rename_no hr2]; exact hx) rfl
            have HC1 := Lib.hid hc1
            have HC2 := Lib.hid hc1
            obtain ⟨q, hq⟩ : ∃ q, ((d.sync name).1.rename name to).2 = q + 1 := ⟨_, (Nat.succ_pred_eq_of_ne_zero hr2).symm⟩
            have HR2 := Lib.hid hq
            clear hr2 hc1 hx hq
            go_wp2_with (first
              | (go_at_call 28; (with_reducible refine (dk_sync HK.out HNN.out HDN.out).mono ?_); rintro e w4 ⟨rfl, hd, ht⟩; rw [HR.out]; have HD4 := Lib.hid hd; have HB4 := Lib.hid (HBW.out.trans (ht.below HBW.out.size HSB.out)); have HG4 := Lib.hid (fun k (hk : Gw S wr w4 k) => Gw.lo HSB.out HBW.out.size hk); clear hd ht)
              | (go_at_call 16; (with_reducible refine (dk_read HD4.out HNN.out).mono ?_); rw [HRD.out]; rintro e w5 ⟨ro, rc, rfl, hs, hb⟩; have HS5 := Lib.hid hs; have HD5 := Lib.hid (HD4.out.below hb); have HB5 := Lib.hid (HB4.out.trans (hb.mono HB4.out.size)); have HB45 := Lib.hid hb; clear hs hb)
              | (go_at_call 29; (with_reducible refine (dk_rename HD5.out HNN.out HDN1.out HTT2.out).mono ?_); rintro e w6 ⟨rfl, hd, ht⟩; rw [HR2.out]; have HD6 := Lib.hid hd; have HB6 := Lib.hid (HB5.out.trans (ht.below HB5.out.size HG4.out)); have HG6 := Lib.hid (fun k (hk : Gw (Gw S wr w4) w5 w6 k) => Gw.lo HG4.out HB5.out.size hk); have HS6 := Lib.hid (HS5.out.tn ht (fun k hk e => by have := HD4.out.lt k e; omega)); have HX6 : Hid (∀ k, (fun k => k < w.heap.size) k → ¬ Gw (Gw S wr w4) w5 w6 k) := fun k hk e => Nat.not_lt.2 (HG6.out k e) hk; have HF6 := Lib.hid (fun k (hk : w4.heap.size ≤ k ∧ k < w5.heap.size) => gw_free (w' := w6) HD4.out.lt hk); clear hd ht)
              | (go_at_call 24; (with_reducible refine (dk_crash HD6.out (HP.out.below HB6.out) HX6.out).mono ?_); rintro e w7 ⟨rfl, hd, ht⟩; have HD7 := Lib.hid hd; have HB7 := Lib.hid (HB6.out.trans (ht.below HB6.out.size HG6.out)); have HS7 := Lib.hid (HS6.out.tn ht HF6.out); clear hd ht)
              | (go_at_call 16; (with_reducible refine (dk_read HD7.out HNN.out).mono ?_); rw [HC1.out]; rintro e w8 ⟨qo, qc, rfl, hs, hb⟩; have HS8 := Lib.hid hs; have HD8 := Lib.hid (HD7.out.below hb); have HB8 := Lib.hid (HB7.out.trans (hb.mono HB7.out.size)); have HT8 := Lib.hid (HS7.out.below hb); clear hs hb)
              | (go_at_call 18; (with_reducible refine (bytes_any HS8.out HT8.out).mono ?_); rw [beq_self_eq_true]; rintro e w' ⟨rfl, rfl⟩)
              | (go_at_call 16; (with_reducible refine (dk_read HD8.out HNN.out).mono ?_); rw [HC2.out]; rintro e w9 ⟨qo2, qc2, rfl, hs, hb⟩; have HB9 := Lib.hid (HB8.out.trans (hb.mono HB8.out.size)); clear hs hb)
              | (go_at_call 10; (with_reducible refine (first_any _).mono ?_); rintro e w10 ⟨rfl, hb⟩; have HB10 := Lib.hid (HB9.out.trans (hb.mono HB9.out.size)); clear hb))
            go_ret
            exact ⟨rfl, HB10.out⟩

set_option maxRecDepth 100000 in
theorem diskSynced_lifted (os : Os) (started : os.Started) (H : Type) (enc : TypeId × Value → H) :
    ReturnsInHanded {} Try.checked os 8 .any (Rows.diskSyncedSpec.pre6 enc Try.prog Try.f8 [] false) (Rows.diskSyncedSpec.post enc Try.prog Try.f8 false true false false) := by
  refine returnsInHanded_of_change (C := Try.checked) own started (by kernel_rfl) Try.func8
    (ChangeSpec.witness6 (enc := enc) (C := Try.checked) false ⟨#[], #[.slice none 0 0, .string ⟨#[]⟩, .string ⟨#[]⟩, .slice none 0 0], []⟩ 8 (by kernel_rfl) (by kernel_rfl) (by kernel_rfl) (by kernel_rfl)) ?_
  intro W base args ds gs before hval0 hW _ _
  have hval : ∀ (j : Nat) t v, Try.f8.params[j]? = some t → args[j]? = some v → Value.okWide Try.prog W .any base t v := hval0
  have hW' := hW
  obtain ⟨p, q, hA0, hV, rfl, hfz, hnd⟩ := hW
  have hA : DataW.TrodAll enc Try.prog W 0 (fun _ => true) true Try.f8.params.toList args.toList ds p := hA0
  rw [Try.params8] at hA hval
  obtain ⟨v0, v1, v2, v3, d0, d1, d2, d3, p0, p1, p2, p3, rfl, rfl, rfl, h0, h1, h2, h3⟩ := trodAll_four hA
  obtain ⟨b0, len0, cap0, rfl⟩ := okWide_slice Try.underlying22 (hval 0 22 v0 rfl rfl)
  have k0 := h0
  obtain ⟨fuel0, g0⟩ := h0
  obtain ⟨s1, rfl, rfl, rfl, wf1⟩ := ChangeMaps.open_string Try.underlying9 (hval 1 9 v1 rfl rfl) h1
  obtain ⟨s2, rfl, rfl, rfl, wf2⟩ := ChangeMaps.open_string Try.underlying9 (hval 2 9 v2 rfl rfl) h2
  obtain ⟨b3, len3, cap3, rfl⟩ := okWide_slice Try.underlying34 (hval 3 34 v3 rfl rfl)
  have k3 := h3
  obtain ⟨fuel3, g3⟩ := h3
  obtain ⟨rfl, rfl⟩ := trodVars_none hV
  clear hA0 hval0
  simp only [List.append_nil] at hW'
  have hlt : ∀ x ∈ p0 ++ [] ++ [] ++ p3, x.block < W.heap.size := fun x hx => hW'.lt x (by simpa using hx)
  obtain ⟨ao0, c0, xs0, hv0, r0⟩ := open_so g0
  have hwf1 : s1.data.toList.length ≤ 9223372036854775807 := by
    have e : s1.data.toList.length = s1.size := by rw [Array.length_toList]; rfl
    rw [e]; unfold maxLen at wf1; omega
  have hwf2 : s2.data.toList.length ≤ 9223372036854775807 := by
    have e : s2.data.toList.length = s2.size := by rw [Array.length_toList]; rfl
    rw [e]; unfold maxLen at wf2; omega
  obtain ⟨ao3, c3, xs3, hv3, r3⟩ := open_si g3
  refine Calls.mono (?walk : Calls _ _ _ _ fun e w' => e = .returned (.bool true) ∧ Below W.heap.size W w') fun e W' ⟨he, hw⟩ => ?_
  case walk =>
    rw [hv0]
    rw [← bytes_self s1]
    rw [← bytes_self s2]
    rw [hv3]
    exact diskSynced_walk W ao0 c0 xs0 r0 s1.data.toList hwf1 s2.data.toList hwf2 ao3 c3 xs3 r3
  subst he
  exact ⟨_, rfl, post_of_below (pa := p0 ++ ([] ++ ([] ++ p3))) (pv := []) hW' (fun _ _ _ => trodAll_mk1 (shut_bool Try.underlying4 _)) (fun sp hsp => trodAll_mk4 (WideElems.Trod_stays laidOut (by kernel_rfl) (of_decide_eq_true (by kernel_rfl)) k0 (fun x hx => hw.same (hlt x (by first | (simp [hx]; done) | exact nomatch hx))) (fun x hx => hsp x (by first | (simp [hx]; done) | exact nomatch hx))) (ChangeMaps.shut_string Try.underlying9 wf1) (ChangeMaps.shut_string Try.underlying9 wf2) (WideElems.Trod_stays laidOut (by kernel_rfl) (of_decide_eq_true (by kernel_rfl)) k3 (fun x hx => hw.same (hlt x (by first | (simp [hx]; done) | exact nomatch hx))) (fun x hx => hsp x (by first | (simp [hx]; done) | exact nomatch hx)))) (fun _ _ => rfl) (by simp) hw (ok_one (by kernel_rfl) rfl (okWide_bool_mk Try.underlying4 _))⟩
/-- THE ROW. -/
theorem diskSynced_holds : Rows.DiskSyncedSaid :=
  OpenClaim.holds_of_wide 8 Try.f8 rfl rfl rfl rfl rfl rfl rfl ⟨rfl, rfl, rfl, rfl, rfl⟩ rfl rfl rfl rfl rfl (by kernel_rfl) Try.func8 (by kernel_rfl)
    (of_decide_eq_true (by kernel_rfl)) (by unfold Func.isWrapper; first | (rw [if_pos (by decide +kernel)]; kernel_rfl) | (rw [if_neg (by decide +kernel)]; exact ⟨rfl, rfl⟩))
    (fun os started H enc _ => diskSynced_lifted os started H enc)
#print axioms diskSynced_holds
end Go.Proofs.Ytefgnlijgomgpaa
