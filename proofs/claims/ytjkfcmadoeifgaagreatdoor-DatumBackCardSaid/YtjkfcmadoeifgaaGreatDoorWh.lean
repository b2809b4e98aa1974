/- Package wire in memory (X3): ported. Conditions: those of each law. -/
import Derived.Test.YtjkfcmadoeifgaaGreatDoorWg
import Derived.Test.YtjkfcmadoeifgaaGreatDoorWf
import Derived.Laws.OwnMore
import Derived.Deep.RegionHeld3
import Derived.IntWalk
namespace Go.Proofs.YtjkfcmadoeifgaaGreatDoor
section
open Go.RowKit
/-- How many bytes of a row go on. -/
def goesOn (l : List UInt8) : Nat := if grp l = 0 then l.length else grp l - 1
theorem scan : ∀ l : List UInt8, goesOn l ≤ l.length ∧ (∀ i, i < goesOn l → 128 ≤ (l.getD i 0).toNat) ∧ (goesOn l < l.length → (l.getD (goesOn l) 0).toNat < 128) ∧ (grp l = 0 ↔ goesOn l = l.length)
  | [] => by simp [goesOn, grp]
  | x :: r => by
    by_cases hx : x.toNat < 128
    · have h1 : grp (x :: r) = 1 := by simp [grp, hx]
      have h2 : goesOn (x :: r) = 0 := by simp [goesOn, h1]
      rw [h1, h2]
      refine ⟨Nat.zero_le _, fun i hi => by omega, fun _ => by simpa using hx, by simp⟩
    · obtain ⟨i1, i2, i3, i4⟩ := scan r
      have h1 : grp (x :: r) = if grp r = 0 then 0 else grp r + 1 := by simp [grp, hx]
      have h2 : goesOn (x :: r) = goesOn r + 1 := by
        unfold goesOn
        rw [h1]
        by_cases h0 : grp r = 0
        · simp [h0]
        · simp [h0]; omega
      rw [h2]
      refine ⟨by simpa using i1, fun i hi => ?_, fun h => by simpa using i3 (by simpa using h), ?_⟩
      · match i with
        | 0 => simpa using (show 128 ≤ x.toNat by omega)
        | i + 1 => simpa using i2 i (by omega)
      · rw [h1, List.length_cons]
        constructor
        · intro h
          have : grp r = 0 := by
            by_cases h0 : grp r = 0
            · exact h0
            · simp [h0] at h
          have := i4.1 this
          omega
        · intro h
          have := i4.2 (by omega)
          simp [this]
theorem goesOn_grp {l : List UInt8} (h : grp l ≠ 0) : grp l = goesOn l + 1 := by unfold goesOn; rw [if_neg h]; omega
theorem val_drop {l : List UInt8} {j : Nat} (h : j < l.length) : val (l.drop j) = (l.getD j 0).toNat % 128 + 128 * val (l.drop (j + 1)) := by
  rw [List.drop_eq_getElem_cons h, List.getD_eq_getElem?_getD, List.getElem?_eq_getElem h]
  rfl
/-- A group behind the others, in 64 bits. -/
theorem shl_group (n y : Nat) (hy : y < 128) : bits .or .u64 (IntKind.u64.wrap (((n % 18446744073709551616 : Nat) : Int) * 128)) (y : Int) = (((y + 128 * n) % 18446744073709551616 : Nat) : Int) := by
  have e : IntKind.u64.wrap (((n % 18446744073709551616 : Nat) : Int) * 128) = ((n % 144115188075855872 * 128 : Nat) : Int) := by rw [IntKind.wrap_u64]; omega
  rw [e, bor (by omega) (by omega)]
  congr 1
  rw [Nat.or_comm, show n % 144115188075855872 * 128 = n % 144115188075855872 * 2 ^ 7 by rfl, or_add (i := 7) hy]
  omega
section
variable {t : TypeId} {K : Nat → Prop} {w : World} {p : Nat} {v : Value} {s : Rst}
/-- The row at the place as a string. -/
theorem Rd.convRow {b off n cap m : Nat} {row : List UInt8} (h : Rd t K w p (.slice (some ⟨b, off, none⟩) n cap) s) (hm : s.pl + m ≤ s.bs.length) (hr : row = (s.bs.drop s.pl).take m) :
    (convert 32 9 (.slice (some ⟨b, off + s.pl, none⟩) m (cap - s.pl))).run Tryz.prog w = .ok (.string ⟨row.toArray⟩) w :=
  conv_row w b (off + s.pl) m _ row (by rw [hr, List.length_take, List.length_drop]; omega) (fun i hi => by
    rw [Nat.add_assoc, h.at (by omega), hr, getD_take hi, getD_drop])
def IntDone (K : Nat → Prop) (w : World) (p : Nat) (v : Value) (s : Rst) : Prop := Calls Tryz.prog 100 #[.pointer (some ⟨p, 0, none⟩)] w fun x w' => x = .returned (.int .i64 (rInt s).1) ∧ Rd 40 K w' p v (rInt s).2 ∧ Fr (fun k => k = p) w w'
theorem rint_dead (h : Rd 40 K w p v s) (he : s.er ≠ 0) : IntDone K w p v s := by
  have hR : rInt s = (0, s) := by unfold rInt; rw [look_err he]; unfold number; rw [if_pos he]
  unfold IntDone
  rw [hR]
  have c2 := h.c2
  have hb : (s.er != 0) = true := by rw [bne_iff_ne]; exact he
  have H := Lib.hid h
  clear h hR he
  go_enter Tryz.func100, Tryz.ntmps100
  go_wp2
  go_ret
  exact ⟨rfl, H.out, Fr.refl _ _⟩
theorem rInt_short (he : s.er = 0) (hg : grp (s.bs.drop s.pl) = 0) : rInt s = (0, stopR 5 s.bs.length s) := by
  unfold rInt
  rw [look_short he hg]
  unfold number
  rw [if_pos (stop_er (by decide) _ _)]
theorem rInt_form (he : s.er = 0) (hg : grp (s.bs.drop s.pl) ≠ 0) (hf : ¬ fits (rowAt s)) : rInt s = (0, stopR 4 s.pl s) := by
  unfold rInt
  rw [look_form he hg hf]
  unfold number
  rw [if_pos (stop_er (by decide) _ _)]
theorem rInt_fits (he : s.er = 0) (hg : grp (s.bs.drop s.pl) ≠ 0) (hf : fits (rowAt s)) : rInt s = (unf (val (rowAt s)), { s with pl := s.pl + grp (s.bs.drop s.pl) }) := by
  unfold rInt
  rw [look_ok he hg hf]
  unfold number
  rw [if_neg (by simp [he])]
theorem rint_end (h : Rd 40 K w p v s) (he : s.er = 0) (hl : s.pl = s.bs.length) : IntDone K w p v s := by
  unfold IntDone
  rw [rInt_short he (by rw [hl, List.drop_length]; rfl)]
  have c2 := h.c2
  have c1 := h.c1
  have c0 := h.c0
  rw [he] at c2
  rw [hl] at c1
  have hroom := h.room
  have H := Lib.hid h
  obtain ⟨ao, cap, rfl, _⟩ := h.has
  clear h he hl
  generalize s.bs.length = N at *
  have hb : ((N : Int) == (N : Int)) = true := beq_self_eq_true _
  go_enter Tryz.func100, Tryz.ntmps100
  go_wp2
  go_loopw [3] (fun i wr => i = .int .i64 N ∧ wr = w) (fun _ _ => 0)
  case atStart => exact ⟨rfl, rfl⟩
  case round =>
    obtain ⟨rfl, rfl⟩ := hrel
    go_wp2_with (first
      | (go_at_call 80; ((with_reducible refine (stop_any H.out 5 N).mono ?_); rintro x w2 ⟨rfl, h2, f2⟩; have H2 := Lib.hid h2; have F2 := Lib.hid f2; clear h2 f2)))
    go_ret
    exact ⟨rfl, H2.out, F2.out⟩
set_option maxHeartbeats 1600000 in
set_option maxRecDepth 100000 in
theorem rint_more (h : Rd 40 K w p v s) (he : s.er = 0) (hl : s.pl < s.bs.length) : IntDone K w p v s := by
  unfold IntDone
  have c2 := h.c2
  have c1 := h.c1
  have c0 := h.c0
  have fr1 := h.free 1
  rw [he] at c2
  have hroom := h.room
  have H := Lib.hid h
  obtain ⟨b, off, cap, rfl, hcap, hc63, hbl, hbp, hc⟩ := h.cellsT hl
  have HE := Lib.hid he
  have HBL := Lib.hid hbl
  have HBP := Lib.hid hbp
  clear h hbl hbp he
  have hsc := scan (s.bs.drop s.pl)
  have hrl : (s.bs.drop s.pl).length = s.bs.length - s.pl := List.length_drop ..
  have hcr : ∀ i, i < s.bs.length - s.pl → w.cell? ⟨b, off + (s.pl + i), none⟩ = some (.int .u8 (((s.bs.drop s.pl).getD i 0).toNat : Int)) := fun i hi => by
    rw [getD_drop]; exact hc _ (by omega)
  have HC := Lib.hid hcr
  have hre : rowAt s = (s.bs.drop s.pl).take (grp (s.bs.drop s.pl)) := rfl
  have HI1 := Lib.hid (rInt_short HE.out : grp (s.bs.drop s.pl) = 0 → _)
  have HI2 := Lib.hid (rInt_form HE.out : grp (s.bs.drop s.pl) ≠ 0 → _)
  have HI3 := Lib.hid (rInt_fits HE.out : grp (s.bs.drop s.pl) ≠ 0 → _)
  clear hc hcr
  generalize hrs : s.bs.drop s.pl = rest at *
  have HRS := Lib.hid hrs
  clear hrs
  obtain ⟨hM, hon, hoff, hend⟩ := hsc
  have hgg := goesOn_grp (l := rest)
  obtain ⟨M, hMe⟩ : ∃ M, M = goesOn rest := ⟨_, rfl⟩
  rw [← hMe] at hM hon hoff hend hgg
  have HON := Lib.hid hon
  have HOFF := Lib.hid hoff
  have HEND := Lib.hid hend
  have HGG := Lib.hid hgg
  have HRE := Lib.hid hre
  have HRL := Lib.hid hrl
  rw [hrl] at hM
  clear hon hoff hend hMe hgg hre hrl
  generalize hN : s.bs.length = N at *
  have HN := Lib.hid hN
  generalize hq : s.pl = q at *
  have HQ := Lib.hid hq
  clear hN hq
  go_enter Tryz.func100, Tryz.ntmps100
  go_wp2
  go_loopw [3] (fun i wr => ∃ k : Nat, i = .int .i64 ((q : Int) + k) ∧ k ≤ M ∧ wr = w) (fun i _ => q + M - (intOf i).toNat)
  case atStart => exact ⟨0, by simp, Nat.zero_le _, rfl⟩
  case round =>
    obtain ⟨k, rfl, hk, hww⟩ := hrel
    obtain rfl := hww.symm
    by_cases hkM : k < M
    · have dc := HC.out k (by omega)
      have hy := HON.out k hkM
      have dd : off + q + k = off + (q + k) := Nat.add_assoc _ _ _
      generalize rest.getD k 0 = y at *
      have hlt : (q : Int) + k < N := by omega
      have hyi : (128 : Int) ≤ (y.toNat : Int) := by omega
      have HDD := Lib.hid dd
      clear dd hy
      go_wp2
      exact ⟨⟨k + 1, by simp; omega, by omega, trivial⟩, by simp [intOf]; omega⟩
    · obtain rfl : k = M := by omega
      by_cases hend : k = N - q
      · have hg : grp rest = 0 := HEND.out.2 (by rw [HRL.out]; exact hend)
        have HR := Lib.hid (HI1.out hg)
        have hnl : ¬ (q : Int) + k < N := by omega
        have hb : ((q : Int) + k == (N : Int)) = true := by rw [beq_iff_eq]; omega
        clear hg
        go_wp2_with (first
          | (go_at_call 80; ((with_reducible refine (stop_any H.out 5 N).mono ?_); rintro x w2 ⟨rfl, h2, f2⟩; have H2 := Lib.hid h2; have F2 := Lib.hid f2; clear h2 f2)))
        go_ret
        rw [HR.out]
        exact ⟨rfl, H2.out, F2.out⟩
      · have hg : grp rest ≠ 0 := fun e => hend (by have := HEND.out.1 e; rw [HRL.out] at this; exact this)
        have hgk := HGG.out hg
        have dc := HC.out k (by omega)
        have hy := HOFF.out (by rw [HRL.out]; omega)
        have HCk := Lib.hid dc
        have dd : off + q + k = off + (q + k) := Nat.add_assoc _ _ _
        have hlt : (q : Int) + k < N := by omega
        have hb : ((q : Int) + k == (N : Int)) = false := by rw [beq_eq_false_iff_ne]; omega
        have hR2 := HI2.out hg
        have hR3 := HI3.out hg
        rw [hgk] at hR3
        have hre := HRE.out
        rw [hgk] at hre
        obtain ⟨row, hrow⟩ : ∃ row, row = rest.take (k + 1) := ⟨_, rfl⟩
        have hrl : row.length = k + 1 := by rw [hrow, List.length_take, HRL.out]; omega
        have hrg : ∀ j, j < k + 1 → row.getD j 0 = rest.getD j 0 := fun j hj => by rw [hrow, getD_take hj]
        have hgr : grp row = row.length := by
          have := grp_take (l := rest) hg
          rw [hgk, ← hrow] at this
          rw [this, hrl]
        rw [hre, ← hrow] at hR2 hR3
        have HROW := Lib.hid hrow
        have HRW := Lib.hid hrl
        have HRG := Lib.hid hrg
        have HR2 := Lib.hid hR2
        have HR3 := Lib.hid hR3
        have HGR := Lib.hid hgr
        have HDD := Lib.hid dd
        clear hrl hrg hrow hre hR2 hR3 hg hgk hgr dd
        generalize rest.getD k 0 = y at dc hy
        have hyi : ¬ (128 : Int) ≤ (y.toNat : Int) := by omega
        clear hy
        go_wp2
        clear dc
        go_loopw [4, 5] (fun u i wr => ∃ j U : Nat, i = .int .i64 ((q : Int) + j - 1) ∧ j ≤ k + 1 ∧ u = .int .u64 (U : Int) ∧ Hid ((k < 10 → U = val (row.drop j) % 18446744073709551616) ∧ (¬ k < 10 → U = 0 ∧ j = k + 1)) ∧ wr = w) (fun _ i _ => (intOf i + 1 - q).toNat)
        case atStart => exact ⟨k + 1, 0, by simp; omega, Nat.le_refl _, rfl, ⟨fun _ => by rw [List.drop_eq_nil_of_le (by rw [HRW.out]; exact Nat.le_refl _)]; rfl, fun _ => ⟨rfl, rfl⟩⟩, rfl⟩
        case round =>
          obtain ⟨j, U, rfl, hj, rfl, HU, hww⟩ := hrel
          obtain rfl := hww.symm
          by_cases hgo : 0 < j ∧ k < 10
          · obtain ⟨i, rfl⟩ : ∃ i, j = i + 1 := ⟨j - 1, by omega⟩
            rw [show (q : Int) + ((i + 1 : Nat) : Int) - 1 = (q : Int) + i by omega]
            have dc := HC.out i (by omega)
            have hd := val_drop (l := row) (j := i) (by rw [HRW.out]; omega)
            rw [HRG.out i (by omega)] at hd
            have hu := HU.out.1 hgo.2
            generalize rest.getD i 0 = y2 at *
            generalize val (row.drop (i + 1)) = n at *
            have KEY := Lib.hid (shl_group n (y2.toNat % 128) (by omega))
            have HD := Lib.hid hd
            have HUE := Lib.hid hu
            have hU64 : U < 18446744073709551616 := by omega
            have hk10 : (k : Int) < 10 := by omega
            have hy2 := byte_lt y2
            have hki : (q : Int) + k - q < 10 := by omega
            have HH10 := Lib.hid hgo.2
            have hik := Lib.hid (show i + 1 ≤ k + 1 by exact hj)
            clear hd hu HU hgo
            go_wp2
            rw [band8_127 hy2, wrap_nat (by omega), HUE.out, KEY.out]
            exact ⟨⟨i, _, rfl, by omega, rfl, ⟨fun _ => by rw [HD.out], fun h => absurd HH10.out h⟩, trivial⟩, by simp [intOf]; omega⟩
          · have HX : Hid ((k < 10 ∧ j = 0) ∨ (¬ k < 10 ∧ j = k + 1)) := by
              show _ ∨ _
              by_cases h10 : k < 10
              · exact .inl ⟨h10, by omega⟩
              · exact .inr ⟨h10, (HU.out.2 h10).2⟩
            have hU : U < 18446744073709551616 ∧ (vb U = row ↔ fits row) ∧ (fits row → U = val row) := by
              rcases HX.out with ⟨h10, h0⟩ | ⟨h10, _⟩
              · have e := HU.out.1 h10
                rw [h0, List.drop_zero] at e
                refine ⟨by omega, ⟨fun hv => ?_, fun hf => ?_⟩, fun hf => ?_⟩
                · have e2 : val row = U := by rw [← hv, val_vb]
                  exact ⟨by rw [e2]; exact hv, by omega⟩
                · have e2 : U = val row := by rw [e]; exact Nat.mod_eq_of_lt hf.2
                  rw [e2]; exact hf.1
                · rw [e]; exact Nat.mod_eq_of_lt hf.2
              · have e := (HU.out.2 h10).1
                have hno : ¬ fits row := fun hf => by have := fits_len hf; rw [HRW.out] at this; omega
                refine ⟨by omega, ⟨fun hv => ?_, fun hf => absurd hf hno⟩, fun hf => absurd hf hno⟩
                have := congrArg List.length hv
                rw [HRW.out, e, vb_lo (by omega)] at this
                simp at this
                omega
            obtain ⟨hU64, hUF, hUV⟩ := hU
            have HLK : Hid (s.pl + (k + 1) ≤ s.bs.length) := by show _ ≤ _; rw [HQ.out, HN.out]; omega
            have HRK : Hid (row = (s.bs.drop s.pl).take (k + 1)) := by show _ = _; rw [HROW.out, HQ.out, HRS.out]
            have HUF := Lib.hid hUF
            have HUV := Lib.hid hUV
            clear HU hUF hUV hgo HC HON HOFF HEND HGG HRG HGR HI1 HI2 HI3
            rcases HX.out with ⟨h10, rfl⟩ | ⟨h10, rfl⟩
            · rw [show (q : Int) + ((0 : Nat) : Int) - 1 = (q : Int) - 1 by omega]
              rcases (show U % 2 = 1 ∨ U % 2 = 0 by omega) with h2 | h2
              · skip
                have hb2 : ((U : Int) % 2 == 1) = true := by rw [beq_iff_eq]; omega
                have HVAL : Hid (unf U = -((U : Int) / 2) - 1) := by
                  show _ = _
                  unfold unf
                  rw [if_pos h2]
                  omega
                have HFN : Hid (foldN (-((U : Int) / 2) - 1) = U) := by show _ = _; rw [← HVAL.out]; exact foldN_unf
                go_wp2
                have hw1 : IntKind.i64.wrap ((q : Int) + k + 1) = (q : Int) + k + 1 := IntWalk.i64_in _ (by omega)
                have hw2 : ((q : Int) + k + 1).toNat = q + k + 1 := by omega
                have hw3 : q + k + 1 - q = k + 1 := by omega
                have hw4 : (0 : Int) ≤ (q : Int) + k + 1 := by omega
                have hw5 : (q : Int) + k + 1 ≤ cap := by omega
                have hw6 : q ≤ q + k + 1 := by omega
                have hw7 : ¬ cap = q := by omega
                have hw8 : (q : Int) ≤ (q : Int) + k + 1 := by omega
                have hw9 : q + k + 1 ≤ cap := by omega
                have hcv0 := (H.out.fr (Fr.refl (fun _ => False) w).drew id (fun _ _ => id)).convRow HLK.out HRK.out
                rw [HQ.out] at hcv0
                refine wp_region_held (S := (fun w' => w'.cell? ⟨p, 0, none⟩ = some (.slice (some ⟨b, off, none⟩) N cap) ∧ w'.cell? ⟨p, 1, none⟩ = some (.int .i64 (q : Int)) ∧ (convert 32 9 (.slice (some ⟨b, off + q, none⟩) (k + 1) (cap - q))).run Tryz.prog w' = .ok (.string ⟨row.toArray⟩) w')) (by kernel_rfl) ?_
                change wpAnyH _ _ _ _ _ _ _ _ (World.drew _)
                refine wpAnyH_take (i := 0) (v := ?v100_0) rfl (by kernel_rfl) (by kernel_rfl) (by kernel_rfl) (fun _ _ _ h => h) (Or.inl ⟨by rfl, ?y1_0⟩) ⟨c0, c1, hcv0⟩ ?r1_0
                case y1_0 => (intro W hSw; (try dsimp only at hSw); obtain ⟨hSw1, hSw2, hSw3⟩ := hSw; first | (go_simp; done) | (go_simp; with_reducible rfl))
                try go_simp
                refine wpAnyH_take (i := 3) (v := ?v100_3) rfl (by kernel_rfl) (by kernel_rfl) (by kernel_rfl) (fun _ _ _ h => h) (Or.inl ⟨by rfl, ?y1_3⟩) ⟨c0, c1, hcv0⟩ ?r1_3
                case y1_3 => (intro W hSw; (try dsimp only at hSw); obtain ⟨hSw1, hSw2, hSw3⟩ := hSw; first | (go_simp; done) | (go_simp; with_reducible rfl))
                try go_simp
                refine wpAnyH_take (i := 4) (v := ?v100_4) rfl (by kernel_rfl) (by kernel_rfl) (by kernel_rfl) (fun _ _ _ h => h) (Or.inl ⟨by rfl, ?y1_4⟩) ⟨c0, c1, hcv0⟩ ?r1_4
                case y1_4 => (intro W hSw; (try dsimp only at hSw); obtain ⟨hSw1, hSw2, hSw3⟩ := hSw; first | (go_simp; done) | (go_simp; with_reducible rfl))
                try go_simp
                refine wpAnyH_take (i := 5) (v := ?v100_5) rfl (by kernel_rfl) (by kernel_rfl) (by kernel_rfl) (fun _ _ _ h => h) (Or.inl ⟨by rfl, ?y1_5⟩) ⟨c0, c1, hcv0⟩ ?r1_5
                case y1_5 => (intro W hSw; (try dsimp only at hSw); obtain ⟨hSw1, hSw2, hSw3⟩ := hSw; first | (go_simp; done) | (go_simp; with_reducible rfl))
                try go_simp
                refine wpAnyH_take (i := 6) (v := ?v100_6) rfl (by kernel_rfl) (by kernel_rfl) (by kernel_rfl) (fun _ _ _ h => h) (Or.inl ⟨by rfl, ?y1_6⟩) ⟨c0, c1, hcv0⟩ ?r1_6
                case y1_6 => (intro W hSw; (try dsimp only at hSw); obtain ⟨hSw1, hSw2, hSw3⟩ := hSw; first | (go_simp; done) | (go_simp; with_reducible rfl))
                try go_simp
                refine wpAnyH_take (i := 7) (v := ?v100_7) rfl (by kernel_rfl) (by kernel_rfl) (by kernel_rfl) (fun _ _ _ h => h) (Or.inl ⟨by rfl, ?y1_7⟩) ⟨c0, c1, hcv0⟩ ?r1_7
                case y1_7 => (intro W hSw; (try dsimp only at hSw); obtain ⟨hSw1, hSw2, hSw3⟩ := hSw; first | (go_simp; done) | (go_simp; with_reducible rfl))
                try go_simp
                refine wpAnyH_take (i := 8) (v := ?v100_8) rfl (by kernel_rfl) (by kernel_rfl) (by kernel_rfl) (fun _ _ _ h => h) (Or.inl ⟨by rfl, ?y1_8⟩) ⟨c0, c1, hcv0⟩ ?r1_8
                case y1_8 => (intro W hSw; (try dsimp only at hSw); obtain ⟨hSw1, hSw2, hSw3⟩ := hSw; first | (go_simp; done) | (go_simp; with_reducible rfl))
                try go_simp
                refine wpAnyH_take (i := 9) (v := ?v100_9) rfl (by kernel_rfl) (by kernel_rfl) (by kernel_rfl) (fun _ _ _ h => h) (Or.inl ⟨by rfl, ?y1_9⟩) ⟨c0, c1, hcv0⟩ ?r1_9
                case y1_9 => (intro W hSw; (try dsimp only at hSw); obtain ⟨hSw1, hSw2, hSw3⟩ := hSw; first | (go_simp; done) | (go_simp; with_reducible rfl))
                try go_simp
                refine wpAnyH_take (i := 10) (v := ?v100_10) rfl (by kernel_rfl) (by kernel_rfl) (by kernel_rfl) (fun _ _ _ h => h) (Or.inl ⟨by rfl, ?y1_10⟩) ⟨c0, c1, hcv0⟩ ?r1_10
                case y1_10 => (intro W hSw; (try dsimp only at hSw); obtain ⟨hSw1, hSw2, hSw3⟩ := hSw; first | (go_simp; done) | (go_simp; with_reducible rfl))
                try go_simp
                refine wpAnyH_take (i := 11) (v := ?v100_11) rfl (by kernel_rfl) (by kernel_rfl) (by kernel_rfl) (fun _ _ _ h => h) (Or.inl ⟨by rfl, ?y1_11⟩) ⟨c0, c1, hcv0⟩ ?r1_11
                case y1_11 => (intro W hSw; (try dsimp only at hSw); obtain ⟨hSw1, hSw2, hSw3⟩ := hSw; first | (go_simp; done) | (go_simp; with_reducible rfl))
                try go_simp
                refine wpAnyH_take (i := 12) (v := ?v100_12) rfl (by kernel_rfl) (by kernel_rfl) (by kernel_rfl) (fun _ _ _ h => h) (Or.inl ⟨by rfl, ?y1_12⟩) ⟨c0, c1, hcv0⟩ ?r1_12
                case y1_12 => (intro W hSw; (try dsimp only at hSw); obtain ⟨hSw1, hSw2, hSw3⟩ := hSw; first | (go_simp; done) | (go_simp; with_reducible rfl))
                try go_simp
                refine wpAnyH_take (i := 13) (v := ?v100_13) rfl (by kernel_rfl) (by kernel_rfl) (by kernel_rfl) (fun _ _ _ h => h) (Or.inl ⟨by rfl, ?y1_13⟩) ⟨c0, c1, hcv0⟩ ?r1_13
                case y1_13 => (intro W hSw; (try dsimp only at hSw); obtain ⟨hSw1, hSw2, hSw3⟩ := hSw; first | (go_simp; done) | (go_simp; with_reducible rfl))
                try go_simp
                refine wpAnyH_take (i := 14) (v := ?v100_14) rfl (by kernel_rfl) (by kernel_rfl) (by kernel_rfl) (fun _ _ _ h => h) (Or.inl ⟨by rfl, ?y1_14⟩) ⟨c0, c1, hcv0⟩ ?r1_14
                case y1_14 => (intro W hSw; (try dsimp only at hSw); obtain ⟨hSw1, hSw2, hSw3⟩ := hSw; first | (go_simp; done) | (go_simp; with_reducible rfl))
                try go_simp
                refine wpAnyH_ready (rs := [1]) (by kernel_rfl) (by simp) ?_
                refine AllReadyH.cons rfl (fun K hK => ?_) AllReadyH.nil
                go_simp
                (go_wp2_with (first
                  | (go_at_call 54; refine (refInt_any _ (by omega) (by omega) _).mono ?_; rintro e w2 ⟨v2, rfl, ho⟩; rw [HFN.out] at ho; obtain ⟨g, c2', rfl⟩ := own_shape ho.1 (vb_pos U); have F2 := (Fr.refl (fun _ => False) w).drew.trans (T := fun _ => False) (Fr.of_below ho.2 (S := fun _ => False) (fun i hi hj => by omega)) (fun _ _ h => h); have h2' := H.out.fr F2 id (fun _ _ => id); have d0 := h2'.c0; have d1 := h2'.c1; rw [HQ.out] at d1; have dr1 := h2'.free 1; have H2 := Lib.hid h2'; have FF2 := Lib.hid F2; have hcv1 := own_conv ho.1; have hcv2 := h2'.convRow HLK.out HRK.out; rw [HQ.out] at hcv2; clear ho F2 h2')))
                refine hK.out _ _ ⟨d0, d1, hcv2⟩ (fun _ => ?_)
                clear hK K
                try go_simp
                refine wpAnyH_ready (rs := [2]) (by kernel_rfl) (by simp) ?_
                refine AllReadyH.cons rfl (fun K hK => ?_) AllReadyH.nil
                go_simp
                refine hK.out _ _ ⟨d0, d1, hcv2⟩ (fun _ => ?_)
                clear hK K
                try go_simp
                refine wpAnyH_ready (rs := [15]) (by kernel_rfl) (by simp) ?_
                refine AllReadyH.cons rfl (fun K hK => ?_) AllReadyH.nil
                go_simp
                refine hK.out _ _ ⟨d0, d1, hcv2⟩ (fun _ => ?_)
                clear hK K
                try go_simp
                refine wpAnyH_done (by kernel_rfl) ?_ _
                all_goals clear hw1 hw2 hw3 hw4 hw5 hw6 hw7 hw8 hw9
                all_goals (go_wp2_with (first
                    | (go_at_call 80; ((with_reducible refine (stop_any H2.out 4 q).mono ?_); rintro x w3 ⟨rfl, h3, f3⟩; have H3 := Lib.hid h3; have F3 := Lib.hid f3; clear h3 f3))))
                all_goals go_ret
                all_goals first
                  | (have ht : (!(vb U == row)) = false := by assumption
                     have hf := HUF.out.1 (by rw [Bool.not_eq_false', beq_iff_eq] at ht; exact ht)
                     rw [HR3.out hf]
                     exact ⟨by show Ending.returned (Value.int .i64 (-((U : Int) / 2) - 1)) = Ending.returned (Value.int .i64 (unf (val row))); rw [← HUV.out hf, HVAL.out], H2.out.set1i (q + (k + 1)) (by simp; omega) (by rw [HN.out]; omega), (FF2.out.mono (fun _ _ h => h.elim)).same (fr_set1 _ 1 _)⟩)
                  | (have ht : (!(vb U == row)) = true := by assumption
                     have hf : ¬ fits row := fun hf => by rw [HUF.out.2 hf] at ht; simp at ht
                     rw [HR2.out hf]
                     exact ⟨rfl, H3.out, (FF2.out.mono (fun _ _ h => h.elim)).same F3.out⟩)
              · skip
                have hb2 : ((U : Int) % 2 == 1) = false := by rw [beq_eq_false_iff_ne]; omega
                have HVAL : Hid (unf U = (U : Int) / 2) := by
                  show _ = _
                  unfold unf
                  rw [if_neg (by omega)]
                  omega
                have HFN : Hid (foldN ((U : Int) / 2) = U) := by show _ = _; rw [← HVAL.out]; exact foldN_unf
                go_wp2
                have hw1 : IntKind.i64.wrap ((q : Int) + k + 1) = (q : Int) + k + 1 := IntWalk.i64_in _ (by omega)
                have hw2 : ((q : Int) + k + 1).toNat = q + k + 1 := by omega
                have hw3 : q + k + 1 - q = k + 1 := by omega
                have hw4 : (0 : Int) ≤ (q : Int) + k + 1 := by omega
                have hw5 : (q : Int) + k + 1 ≤ cap := by omega
                have hw6 : q ≤ q + k + 1 := by omega
                have hw7 : ¬ cap = q := by omega
                have hw8 : (q : Int) ≤ (q : Int) + k + 1 := by omega
                have hw9 : q + k + 1 ≤ cap := by omega
                have hcv0 := (H.out.fr (Fr.refl (fun _ => False) w).drew id (fun _ _ => id)).convRow HLK.out HRK.out
                rw [HQ.out] at hcv0
                refine wp_region_held (S := (fun w' => w'.cell? ⟨p, 0, none⟩ = some (.slice (some ⟨b, off, none⟩) N cap) ∧ w'.cell? ⟨p, 1, none⟩ = some (.int .i64 (q : Int)) ∧ (convert 32 9 (.slice (some ⟨b, off + q, none⟩) (k + 1) (cap - q))).run Tryz.prog w' = .ok (.string ⟨row.toArray⟩) w')) (by kernel_rfl) ?_
                change wpAnyH _ _ _ _ _ _ _ _ (World.drew _)
                refine wpAnyH_take (i := 0) (v := ?v200_0) rfl (by kernel_rfl) (by kernel_rfl) (by kernel_rfl) (fun _ _ _ h => h) (Or.inl ⟨by rfl, ?y2_0⟩) ⟨c0, c1, hcv0⟩ ?r2_0
                case y2_0 => (intro W hSw; (try dsimp only at hSw); obtain ⟨hSw1, hSw2, hSw3⟩ := hSw; first | (go_simp; done) | (go_simp; with_reducible rfl))
                try go_simp
                refine wpAnyH_take (i := 3) (v := ?v200_3) rfl (by kernel_rfl) (by kernel_rfl) (by kernel_rfl) (fun _ _ _ h => h) (Or.inl ⟨by rfl, ?y2_3⟩) ⟨c0, c1, hcv0⟩ ?r2_3
                case y2_3 => (intro W hSw; (try dsimp only at hSw); obtain ⟨hSw1, hSw2, hSw3⟩ := hSw; first | (go_simp; done) | (go_simp; with_reducible rfl))
                try go_simp
                refine wpAnyH_take (i := 4) (v := ?v200_4) rfl (by kernel_rfl) (by kernel_rfl) (by kernel_rfl) (fun _ _ _ h => h) (Or.inl ⟨by rfl, ?y2_4⟩) ⟨c0, c1, hcv0⟩ ?r2_4
                case y2_4 => (intro W hSw; (try dsimp only at hSw); obtain ⟨hSw1, hSw2, hSw3⟩ := hSw; first | (go_simp; done) | (go_simp; with_reducible rfl))
                try go_simp
                refine wpAnyH_take (i := 5) (v := ?v200_5) rfl (by kernel_rfl) (by kernel_rfl) (by kernel_rfl) (fun _ _ _ h => h) (Or.inl ⟨by rfl, ?y2_5⟩) ⟨c0, c1, hcv0⟩ ?r2_5
                case y2_5 => (intro W hSw; (try dsimp only at hSw); obtain ⟨hSw1, hSw2, hSw3⟩ := hSw; first | (go_simp; done) | (go_simp; with_reducible rfl))
                try go_simp
                refine wpAnyH_take (i := 6) (v := ?v200_6) rfl (by kernel_rfl) (by kernel_rfl) (by kernel_rfl) (fun _ _ _ h => h) (Or.inl ⟨by rfl, ?y2_6⟩) ⟨c0, c1, hcv0⟩ ?r2_6
                case y2_6 => (intro W hSw; (try dsimp only at hSw); obtain ⟨hSw1, hSw2, hSw3⟩ := hSw; first | (go_simp; done) | (go_simp; with_reducible rfl))
                try go_simp
                refine wpAnyH_take (i := 7) (v := ?v200_7) rfl (by kernel_rfl) (by kernel_rfl) (by kernel_rfl) (fun _ _ _ h => h) (Or.inl ⟨by rfl, ?y2_7⟩) ⟨c0, c1, hcv0⟩ ?r2_7
                case y2_7 => (intro W hSw; (try dsimp only at hSw); obtain ⟨hSw1, hSw2, hSw3⟩ := hSw; first | (go_simp; done) | (go_simp; with_reducible rfl))
                try go_simp
                refine wpAnyH_take (i := 8) (v := ?v200_8) rfl (by kernel_rfl) (by kernel_rfl) (by kernel_rfl) (fun _ _ _ h => h) (Or.inl ⟨by rfl, ?y2_8⟩) ⟨c0, c1, hcv0⟩ ?r2_8
                case y2_8 => (intro W hSw; (try dsimp only at hSw); obtain ⟨hSw1, hSw2, hSw3⟩ := hSw; first | (go_simp; done) | (go_simp; with_reducible rfl))
                try go_simp
                refine wpAnyH_take (i := 9) (v := ?v200_9) rfl (by kernel_rfl) (by kernel_rfl) (by kernel_rfl) (fun _ _ _ h => h) (Or.inl ⟨by rfl, ?y2_9⟩) ⟨c0, c1, hcv0⟩ ?r2_9
                case y2_9 => (intro W hSw; (try dsimp only at hSw); obtain ⟨hSw1, hSw2, hSw3⟩ := hSw; first | (go_simp; done) | (go_simp; with_reducible rfl))
                try go_simp
                refine wpAnyH_take (i := 10) (v := ?v200_10) rfl (by kernel_rfl) (by kernel_rfl) (by kernel_rfl) (fun _ _ _ h => h) (Or.inl ⟨by rfl, ?y2_10⟩) ⟨c0, c1, hcv0⟩ ?r2_10
                case y2_10 => (intro W hSw; (try dsimp only at hSw); obtain ⟨hSw1, hSw2, hSw3⟩ := hSw; first | (go_simp; done) | (go_simp; with_reducible rfl))
                try go_simp
                refine wpAnyH_take (i := 11) (v := ?v200_11) rfl (by kernel_rfl) (by kernel_rfl) (by kernel_rfl) (fun _ _ _ h => h) (Or.inl ⟨by rfl, ?y2_11⟩) ⟨c0, c1, hcv0⟩ ?r2_11
                case y2_11 => (intro W hSw; (try dsimp only at hSw); obtain ⟨hSw1, hSw2, hSw3⟩ := hSw; first | (go_simp; done) | (go_simp; with_reducible rfl))
                try go_simp
                refine wpAnyH_take (i := 12) (v := ?v200_12) rfl (by kernel_rfl) (by kernel_rfl) (by kernel_rfl) (fun _ _ _ h => h) (Or.inl ⟨by rfl, ?y2_12⟩) ⟨c0, c1, hcv0⟩ ?r2_12
                case y2_12 => (intro W hSw; (try dsimp only at hSw); obtain ⟨hSw1, hSw2, hSw3⟩ := hSw; first | (go_simp; done) | (go_simp; with_reducible rfl))
                try go_simp
                refine wpAnyH_take (i := 13) (v := ?v200_13) rfl (by kernel_rfl) (by kernel_rfl) (by kernel_rfl) (fun _ _ _ h => h) (Or.inl ⟨by rfl, ?y2_13⟩) ⟨c0, c1, hcv0⟩ ?r2_13
                case y2_13 => (intro W hSw; (try dsimp only at hSw); obtain ⟨hSw1, hSw2, hSw3⟩ := hSw; first | (go_simp; done) | (go_simp; with_reducible rfl))
                try go_simp
                refine wpAnyH_take (i := 14) (v := ?v200_14) rfl (by kernel_rfl) (by kernel_rfl) (by kernel_rfl) (fun _ _ _ h => h) (Or.inl ⟨by rfl, ?y2_14⟩) ⟨c0, c1, hcv0⟩ ?r2_14
                case y2_14 => (intro W hSw; (try dsimp only at hSw); obtain ⟨hSw1, hSw2, hSw3⟩ := hSw; first | (go_simp; done) | (go_simp; with_reducible rfl))
                try go_simp
                refine wpAnyH_ready (rs := [1]) (by kernel_rfl) (by simp) ?_
                refine AllReadyH.cons rfl (fun K hK => ?_) AllReadyH.nil
                go_simp
                (go_wp2_with (first
                  | (go_at_call 54; refine (refInt_any _ (by omega) (by omega) _).mono ?_; rintro e w2 ⟨v2, rfl, ho⟩; rw [HFN.out] at ho; obtain ⟨g, c2', rfl⟩ := own_shape ho.1 (vb_pos U); have F2 := (Fr.refl (fun _ => False) w).drew.trans (T := fun _ => False) (Fr.of_below ho.2 (S := fun _ => False) (fun i hi hj => by omega)) (fun _ _ h => h); have h2' := H.out.fr F2 id (fun _ _ => id); have d0 := h2'.c0; have d1 := h2'.c1; rw [HQ.out] at d1; have dr1 := h2'.free 1; have H2 := Lib.hid h2'; have FF2 := Lib.hid F2; have hcv1 := own_conv ho.1; have hcv2 := h2'.convRow HLK.out HRK.out; rw [HQ.out] at hcv2; clear ho F2 h2')))
                refine hK.out _ _ ⟨d0, d1, hcv2⟩ (fun _ => ?_)
                clear hK K
                try go_simp
                refine wpAnyH_ready (rs := [2]) (by kernel_rfl) (by simp) ?_
                refine AllReadyH.cons rfl (fun K hK => ?_) AllReadyH.nil
                go_simp
                refine hK.out _ _ ⟨d0, d1, hcv2⟩ (fun _ => ?_)
                clear hK K
                try go_simp
                refine wpAnyH_ready (rs := [15]) (by kernel_rfl) (by simp) ?_
                refine AllReadyH.cons rfl (fun K hK => ?_) AllReadyH.nil
                go_simp
                refine hK.out _ _ ⟨d0, d1, hcv2⟩ (fun _ => ?_)
                clear hK K
                try go_simp
                refine wpAnyH_done (by kernel_rfl) ?_ _
                all_goals clear hw1 hw2 hw3 hw4 hw5 hw6 hw7 hw8 hw9
                all_goals (go_wp2_with (first
                    | (go_at_call 80; ((with_reducible refine (stop_any H2.out 4 q).mono ?_); rintro x w3 ⟨rfl, h3, f3⟩; have H3 := Lib.hid h3; have F3 := Lib.hid f3; clear h3 f3))))
                all_goals go_ret
                all_goals first
                  | (have ht : (!(vb U == row)) = false := by assumption
                     have hf := HUF.out.1 (by rw [Bool.not_eq_false', beq_iff_eq] at ht; exact ht)
                     rw [HR3.out hf]
                     exact ⟨by show Ending.returned (Value.int .i64 ((U : Int) / 2)) = Ending.returned (Value.int .i64 (unf (val row))); rw [← HUV.out hf, HVAL.out], H2.out.set1i (q + (k + 1)) (by simp; omega) (by rw [HN.out]; omega), (FF2.out.mono (fun _ _ h => h.elim)).same (fr_set1 _ 1 _)⟩)
                  | (have ht : (!(vb U == row)) = true := by assumption
                     have hf : ¬ fits row := fun hf => by rw [HUF.out.2 hf] at ht; simp at ht
                     rw [HR2.out hf]
                     exact ⟨rfl, H3.out, (FF2.out.mono (fun _ _ h => h.elim)).same F3.out⟩)
            · rw [show (q : Int) + ((k + 1 : Nat) : Int) - 1 = (q : Int) + k by omega]
              have hk10 : ¬ (k : Int) < 10 := by omega
              have hki : ¬ ((q : Int) + k - q < 10) := by omega
              rcases (show U % 2 = 1 ∨ U % 2 = 0 by omega) with h2 | h2
              · skip
                have hb2 : ((U : Int) % 2 == 1) = true := by rw [beq_iff_eq]; omega
                have HVAL : Hid (unf U = -((U : Int) / 2) - 1) := by
                  show _ = _
                  unfold unf
                  rw [if_pos h2]
                  omega
                have HFN : Hid (foldN (-((U : Int) / 2) - 1) = U) := by show _ = _; rw [← HVAL.out]; exact foldN_unf
                go_wp2
                have hw1 : IntKind.i64.wrap ((q : Int) + k + 1) = (q : Int) + k + 1 := IntWalk.i64_in _ (by omega)
                have hw2 : ((q : Int) + k + 1).toNat = q + k + 1 := by omega
                have hw3 : q + k + 1 - q = k + 1 := by omega
                have hw4 : (0 : Int) ≤ (q : Int) + k + 1 := by omega
                have hw5 : (q : Int) + k + 1 ≤ cap := by omega
                have hw6 : q ≤ q + k + 1 := by omega
                have hw7 : ¬ cap = q := by omega
                have hw8 : (q : Int) ≤ (q : Int) + k + 1 := by omega
                have hw9 : q + k + 1 ≤ cap := by omega
                have hcv0 := (H.out.fr (Fr.refl (fun _ => False) w).drew id (fun _ _ => id)).convRow HLK.out HRK.out
                rw [HQ.out] at hcv0
                refine wp_region_held (S := (fun w' => w'.cell? ⟨p, 0, none⟩ = some (.slice (some ⟨b, off, none⟩) N cap) ∧ w'.cell? ⟨p, 1, none⟩ = some (.int .i64 (q : Int)) ∧ (convert 32 9 (.slice (some ⟨b, off + q, none⟩) (k + 1) (cap - q))).run Tryz.prog w' = .ok (.string ⟨row.toArray⟩) w')) (by kernel_rfl) ?_
                change wpAnyH _ _ _ _ _ _ _ _ (World.drew _)
                refine wpAnyH_take (i := 0) (v := ?v300_0) rfl (by kernel_rfl) (by kernel_rfl) (by kernel_rfl) (fun _ _ _ h => h) (Or.inl ⟨by rfl, ?y3_0⟩) ⟨c0, c1, hcv0⟩ ?r3_0
                case y3_0 => (intro W hSw; (try dsimp only at hSw); obtain ⟨hSw1, hSw2, hSw3⟩ := hSw; first | (go_simp; done) | (go_simp; with_reducible rfl))
                try go_simp
                refine wpAnyH_take (i := 3) (v := ?v300_3) rfl (by kernel_rfl) (by kernel_rfl) (by kernel_rfl) (fun _ _ _ h => h) (Or.inl ⟨by rfl, ?y3_3⟩) ⟨c0, c1, hcv0⟩ ?r3_3
                case y3_3 => (intro W hSw; (try dsimp only at hSw); obtain ⟨hSw1, hSw2, hSw3⟩ := hSw; first | (go_simp; done) | (go_simp; with_reducible rfl))
                try go_simp
                refine wpAnyH_take (i := 4) (v := ?v300_4) rfl (by kernel_rfl) (by kernel_rfl) (by kernel_rfl) (fun _ _ _ h => h) (Or.inl ⟨by rfl, ?y3_4⟩) ⟨c0, c1, hcv0⟩ ?r3_4
                case y3_4 => (intro W hSw; (try dsimp only at hSw); obtain ⟨hSw1, hSw2, hSw3⟩ := hSw; first | (go_simp; done) | (go_simp; with_reducible rfl))
                try go_simp
                refine wpAnyH_take (i := 5) (v := ?v300_5) rfl (by kernel_rfl) (by kernel_rfl) (by kernel_rfl) (fun _ _ _ h => h) (Or.inl ⟨by rfl, ?y3_5⟩) ⟨c0, c1, hcv0⟩ ?r3_5
                case y3_5 => (intro W hSw; (try dsimp only at hSw); obtain ⟨hSw1, hSw2, hSw3⟩ := hSw; first | (go_simp; done) | (go_simp; with_reducible rfl))
                try go_simp
                refine wpAnyH_take (i := 6) (v := ?v300_6) rfl (by kernel_rfl) (by kernel_rfl) (by kernel_rfl) (fun _ _ _ h => h) (Or.inl ⟨by rfl, ?y3_6⟩) ⟨c0, c1, hcv0⟩ ?r3_6
                case y3_6 => (intro W hSw; (try dsimp only at hSw); obtain ⟨hSw1, hSw2, hSw3⟩ := hSw; first | (go_simp; done) | (go_simp; with_reducible rfl))
                try go_simp
                refine wpAnyH_take (i := 7) (v := ?v300_7) rfl (by kernel_rfl) (by kernel_rfl) (by kernel_rfl) (fun _ _ _ h => h) (Or.inl ⟨by rfl, ?y3_7⟩) ⟨c0, c1, hcv0⟩ ?r3_7
                case y3_7 => (intro W hSw; (try dsimp only at hSw); obtain ⟨hSw1, hSw2, hSw3⟩ := hSw; first | (go_simp; done) | (go_simp; with_reducible rfl))
                try go_simp
                refine wpAnyH_take (i := 8) (v := ?v300_8) rfl (by kernel_rfl) (by kernel_rfl) (by kernel_rfl) (fun _ _ _ h => h) (Or.inl ⟨by rfl, ?y3_8⟩) ⟨c0, c1, hcv0⟩ ?r3_8
                case y3_8 => (intro W hSw; (try dsimp only at hSw); obtain ⟨hSw1, hSw2, hSw3⟩ := hSw; first | (go_simp; done) | (go_simp; with_reducible rfl))
                try go_simp
                refine wpAnyH_take (i := 9) (v := ?v300_9) rfl (by kernel_rfl) (by kernel_rfl) (by kernel_rfl) (fun _ _ _ h => h) (Or.inl ⟨by rfl, ?y3_9⟩) ⟨c0, c1, hcv0⟩ ?r3_9
                case y3_9 => (intro W hSw; (try dsimp only at hSw); obtain ⟨hSw1, hSw2, hSw3⟩ := hSw; first | (go_simp; done) | (go_simp; with_reducible rfl))
                try go_simp
                refine wpAnyH_take (i := 10) (v := ?v300_10) rfl (by kernel_rfl) (by kernel_rfl) (by kernel_rfl) (fun _ _ _ h => h) (Or.inl ⟨by rfl, ?y3_10⟩) ⟨c0, c1, hcv0⟩ ?r3_10
                case y3_10 => (intro W hSw; (try dsimp only at hSw); obtain ⟨hSw1, hSw2, hSw3⟩ := hSw; first | (go_simp; done) | (go_simp; with_reducible rfl))
                try go_simp
                refine wpAnyH_take (i := 11) (v := ?v300_11) rfl (by kernel_rfl) (by kernel_rfl) (by kernel_rfl) (fun _ _ _ h => h) (Or.inl ⟨by rfl, ?y3_11⟩) ⟨c0, c1, hcv0⟩ ?r3_11
                case y3_11 => (intro W hSw; (try dsimp only at hSw); obtain ⟨hSw1, hSw2, hSw3⟩ := hSw; first | (go_simp; done) | (go_simp; with_reducible rfl))
                try go_simp
                refine wpAnyH_take (i := 12) (v := ?v300_12) rfl (by kernel_rfl) (by kernel_rfl) (by kernel_rfl) (fun _ _ _ h => h) (Or.inl ⟨by rfl, ?y3_12⟩) ⟨c0, c1, hcv0⟩ ?r3_12
                case y3_12 => (intro W hSw; (try dsimp only at hSw); obtain ⟨hSw1, hSw2, hSw3⟩ := hSw; first | (go_simp; done) | (go_simp; with_reducible rfl))
                try go_simp
                refine wpAnyH_take (i := 13) (v := ?v300_13) rfl (by kernel_rfl) (by kernel_rfl) (by kernel_rfl) (fun _ _ _ h => h) (Or.inl ⟨by rfl, ?y3_13⟩) ⟨c0, c1, hcv0⟩ ?r3_13
                case y3_13 => (intro W hSw; (try dsimp only at hSw); obtain ⟨hSw1, hSw2, hSw3⟩ := hSw; first | (go_simp; done) | (go_simp; with_reducible rfl))
                try go_simp
                refine wpAnyH_take (i := 14) (v := ?v300_14) rfl (by kernel_rfl) (by kernel_rfl) (by kernel_rfl) (fun _ _ _ h => h) (Or.inl ⟨by rfl, ?y3_14⟩) ⟨c0, c1, hcv0⟩ ?r3_14
                case y3_14 => (intro W hSw; (try dsimp only at hSw); obtain ⟨hSw1, hSw2, hSw3⟩ := hSw; first | (go_simp; done) | (go_simp; with_reducible rfl))
                try go_simp
                refine wpAnyH_ready (rs := [1]) (by kernel_rfl) (by simp) ?_
                refine AllReadyH.cons rfl (fun K hK => ?_) AllReadyH.nil
                go_simp
                (go_wp2_with (first
                  | (go_at_call 54; refine (refInt_any _ (by omega) (by omega) _).mono ?_; rintro e w2 ⟨v2, rfl, ho⟩; rw [HFN.out] at ho; obtain ⟨g, c2', rfl⟩ := own_shape ho.1 (vb_pos U); have F2 := (Fr.refl (fun _ => False) w).drew.trans (T := fun _ => False) (Fr.of_below ho.2 (S := fun _ => False) (fun i hi hj => by omega)) (fun _ _ h => h); have h2' := H.out.fr F2 id (fun _ _ => id); have d0 := h2'.c0; have d1 := h2'.c1; rw [HQ.out] at d1; have dr1 := h2'.free 1; have H2 := Lib.hid h2'; have FF2 := Lib.hid F2; have hcv1 := own_conv ho.1; have hcv2 := h2'.convRow HLK.out HRK.out; rw [HQ.out] at hcv2; clear ho F2 h2')))
                refine hK.out _ _ ⟨d0, d1, hcv2⟩ (fun _ => ?_)
                clear hK K
                try go_simp
                refine wpAnyH_ready (rs := [2]) (by kernel_rfl) (by simp) ?_
                refine AllReadyH.cons rfl (fun K hK => ?_) AllReadyH.nil
                go_simp
                refine hK.out _ _ ⟨d0, d1, hcv2⟩ (fun _ => ?_)
                clear hK K
                try go_simp
                refine wpAnyH_ready (rs := [15]) (by kernel_rfl) (by simp) ?_
                refine AllReadyH.cons rfl (fun K hK => ?_) AllReadyH.nil
                go_simp
                refine hK.out _ _ ⟨d0, d1, hcv2⟩ (fun _ => ?_)
                clear hK K
                try go_simp
                refine wpAnyH_done (by kernel_rfl) ?_ _
                all_goals clear hw1 hw2 hw3 hw4 hw5 hw6 hw7 hw8 hw9
                all_goals (go_wp2_with (first
                    | (go_at_call 80; ((with_reducible refine (stop_any H2.out 4 q).mono ?_); rintro x w3 ⟨rfl, h3, f3⟩; have H3 := Lib.hid h3; have F3 := Lib.hid f3; clear h3 f3))))
                all_goals go_ret
                all_goals first
                  | (have ht : (!(vb U == row)) = false := by assumption
                     have hf := HUF.out.1 (by rw [Bool.not_eq_false', beq_iff_eq] at ht; exact ht)
                     rw [HR3.out hf]
                     exact ⟨by show Ending.returned (Value.int .i64 (-((U : Int) / 2) - 1)) = Ending.returned (Value.int .i64 (unf (val row))); rw [← HUV.out hf, HVAL.out], H2.out.set1i (q + (k + 1)) (by simp; omega) (by rw [HN.out]; omega), (FF2.out.mono (fun _ _ h => h.elim)).same (fr_set1 _ 1 _)⟩)
                  | (have ht : (!(vb U == row)) = true := by assumption
                     have hf : ¬ fits row := fun hf => by rw [HUF.out.2 hf] at ht; simp at ht
                     rw [HR2.out hf]
                     exact ⟨rfl, H3.out, (FF2.out.mono (fun _ _ h => h.elim)).same F3.out⟩)
              · skip
                have hb2 : ((U : Int) % 2 == 1) = false := by rw [beq_eq_false_iff_ne]; omega
                have HVAL : Hid (unf U = (U : Int) / 2) := by
                  show _ = _
                  unfold unf
                  rw [if_neg (by omega)]
                  omega
                have HFN : Hid (foldN ((U : Int) / 2) = U) := by show _ = _; rw [← HVAL.out]; exact foldN_unf
                go_wp2
                have hw1 : IntKind.i64.wrap ((q : Int) + k + 1) = (q : Int) + k + 1 := IntWalk.i64_in _ (by omega)
                have hw2 : ((q : Int) + k + 1).toNat = q + k + 1 := by omega
                have hw3 : q + k + 1 - q = k + 1 := by omega
                have hw4 : (0 : Int) ≤ (q : Int) + k + 1 := by omega
                have hw5 : (q : Int) + k + 1 ≤ cap := by omega
                have hw6 : q ≤ q + k + 1 := by omega
                have hw7 : ¬ cap = q := by omega
                have hw8 : (q : Int) ≤ (q : Int) + k + 1 := by omega
                have hw9 : q + k + 1 ≤ cap := by omega
                have hcv0 := (H.out.fr (Fr.refl (fun _ => False) w).drew id (fun _ _ => id)).convRow HLK.out HRK.out
                rw [HQ.out] at hcv0
                refine wp_region_held (S := (fun w' => w'.cell? ⟨p, 0, none⟩ = some (.slice (some ⟨b, off, none⟩) N cap) ∧ w'.cell? ⟨p, 1, none⟩ = some (.int .i64 (q : Int)) ∧ (convert 32 9 (.slice (some ⟨b, off + q, none⟩) (k + 1) (cap - q))).run Tryz.prog w' = .ok (.string ⟨row.toArray⟩) w')) (by kernel_rfl) ?_
                change wpAnyH _ _ _ _ _ _ _ _ (World.drew _)
                refine wpAnyH_take (i := 0) (v := ?v400_0) rfl (by kernel_rfl) (by kernel_rfl) (by kernel_rfl) (fun _ _ _ h => h) (Or.inl ⟨by rfl, ?y4_0⟩) ⟨c0, c1, hcv0⟩ ?r4_0
                case y4_0 => (intro W hSw; (try dsimp only at hSw); obtain ⟨hSw1, hSw2, hSw3⟩ := hSw; first | (go_simp; done) | (go_simp; with_reducible rfl))
                try go_simp
                refine wpAnyH_take (i := 3) (v := ?v400_3) rfl (by kernel_rfl) (by kernel_rfl) (by kernel_rfl) (fun _ _ _ h => h) (Or.inl ⟨by rfl, ?y4_3⟩) ⟨c0, c1, hcv0⟩ ?r4_3
                case y4_3 => (intro W hSw; (try dsimp only at hSw); obtain ⟨hSw1, hSw2, hSw3⟩ := hSw; first | (go_simp; done) | (go_simp; with_reducible rfl))
                try go_simp
                refine wpAnyH_take (i := 4) (v := ?v400_4) rfl (by kernel_rfl) (by kernel_rfl) (by kernel_rfl) (fun _ _ _ h => h) (Or.inl ⟨by rfl, ?y4_4⟩) ⟨c0, c1, hcv0⟩ ?r4_4
                case y4_4 => (intro W hSw; (try dsimp only at hSw); obtain ⟨hSw1, hSw2, hSw3⟩ := hSw; first | (go_simp; done) | (go_simp; with_reducible rfl))
                try go_simp
                refine wpAnyH_take (i := 5) (v := ?v400_5) rfl (by kernel_rfl) (by kernel_rfl) (by kernel_rfl) (fun _ _ _ h => h) (Or.inl ⟨by rfl, ?y4_5⟩) ⟨c0, c1, hcv0⟩ ?r4_5
                case y4_5 => (intro W hSw; (try dsimp only at hSw); obtain ⟨hSw1, hSw2, hSw3⟩ := hSw; first | (go_simp; done) | (go_simp; with_reducible rfl))
                try go_simp
                refine wpAnyH_take (i := 6) (v := ?v400_6) rfl (by kernel_rfl) (by kernel_rfl) (by kernel_rfl) (fun _ _ _ h => h) (Or.inl ⟨by rfl, ?y4_6⟩) ⟨c0, c1, hcv0⟩ ?r4_6
                case y4_6 => (intro W hSw; (try dsimp only at hSw); obtain ⟨hSw1, hSw2, hSw3⟩ := hSw; first | (go_simp; done) | (go_simp; with_reducible rfl))
                try go_simp
                refine wpAnyH_take (i := 7) (v := ?v400_7) rfl (by kernel_rfl) (by kernel_rfl) (by kernel_rfl) (fun _ _ _ h => h) (Or.inl ⟨by rfl, ?y4_7⟩) ⟨c0, c1, hcv0⟩ ?r4_7
                case y4_7 => (intro W hSw; (try dsimp only at hSw); obtain ⟨hSw1, hSw2, hSw3⟩ := hSw; first | (go_simp; done) | (go_simp; with_reducible rfl))
                try go_simp
                refine wpAnyH_take (i := 8) (v := ?v400_8) rfl (by kernel_rfl) (by kernel_rfl) (by kernel_rfl) (fun _ _ _ h => h) (Or.inl ⟨by rfl, ?y4_8⟩) ⟨c0, c1, hcv0⟩ ?r4_8
                case y4_8 => (intro W hSw; (try dsimp only at hSw); obtain ⟨hSw1, hSw2, hSw3⟩ := hSw; first | (go_simp; done) | (go_simp; with_reducible rfl))
                try go_simp
                refine wpAnyH_take (i := 9) (v := ?v400_9) rfl (by kernel_rfl) (by kernel_rfl) (by kernel_rfl) (fun _ _ _ h => h) (Or.inl ⟨by rfl, ?y4_9⟩) ⟨c0, c1, hcv0⟩ ?r4_9
                case y4_9 => (intro W hSw; (try dsimp only at hSw); obtain ⟨hSw1, hSw2, hSw3⟩ := hSw; first | (go_simp; done) | (go_simp; with_reducible rfl))
                try go_simp
                refine wpAnyH_take (i := 10) (v := ?v400_10) rfl (by kernel_rfl) (by kernel_rfl) (by kernel_rfl) (fun _ _ _ h => h) (Or.inl ⟨by rfl, ?y4_10⟩) ⟨c0, c1, hcv0⟩ ?r4_10
                case y4_10 => (intro W hSw; (try dsimp only at hSw); obtain ⟨hSw1, hSw2, hSw3⟩ := hSw; first | (go_simp; done) | (go_simp; with_reducible rfl))
                try go_simp
                refine wpAnyH_take (i := 11) (v := ?v400_11) rfl (by kernel_rfl) (by kernel_rfl) (by kernel_rfl) (fun _ _ _ h => h) (Or.inl ⟨by rfl, ?y4_11⟩) ⟨c0, c1, hcv0⟩ ?r4_11
                case y4_11 => (intro W hSw; (try dsimp only at hSw); obtain ⟨hSw1, hSw2, hSw3⟩ := hSw; first | (go_simp; done) | (go_simp; with_reducible rfl))
                try go_simp
                refine wpAnyH_take (i := 12) (v := ?v400_12) rfl (by kernel_rfl) (by kernel_rfl) (by kernel_rfl) (fun _ _ _ h => h) (Or.inl ⟨by rfl, ?y4_12⟩) ⟨c0, c1, hcv0⟩ ?r4_12
                case y4_12 => (intro W hSw; (try dsimp only at hSw); obtain ⟨hSw1, hSw2, hSw3⟩ := hSw; first | (go_simp; done) | (go_simp; with_reducible rfl))
                try go_simp
                refine wpAnyH_take (i := 13) (v := ?v400_13) rfl (by kernel_rfl) (by kernel_rfl) (by kernel_rfl) (fun _ _ _ h => h) (Or.inl ⟨by rfl, ?y4_13⟩) ⟨c0, c1, hcv0⟩ ?r4_13
                case y4_13 => (intro W hSw; (try dsimp only at hSw); obtain ⟨hSw1, hSw2, hSw3⟩ := hSw; first | (go_simp; done) | (go_simp; with_reducible rfl))
                try go_simp
                refine wpAnyH_take (i := 14) (v := ?v400_14) rfl (by kernel_rfl) (by kernel_rfl) (by kernel_rfl) (fun _ _ _ h => h) (Or.inl ⟨by rfl, ?y4_14⟩) ⟨c0, c1, hcv0⟩ ?r4_14
                case y4_14 => (intro W hSw; (try dsimp only at hSw); obtain ⟨hSw1, hSw2, hSw3⟩ := hSw; first | (go_simp; done) | (go_simp; with_reducible rfl))
                try go_simp
                refine wpAnyH_ready (rs := [1]) (by kernel_rfl) (by simp) ?_
                refine AllReadyH.cons rfl (fun K hK => ?_) AllReadyH.nil
                go_simp
                (go_wp2_with (first
                  | (go_at_call 54; refine (refInt_any _ (by omega) (by omega) _).mono ?_; rintro e w2 ⟨v2, rfl, ho⟩; rw [HFN.out] at ho; obtain ⟨g, c2', rfl⟩ := own_shape ho.1 (vb_pos U); have F2 := (Fr.refl (fun _ => False) w).drew.trans (T := fun _ => False) (Fr.of_below ho.2 (S := fun _ => False) (fun i hi hj => by omega)) (fun _ _ h => h); have h2' := H.out.fr F2 id (fun _ _ => id); have d0 := h2'.c0; have d1 := h2'.c1; rw [HQ.out] at d1; have dr1 := h2'.free 1; have H2 := Lib.hid h2'; have FF2 := Lib.hid F2; have hcv1 := own_conv ho.1; have hcv2 := h2'.convRow HLK.out HRK.out; rw [HQ.out] at hcv2; clear ho F2 h2')))
                refine hK.out _ _ ⟨d0, d1, hcv2⟩ (fun _ => ?_)
                clear hK K
                try go_simp
                refine wpAnyH_ready (rs := [2]) (by kernel_rfl) (by simp) ?_
                refine AllReadyH.cons rfl (fun K hK => ?_) AllReadyH.nil
                go_simp
                refine hK.out _ _ ⟨d0, d1, hcv2⟩ (fun _ => ?_)
                clear hK K
                try go_simp
                refine wpAnyH_ready (rs := [15]) (by kernel_rfl) (by simp) ?_
                refine AllReadyH.cons rfl (fun K hK => ?_) AllReadyH.nil
                go_simp
                refine hK.out _ _ ⟨d0, d1, hcv2⟩ (fun _ => ?_)
                clear hK K
                try go_simp
                refine wpAnyH_done (by kernel_rfl) ?_ _
                all_goals clear hw1 hw2 hw3 hw4 hw5 hw6 hw7 hw8 hw9
                all_goals (go_wp2_with (first
                    | (go_at_call 80; ((with_reducible refine (stop_any H2.out 4 q).mono ?_); rintro x w3 ⟨rfl, h3, f3⟩; have H3 := Lib.hid h3; have F3 := Lib.hid f3; clear h3 f3))))
                all_goals go_ret
                all_goals first
                  | (have ht : (!(vb U == row)) = false := by assumption
                     have hf := HUF.out.1 (by rw [Bool.not_eq_false', beq_iff_eq] at ht; exact ht)
                     rw [HR3.out hf]
                     exact ⟨by show Ending.returned (Value.int .i64 ((U : Int) / 2)) = Ending.returned (Value.int .i64 (unf (val row))); rw [← HUV.out hf, HVAL.out], H2.out.set1i (q + (k + 1)) (by simp; omega) (by rw [HN.out]; omega), (FF2.out.mono (fun _ _ h => h.elim)).same (fr_set1 _ 1 _)⟩)
                  | (have ht : (!(vb U == row)) = true := by assumption
                     have hf : ¬ fits row := fun hf => by rw [HUF.out.2 hf] at ht; simp at ht
                     rw [HR2.out hf]
                     exact ⟨rfl, H3.out, (FF2.out.mono (fun _ _ h => h.elim)).same F3.out⟩)
theorem rint_any (h : Rd 40 K w p v s) : IntDone K w p v s := by
  by_cases he : s.er = 0
  · by_cases hl : s.pl = s.bs.length
    · exact rint_end h he hl
    · exact rint_more h he (by have := h.le; omega)
  · exact rint_dead h he
end
end
end Go.Proofs.YtjkfcmadoeifgaaGreatDoor
