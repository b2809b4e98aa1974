/- strconv.Atoi at any string; (*wal.Log).number. Conditions: names of at most a thousand bytes. raceref7.number. Conditions: names of at most a thousand bytes. -/
import Derived.Test.YtkilkhnoldfhcaaGreatDoorLh
import Derived.Lib.AtoiAllCases
namespace Go.Proofs.YtkilkhnoldfhcaaGreatDoor
open Go.RowKit
theorem cutp_any (w : World) (name dir : Nm) : Calls Tryz.prog 135 #[nmv name, .string (⟨dir.toArray⟩ ++ ⟨#[46]⟩)] w fun e w' => e = .returned (.tuple #[nmv (Lib.trimPrefix name (dir ++ [46])), .bool (Lib.hasPrefix name (dir ++ [46]))]) ∧ w' = w := by
  have h := Tryz.strings_CutPrefix ⟨name.toArray⟩ (⟨dir.toArray⟩ ++ ⟨#[46]⟩) w
  have e : ((⟨dir.toArray⟩ ++ ⟨#[46]⟩ : ByteArray)).data.toList = dir ++ [46] := by simp
  rw [e] at h
  exact h
/-- Atoi, whatever it reads. -/
def Read10 (l : Nm) (v : Int) (er : Value) : Prop := (Lib.atoiAll l = .ok v ∧ er = .nilIface) ∨ ((∀ u, Lib.atoiAll l ≠ .ok u) ∧ ∃ N, er = .iface 199 (.pointer (some ⟨N, 0, none⟩)))
theorem atoi_any (w : World) (hT : Tabs w) (l : Nm) (hl : l.length ≤ 281474976710656) : Calls Tryz.prog 136 #[nmv l] w fun e w' => (∃ v er, e = .returned (.tuple #[.int .i64 v, er]) ∧ Read10 l v er) ∧ Below w.heap.size w w' := by
  have hs : (⟨l.toArray⟩ : ByteArray).size ≤ 281474976710656 := by show l.toArray.size ≤ _; simpa using hl
  cases h : Lib.atoiAll l
  case ok v =>
    refine (Tryz.strconv_Atoi_ok ⟨l.toArray⟩ (by omega) v h w).mono ?_
    rintro e w' ⟨rfl, hw⟩
    refine ⟨⟨v, _, rfl, .inl ⟨h, rfl⟩⟩, ?_⟩
    rcases hw with rfl | ⟨t, rfl⟩
    · exact Below.refl _ _
    · exact Lib.bytesWorld_below w 5 t
  case range =>
    obtain ⟨ev, h1, h2⟩ := hT.ran
    refine (Tryz.strconv_Atoi_range ⟨l.toArray⟩ hs h ev w h1 h2).mono ?_
    rintro e w' ⟨M, rfl, _, _, hb⟩
    exact ⟨⟨_, _, rfl, .inr ⟨fun u => by rw [h]; exact nofun, M, rfl⟩⟩, hb⟩
  · obtain ⟨ev, h1, h2⟩ := hT.syn
    refine (Any.strconv_Atoi_syntax Tryz.laysC172 ⟨l.toArray⟩ hs h ev w h1 h2).mono ?_
    rintro e w' ⟨M, rfl, _, _, hb⟩
    exact ⟨⟨_, _, rfl, .inr ⟨fun u => by rw [h]; exact nofun, M, rfl⟩⟩, hb⟩
/-- The number that wal reads out of a name. -/
def numA (dir name : Nm) : Int × Bool :=
  if Lib.hasPrefix name (dir ++ [46]) = true then (match Lib.atoiAll (Lib.trimPrefix name (dir ++ [46])) with | .ok v => if nameV dir v = (name, 0) then (v, true) else (0, false) | _ => (0, false)) else (0, false)
theorem numA_no {dir name : Nm} (h : Lib.hasPrefix name (dir ++ [46]) = false) : numA dir name = (0, false) := by unfold numA; rw [if_neg (by rw [h]; decide)]
theorem numA_err {dir name : Nm} (h : Lib.hasPrefix name (dir ++ [46]) = true) (h2 : ∀ u, Lib.atoiAll (Lib.trimPrefix name (dir ++ [46])) ≠ .ok u) : numA dir name = (0, false) := by
  unfold numA
  rw [if_pos h]
  split
  · rename_i u hu; exact absurd hu (h2 u)
  · rfl
theorem numA_ok {dir name : Nm} {v : Int} (h : Lib.hasPrefix name (dir ++ [46]) = true) (h2 : Lib.atoiAll (Lib.trimPrefix name (dir ++ [46])) = .ok v) : numA dir name = if nameV dir v = (name, 0) then (v, true) else (0, false) := by
  unfold numA
  rw [if_pos h, h2]
set_option maxRecDepth 100000 in
set_option maxHeartbeats 2000000 in
theorem number_any (w : World) (hT : Tabs w) (a : Nat) (dir name : Nm) (hd : dir.length ≤ 1000) (hn : name.length ≤ 1000) (hc : w.cell? ⟨a, 1, none⟩ = some (nmv dir)) :
    Calls Tryz.prog 121 #[ptr a, nmv name] w fun e w' => e = .returned (.tuple #[.int .i64 (numA dir name).1, .bool (numA dir name).2]) ∧ Below w.heap.size w w' := by
  have hcat : ¬ 9223372036854775807 < dir.length + 1 := by omega
  have HT := Lib.hid hT
  have HD := Lib.hid hd
  have HN := Lib.hid hn
  have HC := Lib.hid hc
  clear hT hd hn
  by_cases hp : Lib.hasPrefix name (dir ++ [46]) = true
  · have HP := Lib.hid hp
    have htl : Hid ((Lib.trimPrefix name (dir ++ [46])).length ≤ 1000) := by
      show _ ≤ _
      unfold Lib.trimPrefix
      rw [if_pos hp, List.length_drop]
      have := HN.out
      omega
    have HE : Hid ((∀ u, Lib.atoiAll (Lib.trimPrefix name (dir ++ [46])) ≠ .ok u) → numA dir name = (0, false)) := fun h2 => numA_err hp h2
    have HO : Hid (∀ v, Lib.atoiAll (Lib.trimPrefix name (dir ++ [46])) = .ok v → numA dir name = if nameV dir v = (name, 0) then (v, true) else (0, false)) := fun v h2 => numA_ok hp h2
    clear hp
    go_enter Tryz.func121, Tryz.ntmps121
    go_upto_region 5 with (first
      | (go_at_call 135; (refine (cutp_any w name dir).mono ?_); rintro e w' ⟨rfl, hww⟩; obtain rfl := hww.symm; clear hww; rw [HP.out])
      | (go_at_call 136; (refine (atoi_any _ HT.out _ (Nat.le_trans htl.out (by decide))).mono ?_); rintro e w1 ⟨⟨v, er, rfl, hr⟩, hb⟩; have HR := Lib.hid hr; have HB1 := Lib.hid hb; clear hr hb))
    rcases HR.out with ⟨h2, rfl⟩ | ⟨h2, M, rfl⟩
    · have HA := Lib.hid (HO.out v h2)
      have HBD := Lib.hid (Lib.atoiAll_bounds h2)
      have hdm : dir.length ≤ maxLen := Nat.le_trans HD.out (by decide)
      have HDM := Lib.hid hdm
      have c1 : w1.cell? ⟨a, 1, none⟩ = some (nmv dir) := (HB1.out.cell (p := ⟨a, 1, none⟩) (World.block_lt_of_cell? w ⟨a, 1, none⟩ HC.out)).trans HC.out
      obtain ⟨x, k, hq⟩ : ∃ x k, nameV dir v = (x, k) := ⟨_, _, rfl⟩
      have HQ := Lib.hid hq
      clear hq hdm h2
      go_upto_region 8 with (go_at_call 21; (refine (name_any w1 (HT.out.below HB1.out) dir HDM.out v HBD.out.1 HBD.out.2).mono ?_); rw [HQ.out]; rintro e w2 ⟨rfl, hb⟩; have HB2 := Lib.hid (HB1.out.trans (hb.mono HB1.out.size)); clear hb)
      by_cases hk : k = 0
      · subst hk
        by_cases hx : x = name
        · subst hx
          have HF : Hid (numA dir x = (v, true)) := by show _ = _; rw [HA.out, if_pos HQ.out]
          go_wp2
          go_ret2
          rw [HF.out]
          exact ⟨rfl, HB2.out⟩
        · have hb : (x == name) = false := by simpa using hx
          have HF : Hid (numA dir name = (0, false)) := by show _ = _; rw [HA.out, HQ.out, if_neg (fun e => hx (congrArg Prod.fst e))]
          clear hx
          go_wp2
          go_ret2
          rw [HF.out]
          exact ⟨rfl, HB2.out⟩
      · have hb : (((k : Nat) : Int) != 0) = true := by simpa using hk
        have HF : Hid (numA dir name = (0, false)) := by show _ = _; rw [HA.out, HQ.out, if_neg (fun e => hk (congrArg Prod.snd e))]
        clear hk
        go_wp2
        go_ret2
        rw [HF.out]
        exact ⟨rfl, HB2.out⟩
    · have HF := Lib.hid (HE.out h2)
      clear h2
      go_wp2
      go_ret2
      rw [HF.out]
      exact ⟨rfl, HB1.out⟩

  · have hp0 : Lib.hasPrefix name (dir ++ [46]) = false := by simpa using hp
    have HP := Lib.hid hp0
    have HE := Lib.hid (numA_no hp0)
    clear hp hp0
    go_enter Tryz.func121, Tryz.ntmps121
    go_wp2_with (go_at_call 135; (refine (cutp_any w name dir).mono ?_); rintro e w' ⟨rfl, hww⟩; obtain rfl := hww.symm; clear hww; rw [HP.out])
    go_ret2
    rw [HE.out]
    exact ⟨rfl, Below.refl _ _⟩
end Go.Proofs.YtkilkhnoldfhcaaGreatDoor
namespace Go.Proofs.YtkilkhnoldfhcaaGreatDoor
open Go.RowKit
def isDig (c : UInt8) : Bool := decide (48 ≤ c.toNat) && decide (c.toNat ≤ 57)
def dv (l : Nm) : Nat := l.foldl (fun n c => 10 * n + (c.toNat - 48)) 0
theorem dv_snoc (l : Nm) (c : UInt8) : dv (l ++ [c]) = 10 * dv l + (c.toNat - 48) := by unfold dv; rw [List.foldl_append]; rfl
theorem isDig_le {c : UInt8} (h : isDig c = true) : 48 ≤ c.toNat ∧ c.toNat ≤ 57 := by unfold isDig at h; simpa using h
theorem dv_lt : ∀ (k : Nat) (l : Nm), l.length = k → l.all isDig = true → dv l < 10 ^ k
  | 0, l, h, _ => by rw [List.length_eq_zero_iff.1 h]; decide
  | k + 1, l, h, h2 => by
    obtain ⟨m, c, rfl⟩ : ∃ m c, l = m ++ [c] := ⟨l.dropLast, l.getLast (by rintro rfl; simp at h), (List.dropLast_concat_getLast _).symm⟩
    rw [List.all_append, Bool.and_eq_true] at h2
    have h1 := dv_lt k m (by simpa using h) h2.1
    have h3 := isDig_le (c := c) (by simpa using h2.2)
    rw [dv_snoc, Nat.pow_succ]
    omega
/-- The number that raceref7 reads out of a name. -/
def numR (dir name : Nm) : Nat := if name.length = dir.length + 9 ∧ name.take (dir.length + 1) = dir ++ [46] ∧ (name.drop (dir.length + 1)).all isDig = true then dv (name.drop (dir.length + 1)) else 0
theorem take_ext (name : Nm) (n : Nat) : ((⟨name.toArray⟩ : ByteArray).extract 0 n).toList = name.take n := by
  rw [ByteArray.toList_eq]
  simp [ByteArray.data_extract, List.extract_eq_take_drop]
theorem cat_dot (dir : Nm) : ((⟨dir.toArray⟩ : ByteArray) ++ ⟨#[46]⟩).toList = dir ++ [46] := by
  rw [ByteArray.toList_eq]
  simp
set_option maxRecDepth 100000 in
set_option maxHeartbeats 2000000 in
theorem rnumber_any (w : World) (dir name : Nm) (hd : dir.length ≤ 1000) :
    Calls Tryz.prog 79 #[nmv dir, nmv name] w fun e w' => e = .returned (.int .i64 (numR dir name : Nat)) ∧ w' = w := by
  have hcat : ¬ 9223372036854775807 < dir.length + 1 := by omega
  by_cases hl : name.length = dir.length + 9
  · have hl1 : ((name.length : Int) != (dir.length : Int) + 1 + 8) = false := by simp; omega
    have hsl : dir.length + 1 ≤ name.length := by omega
    have hsl2 : (dir.length : Int) + 1 ≤ (name.length : Int) := by omega
    have HL := Lib.hid hl
    clear hl
    by_cases ht : name.take (dir.length + 1) = dir ++ [46]
    · have hp : (((⟨name.toArray⟩ : ByteArray).extract 0 (dir.length + 1)).toList == ((⟨dir.toArray⟩ : ByteArray) ++ ⟨#[46]⟩).toList) = true := by rw [take_ext, cat_dot, ht]; simp
      have HT := Lib.hid ht
      clear ht
      go_enter Tryz.func79, Tryz.ntmps79
      go_wp2
      go_loopw [6, 7] (fun n i wr => ∃ j : Nat, j ≤ 8 ∧ i = .int .i64 ((dir.length + 1 + j : Nat) : Int) ∧ n = .int .i64 (dv ((name.drop (dir.length + 1)).take j) : Nat) ∧ Hid (((name.drop (dir.length + 1)).take j).all isDig = true) ∧ wr = w) (fun _ i _ => (dir.length + 9) - (RowKit.intOf i).toNat)
      case atStart => exact ⟨0, by omega, by simp, by simp [dv], by show _ = _; simp, by trivial⟩
      case round =>
        obtain ⟨j, hj, rfl, rfl, HA, hw⟩ := hrel
        obtain rfl := hw.symm
        clear hw
        by_cases hj8 : j = 8
        · have hlt : ¬ ((dir.length + 1 + j : Nat) : Int) < (name.length : Int) := by have := HL.out; omega
          have HF : Hid (numR dir name = dv ((name.drop (dir.length + 1)).take j)) := by
            show _ = _
            have e : (name.drop (dir.length + 1)).take j = name.drop (dir.length + 1) := List.take_of_length_le (by rw [List.length_drop, HL.out]; omega)
            have h9 := HA.out
            rw [e] at h9
            unfold numR
            rw [e, if_pos ⟨HL.out, HT.out, h9⟩]
          clear hj hj8
          generalize dv ((name.drop (dir.length + 1)).take j) = x at *
          generalize dir.length + 1 + j = i at *
          go_wp2
          go_ret
          rw [HF.out]
          exact ⟨rfl, rfl⟩
        · have hlt : ((dir.length + 1 + j : Nat) : Int) < (name.length : Int) := by have := HL.out; omega
          have hin : dir.length + 1 + j < name.length := by have := HL.out; omega
          have hin2 : dir.length + 1 + j < (⟨name.toArray⟩ : ByteArray).size := by show _ < name.toArray.size; simpa using hin
          have hjd : j < (name.drop (dir.length + 1)).length := by rw [List.length_drop, HL.out]; omega
          have hct : (name.drop (dir.length + 1)).take (j + 1) = (name.drop (dir.length + 1)).take j ++ [(⟨name.toArray⟩ : ByteArray)[dir.length + 1 + j]'hin2] := by
            rw [List.take_succ_eq_append_getElem hjd, List.getElem_drop]
            rfl
          have HM : Hid ((⟨name.toArray⟩ : ByteArray)[dir.length + 1 + j]'hin2 ∈ name.drop (dir.length + 1)) := by
            have e := List.getElem_mem hjd
            rw [List.getElem_drop] at e
            exact e
          have HCT := Lib.hid hct
          have HX9 : Hid (dv ((name.drop (dir.length + 1)).take j) < 10 ^ 8) := by
            have h1 := dv_lt _ _ rfl HA.out
            have h2 : ((name.drop (dir.length + 1)).take j).length ≤ 8 := by rw [List.length_take]; omega
            exact Nat.lt_of_lt_of_le h1 (Nat.pow_le_pow_right (by decide) h2)
          have HJ : Hid (j + 1 ≤ 8) := by show _ ≤ _; omega
          have HI9 : Hid (dir.length + 1 + j + 1 = dir.length + 1 + (j + 1) ∧ dir.length + 1 + j < dir.length + 9) := by constructor <;> omega
          clear hj hj8 hct hjd
          generalize hx : dv ((name.drop (dir.length + 1)).take j) = x at *
          have HX := Lib.hid hx
          generalize hi : dir.length + 1 + j = i at *
          clear hx hi
          by_cases hdg : isDig ((⟨name.toArray⟩ : ByteArray)[i]'hin2) = true
          · have hb := isDig_le hdg
            have hlo : 48 ≤ (((⟨name.toArray⟩ : ByteArray)[i]'hin2).toNat : Int) := by omega
            have hhi : (((⟨name.toArray⟩ : ByteArray)[i]'hin2).toNat : Int) ≤ 57 := by omega
            have HB := Lib.hid hb
            have HDG := Lib.hid hdg
            clear hb hdg
            go_wp2
            have hi1 : wrap64 ((i : Int) + 1) = ((i + 1 : Nat) : Int) := by have := HL.out; have := HI9.out.2; unfold wrap64; omega
            have hb := HB.out
            have hx9 : x < 100000000 := HX9.out
            have hn1 : wrap64 (wrap64 (10 * (x : Int)) + ((((⟨name.toArray⟩ : ByteArray)[i]'hin2).toNat : Int) - 48)) = ((10 * x + (((⟨name.toArray⟩ : ByteArray)[i]'hin2).toNat - 48) : Nat) : Int) := by unfold wrap64; omega
            rw [hi1, hn1]
            refine ⟨⟨j + 1, HJ.out, by rw [HI9.out.1], by rw [HCT.out, dv_snoc, HX.out], ?_, by trivial⟩, ?_⟩
            · show _ = _
              rw [HCT.out, List.all_append, HA.out]
              simpa using HDG.out
            · have := HI9.out.2
              show dir.length + 9 - ((i + 1 : Nat) : Int).toNat < dir.length + 9 - (i : Int).toNat
              omega
          · have HF : Hid (numR dir name = 0) := by
              show _ = _
              unfold numR
              rw [if_neg (fun e => hdg (List.all_eq_true.1 e.2.2 _ HM.out))]
            have HND : Hid (¬ (48 ≤ ((⟨name.toArray⟩ : ByteArray)[i]'hin2).toNat ∧ ((⟨name.toArray⟩ : ByteArray)[i]'hin2).toNat ≤ 57)) := fun e => hdg (by unfold isDig; simpa using e)
            clear hdg
            go_wp2
            all_goals first
              | (go_ret
                 rw [HF.out]
                 exact ⟨rfl, rfl⟩)
              | (exfalso
                 have := HND.out
                 omega)
    · have hp : (((⟨name.toArray⟩ : ByteArray).extract 0 (dir.length + 1)).toList == ((⟨dir.toArray⟩ : ByteArray) ++ ⟨#[46]⟩).toList) = false := by rw [take_ext, cat_dot]; simpa using ht
      have HF : Hid (numR dir name = 0) := by show _ = _; unfold numR; rw [if_neg (fun e => ht e.2.1)]
      clear ht
      go_enter Tryz.func79, Tryz.ntmps79
      go_wp2
      go_ret
      rw [HF.out]
      exact ⟨rfl, rfl⟩
  · have hl1 : ((name.length : Int) != (dir.length : Int) + 1 + 8) = true := by simp; omega
    have HF : Hid (numR dir name = 0) := by show _ = _; unfold numR; rw [if_neg (fun e => hl e.1)]
    clear hl
    go_enter Tryz.func79, Tryz.ntmps79
    go_wp2
    go_ret
    rw [HF.out]
    exact ⟨rfl, rfl⟩
end Go.Proofs.YtkilkhnoldfhcaaGreatDoor
