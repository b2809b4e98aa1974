/- num.isCount, num.countOf: digits of a whole number from 1 on, and the number, kept at 2^53. Conditions: texts of at most a million bytes; countOf: digits alone. num.countOf, integerOf, isInteger and strings.Cut at "p". Conditions: texts of at most a million bytes; countOf and integerOf: digits alone. num.isInteger, integerOf, join, strings.Cut at "p". Conditions: texts of at most a million bytes. num.join and num.Parse. Conditions: texts of at most a million bytes. num.Parse. Conditions: texts of at most a million bytes. num.Parse at any text of at most a million bytes; what the chapter's examples fix ('first'). Conditions: the tables hold what their initialisers lay. Small facts on ranks, classes and orders, and contracts at a named result. Conditions: bits below 2^64. What floats give when they are added turned round, taken from themselves, multiplied and divided by one. Conditions: bits below 2^64. There and back between floats and their texts. Conditions: bits below 2^64. What is printed is read, and what is read is printed just so. Conditions: bits below 2^64. -/
import Derived.Test.YtbgccaconhmbaaaGreatDoorJK
import Derived.Lib.ConvBytes
import Derived.Lib.AtoiErrMem
import Derived.Test.YtbgccaconhmbaaaGreatDoorJD
import Derived.Lib.CutLaws
import Derived.Lib.IndexBytes
import Derived.Laws.Strings3
namespace Go.Proofs.YtbgccaconhmbaaaGreatDoor
open Go.RowKit Go.Lib

def digB (c : UInt8) : Bool := decide (48 ≤ c.toNat ∧ c.toNat ≤ 57)
def cntB (l : List UInt8) : Bool := match l with | [] => false | c :: t => c != 48 && (c :: t).all digB
theorem cntB_nil : cntB [] = false := rfl
theorem head_eq (s : ByteArray) (h : 0 < s.size) : s.data.toList = s[0] :: s.data.toList.drop 1 := by
  have hl : 0 < s.data.toList.length := by simpa using h
  have := List.drop_eq_getElem_cons hl
  rw [List.drop_zero] at this
  rw [this]; rfl
theorem cntB_zero (s : ByteArray) (h : 0 < s.size) (h2 : s[0].toNat = 48) : cntB s.data.toList = false := by
  rw [head_eq s h]
  have : s[0] = 48 := by
    apply UInt8.toNat_inj.1; rw [h2]; rfl
  simp [cntB, this]
theorem cntB_all (s : ByteArray) (h : 0 < s.size) (h2 : s[0].toNat ≠ 48) : cntB s.data.toList = s.data.toList.all digB := by
  have e := head_eq s h
  have : (s[0] != 48) = true := by
    simp; intro e; apply h2; rw [e]; rfl
  rw [e]
  unfold cntB
  simp [this]
theorem all_step (l : List UInt8) (k : Nat) (h : k < l.length) : (l.take (k + 1)).all digB = ((l.take k).all digB && digB (l.getD k 0)) := by
  rw [List.take_succ_eq_append_getElem h, List.all_append]
  simp [List.getD, h]
theorem all_no (l : List UInt8) (k : Nat) (h : k < l.length) (hd : digB (l.getD k 0) = false) : l.all digB = false := by
  cases hc : l.all digB
  · rfl
  · rw [List.all_eq_true] at hc
    have := hc (l.getD k 0) (by simp [List.getD, h])
    rw [hd] at this; cases this

set_option maxRecDepth 100000 in
set_option maxHeartbeats 800000 in
theorem isCount_any (s : ByteArray) (hs : s.size ≤ 1000000) (w : World) :
    Calls Tryz.prog 192 #[.string s] w fun e w' => e = .returned (.bool (cntB s.data.toList)) ∧ Below w.heap.size w w' := by
  by_cases hne : s.size = 0
  · have e : s = ⟨#[]⟩ := by
      apply ByteArray.ext
      have : s.data.size = 0 := hne
      exact Array.eq_empty_of_size_eq_zero this
    subst e
    rw [show (⟨#[]⟩ : ByteArray).data.toList = [] from rfl, cntB_nil]
    go_enter Tryz.func192, Tryz.ntmps192
    go_wp2
    go_ret
    exact ⟨rfl, Below.refl _ _⟩
  · have hpos : 0 < s.size := by omega
    have hemp : s.toList.isEmpty = false := by
      rw [← decide_eq_emptyBytes]
      exact decide_eq_false (fun h => hne (by rw [h]; rfl))
    by_cases hz : s[0].toNat = 48
    · rw [cntB_zero s hpos hz]
      have h2 : ((s[0].toNat : Int) == 48) = true := by simp; omega
      clear hz
      go_enter Tryz.func192, Tryz.ntmps192
      go_wp2
      go_ret
      exact ⟨rfl, Below.refl _ _⟩
    · rw [cntB_all s hpos hz]
      have h2 : ((s[0].toNat : Int) == 48) = false := by simp; omega
      have hcv := Lib.run_convert_string_bytes (P := Tryz.prog) w 9 129 5 s (u := .string) Tryz.underlying9 Tryz.underlying129 Tryz.underlying5
      have hB : ∀ j, j < s.size → (Lib.bytesWorld w 5 s).cell? ⟨w.heap.size, j, none⟩ = some (.int .u8 (s.data.toList.getD j 0).toNat) := fun j hj => Lib.bytesWorld_cell w 5 s j hj
      have HW := Lib.hid (Lib.bytesWorld_below w 5 s)
      obtain ⟨W1, hW1⟩ : ∃ W1, W1 = Lib.bytesWorld w 5 s := ⟨_, rfl⟩
      rw [← hW1] at hcv hB HW
      clear hW1 hz
      obtain ⟨bs, hL⟩ : ∃ bs, bs = s.data.toList := ⟨_, rfl⟩
      have hLn : bs.length = s.size := by rw [hL, Lib.size_eq]
      rw [← hL] at hB ⊢
      clear hL
      have HLN := Lib.hid hLn; clear hLn
      have HBB := Lib.hid hB; clear hB
      go_enter Tryz.func192, Tryz.ntmps192
      go_wp2
      go_loop [15] (fun vi => ∃ k : Nat, vi = .int .i64 (k : Int) ∧ k ≤ s.size ∧ Hid ((bs.take k).all digB = true)) (fun vi => s.size - (RowKit.intOf vi).toNat)
      case atStart => exact ⟨0, rfl, Nat.zero_le _, rfl⟩
      case round =>
        obtain ⟨k, rfl, hk, hh⟩ := hrel
        by_cases hlt : k < s.size
        · have hc := HBB.out k hlt
          have hkl : k < bs.length := by rw [HLN.out]; exact hlt
          have HS := Lib.hid (all_step bs k hkl)
          have HNo := Lib.hid (all_no bs k hkl)
          clear hkl
          cases hd : digB (bs.getD k 0)
          · have hd' : ¬ (48 ≤ (bs.getD k 0).toNat ∧ (bs.getD k 0).toNat ≤ 57) := by simpa [digB] using hd
            have HF := Lib.hid (HNo.out hd)
            clear HNo HS hd
            generalize (bs.getD k 0).toNat = c at *
            by_cases h48 : c < 48
            · clear hd'
              go_wp2
              go_ret
              exact ⟨by rw [HF.out]; rfl, HW.out⟩
            · have h57 : 57 < c := by omega
              clear hd'
              go_wp2
              go_ret
              exact ⟨by rw [HF.out]; rfl, HW.out⟩
          · have hd' : (48 ≤ (bs.getD k 0).toNat ∧ (bs.getD k 0).toNat ≤ 57) := by simpa [digB] using hd
            have HT : Hid ((bs.take (k + 1)).all digB = true) := by unfold Hid; rw [HS.out, hh.out, hd]; rfl
            clear HNo HS hd hh
            generalize (bs.getD k 0).toNat = c at *
            obtain ⟨d1, d2⟩ := hd'
            have d3 : ¬ c < 48 := by omega
            have d4 : ¬ 57 < c := by omega
            go_wp2
            go_round
            case rel => exact ⟨k + 1, by go_num, by omega, HT⟩
            case measure => simp [RowKit.intOf]; omega
        · obtain rfl : k = s.size := by omega
          have HE : Hid (bs.all digB = true) := by unfold Hid; have := hh.out; rwa [List.take_of_length_le (by rw [HLN.out]; exact Nat.le_refl _)] at this
          clear hh hlt
          go_wp2
          go_ret
          exact ⟨by rw [HE.out]; rfl, HW.out⟩
end Go.Proofs.YtbgccaconhmbaaaGreatDoor
namespace Go.Proofs.YtbgccaconhmbaaaGreatDoor
open Go.RowKit Go.Lib

def valN (l : List UInt8) : Nat := l.foldl (fun n c => 10 * n + (c.toNat - 48)) 0
def satN (l : List UInt8) : Nat := min (valN l) 9007199254740992
theorem valN_nil : valN [] = 0 := rfl
theorem valN_step (l : List UInt8) (k : Nat) (h : k < l.length) : valN (l.take (k + 1)) = 10 * valN (l.take k) + ((l.getD k 0).toNat - 48) := by
  rw [List.take_succ_eq_append_getElem h]
  unfold valN
  rw [List.foldl_append]
  simp [List.getD, h]
theorem satN_step (l : List UInt8) (k : Nat) (h : k < l.length) : satN (l.take (k + 1)) = min (10 * satN (l.take k) + ((l.getD k 0).toNat - 48)) 9007199254740992 := by
  unfold satN
  rw [valN_step l k h]
  omega
theorem satN_le (l : List UInt8) : satN l ≤ 9007199254740992 := Nat.min_le_right _ _

theorem ret_i {k : IntKind} {a b : Int} (h : a = b) : Ending.returned (.int k a) = .returned (.int k b) := by rw [h]
set_option maxRecDepth 100000 in
set_option maxHeartbeats 800000 in
theorem countOf_any (s : ByteArray) (hs : s.size ≤ 1000000) (hd : s.data.toList.all digB = true) (w : World) :
    Calls Tryz.prog 195 #[.string s] w fun e w' => e = .returned (.int .i64 (satN s.data.toList : Nat)) ∧ Below w.heap.size w w' := by
  have hcv := Lib.run_convert_string_bytes (P := Tryz.prog) w 9 129 5 s (u := .string) Tryz.underlying9 Tryz.underlying129 Tryz.underlying5
  have hB : ∀ j, j < s.size → (Lib.bytesWorld w 5 s).cell? ⟨w.heap.size, j, none⟩ = some (.int .u8 (s.data.toList.getD j 0).toNat) := fun j hj => Lib.bytesWorld_cell w 5 s j hj
  have HW := Lib.hid (Lib.bytesWorld_below w 5 s)
  obtain ⟨W1, hW1⟩ : ∃ W1, W1 = Lib.bytesWorld w 5 s := ⟨_, rfl⟩
  rw [← hW1] at hcv hB HW
  clear hW1
  obtain ⟨bs, hL⟩ : ∃ bs, bs = s.data.toList := ⟨_, rfl⟩
  have hLn : bs.length = s.size := by rw [hL, Lib.size_eq]
  rw [← hL] at hB hd ⊢
  clear hL
  have HLN := Lib.hid hLn; clear hLn
  have HBB := Lib.hid hB; clear hB
  have HD := Lib.hid hd; clear hd
  go_enter Tryz.func195, Tryz.ntmps195
  go_wp2
  go_loop [3, 9] (fun vn vi => ∃ (k : Nat) (a : Int), vn = .int .i64 a ∧ vi = .int .i64 (k : Int) ∧ k ≤ s.size ∧ Hid (a = (satN (bs.take k) : Nat))) (fun _ vi => s.size - (RowKit.intOf vi).toNat)
  case atStart => exact ⟨0, 0, rfl, rfl, Nat.zero_le _, rfl⟩
  case round =>
    obtain ⟨k, a, rfl, rfl, hk, hh⟩ := hrel
    have a0 : 0 ≤ a := by have := hh.out; omega
    have a1 : a ≤ 9007199254740992 := by have := hh.out; have := satN_le (bs.take k); omega
    by_cases hlt : k < s.size
    · have hc := HBB.out k hlt
      have hkl : k < bs.length := by rw [HLN.out]; exact hlt
      have HS := Lib.hid (satN_step bs k hkl)
      have hdk : digB (bs.getD k 0) = true := by
        have := HD.out
        rw [List.all_eq_true] at this
        exact this _ (by simp [List.getD, hkl])
      obtain ⟨d1, d2⟩ : 48 ≤ (bs.getD k 0).toNat ∧ (bs.getD k 0).toNat ≤ 57 := by simpa [digB] using hdk
      clear hkl hdk
      generalize (bs.getD k 0).toNat = c at *
      obtain ⟨d, rfl⟩ : ∃ d : Nat, c = 48 + d := ⟨c - 48, by omega⟩
      have hsub : (((48 + d : Nat) : Int) - 48) = (d : Int) := by omega
      have hsub2 : ((48 : Int) + (d : Int) - 48) = (d : Int) := by omega
      have d3 : (d : Int) ≤ 9 := by omega
      clear d1 d2
      have HA := Lib.hid (show min (10 * a + (d : Int)) 9007199254740992 = (satN (bs.take (k + 1)) : Nat) by rw [HS.out, hh.out]; omega)
      clear hh HS
      go_wp2
      go_round
      case rel => exact ⟨k + 1, _, rfl, by go_num, by omega, HA⟩
      case measure => simp [RowKit.intOf]; omega
    · obtain rfl : k = s.size := by omega
      have HE : Hid (a = (satN bs : Nat)) := by unfold Hid; have := hh.out; rwa [List.take_of_length_le (by rw [HLN.out]; exact Nat.le_refl _)] at this
      clear hh hlt
      go_wp2
      go_ret
      exact ⟨ret_i HE.out, HW.out⟩
end Go.Proofs.YtbgccaconhmbaaaGreatDoor
namespace Go.Proofs.YtbgccaconhmbaaaGreatDoor
open Go.RowKit Go.Lib
theorem icut_p (s : ByteArray) (w : World) (hs : s.size ≤ 1000000) :
    Calls Tryz.prog 162 #[.string s, .string ⟨#[112]⟩] w fun e w' => e = .returned (.tuple #[.string ⟨(Lib.cut s.data.toList [112]).1.toArray⟩, .string ⟨(Lib.cut s.data.toList [112]).2.1.toArray⟩, .bool (Lib.cut s.data.toList [112]).2.2]) ∧ Drew w w' := by
  have hi : Lib.indexByte s.data.toList 112 = Lib.indexB s ⟨#[112]⟩ := (Lib.index_one _ _).symm
  have HI := Lib.hid hi; clear hi
  rcases Lib.indexB_cases s ⟨#[112]⟩ with hix | ⟨i, hix, hroom⟩
  · obtain ⟨e1, e2, e3⟩ := Lib.cutB_miss s ⟨#[112]⟩ hix
    have e1' : (⟨(Lib.cut s.data.toList [112]).1.toArray⟩ : ByteArray) = s := e1
    have e2' : (⟨(Lib.cut s.data.toList [112]).2.1.toArray⟩ : ByteArray) = ByteArray.empty := e2
    have e3' : (Lib.cut s.data.toList [112]).2.2 = false := e3
    rw [e1', e2', e3']
    clear e1 e2 e3 e1' e2' e3'
    have HX := Lib.hid hix; clear hix
    go_enter Tryz.func162, Tryz.ntmps162
    go_wp2_with (go_at_call 188; refine (Tryz.stringslite_Index_one s 112 _).mono ?_; rintro e w' ⟨rfl, rfl⟩; rw [HI.out, HX.out])
    go_ret3
    exact ⟨rfl, Drew.refl _⟩
  · obtain ⟨e1, e2, e3⟩ := Lib.cutB_hit s ⟨#[112]⟩ i hix
    have e1' : (⟨(Lib.cut s.data.toList [112]).1.toArray⟩ : ByteArray) = s.extract 0 i := e1
    have e2' : (⟨(Lib.cut s.data.toList [112]).2.1.toArray⟩ : ByteArray) = s.extract (i + 1) s.size := e2
    have e3' : (Lib.cut s.data.toList [112]).2.2 = true := e3
    rw [e1', e2', e3']
    clear e1 e2 e3 e1' e2' e3'
    have hroom' : i + 1 ≤ s.size := hroom
    clear hroom
    have HX := Lib.hid hix; clear hix
    have c1 : (0 : Int) ≤ ↑i := by omega
    have c2 : (↑i : Int) ≤ ↑s.size := by omega
    have c3 : (0 : Int) ≤ ↑i + 1 := by omega
    have c4 : (↑i + 1 : Int) ≤ ↑s.size := by omega
    go_enter Tryz.func162, Tryz.ntmps162
    go_wp2_with (go_at_call 188; refine (Tryz.stringslite_Index_one s 112 _).mono ?_; rintro e w' ⟨rfl, rfl⟩; rw [HI.out, HX.out])
    go_region
    all_goals go_wp2
    all_goals go_ret3
    all_goals exact ⟨rfl, Drew.one _⟩

theorem cut_p (s : ByteArray) (w : World) (hs : s.size ≤ 1000000) :
    Calls Tryz.prog 125 #[.string s, .string ⟨#[112]⟩] w fun e w' => e = .returned (.tuple #[.string ⟨(Lib.cut s.data.toList [112]).1.toArray⟩, .string ⟨(Lib.cut s.data.toList [112]).2.1.toArray⟩, .bool (Lib.cut s.data.toList [112]).2.2]) ∧ Drew w w' := by
  have HS := Lib.hid hs; clear hs
  go_enter Tryz.func125, Tryz.ntmps125
  go_wp2_with (go_at_call 162; refine (icut_p s _ HS.out).mono ?_; rintro e w' ⟨rfl, n, rfl⟩)
  go_ret3
  exact ⟨rfl, n, rfl⟩
theorem toList_data (s : ByteArray) : s.toList = s.data.toList := ByteArray.toList_eq s
theorem trim_len (l p : List UInt8) : (Lib.trimPrefix l p).length ≤ l.length := by
  unfold Lib.trimPrefix
  split
  · rw [List.length_drop]; omega
  · exact Nat.le_refl _
def intB (l : List UInt8) : Bool := l == [48] || cntB (Lib.trimPrefix l [45])
theorem mk_list (l : List UInt8) : (⟨l.toArray⟩ : ByteArray).data.toList = l := by simp
theorem mk_size (l : List UInt8) : (⟨l.toArray⟩ : ByteArray).size = l.length := by rw [Lib.size_eq, mk_list]
theorem isInteger_any (s : ByteArray) (hs : s.size ≤ 1000000) (w : World) :
    Calls Tryz.prog 193 #[.string s] w fun e w' => e = .returned (.bool (intB s.data.toList)) ∧ Below w.heap.size w w' := by
  have HS : Hid ((⟨(Lib.trimPrefix s.data.toList [45]).toArray⟩ : ByteArray).size ≤ 1000000) := by
    unfold Hid; rw [mk_size]; have := trim_len s.data.toList [45]; rw [Lib.size_eq] at hs; omega
  clear hs
  cases h : (s.data.toList == [48])
  · have e : intB s.data.toList = cntB (Lib.trimPrefix s.data.toList [45]) := by simp [intB, h]
    have h' : (s.toList == [48]) = false := by rw [toList_data]; exact h
    rw [e]
    clear h e
    have H2 := isCount_any ⟨(Lib.trimPrefix s.data.toList [45]).toArray⟩ HS.out
    rw [mk_list] at H2
    have H3 := Lib.hid H2; clear H2
    go_enter Tryz.func193, Tryz.ntmps193
    go_wp2_with (first
      | (go_at_call 212; refine (Tryz.strings_TrimPrefix s ⟨#[45]⟩ _).mono ?_; rintro e w' ⟨rfl, rfl⟩)
      | (go_at_call 192; refine (H3.out _).mono ?_; rintro e w1 ⟨rfl, hb1⟩; have HB1 := Lib.hid hb1; clear hb1))
    go_ret
    exact ⟨rfl, HB1.out⟩
  · have e : intB s.data.toList = true := by simp [intB, h]
    have h' : (s.toList == [48]) = true := by rw [toList_data]; exact h
    rw [e]
    clear h e
    go_enter Tryz.func193, Tryz.ntmps193
    go_wp2_with fail
    go_ret
    exact ⟨rfl, Below.refl _ _⟩
def intN (l : List UInt8) : Int := bif Lib.hasPrefix l [45] then -(satN (Lib.trimPrefix l [45]) : Int) else (satN (Lib.trimPrefix l [45]) : Int)
theorem integerOf_any (s : ByteArray) (hs : s.size ≤ 1000000) (hd : (Lib.trimPrefix s.data.toList [45]).all digB = true) (w : World) :
    Calls Tryz.prog 196 #[.string s] w fun e w' => e = .returned (.int .i64 (intN s.data.toList)) ∧ Below w.heap.size w w' := by
  have HS : Hid ((⟨(Lib.trimPrefix s.data.toList [45]).toArray⟩ : ByteArray).size ≤ 1000000) := by
    unfold Hid; rw [mk_size]; have := trim_len s.data.toList [45]; rw [Lib.size_eq] at hs; omega
  have H2 := countOf_any ⟨(Lib.trimPrefix s.data.toList [45]).toArray⟩ HS.out
  rw [mk_list] at H2
  have H3 := Lib.hid (H2 hd)
  have hb : (satN (Lib.trimPrefix s.data.toList [45]) : Int) ≤ 9007199254740992 := by have := satN_le (Lib.trimPrefix s.data.toList [45]); omega
  clear H2 hd hs
  cases h : Lib.hasPrefix s.data.toList [45]
  · have e : intN s.data.toList = (satN (Lib.trimPrefix s.data.toList [45]) : Int) := by simp [intN, h]
    rw [e]
    clear e hb
    have hp : Lib.hasPrefix s.data.toList (⟨#[45]⟩ : ByteArray).data.toList = false := h
    have HP := Lib.hid hp; clear hp h
    go_enter Tryz.func196, Tryz.ntmps196
    go_wp2_with (first
      | (go_at_call 124; refine (Tryz.strings_CutPrefix s ⟨#[45]⟩ _).mono ?_; rw [HP.out]; rintro e w' ⟨rfl, rfl⟩)
      | (go_at_call 195; refine (H3.out _).mono ?_; rintro e w1 ⟨rfl, hb1⟩; have HB1 := Lib.hid hb1; clear hb1))
    go_ret
    exact ⟨rfl, HB1.out⟩
  · have e : intN s.data.toList = -(satN (Lib.trimPrefix s.data.toList [45]) : Int) := by simp [intN, h]
    rw [e]
    clear e
    have hp : Lib.hasPrefix s.data.toList (⟨#[45]⟩ : ByteArray).data.toList = true := h
    have HP := Lib.hid hp; clear hp h
    go_enter Tryz.func196, Tryz.ntmps196
    go_wp2_with (first
      | (go_at_call 124; refine (Tryz.strings_CutPrefix s ⟨#[45]⟩ _).mono ?_; rw [HP.out]; rintro e w' ⟨rfl, rfl⟩)
      | (go_at_call 195; refine (H3.out _).mono ?_; rintro e w1 ⟨rfl, hb1⟩; have HB1 := Lib.hid hb1; clear hb1))
    go_ret
    exact ⟨rfl, HB1.out⟩
theorem bitLen_log2 {n : Nat} (h0 : n ≠ 0) (h : n < 18446744073709551616) : Lib.bitLen n = n.log2 + 1 := by
  obtain ⟨a, b, c⟩ := Lib.bitLenAux_bounds 64 n h h0
  unfold Lib.bitLen
  have u1 : n.log2 < Lib.bitLenAux 64 n := (Nat.log2_lt h0).2 c
  have u2 : Lib.bitLenAux 64 n - 1 ≤ n.log2 := (Nat.le_log2 h0).2 b
  omega
theorem fits_ldexp (n : Nat) (p : Int) (h : Fits n p) (w : World) :
    Calls Tryz.prog 135 #[.float .f64 (floatOfInt .f64 (n : Int)), .int .i64 p] w fun e w' => e = .returned (.float .f64 (ofOdd n p)) ∧ w = w' :=
  mldexp (cvtN n) p _ (fun w => ldexp_fits n p h w) w
theorem len_any (n : Nat) (h0 : n ≠ 0) (h : n < 18446744073709551616) (w : World) :
    Calls Tryz.prog 111 #[.int .u64 (n : Int)] w fun e w' => e = .returned (.int .i64 (n.log2 + 1 : Nat)) ∧ w = w' := by
  refine (Tryz.bits_Len (n : Int) w (by omega) (by omega)).mono ?_
  rintro e w' ⟨he, hw⟩
  refine ⟨?_, hw.symm⟩
  rw [he, Int.toNat_natCast, bitLen_log2 h0 h]
end Go.Proofs.YtbgccaconhmbaaaGreatDoor
namespace Go.Proofs.YtbgccaconhmbaaaGreatDoor
open Go.RowKit Go.Lib

theorem join_yes (n : Nat) (p : Int) (h : Fits n p) (w : World) :
    Calls Tryz.prog 194 #[.int .i64 (n : Int), .int .i64 p] w fun e w' => e = .returned (.tuple #[.float .f64 (ofOdd n p), .bool true]) ∧ w = w' := by
  have hodd := h.odd
  have hlt := h.lt
  have hlo := h.lo
  have hhi := h.hi
  have H := Lib.hid h; clear h
  have hmod : (n : Int).tmod 2 = 1 := by have := tmodN n 2; rw [hodd] at this; exact this
  have hge : decide ((n : Int) ≥ 9007199254740992) = false := by simp; omega
  have hp : decide (p < -1074) = false := by simp; omega
  have hw : IntKind.u64.wrap (n : Int) = (n : Int) := wrap_nat (by omega)
  have hl : (n.log2 : Int) < 64 := by
    have : n.log2 < 53 := (Nat.log2_lt (by omega)).2 hlt
    omega
  have hs : decide (p + ((n.log2 + 1 : Nat) : Int) > 1024) = false := by simp; omega
  have hs' : decide (p + ((n.log2 : Int) + 1) > 1024) = false := by simp; omega
  have p1 : -2000 ≤ p := by omega
  have p2 : p ≤ 2000 := by omega
  have HN : Hid (n ≠ 0 ∧ n < 18446744073709551616) := by unfold Hid; omega
  clear hodd hlt hlo hhi
  go_enter Tryz.func194, Tryz.ntmps194
  go_wp2_with (first
    | (go_at_call 111; refine (len_any n HN.out.1 HN.out.2 _).mono ?_; rintro e w' ⟨rfl, rfl⟩)
    | (go_at_call 135; refine (fits_ldexp n p H.out _).mono ?_; rintro e w' ⟨rfl, rfl⟩))
  go_ret2
  exact ⟨rfl, rfl⟩
theorem join_even (n : Nat) (p : Int) (h : n % 2 = 0) (w : World) :
    Calls Tryz.prog 194 #[.int .i64 (n : Int), .int .i64 p] w fun e w' => e = .returned (.tuple #[.float .f64 0, .bool false]) ∧ w = w' := by
  have hmod : (n : Int).tmod 2 = 0 := by have := tmodN n 2; rw [h] at this; exact this
  clear h
  go_enter Tryz.func194, Tryz.ntmps194
  go_wp2_with fail
  go_ret2
  exact ⟨rfl, rfl⟩
theorem join_big (n : Nat) (p : Int) (h : n % 2 = 1) (h2 : 9007199254740992 ≤ n) (w : World) :
    Calls Tryz.prog 194 #[.int .i64 (n : Int), .int .i64 p] w fun e w' => e = .returned (.tuple #[.float .f64 0, .bool false]) ∧ w = w' := by
  have hmod : (n : Int).tmod 2 = 1 := by have := tmodN n 2; rw [h] at this; exact this
  have hge : decide ((n : Int) ≥ 9007199254740992) = true := by simp; omega
  have hge' : 9007199254740992 ≤ (n : Int) := by omega
  clear h h2
  go_enter Tryz.func194, Tryz.ntmps194
  go_wp2_with fail
  go_ret2
  exact ⟨rfl, rfl⟩
theorem join_low (n : Nat) (p : Int) (h : n % 2 = 1) (h2 : n < 9007199254740992) (h3 : p < -1074) (w : World) :
    Calls Tryz.prog 194 #[.int .i64 (n : Int), .int .i64 p] w fun e w' => e = .returned (.tuple #[.float .f64 0, .bool false]) ∧ w = w' := by
  have hmod : (n : Int).tmod 2 = 1 := by have := tmodN n 2; rw [h] at this; exact this
  have hge : decide ((n : Int) ≥ 9007199254740992) = false := by simp; omega
  clear h h2
  go_enter Tryz.func194, Tryz.ntmps194
  go_wp2_with fail
  go_ret2
  exact ⟨rfl, rfl⟩
theorem join_high (n : Nat) (p : Int) (h : n % 2 = 1) (h2 : n < 9007199254740992) (h3 : ¬ p < -1074) (h4 : ¬ p + n.log2 < 1024) (h5 : p ≤ 9007199254740992) (w : World) :
    Calls Tryz.prog 194 #[.int .i64 (n : Int), .int .i64 p] w fun e w' => e = .returned (.tuple #[.float .f64 0, .bool false]) ∧ w = w' := by
  have hmod : (n : Int).tmod 2 = 1 := by have := tmodN n 2; rw [h] at this; exact this
  have hge : decide ((n : Int) ≥ 9007199254740992) = false := by simp; omega
  have hw : IntKind.u64.wrap (n : Int) = (n : Int) := wrap_nat (by omega)
  have hl : (n.log2 : Int) < 64 := by
    have : n.log2 < 53 := (Nat.log2_lt (by omega)).2 h2
    omega
  have hs : decide (p + ((n.log2 + 1 : Nat) : Int) > 1024) = true := by simp; omega
  have hs' : 1024 < p + ((n.log2 : Int) + 1) := by omega
  have hp : decide (p < -1074) = false := by simp; omega
  have HN : Hid (n ≠ 0 ∧ n < 18446744073709551616) := by unfold Hid; omega
  clear h h2
  go_enter Tryz.func194, Tryz.ntmps194
  go_wp2_with (go_at_call 111; refine (len_any n HN.out.1 HN.out.2 _).mono ?_; rintro e w' ⟨rfl, rfl⟩)
  go_ret2
  exact ⟨rfl, rfl⟩
theorem join_no (n : Nat) (p : Int) (h : ¬ Fits n p) (h5 : p ≤ 9007199254740992) (w : World) :
    Calls Tryz.prog 194 #[.int .i64 (n : Int), .int .i64 p] w fun e w' => e = .returned (.tuple #[.float .f64 0, .bool false]) ∧ w = w' := by
  by_cases h1 : n % 2 = 0
  · exact join_even n p h1 w
  · have h1' : n % 2 = 1 := by omega
    by_cases h2 : n < 9007199254740992
    · by_cases h3 : p < -1074
      · exact join_low n p h1' h2 h3 w
      · by_cases h4 : p + n.log2 < 1024
        · exact absurd ⟨h1', h2, by omega, h4⟩ h
        · exact join_high n p h1' h2 h3 h4 h5 w
    · exact join_big n p h1' (by omega) w
end Go.Proofs.YtbgccaconhmbaaaGreatDoor
namespace Go.Proofs.YtbgccaconhmbaaaGreatDoor
open Go.RowKit Go.Lib

theorem cut_l (t a k : List UInt8) (f : Bool) (h : Lib.cut t [112] = (a, k, f)) (hs : t.length ≤ 1000000) (w : World) :
    Calls Tryz.prog 125 #[.string ⟨t.toArray⟩, .string ⟨#[112]⟩] w fun e w' => e = .returned (.tuple #[.string ⟨a.toArray⟩, .string ⟨k.toArray⟩, .bool f]) ∧ Drew w w' := by
  have := cut_p ⟨t.toArray⟩ w (by rw [mk_size]; exact hs)
  rw [mk_list, h] at this
  exact this
theorem isCount_l (t : List UInt8) (b : Bool) (h : cntB t = b) (hs : t.length ≤ 1000000) (w : World) :
    Calls Tryz.prog 192 #[.string ⟨t.toArray⟩] w fun e w' => e = .returned (.bool b) ∧ Below w.heap.size w w' := by
  have := isCount_any ⟨t.toArray⟩ (by rw [mk_size]; exact hs) w
  rw [mk_list, h] at this
  exact this
theorem isInteger_l (t : List UInt8) (b : Bool) (h : intB t = b) (hs : t.length ≤ 1000000) (w : World) :
    Calls Tryz.prog 193 #[.string ⟨t.toArray⟩] w fun e w' => e = .returned (.bool b) ∧ Below w.heap.size w w' := by
  have := isInteger_any ⟨t.toArray⟩ (by rw [mk_size]; exact hs) w
  rw [mk_list, h] at this
  exact this
theorem cntB_digits {t : List UInt8} (h : cntB t = true) : t.all digB = true := by
  cases t with
  | nil => cases h
  | cons c t => simp only [cntB, Bool.and_eq_true] at h; exact h.2
theorem intB_digits {t : List UInt8} (h : intB t = true) : (Lib.trimPrefix t [45]).all digB = true := by
  unfold intB at h
  rw [Bool.or_eq_true] at h
  rcases h with h | h
  · have : t = [48] := by simpa using h
    subst this; rfl
  · exact cntB_digits h
theorem countOf_l (t : List UInt8) (h : cntB t = true) (hs : t.length ≤ 1000000) (w : World) :
    Calls Tryz.prog 195 #[.string ⟨t.toArray⟩] w fun e w' => e = .returned (.int .i64 (satN t : Nat)) ∧ Below w.heap.size w w' := by
  have := countOf_any ⟨t.toArray⟩ (by rw [mk_size]; exact hs) (by rw [mk_list]; exact cntB_digits h) w
  rw [mk_list] at this
  exact this
theorem integerOf_l (t : List UInt8) (h : intB t = true) (hs : t.length ≤ 1000000) (w : World) :
    Calls Tryz.prog 196 #[.string ⟨t.toArray⟩] w fun e w' => e = .returned (.int .i64 (intN t)) ∧ Below w.heap.size w w' := by
  have := integerOf_any ⟨t.toArray⟩ (by rw [mk_size]; exact hs) (by rw [mk_list]; exact intB_digits h) w
  rw [mk_list] at this
  exact this
theorem intN_le (t : List UInt8) : intN t ≤ 9007199254740992 := by
  have := satN_le (Lib.trimPrefix t [45])
  unfold intN
  cases Lib.hasPrefix t [45]
  · simp only [cond_false]; omega
  · simp only [cond_true]; omega
theorem drew_below {w w' : World} (h : Drew w w') : Below w.heap.size w w' := by
  obtain ⟨n, rfl⟩ := h
  exact below_drewN (Below.refl _ _) n
theorem parse_nan (w : World) : Calls Tryz.prog 168 #[.string ⟨#[110, 97, 110]⟩] w fun e w' => e = .returned (.tuple #[.float .f64 oneNaN, .int .i64 0]) ∧ w = w' := by
  have H := Lib.hid (fun w => of_any 9221120237041090560 w)
  have HC : Hid (canon 9221120237041090560 = oneNaN) := by unfold Hid; decide
  go_enter Tryz.func168, Tryz.ntmps168
  go_wp2_with (go_at_call 191; refine (H.out _).mono ?_; rw [HC.out]; rintro e w' ⟨rfl, rfl⟩)
  go_ret2
  exact ⟨rfl, rfl⟩
theorem parse_inf (w : World) : Calls Tryz.prog 168 #[.string ⟨#[105, 110, 102]⟩] w fun e w' => e = .returned (.tuple #[.float .f64 infR, .int .i64 0]) ∧ w = w' := by
  have H := Lib.hid (fun w => of_any 9218868437227405312 w)
  have HC : Hid (canon 9218868437227405312 = infR) := by unfold Hid; decide
  go_enter Tryz.func168, Tryz.ntmps168
  go_wp2_with (go_at_call 191; refine (H.out _).mono ?_; rw [HC.out]; rintro e w' ⟨rfl, rfl⟩)
  go_ret2
  exact ⟨rfl, rfl⟩
theorem parse_minf (w : World) : Calls Tryz.prog 168 #[.string ⟨#[45, 105, 110, 102]⟩] w fun e w' => e = .returned (.tuple #[.float .f64 18442240474082181120, .int .i64 0]) ∧ w = w' := by
  have H := Lib.hid (fun w => of_any 18442240474082181120 w)
  have HC : Hid (canon 18442240474082181120 = 18442240474082181120) := by unfold Hid; decide
  go_enter Tryz.func168, Tryz.ntmps168
  go_wp2_with (go_at_call 191; refine (H.out _).mono ?_; rw [HC.out]; rintro e w' ⟨rfl, rfl⟩)
  go_ret2
  exact ⟨rfl, rfl⟩
theorem parse_zero (w : World) : Calls Tryz.prog 168 #[.string ⟨#[48]⟩] w fun e w' => e = .returned (.tuple #[.float .f64 0, .int .i64 0]) ∧ w = w' := by
  go_enter Tryz.func168, Tryz.ntmps168
  go_wp2_with fail
  go_ret2
  exact ⟨rfl, rfl⟩
theorem parse_mzero (w : World) : Calls Tryz.prog 168 #[.string ⟨#[45, 48]⟩] w fun e w' => e = .returned (.tuple #[.float .f64 9223372036854775808, .int .i64 0]) ∧ w = w' := by
  have H := Lib.hid (fun w => of_any 9223372036854775808 w)
  have HC : Hid (canon 9223372036854775808 = 9223372036854775808) := by unfold Hid; decide
  go_enter Tryz.func168, Tryz.ntmps168
  go_wp2_with (go_at_call 191; refine (H.out _).mono ?_; rw [HC.out]; rintro e w' ⟨rfl, rfl⟩)
  go_ret2
  exact ⟨rfl, rfl⟩
set_option maxRecDepth 100000 in
set_option maxHeartbeats 800000 in
theorem parse_nocut (s : ByteArray) (n1 : (s.toList == [110, 97, 110]) = false) (n2 : (s.toList == [105, 110, 102]) = false) (n3 : (s.toList == [45, 105, 110, 102]) = false) (n4 : (s.toList == [48]) = false) (n5 : (s.toList == [45, 48]) = false) (t a k : List UInt8) (neg f : Bool) (hp : Lib.hasPrefix s.data.toList (⟨#[45]⟩ : ByteArray).data.toList = neg) (ht : Lib.trimPrefix s.data.toList (⟨#[45]⟩ : ByteArray).data.toList = t)
    (hc : Lib.cut t [112] = (a, k, f)) (htl : t.length ≤ 1000000) (hal : a.length ≤ 1000000) (hkl : k.length ≤ 1000000) (hf : f = false) (w : World) :
    Calls Tryz.prog 168 #[.string s] w fun e w' => e = .returned (.tuple #[.float .f64 0, .int .i64 4]) ∧ Below w.heap.size w w' := by
  have HP := Lib.hid hp; clear hp
  have HT := Lib.hid ht; clear ht
  have HTL := Lib.hid htl; clear htl
  have HAL := Lib.hid hal; clear hal
  have HKL := Lib.hid hkl; clear hkl
  subst hf
  have HC := Lib.hid hc; clear hc
  go_enter Tryz.func168, Tryz.ntmps168
  go_wp2_with (first
    | (go_at_call 124; refine (Tryz.strings_CutPrefix s ⟨#[45]⟩ _).mono ?_; rw [HP.out, HT.out]; rintro e w' ⟨rfl, rfl⟩)
    | (go_at_call 125; refine (cut_l t a k _ HC.out HTL.out _).mono ?_; rintro e w0 ⟨rfl, hb0⟩; have HB0 := Lib.hid (drew_below hb0); clear hb0))
  go_ret2
  exact ⟨rfl, HB0.out⟩
set_option maxRecDepth 100000 in
set_option maxHeartbeats 800000 in
theorem parse_nocount (s : ByteArray) (n1 : (s.toList == [110, 97, 110]) = false) (n2 : (s.toList == [105, 110, 102]) = false) (n3 : (s.toList == [45, 105, 110, 102]) = false) (n4 : (s.toList == [48]) = false) (n5 : (s.toList == [45, 48]) = false) (t a k : List UInt8) (neg f : Bool) (hp : Lib.hasPrefix s.data.toList (⟨#[45]⟩ : ByteArray).data.toList = neg) (ht : Lib.trimPrefix s.data.toList (⟨#[45]⟩ : ByteArray).data.toList = t)
    (hc : Lib.cut t [112] = (a, k, f)) (htl : t.length ≤ 1000000) (hal : a.length ≤ 1000000) (hkl : k.length ≤ 1000000) (hf : f = true) (ha : cntB a = false) (w : World) :
    Calls Tryz.prog 168 #[.string s] w fun e w' => e = .returned (.tuple #[.float .f64 0, .int .i64 4]) ∧ Below w.heap.size w w' := by
  have HP := Lib.hid hp; clear hp
  have HT := Lib.hid ht; clear ht
  have HTL := Lib.hid htl; clear htl
  have HAL := Lib.hid hal; clear hal
  have HKL := Lib.hid hkl; clear hkl
  subst hf
  have HC := Lib.hid hc; clear hc
  have HA := Lib.hid ha; clear ha
  go_enter Tryz.func168, Tryz.ntmps168
  go_wp2_with (first
    | (go_at_call 124; refine (Tryz.strings_CutPrefix s ⟨#[45]⟩ _).mono ?_; rw [HP.out, HT.out]; rintro e w' ⟨rfl, rfl⟩)
    | (go_at_call 125; refine (cut_l t a k _ HC.out HTL.out _).mono ?_; rintro e w0 ⟨rfl, hb0⟩; have HB0 := Lib.hid (drew_below hb0); clear hb0)
    | (go_at_call 192; refine (isCount_l a _ HA.out HAL.out _).mono ?_; rintro e w1 ⟨rfl, hb1⟩; have HB1 := Lib.hid hb1; clear hb1))
  go_ret2
  exact ⟨rfl, HB0.out.trans (HB1.out.mono HB0.out.size)⟩
set_option maxRecDepth 100000 in
set_option maxHeartbeats 800000 in
theorem parse_noint (s : ByteArray) (n1 : (s.toList == [110, 97, 110]) = false) (n2 : (s.toList == [105, 110, 102]) = false) (n3 : (s.toList == [45, 105, 110, 102]) = false) (n4 : (s.toList == [48]) = false) (n5 : (s.toList == [45, 48]) = false) (t a k : List UInt8) (neg f : Bool) (hp : Lib.hasPrefix s.data.toList (⟨#[45]⟩ : ByteArray).data.toList = neg) (ht : Lib.trimPrefix s.data.toList (⟨#[45]⟩ : ByteArray).data.toList = t)
    (hc : Lib.cut t [112] = (a, k, f)) (htl : t.length ≤ 1000000) (hal : a.length ≤ 1000000) (hkl : k.length ≤ 1000000) (hf : f = true) (ha : cntB a = true) (hk : intB k = false) (w : World) :
    Calls Tryz.prog 168 #[.string s] w fun e w' => e = .returned (.tuple #[.float .f64 0, .int .i64 4]) ∧ Below w.heap.size w w' := by
  have HP := Lib.hid hp; clear hp
  have HT := Lib.hid ht; clear ht
  have HTL := Lib.hid htl; clear htl
  have HAL := Lib.hid hal; clear hal
  have HKL := Lib.hid hkl; clear hkl
  subst hf
  have HC := Lib.hid hc; clear hc
  have HA := Lib.hid ha; clear ha
  have HK := Lib.hid hk; clear hk
  go_enter Tryz.func168, Tryz.ntmps168
  go_wp2_with (first
    | (go_at_call 124; refine (Tryz.strings_CutPrefix s ⟨#[45]⟩ _).mono ?_; rw [HP.out, HT.out]; rintro e w' ⟨rfl, rfl⟩)
    | (go_at_call 125; refine (cut_l t a k _ HC.out HTL.out _).mono ?_; rintro e w0 ⟨rfl, hb0⟩; have HB0 := Lib.hid (drew_below hb0); clear hb0)
    | (go_at_call 192; refine (isCount_l a _ HA.out HAL.out _).mono ?_; rintro e w1 ⟨rfl, hb1⟩; have HB1 := Lib.hid hb1; clear hb1)
    | (go_at_call 193; refine (isInteger_l k _ HK.out HKL.out _).mono ?_; rintro e w2 ⟨rfl, hb2⟩; have HB2 := Lib.hid hb2; clear hb2))
  go_ret2
  exact ⟨rfl, HB0.out.trans ((HB1.out.mono HB0.out.size).trans (HB2.out.mono (Nat.le_trans HB0.out.size HB1.out.size)))⟩
set_option maxRecDepth 100000 in
set_option maxHeartbeats 800000 in
theorem parse_range (s : ByteArray) (n1 : (s.toList == [110, 97, 110]) = false) (n2 : (s.toList == [105, 110, 102]) = false) (n3 : (s.toList == [45, 105, 110, 102]) = false) (n4 : (s.toList == [48]) = false) (n5 : (s.toList == [45, 48]) = false) (t a k : List UInt8) (neg f : Bool) (hp : Lib.hasPrefix s.data.toList (⟨#[45]⟩ : ByteArray).data.toList = neg) (ht : Lib.trimPrefix s.data.toList (⟨#[45]⟩ : ByteArray).data.toList = t)
    (hc : Lib.cut t [112] = (a, k, f)) (htl : t.length ≤ 1000000) (hal : a.length ≤ 1000000) (hkl : k.length ≤ 1000000) (hf : f = true) (ha : cntB a = true) (hk : intB k = true) (hfit : ¬ Fits (satN a) (intN k)) (w : World) :
    Calls Tryz.prog 168 #[.string s] w fun e w' => e = .returned (.tuple #[.float .f64 0, .int .i64 1]) ∧ Below w.heap.size w w' := by
  have HP := Lib.hid hp; clear hp
  have HT := Lib.hid ht; clear ht
  have HTL := Lib.hid htl; clear htl
  have HAL := Lib.hid hal; clear hal
  have HKL := Lib.hid hkl; clear hkl
  subst hf
  have HC := Lib.hid hc; clear hc
  have HA := Lib.hid ha; clear ha
  have HK := Lib.hid hk; clear hk
  have HF := Lib.hid hfit; clear hfit
  go_enter Tryz.func168, Tryz.ntmps168
  go_wp2_with (first
    | (go_at_call 124; refine (Tryz.strings_CutPrefix s ⟨#[45]⟩ _).mono ?_; rw [HP.out, HT.out]; rintro e w' ⟨rfl, rfl⟩)
    | (go_at_call 125; refine (cut_l t a k _ HC.out HTL.out _).mono ?_; rintro e w0 ⟨rfl, hb0⟩; have HB0 := Lib.hid (drew_below hb0); clear hb0)
    | (go_at_call 192; refine (isCount_l a _ HA.out HAL.out _).mono ?_; rintro e w1 ⟨rfl, hb1⟩; have HB1 := Lib.hid hb1; clear hb1)
    | (go_at_call 193; refine (isInteger_l k _ HK.out HKL.out _).mono ?_; rintro e w2 ⟨rfl, hb2⟩; have HB2 := Lib.hid hb2; clear hb2)
    | (go_at_call 195; refine (countOf_l a HA.out HAL.out _).mono ?_; rintro e w3 ⟨rfl, hb3⟩; have HB3 := Lib.hid hb3; clear hb3)
    | (go_at_call 196; refine (integerOf_l k HK.out HKL.out _).mono ?_; rintro e w4 ⟨rfl, hb4⟩; have HB4 := Lib.hid hb4; clear hb4)
    | (go_at_call 194; refine (join_no _ _ HF.out (intN_le k) _).mono ?_; rintro e w' ⟨rfl, rfl⟩))
  go_ret2
  exact ⟨rfl, HB0.out.trans ((HB1.out.mono HB0.out.size).trans ((HB2.out.mono (Nat.le_trans HB0.out.size HB1.out.size)).trans ((HB3.out.mono (Nat.le_trans HB0.out.size (Nat.le_trans HB1.out.size HB2.out.size))).trans (HB4.out.mono (Nat.le_trans HB0.out.size (Nat.le_trans HB1.out.size (Nat.le_trans HB2.out.size HB3.out.size)))))))⟩
set_option maxRecDepth 100000 in
set_option maxHeartbeats 800000 in
theorem parse_pos (s : ByteArray) (n1 : (s.toList == [110, 97, 110]) = false) (n2 : (s.toList == [105, 110, 102]) = false) (n3 : (s.toList == [45, 105, 110, 102]) = false) (n4 : (s.toList == [48]) = false) (n5 : (s.toList == [45, 48]) = false) (t a k : List UInt8) (neg f : Bool) (hp : Lib.hasPrefix s.data.toList (⟨#[45]⟩ : ByteArray).data.toList = neg) (ht : Lib.trimPrefix s.data.toList (⟨#[45]⟩ : ByteArray).data.toList = t)
    (hc : Lib.cut t [112] = (a, k, f)) (htl : t.length ≤ 1000000) (hal : a.length ≤ 1000000) (hkl : k.length ≤ 1000000) (hf : f = true) (ha : cntB a = true) (hk : intB k = true) (hfit : Fits (satN a) (intN k)) (hneg : neg = false) (w : World) :
    Calls Tryz.prog 168 #[.string s] w fun e w' => e = .returned (.tuple #[.float .f64 (ofOdd (satN a) (intN k)), .int .i64 0]) ∧ Below w.heap.size w w' := by
  have HP := Lib.hid hp; clear hp
  have HT := Lib.hid ht; clear ht
  have HTL := Lib.hid htl; clear htl
  have HAL := Lib.hid hal; clear hal
  have HKL := Lib.hid hkl; clear hkl
  subst hneg
  subst hf
  have HC := Lib.hid hc; clear hc
  have HA := Lib.hid ha; clear ha
  have HK := Lib.hid hk; clear hk
  have HF := Lib.hid hfit; clear hfit
  go_enter Tryz.func168, Tryz.ntmps168
  go_wp2_with (first
    | (go_at_call 124; refine (Tryz.strings_CutPrefix s ⟨#[45]⟩ _).mono ?_; rw [HP.out, HT.out]; rintro e w' ⟨rfl, rfl⟩)
    | (go_at_call 125; refine (cut_l t a k _ HC.out HTL.out _).mono ?_; rintro e w0 ⟨rfl, hb0⟩; have HB0 := Lib.hid (drew_below hb0); clear hb0)
    | (go_at_call 192; refine (isCount_l a _ HA.out HAL.out _).mono ?_; rintro e w1 ⟨rfl, hb1⟩; have HB1 := Lib.hid hb1; clear hb1)
    | (go_at_call 193; refine (isInteger_l k _ HK.out HKL.out _).mono ?_; rintro e w2 ⟨rfl, hb2⟩; have HB2 := Lib.hid hb2; clear hb2)
    | (go_at_call 195; refine (countOf_l a HA.out HAL.out _).mono ?_; rintro e w3 ⟨rfl, hb3⟩; have HB3 := Lib.hid hb3; clear hb3)
    | (go_at_call 196; refine (integerOf_l k HK.out HKL.out _).mono ?_; rintro e w4 ⟨rfl, hb4⟩; have HB4 := Lib.hid hb4; clear hb4)
    | (go_at_call 194; refine (join_yes _ _ HF.out _).mono ?_; rintro e w' ⟨rfl, rfl⟩))
  go_ret2
  exact ⟨rfl, HB0.out.trans ((HB1.out.mono HB0.out.size).trans ((HB2.out.mono (Nat.le_trans HB0.out.size HB1.out.size)).trans ((HB3.out.mono (Nat.le_trans HB0.out.size (Nat.le_trans HB1.out.size HB2.out.size))).trans (HB4.out.mono (Nat.le_trans HB0.out.size (Nat.le_trans HB1.out.size (Nat.le_trans HB2.out.size HB3.out.size)))))))⟩
/-- A float turned round. -/
theorem xor_top_lo {n : Nat} (h : n < 9223372036854775808) : n ^^^ 9223372036854775808 = 9223372036854775808 + n := by
  have := xor_top_hi (n := 9223372036854775808 + n) (by omega) (by omega)
  have e : n = (9223372036854775808 + n) ^^^ 9223372036854775808 := by rw [this]; omega
  conv => lhs; rw [e, Nat.xor_assoc, Nat.xor_self, Nat.xor_zero]
theorem run_neg_lo {b : Nat} (h : b < 9223372036854775808) (w : World) : (Op.unary .neg (.float .f64 b)).run Tryz.prog w = .ok (.float .f64 (9223372036854775808 + b)) w := by
  have : (Op.unary .neg (.float .f64 b)).run Tryz.prog w = .ok (.float .f64 (b ^^^ 9223372036854775808)) w := rfl
  rw [this, xor_top_lo h]
theorem run_neg_hi {b : Nat} (h : 9223372036854775808 ≤ b) (h2 : b < 18446744073709551616) (w : World) : (Op.unary .neg (.float .f64 b)).run Tryz.prog w = .ok (.float .f64 (b - 9223372036854775808)) w := by
  have : (Op.unary .neg (.float .f64 b)).run Tryz.prog w = .ok (.float .f64 (b ^^^ 9223372036854775808)) w := rfl
  rw [this, xor_top_hi h h2]
set_option maxRecDepth 100000 in
set_option maxHeartbeats 800000 in
theorem parse_neg (s : ByteArray) (n1 : (s.toList == [110, 97, 110]) = false) (n2 : (s.toList == [105, 110, 102]) = false) (n3 : (s.toList == [45, 105, 110, 102]) = false) (n4 : (s.toList == [48]) = false) (n5 : (s.toList == [45, 48]) = false) (t a k : List UInt8) (neg f : Bool) (hp : Lib.hasPrefix s.data.toList (⟨#[45]⟩ : ByteArray).data.toList = neg) (ht : Lib.trimPrefix s.data.toList (⟨#[45]⟩ : ByteArray).data.toList = t)
    (hc : Lib.cut t [112] = (a, k, f)) (htl : t.length ≤ 1000000) (hal : a.length ≤ 1000000) (hkl : k.length ≤ 1000000) (hf : f = true) (ha : cntB a = true) (hk : intB k = true) (hfit : Fits (satN a) (intN k)) (hneg : neg = true) (w : World) :
    Calls Tryz.prog 168 #[.string s] w fun e w' => e = .returned (.tuple #[.float .f64 (9223372036854775808 + ofOdd (satN a) (intN k)), .int .i64 0]) ∧ Below w.heap.size w w' := by
  have HP := Lib.hid hp; clear hp
  have HT := Lib.hid ht; clear ht
  have HTL := Lib.hid htl; clear htl
  have HAL := Lib.hid hal; clear hal
  have HKL := Lib.hid hkl; clear hkl
  subst hneg
  subst hf
  have HC := Lib.hid hc; clear hc
  have HA := Lib.hid ha; clear ha
  have HK := Lib.hid hk; clear hk
  have hngt := run_neg_lo (b := ofOdd (satN a) (intN k)) (by have := (ofOdd_spec hfit).2.1; unfold infR at this; omega)
  have HF := Lib.hid hfit; clear hfit
  go_enter Tryz.func168, Tryz.ntmps168
  go_wp2_with (first
    | (go_at_call 124; refine (Tryz.strings_CutPrefix s ⟨#[45]⟩ _).mono ?_; rw [HP.out, HT.out]; rintro e w' ⟨rfl, rfl⟩)
    | (go_at_call 125; refine (cut_l t a k _ HC.out HTL.out _).mono ?_; rintro e w0 ⟨rfl, hb0⟩; have HB0 := Lib.hid (drew_below hb0); clear hb0)
    | (go_at_call 192; refine (isCount_l a _ HA.out HAL.out _).mono ?_; rintro e w1 ⟨rfl, hb1⟩; have HB1 := Lib.hid hb1; clear hb1)
    | (go_at_call 193; refine (isInteger_l k _ HK.out HKL.out _).mono ?_; rintro e w2 ⟨rfl, hb2⟩; have HB2 := Lib.hid hb2; clear hb2)
    | (go_at_call 195; refine (countOf_l a HA.out HAL.out _).mono ?_; rintro e w3 ⟨rfl, hb3⟩; have HB3 := Lib.hid hb3; clear hb3)
    | (go_at_call 196; refine (integerOf_l k HK.out HKL.out _).mono ?_; rintro e w4 ⟨rfl, hb4⟩; have HB4 := Lib.hid hb4; clear hb4)
    | (go_at_call 194; refine (join_yes _ _ HF.out _).mono ?_; rintro e w' ⟨rfl, rfl⟩))
  go_ret2
  exact ⟨rfl, HB0.out.trans ((HB1.out.mono HB0.out.size).trans ((HB2.out.mono (Nat.le_trans HB0.out.size HB1.out.size)).trans ((HB3.out.mono (Nat.le_trans HB0.out.size (Nat.le_trans HB1.out.size HB2.out.size))).trans (HB4.out.mono (Nat.le_trans HB0.out.size (Nat.le_trans HB1.out.size (Nat.le_trans HB2.out.size HB3.out.size)))))))⟩
end Go.Proofs.YtbgccaconhmbaaaGreatDoor
namespace Go.Proofs.YtbgccaconhmbaaaGreatDoor
open Go.RowKit Go.Lib

def fitsB (n : Nat) (p : Int) : Bool := decide (n % 2 = 1) && decide (n < 9007199254740992) && decide (-1074 ≤ p) && decide (p + n.log2 < 1024)
theorem fits_iff (n : Nat) (p : Int) : fitsB n p = true ↔ Fits n p := by
  unfold fitsB
  simp only [Bool.and_eq_true, decide_eq_true_eq]
  exact ⟨fun ⟨⟨⟨a, b⟩, c⟩, d⟩ => ⟨a, b, c, d⟩, fun ⟨a, b, c, d⟩ => ⟨⟨⟨a, b⟩, c⟩, d⟩⟩
def formB (l : List UInt8) : Bool := (Lib.cut (Lib.trimPrefix l [45]) [112]).2.2 && cntB (Lib.cut (Lib.trimPrefix l [45]) [112]).1 && intB (Lib.cut (Lib.trimPrefix l [45]) [112]).2.1
def numOf (l : List UInt8) : Nat := satN (Lib.cut (Lib.trimPrefix l [45]) [112]).1
def powOf (l : List UInt8) : Int := intN (Lib.cut (Lib.trimPrefix l [45]) [112]).2.1
def coreN (l : List UInt8) : Nat × Int :=
  bif formB l then bif fitsB (numOf l) (powOf l) then (bif Lib.hasPrefix l [45] then 9223372036854775808 + ofOdd (numOf l) (powOf l) else ofOdd (numOf l) (powOf l), 0) else (0, 1) else (0, 4)
def parseN (l : List UInt8) : Nat × Int :=
  bif l == [110, 97, 110] then (oneNaN, 0) else bif l == [105, 110, 102] then (infR, 0) else bif l == [45, 105, 110, 102] then (18442240474082181120, 0) else
  bif l == [48] then (0, 0) else bif l == [45, 48] then (9223372036854775808, 0) else coreN l
theorem cut_len (t : List UInt8) : (Lib.cut t [112]).1.length ≤ t.length ∧ (Lib.cut t [112]).2.1.length ≤ t.length := by
  unfold Lib.cut
  split
  · exact ⟨List.length_take_le' _ _, by rw [List.length_drop]; omega⟩
  · exact ⟨Nat.le_refl _, Nat.zero_le _⟩
theorem of_list {s : ByteArray} {l : List UInt8} (h : s.data.toList = l) : s = ⟨l.toArray⟩ := by
  subst h; rfl
/-- num.Parse, ANY TEXT. -/
theorem parse_any (s : ByteArray) (hs : s.size ≤ 1000000) (w : World) :
    Calls Tryz.prog 168 #[.string s] w fun e w' => e = .returned (.tuple #[.float .f64 (parseN s.data.toList).1, .int .i64 (parseN s.data.toList).2]) ∧ Below w.heap.size w w' := by
  have hl : s.data.toList.length ≤ 1000000 := by rw [← Lib.size_eq]; exact hs
  cases n1 : (s.data.toList == [110, 97, 110])
  case true =>
    have e : s.data.toList = [110, 97, 110] := by simpa using n1
    rw [e, of_list e]
    refine (parse_nan w).mono ?_; rintro e w' ⟨he, rfl⟩; exact ⟨he, Below.refl _ _⟩
  cases n2 : (s.data.toList == [105, 110, 102])
  case true =>
    have e : s.data.toList = [105, 110, 102] := by simpa using n2
    rw [e, of_list e]
    refine (parse_inf w).mono ?_; rintro e w' ⟨he, rfl⟩; exact ⟨he, Below.refl _ _⟩
  cases n3 : (s.data.toList == [45, 105, 110, 102])
  case true =>
    have e : s.data.toList = [45, 105, 110, 102] := by simpa using n3
    rw [e, of_list e]
    refine (parse_minf w).mono ?_; rintro e w' ⟨he, rfl⟩; exact ⟨he, Below.refl _ _⟩
  cases n4 : (s.data.toList == [48])
  case true =>
    have e : s.data.toList = [48] := by simpa using n4
    rw [e, of_list e]
    refine (parse_zero w).mono ?_; rintro e w' ⟨he, rfl⟩; exact ⟨he, Below.refl _ _⟩
  cases n5 : (s.data.toList == [45, 48])
  case true =>
    have e : s.data.toList = [45, 48] := by simpa using n5
    rw [e, of_list e]
    refine (parse_mzero w).mono ?_; rintro e w' ⟨he, rfl⟩; exact ⟨he, Below.refl _ _⟩
  have hcore : parseN s.data.toList = coreN s.data.toList := by
    unfold parseN; rw [n1, n2, n3, n4, n5]; rfl
  rw [hcore]
  rw [← toList_data] at n1 n2 n3 n4 n5
  obtain ⟨t, ht⟩ : ∃ t, Lib.trimPrefix s.data.toList [45] = t := ⟨_, rfl⟩
  obtain ⟨a, k, f, hc⟩ : ∃ a k f, Lib.cut t [112] = (a, k, f) := ⟨_, _, _, rfl⟩
  obtain ⟨neg, hp⟩ : ∃ neg, Lib.hasPrefix s.data.toList [45] = neg := ⟨_, rfl⟩
  have htl : t.length ≤ 1000000 := by rw [← ht]; exact Nat.le_trans (trim_len _ _) hl
  have hal : a.length ≤ 1000000 := by have := (cut_len t).1; rw [hc] at this; exact Nat.le_trans this htl
  have hkl : k.length ≤ 1000000 := by have := (cut_len t).2; rw [hc] at this; exact Nat.le_trans this htl
  have hform : formB s.data.toList = (f && cntB a && intB k) := by unfold formB; rw [ht, hc]
  have hnum : numOf s.data.toList = satN a := by unfold numOf; rw [ht, hc]
  have hpow : powOf s.data.toList = intN k := by unfold powOf; rw [ht, hc]
  unfold coreN
  rw [hform, hnum, hpow, hp]
  cases hf : f
  · exact parse_nocut s n1 n2 n3 n4 n5 t a k neg f hp ht hc htl hal hkl hf w
  · cases ha : cntB a
    · exact parse_nocount s n1 n2 n3 n4 n5 t a k neg f hp ht hc htl hal hkl hf ha w
    · cases hk : intB k
      · exact parse_noint s n1 n2 n3 n4 n5 t a k neg f hp ht hc htl hal hkl hf ha hk w
      · cases hfit : fitsB (satN a) (intN k)
        · exact parse_range s n1 n2 n3 n4 n5 t a k neg f hp ht hc htl hal hkl hf ha hk (fun h => by rw [(fits_iff _ _).2 h] at hfit; cases hfit) w
        · cases hneg : neg
          · exact parse_pos s n1 n2 n3 n4 n5 t a k neg f hp ht hc htl hal hkl hf ha hk ((fits_iff _ _).1 hfit) hneg w
          · exact parse_neg s n1 n2 n3 n4 n5 t a k neg f hp ht hc htl hal hkl hf ha hk ((fits_iff _ _).1 hfit) hneg w

theorem ex1 : parseN [45, 51, 112, 49] = (13841813454723219456, 0) := by decide +kernel
theorem ex2 : parseN [50, 112, 48] = (0, 1) := by decide +kernel
theorem ex3 : textN 4602678819172646912 = [49, 112, 45, 49] := by
  have hc : clsN 4602678819172646912 = 7 := by decide +kernel
  rw [textN_pos (.inr hc)]
  have ho : oddN (4602678819172646912 % 9223372036854775808) = 1 := by decide +kernel
  have hp : powN (4602678819172646912 % 9223372036854775808) = -1 := by decide +kernel
  unfold numT digT powT
  rw [ho, hp, decDigits_one (by decide), show (-1 : Int) = -((1 : Nat) : Int) from rfl, itoa_neg 1 (by decide), decDigits_one (by decide)]
  rfl
theorem ex4 : clsN 0 = 5 := by decide +kernel
theorem ex5 : rankN 0 = 9223372036854775808 := by decide +kernel
theorem parse_ex1 (w : World) : Calls Tryz.prog 168 #[.string ⟨#[45, 51, 112, 49]⟩] w fun e w' => e = .returned (.tuple #[.float .f64 13841813454723219456, .int .i64 0]) ∧ Below w.heap.size w w' := by
  have := parse_any ⟨#[45, 51, 112, 49]⟩ (by decide) w
  rw [show (⟨#[45, 51, 112, 49]⟩ : ByteArray).data.toList = [45, 51, 112, 49] from rfl, ex1] at this
  exact this
theorem parse_ex2 (w : World) : Calls Tryz.prog 168 #[.string ⟨#[50, 112, 48]⟩] w fun e w' => e = .returned (.tuple #[.float .f64 0, .int .i64 1]) ∧ Below w.heap.size w w' := by
  have := parse_any ⟨#[50, 112, 48]⟩ (by decide) w
  rw [show (⟨#[50, 112, 48]⟩ : ByteArray).data.toList = [50, 112, 48] from rfl, ex2] at this
  exact this
theorem print_ex (w : World) (hT : Tabs w) : Calls Tryz.prog 137 #[.float .f64 4602678819172646912] w fun e w' => e = .returned (.string ⟨#[49, 112, 45, 49]⟩) ∧ Below w.heap.size w w' := by
  have := print_any 4602678819172646912 (by decide) w hT
  rw [ex3] at this
  exact this
theorem class_ex (w : World) : Calls Tryz.prog 171 #[.float .f64 0] w fun e w' => e = .returned (.int .i64 5) ∧ w = w' := by
  have := class_any 0 w (by decide)
  rw [ex4] at this
  exact this
theorem rank_ex (w : World) : Calls Tryz.prog 154 #[.float .f64 0] w fun e w' => e = .returned (.int .u64 9223372036854775808) ∧ w = w' := by
  have := rank_any 0 w (by decide)
  rw [ex5] at this
  exact this
end Go.Proofs.YtbgccaconhmbaaaGreatDoor
namespace Go.Proofs.YtbgccaconhmbaaaGreatDoor
open Go.RowKit
theorem tabs_drewN {w : World} (h : Tabs w) (n : Nat) : Tabs (w.drewN n) := h.below (below_drewN (Below.refl _ _) n)
theorem canon_back {b : Nat} (h : b < 18446744073709551616) : backN (rankN b) = canon b := by
  have hc := canon_lt h
  by_cases h2 : 9223372036854775808 ≤ canon b
  · rw [rankN_hi h2, backN_lo (by omega)]
    have : 18446744073709551615 - (18446744073709551615 - canon b) = canon b := by omega
    rw [this, canon_canon]
  · rw [rankN_lo (by omega), backN_hi (by omega)]
    have : canon b + 9223372036854775808 - 9223372036854775808 = canon b := by omega
    rw [this, canon_canon]
theorem rank_inj {a b : Nat} (ha : a < 18446744073709551616) (hb : b < 18446744073709551616) (h : rankN a = rankN b) : canon a = canon b := by
  rw [← canon_back ha, ← canon_back hb, h]
theorem rank_canon (b : Nat) : rankN (canon b) = rankN b := by unfold rankN; rw [canon_canon]
/-- The classes go up with the ranks; NaN lies behind all. -/
theorem cls_canon (b : Nat) : clsN (canon b) = clsN b := by
  cases h : nanB b
  · rw [canon_num h]
  · rw [canon_nan h, cls_nan h, cls_nan nanB_one]
theorem cls_rank {a b : Nat} (ha : a < 18446744073709551616) (hb : b < 18446744073709551616) (h : rankN a ≤ rankN b) (hn : clsN b ≠ 0) : clsN a ≠ 0 ∧ clsN a ≤ clsN b := by
  have hnb : nanB b = false := by
    cases h2 : nanB b
    · rfl
    · exact absurd (cls_nan h2) hn
  have hcb := canon_num hnb
  have hb2 : ¬ infR < b % 9223372036854775808 := by simpa [nanB] using hnb
  unfold infR at hb2
  cases hna : nanB a
  · have hca := canon_num hna
    have ha2 : ¬ infR < a % 9223372036854775808 := by simpa [nanB] using hna
    unfold infR at ha2
    have mono : ∀ x y : Nat, x ≤ y → distN x ≤ distN y := by
      intro x y hxy
      by_cases c0 : x = 0
      · rw [distN_0 c0]; omega
      · by_cases c1 : y < 4503599627370496
        · rw [distN_1 c0 (by omega), distN_1 (by omega) c1]; omega
        · by_cases c2 : y < infR
          · by_cases c3 : x < 4503599627370496
            · rw [distN_1 c0 c3, distN_2 c1 c2]; omega
            · rw [distN_2 c3 (by omega), distN_2 c1 c2]; omega
          · rw [distN_3 c2]; exact distN_le x
    have da := distN_le (a % 9223372036854775808)
    have db := distN_le (b % 9223372036854775808)
    by_cases sa : a < 9223372036854775808
    · have ra := rankN_lo (b := a) (by rw [hca]; exact sa)
      have ca := clsN_pos hna sa
      by_cases sb : b < 9223372036854775808
      · have rb := rankN_lo (b := b) (by rw [hcb]; exact sb)
        have cb := clsN_pos hnb sb
        have := mono (a % 9223372036854775808) (b % 9223372036854775808) (by omega)
        omega
      · have rb := rankN_hi (b := b) (by rw [hcb]; omega)
        omega
    · have ra := rankN_hi (b := a) (by rw [hca]; omega)
      have ca := clsN_neg hna sa
      by_cases sb : b < 9223372036854775808
      · have rb := rankN_lo (b := b) (by rw [hcb]; exact sb)
        have cb := clsN_pos hnb sb
        omega
      · have rb := rankN_hi (b := b) (by rw [hcb]; omega)
        have cb := clsN_neg hnb sb
        have := mono (b % 9223372036854775808) (a % 9223372036854775808) (by omega)
        omega
  · have hca := canon_nan hna
    have ra := rankN_lo (b := a) (by rw [hca]; decide)
    rw [hca] at ra
    unfold oneNaN at ra
    by_cases sb : b < 9223372036854775808
    · have rb := rankN_lo (b := b) (by rw [hcb]; exact sb)
      omega
    · have rb := rankN_hi (b := b) (by rw [hcb]; omega)
      omega
theorem ret_b {a b : Bool} (h : a = b) : Ending.returned (.bool a) = .returned (.bool b) := by rw [h]
theorem cmp_is (a b : Nat) (k : Int) (h : cmpN (rankN a) (rankN b) = k) (ha : a < 18446744073709551616) (hb : b < 18446744073709551616) (w : World) :
    Calls Tryz.prog 116 #[.float .f64 a, .float .f64 b] w fun e w' => e = .returned (.int .i64 k) ∧ w = w' := by
  subst h; exact compare_any a b w ha hb
theorem class_is (a k : Nat) (h : clsN a = k) (ha : a < 18446744073709551616) (w : World) :
    Calls Tryz.prog 171 #[.float .f64 a] w fun e w' => e = .returned (.int .i64 (k : Int)) ∧ w = w' := by
  subst h; exact class_any a w ha
theorem bits_is (a k : Nat) (h : canon a = k) (w : World) :
    Calls Tryz.prog 112 #[.float .f64 a] w fun e w' => e = .returned (.int .u64 (k : Int)) ∧ w = w' := by
  subst h; exact bits_any a w
theorem rank_is (a k : Nat) (h : rankN a = k) (ha : a < 18446744073709551616) (w : World) :
    Calls Tryz.prog 154 #[.float .f64 a] w fun e w' => e = .returned (.int .u64 (k : Int)) ∧ w = w' := by
  subst h; exact rank_any a w ha
theorem least_is (a b k : Nat) (h : leastN a b = k) (ha : a < 18446744073709551616) (hb : b < 18446744073709551616) (w : World) :
    Calls Tryz.prog 81 #[.float .f64 a, .float .f64 b] w fun e w' => e = .returned (.float .f64 k) ∧ w = w' := by
  subst h; exact least_any a b w ha hb
theorem most_is (a b k : Nat) (h : mostN a b = k) (ha : a < 18446744073709551616) (hb : b < 18446744073709551616) (w : World) :
    Calls Tryz.prog 82 #[.float .f64 a, .float .f64 b] w fun e w' => e = .returned (.float .f64 k) ∧ w = w' := by
  subst h; exact most_any a b w ha hb
theorem cmpN_nonpos {x y : Nat} (h : x ≤ y) : cmpN x y ≤ 0 := by have := cmpN_le0 h; simpa using this
theorem cmpN_posi {x y : Nat} (h : ¬ x ≤ y) : 0 < cmpN x y := by rw [cmpN_gt (by omega)]; decide
theorem cmpN_nonneg {x y : Nat} (h : y ≤ x) : 0 ≤ cmpN x y := by
  by_cases h2 : y < x
  · rw [cmpN_gt h2]; decide
  · obtain rfl : x = y := by omega
    rw [cmpN_eq]; decide
end Go.Proofs.YtbgccaconhmbaaaGreatDoor
namespace Go.Proofs.YtbgccaconhmbaaaGreatDoor
open Ieee

theorem sum_comm (d e : Datum) : d.sum e = e.sum d := by
  cases d <;> cases e <;> simp only [Datum.sum]
  · rename_i s m i t n j
    rw [Int.min_comm i j, Int.add_comm, Bool.and_comm]
  · rename_i s t
    by_cases h : s = t
    · rw [if_pos h, if_pos h.symm, h]
    · rw [if_neg h, if_neg (Ne.symm h)]
theorem product_comm (d e : Datum) : d.product e = e.product d := by
  cases d <;> cases e <;> simp only [Datum.product]
  · rename_i s m i t n j
    rw [Bool.xor_comm, Nat.mul_comm, Int.add_comm]
  · rename_i s t
    rw [Bool.xor_comm]
theorem add_comm' (a b : Nat) : double.add a b = double.add b a := by unfold Format.add; rw [sum_comm]
theorem mul_comm' (a b : Nat) : double.mul a b = double.mul b a := by unfold Format.mul; rw [product_comm]

/-- A word, its sign and its lower bits. -/
theorem word_split {a : Nat} (h : a < 18446744073709551616) : a = double.word (a / 9223372036854775808 % 2 == 1) (a % 9223372036854775808) := by
  by_cases hs : a < 9223372036854775808
  · have e : a / 9223372036854775808 % 2 = 0 := by omega
    have e2 : a % 9223372036854775808 = a := by omega
    rw [e, e2]; rfl
  · have e : a / 9223372036854775808 % 2 = 1 := by omega
    rw [e, show ((1 : Nat) == 1) = true from rfl, word_true]; omega
theorem read_word {r : Nat} (neg : Bool) (h : r < infR) : double.read (double.word neg r) = .number neg (fullN r) ((expN r : Int) - 1075) := by
  cases neg
  · rw [word_false]; exact read_pos h
  · rw [word_true]; exact read_neg h
theorem read_inf (neg : Bool) : double.read (double.word neg infR) = .infinity neg := by cases neg <;> decide
theorem read_nanB {a : Nat} (h : nanB a = true) : ∃ s t, double.read a = .nan s t := by
  have := read_nan_iff a
  rw [h] at this
  cases hr : double.read a <;> rw [hr] at this <;> simp [Datum.isNaN] at this
  exact ⟨_, _, rfl⟩
theorem full_zero : fullN 0 = 0 := by decide
theorem full_ne {r : Nat} (h : r ≠ 0) : fullN r ≠ 0 := (fullN_bd (by omega)).1
theorem write_zero (s : Bool) (p : Int) : double.write (.number s 0 p) = double.word s 0 := by
  show double.nearest s 0 p = _
  unfold Format.nearest; rw [if_pos rfl]

/-- A number, taken from itself. -/
theorem sub_self_fin {r : Nat} (neg : Bool) (h : r < infR) : double.sub (double.word neg r) (double.word neg r) = some 0 := by
  unfold Format.sub
  rw [read_word neg h]
  simp only [Datum.opposite, Datum.sum]
  have e : min ((expN r : Int) - 1075) ((expN r : Int) - 1075) = (expN r : Int) - 1075 := by omega
  rw [e, Int.sub_self, show (0 : Int).toNat = 0 from rfl]
  have e2 : signed neg (fullN r) 0 + signed (!neg) (fullN r) 0 = 0 := by
    cases neg
    · rw [show (!false) = true from rfl, signed_pos, signed_neg]; omega
    · rw [show (!true) = false from rfl, signed_pos, signed_neg]; omega
  rw [e2]
  simp only [if_true]
  rw [show (neg && !neg) = false by cases neg <;> rfl, show Int.natAbs 0 = 0 from rfl, Option.map_some, write_zero]; rfl
theorem sub_self_inf (neg : Bool) : double.sub (double.word neg infR) (double.word neg infR) = none := by
  unfold Format.sub
  rw [read_inf]
  cases neg <;> rfl
theorem sub_nan {a b : Nat} (h : nanB a = true) : double.sub a b = none := by
  obtain ⟨s, t, hr⟩ := read_nanB h
  unfold Format.sub
  rw [hr]; rfl

theorem mul_one_fin {r : Nat} (neg : Bool) (h : r < infR) : double.mul (double.word neg r) oneB = some (double.word neg r) := by
  unfold Format.mul
  rw [read_word neg h, read_one]
  simp only [Datum.product, Option.map_some, Bool.xor_false]
  by_cases h0 : r = 0
  · subst h0
    rw [full_zero, Nat.zero_mul, write_zero]
  · simp only [Format.write]
    rw [nearest_exact (r := r) (a := 0) (b := 52) (by omega) h (by rw [Nat.pow_zero, Nat.mul_one]) (by omega)]
theorem mul_one_inf (neg : Bool) : double.mul (double.word neg infR) oneB = some (double.word neg infR) := by
  unfold Format.mul
  rw [read_inf, read_one]
  simp only [Datum.product]
  rw [if_neg (by decide), Option.map_some, Bool.xor_false]
  simp only [Format.write]
  rw [dbl_inf]
theorem mul_nan {a b : Nat} (h : nanB a = true) : double.mul a b = none := by
  obtain ⟨s, t, hr⟩ := read_nanB h
  unfold Format.mul
  rw [hr]; rfl
theorem log2_52 : (4503599627370496 : Nat).log2 = 52 := by decide +kernel
theorem div_one_fin {r : Nat} (neg : Bool) (h : r < infR) : double.div (double.word neg r) oneB = some (double.word neg r) := by
  unfold Format.div
  rw [read_word neg h, read_one]
  simp only [Datum.quotient, dbl_fb]
  rw [if_neg (by decide), Option.map_some, Bool.xor_false, log2_52]
  by_cases h0 : r = 0
  · subst h0
    have e : 2 * (fullN 0 <<< (52 + 2 + 52 - (fullN 0).log2) / 4503599627370496) + (fullN 0 <<< (52 + 2 + 52 - (fullN 0).log2) % 4503599627370496 != 0).toNat = 0 := by
      rw [full_zero, Nat.zero_shiftLeft]; rfl
    rw [e, write_zero]
  · have hl : (fullN r).log2 < 53 := (Nat.log2_lt (full_ne h0)).2 (full_lt)
    obtain ⟨k, hk⟩ : ∃ k, 52 + 2 + 52 - (fullN r).log2 = k + 52 := ⟨54 - (fullN r).log2, by omega⟩
    rw [hk]
    have e1 : fullN r <<< (k + 52) / 4503599627370496 = fullN r * 2 ^ k := by
      rw [Nat.shiftLeft_eq, Nat.pow_add, ← Nat.mul_assoc]
      exact Nat.mul_div_cancel _ (by decide)
    have e2 : fullN r <<< (k + 52) % 4503599627370496 = 0 := by
      rw [Nat.shiftLeft_eq, Nat.pow_add, ← Nat.mul_assoc]
      exact Nat.mul_mod_left _ _
    rw [e1, e2]
    simp only [Format.write]
    rw [show ((0 : Nat) != 0).toNat = 0 from rfl, Nat.add_zero]
    rw [nearest_exact (r := r) (a := 0) (b := k + 1) (by omega) h (by rw [Nat.pow_zero, Nat.mul_one, Nat.pow_succ, Nat.mul_comm 2, Nat.mul_assoc]) (by omega)]
theorem div_one_inf (neg : Bool) : double.div (double.word neg infR) oneB = some (double.word neg infR) := by
  unfold Format.div
  rw [read_inf, read_one]
  simp only [Datum.quotient, Option.map_some, Bool.xor_false, Format.write]
  rw [dbl_inf]
theorem div_nan {a b : Nat} (h : nanB a = true) : double.div a b = none := by
  obtain ⟨s, t, hr⟩ := read_nanB h
  unfold Format.div
  rw [hr]; rfl

/-- A float is NaN, or infinite, or finite. -/
theorem kinds {a : Nat} (h : a < 18446744073709551616) : nanB a = true ∨ (nanB a = false ∧ ∃ neg, a = double.word neg infR) ∨ (nanB a = false ∧ ∃ neg r, r < infR ∧ a = double.word neg r) := by
  cases hn : nanB a
  · right
    have hb : ¬ infR < a % 9223372036854775808 := by simpa [nanB] using hn
    by_cases hi : a % 9223372036854775808 = infR
    · left; refine ⟨rfl, (a / 9223372036854775808 % 2 == 1), ?_⟩; rw [← hi]; exact word_split h
    · right; exact ⟨rfl, _, _, by omega, word_split h⟩
  · exact .inl rfl
theorem mul_one_res {a : Nat} (h : a < 18446744073709551616) : resN (double.mul a oneB) = canon a := by
  rcases kinds h with hn | ⟨hn, neg, rfl⟩ | ⟨hn, neg, r, hr, rfl⟩
  · rw [mul_nan hn, canon_nan hn, resN_none]
  · rw [mul_one_inf, resN_some]
  · rw [mul_one_fin neg hr, resN_some]
theorem div_one_res {a : Nat} (h : a < 18446744073709551616) : resN (double.div a oneB) = canon a := by
  rcases kinds h with hn | ⟨hn, neg, rfl⟩ | ⟨hn, neg, r, hr, rfl⟩
  · rw [div_nan hn, canon_nan hn, resN_none]
  · rw [div_one_inf, resN_some]
  · rw [div_one_fin neg hr, resN_some]
theorem canon_res (o : Option Nat) : canon (resN o) = resN o := by
  cases o
  · exact canon_one
  · rw [resN_some, canon_canon]
theorem word_lo {neg : Bool} {r : Nat} (h : r < infR) : double.word neg r % 9223372036854775808 = r := by
  unfold infR at h
  cases neg
  · rw [word_false]; omega
  · rw [word_true]; omega
/-- What is taken from itself: nought, or NaN at the edges. -/
theorem sub_self_res {a : Nat} (h : a < 18446744073709551616) : (resN (double.sub a a) = 0 ∧ clsN a ≠ 0 ∧ clsN a ≠ 1 ∧ clsN a ≠ 8) ∨ (resN (double.sub a a) = oneNaN ∧ (clsN a = 0 ∨ clsN a = 1 ∨ clsN a = 8)) := by
  rcases kinds h with hn | ⟨hn, neg, rfl⟩ | ⟨hn, neg, r, hr, rfl⟩
  · right; rw [sub_nan hn]; exact ⟨rfl, .inl (cls_nan hn)⟩
  · right; rw [sub_self_inf]; refine ⟨rfl, .inr ?_⟩
    cases neg
    · exact .inr (by decide)
    · exact .inl (by decide)
  · left; rw [sub_self_fin neg hr, resN_some]
    refine ⟨by decide, ?_⟩
    have hd : distN (double.word neg r % 9223372036854775808) ≤ 2 := by
      rw [word_lo hr]
      by_cases c0 : r = 0
      · rw [distN_0 c0]; omega
      · by_cases c1 : r < 4503599627370496
        · rw [distN_1 c0 c1]; omega
        · rw [distN_2 c1 hr]; omega
    by_cases hs : double.word neg r < 9223372036854775808
    · have := clsN_pos hn hs; omega
    · have := clsN_neg hn hs; omega
end Go.Proofs.YtbgccaconhmbaaaGreatDoor
namespace Go.Proofs.YtbgccaconhmbaaaGreatDoor
open Go.Lib

theorem valN_snoc (l : List UInt8) (c : UInt8) : valN (l ++ [c]) = 10 * valN l + (c.toNat - 48) := by
  unfold valN; rw [List.foldl_append]; rfl
theorem dig_byte {d : Nat} (h : d < 10) : (UInt8.ofNat (48 + d)).toNat = 48 + d := by
  rw [UInt8.toNat_ofNat']; omega
theorem digB_byte {d : Nat} (h : d < 10) : digB (UInt8.ofNat (48 + d)) = true := by
  unfold digB; rw [dig_byte h]; simp; omega
theorem dec_all (n : Nat) : (decDigits n).all digB = true := by
  induction n using Nat.strongRecOn with
  | _ n ih =>
    rw [decDigits]
    split
    · rename_i h; rw [List.all_cons, List.all_nil, digB_byte h]; rfl
    · rename_i h; rw [List.all_append, ih _ (by omega), List.all_cons, List.all_nil, digB_byte (Nat.mod_lt n (by decide))]; rfl
theorem dec_ne (n : Nat) : decDigits n ≠ [] := by
  rw [decDigits]; split <;> simp
theorem dec_val (n : Nat) : valN (decDigits n) = n := by
  induction n using Nat.strongRecOn with
  | _ n ih =>
    rw [decDigits]
    split
    · rename_i h
      show 10 * 0 + ((UInt8.ofNat (48 + n)).toNat - 48) = n
      rw [dig_byte h]; omega
    · rename_i h
      rw [valN_snoc, ih _ (by omega), dig_byte (Nat.mod_lt n (by decide))]; omega
theorem dec_head (n : Nat) (h0 : n ≠ 0) : ∃ c t, decDigits n = c :: t ∧ c ≠ 48 := by
  induction n using Nat.strongRecOn with
  | _ n ih =>
    rw [decDigits]
    split
    · rename_i h
      refine ⟨_, [], rfl, fun e => ?_⟩
      have := congrArg UInt8.toNat e
      rw [dig_byte h] at this
      have e48 : (48 : UInt8).toNat = 48 := rfl
      omega
    · rename_i h
      obtain ⟨c, t, e, hc⟩ := ih (n / 10) (by omega) (by omega)
      exact ⟨c, t ++ [UInt8.ofNat (48 + n % 10)], by rw [e]; rfl, hc⟩
theorem dec_cnt (n : Nat) (h0 : n ≠ 0) : cntB (decDigits n) = true := by
  obtain ⟨c, t, e, hc⟩ := dec_head n h0
  have ha := dec_all n
  rw [e] at ha ⊢
  show (c != 48 && (c :: t).all digB) = true
  rw [ha]; simp [hc]
/-- A number as it is written is the numeral of its value. -/
theorem val_dec_aux : ∀ (k : Nat) (l : List UInt8), l.length = k → l ≠ [] → l.all digB = true → (∀ c t, l = c :: t → c ≠ 48) → decDigits (valN l) = l ∧ valN l ≠ 0 := by
  intro k
  induction k with
  | zero => intro l hl hne; exact absurd (List.length_eq_zero_iff.1 hl) hne
  | succ k ih =>
    intro l hl hne ha hh
    rcases List.eq_nil_or_concat l with h | ⟨m, c, h⟩
    · exact absurd h hne
    · rw [List.concat_eq_append] at h
      subst h
      rw [List.all_append, Bool.and_eq_true] at ha
      have hc : 48 ≤ c.toNat ∧ c.toNat ≤ 57 := by have := ha.2; simpa [digB] using this
      rw [valN_snoc]
      cases m with
      | nil =>
        have h48 : c ≠ 48 := hh c [] rfl
        have hne48 : c.toNat ≠ 48 := fun e => h48 (UInt8.toNat_inj.1 e)
        have e0 : 10 * valN [] + (c.toNat - 48) = c.toNat - 48 := by rw [valN_nil]; omega
        rw [e0]
        refine ⟨?_, by omega⟩
        rw [decDigits_one (by omega)]
        have : UInt8.ofNat (48 + (c.toNat - 48)) = c := by
          rw [show 48 + (c.toNat - 48) = c.toNat by omega]; exact UInt8.ofNat_toNat
        rw [this]; rfl
      | cons d m =>
        obtain ⟨i1, i2⟩ := ih (d :: m) (by simpa using hl) (by simp) ha.1 (fun c' t' e' => by
          cases e'; exact hh d (m ++ [c]) rfl)
        generalize hv : valN (d :: m) = v at *
        refine ⟨?_, by omega⟩
        rw [decDigits, dif_neg (by omega)]
        have e1 : (10 * v + (c.toNat - 48)) / 10 = v := by omega
        have e2 : (10 * v + (c.toNat - 48)) % 10 = c.toNat - 48 := by omega
        rw [e1, e2, i1]
        have : UInt8.ofNat (48 + (c.toNat - 48)) = c := by
          rw [show 48 + (c.toNat - 48) = c.toNat by omega]; exact UInt8.ofNat_toNat
        rw [this]
theorem val_dec {l : List UInt8} (h : cntB l = true) : decDigits (valN l) = l ∧ valN l ≠ 0 := by
  cases l with
  | nil => cases h
  | cons c t =>
    refine val_dec_aux _ (c :: t) rfl (by simp) (cntB_digits h) (fun c' t' e => ?_)
    cases e
    simp only [cntB, Bool.and_eq_true] at h
    simpa using h.1

theorem not_mem_p {l : List UInt8} (h : l.all digB = true) : (112 : UInt8) ∉ l := by
  intro hm
  have := List.all_eq_true.1 h _ hm
  cases this
theorem index_p (a b : List UInt8) (h : (112 : UInt8) ∉ a) : Lib.index (a ++ 112 :: b) [112] = a.length := by
  rw [Lib.index_one]
  induction a with
  | nil => simp [Lib.indexByte]
  | cons c t ih =>
    rw [List.mem_cons, not_or] at h
    have hc : (c == 112) = false := by simpa using fun e => h.1 e.symm
    have := ih h.2
    simp only [List.cons_append, Lib.indexByte, hc, this]
    have hn : ((t.length : Int) == -1) = false := by simp
    simp [hn]
theorem cut_found (a b : List UInt8) (h : (112 : UInt8) ∉ a) : Lib.cut (a ++ 112 :: b) [112] = (a, b, true) := by
  unfold Lib.cut
  rw [index_p a b h, if_pos (by omega)]
  have e : ((a.length : Nat) : Int).toNat = a.length := by omega
  rw [e]
  have e2 : (a ++ 112 :: b).drop (a.length + [112].length) = b := by
    rw [List.drop_append]; simp
  exact Prod.ext (List.take_left' rfl) (Prod.ext e2 rfl)
theorem index_none (l : List UInt8) (h : (112 : UInt8) ∉ l) : Lib.index l [112] = -1 := by
  rw [Lib.index_one]
  induction l with
  | nil => rfl
  | cons c t ih =>
    rw [List.mem_cons, not_or] at h
    have hc : (c == 112) = false := by simpa using fun e => h.1 e.symm
    simp [Lib.indexByte, hc, ih h.2]
theorem cut_none (l : List UInt8) (h : (112 : UInt8) ∉ l) : Lib.cut l [112] = (l, [], false) := by
  unfold Lib.cut
  rw [index_none l h]; rfl
/-- Any list is cut at its first 'p', or has none. -/
theorem cut_split (l : List UInt8) : (Lib.cut l [112] = (l, [], false) ∧ (112 : UInt8) ∉ l) ∨ ∃ a b, l = a ++ 112 :: b ∧ (112 : UInt8) ∉ a ∧ Lib.cut l [112] = (a, b, true) := by
  by_cases h : (112 : UInt8) ∈ l
  · right
    obtain ⟨a, b, e, hn⟩ := List.eq_append_cons_of_mem h
    exact ⟨a, b, e, hn, by rw [e]; exact cut_found a b hn⟩
  · exact .inl ⟨cut_none l h, h⟩
theorem pre_true (t : List UInt8) : Lib.hasPrefix (45 :: t) [45] = true ∧ Lib.trimPrefix (45 :: t) [45] = t := by
  refine ⟨by simp [Lib.hasPrefix], ?_⟩
  unfold Lib.trimPrefix
  rw [show Lib.hasPrefix (45 :: t) [45] = true by simp [Lib.hasPrefix]]
  rfl
theorem pre_false {l : List UInt8} (h : ∀ t, l ≠ 45 :: t) : Lib.hasPrefix l [45] = false ∧ Lib.trimPrefix l [45] = l := by
  have : Lib.hasPrefix l [45] = false := by
    cases l with
    | nil => rfl
    | cons c t =>
      have hc : c ≠ 45 := fun e => h t (by rw [e])
      simp [Lib.hasPrefix, List.isPrefixOf]
      intro e; exact hc e.symm
  refine ⟨this, ?_⟩
  unfold Lib.trimPrefix
  rw [this]; rfl
theorem pre_digits {l : List UInt8} (h : l.all digB = true) : Lib.hasPrefix l [45] = false ∧ Lib.trimPrefix l [45] = l := by
  refine pre_false (fun t e => ?_)
  subst e
  simp [digB] at h
theorem int_itoa (p : Int) : intB (itoa p) = true := by
  unfold intB itoa
  by_cases h : p < 0
  · rw [if_pos h, (pre_true _).2, dec_cnt _ (by omega)]; simp
  · rw [if_neg h]
    by_cases h0 : p = 0
    · subst h0; rw [show (0 : Int).toNat = 0 from rfl, decDigits_one (by decide)]; rfl
    · rw [(pre_digits (dec_all _)).2, dec_cnt _ (by omega)]; simp
theorem intN_itoa (p : Int) (h1 : -9007199254740992 ≤ p) (h2 : p ≤ 9007199254740992) : intN (itoa p) = p := by
  unfold intN itoa
  by_cases h : p < 0
  · rw [if_pos h, (pre_true _).1, (pre_true _).2, cond_true]
    unfold satN; rw [dec_val]; omega
  · rw [if_neg h, (pre_digits (dec_all _)).1, (pre_digits (dec_all _)).2, cond_false]
    unfold satN; rw [dec_val]; omega
theorem itoa_intN {k : List UInt8} (h : intB k = true) (h1 : -9007199254740992 < intN k) (h2 : intN k < 9007199254740992) : itoa (intN k) = k := by
  unfold intB at h
  rw [Bool.or_eq_true] at h
  rcases h with h | h
  · have e : k = [48] := by simpa using h
    subst e
    have : intN [48] = 0 := by decide
    rw [this]; unfold itoa
    rw [if_neg (by decide), show (0 : Int).toNat = 0 from rfl, decDigits_one (by decide)]; rfl
  · by_cases hm : ∃ t, k = 45 :: t
    · obtain ⟨t, rfl⟩ := hm
      rw [(pre_true t).2] at h
      obtain ⟨d1, d2⟩ := val_dec h
      have hi : intN (45 :: t) = -(satN t : Int) := by unfold intN; rw [(pre_true t).1, (pre_true t).2, cond_true]
      rw [hi] at h1 h2 ⊢
      have e : satN t = valN t := by unfold satN at h1 ⊢; omega
      rw [e]
      unfold itoa
      rw [if_pos (by omega), show (-(valN t : Int)).natAbs = valN t by omega, d1]
    · obtain ⟨p1, p2⟩ := pre_false (l := k) (fun t e => hm ⟨t, e⟩)
      rw [p2] at h
      obtain ⟨d1, d2⟩ := val_dec h
      have hi : intN k = (satN k : Int) := by unfold intN; rw [p1, p2, cond_false]
      rw [hi] at h1 h2 ⊢
      have e : satN k = valN k := by unfold satN at h2 ⊢; omega
      rw [e]
      unfold itoa
      rw [if_neg (by omega), show ((valN k : Nat) : Int).toNat = valN k by omega, d1]

/-- An odd part and a power tell the float. -/
theorem odd_pow_val {r : Nat} (h : 0 < r) (h2 : r < infR) : fullN r * 2 ^ expN r = oddN r * 2 ^ (powN r + 1075).toNat := by
  obtain ⟨e1, e2⟩ := full_odd h
  have b := expN_bd h2
  have e3 : (powN r + 1075).toNat = evenN r + expN r := by unfold powN; omega
  rw [e3, e1, Nat.pow_add, Nat.mul_comm (2 ^ evenN r), Nat.mul_assoc]
theorem odd_pow_inj {r q : Nat} (hr0 : 0 < r) (hr : r < infR) (hq0 : 0 < q) (hq : q < infR) (h1 : oddN r = oddN q) (h2 : powN r = powN q) : r = q := by
  have e : fullN r * 2 ^ expN r = fullN q * 2 ^ expN q := by rw [odd_pow_val hr0 hr, odd_pow_val hq0 hq, h1, h2]
  rcases Nat.lt_trichotomy r q with h | h | h
  · have := val_lt (i := expN r) (j := expN q) h hq (by omega); omega
  · exact h
  · have := val_lt (i := expN q) (j := expN r) h hr (by omega); omega
theorem fits_of {r : Nat} (h : 0 < r) (h2 : r < infR) : Fits (oddN r) (powN r) := by
  obtain ⟨e1, e2⟩ := full_odd h
  have b := expN_bd h2
  have hp := powN_bd h h2
  have ho : oddN r ≠ 0 := by omega
  refine ⟨e2, oddN_lt h, hp.1, ?_⟩
  have hl : (oddN r * 2 ^ evenN r).log2 = (oddN r).log2 + evenN r := log2_mul_pow ho _
  rw [Nat.mul_comm, ← e1] at hl
  have : (fullN r).log2 < 53 := (Nat.log2_lt (fullN_bd h).1).2 (fullN_bd h).2
  unfold powN
  omega
theorem ofOdd_self {r : Nat} (h : 0 < r) (h2 : r < infR) : ofOdd (oddN r) (powN r) = r := by
  obtain ⟨s1, s2, s3, s4⟩ := ofOdd_spec (fits_of h h2)
  exact odd_pow_inj s1 s2 h h2 s3 s4
end Go.Proofs.YtbgccaconhmbaaaGreatDoor
namespace Go.Proofs.YtbgccaconhmbaaaGreatDoor
open Go.Lib

theorem parse_core {l : List UInt8} (h : (112 : UInt8) ∈ l) : parseN l = coreN l := by
  have hs : ∀ k : List UInt8, (112 : UInt8) ∉ k → (l == k) = false := fun k hk => by
    cases hc : (l == k)
    · rfl
    · have : l = k := by simpa using hc
      rw [this] at h; exact absurd h hk
  unfold parseN
  rw [hs _ (by decide), hs _ (by decide), hs _ (by decide), hs _ (by decide), hs _ (by decide)]
  rfl
theorem numT_cut {r : Nat} (_h : 0 < r) : Lib.cut (numT r) [112] = (digT r, powT r, true) := cut_found _ _ (not_mem_p (dec_all _))
theorem digT_cons {r : Nat} (h : 0 < r) : ∃ c t, digT r = c :: t ∧ c ≠ 48 ∧ digB c = true := by
  have ho := (full_odd h).2
  obtain ⟨c, t, e, hc⟩ := dec_head (oddN r) (by omega)
  have ha := dec_all (oddN r)
  rw [e, List.all_cons, Bool.and_eq_true] at ha
  exact ⟨c, t, e, hc, ha.1⟩
theorem numT_pre {r : Nat} (h : 0 < r) : Lib.hasPrefix (numT r) [45] = false ∧ Lib.trimPrefix (numT r) [45] = numT r := by
  refine pre_false (fun t e => ?_)
  obtain ⟨c, t', e', _, hd⟩ := digT_cons h
  unfold numT at e
  rw [e', List.cons_append] at e
  have : c = 45 := (List.cons.inj e).1
  rw [this] at hd; cases hd
theorem num_facts {r : Nat} (h : 0 < r) (h2 : r < infR) : cntB (digT r) = true ∧ intB (powT r) = true ∧ satN (digT r) = oddN r ∧ intN (powT r) = powN r := by
  have ho := (full_odd h).2
  have hl := oddN_lt h
  have hp := powN_bd h h2
  refine ⟨dec_cnt _ (by omega), int_itoa _, ?_, intN_itoa _ (by omega) (by omega)⟩
  unfold satN digT; rw [dec_val]; omega
theorem core_pos {r : Nat} (h : 0 < r) (h2 : r < infR) : coreN (numT r) = (r, 0) := by
  obtain ⟨p1, p2⟩ := numT_pre h
  obtain ⟨f1, f2, f3, f4⟩ := num_facts h h2
  have hc := numT_cut h
  have hform : formB (numT r) = true := by unfold formB; rw [p2, hc]; simp [f1, f2]
  have hn : numOf (numT r) = oddN r := by unfold numOf; rw [p2, hc]; exact f3
  have hp : powOf (numT r) = powN r := by unfold powOf; rw [p2, hc]; exact f4
  unfold coreN
  rw [hform, hn, hp, (fits_iff _ _).2 (fits_of h h2), p1, ofOdd_self h h2]
  rfl
theorem core_neg {r : Nat} (h : 0 < r) (h2 : r < infR) : coreN (45 :: numT r) = (9223372036854775808 + r, 0) := by
  obtain ⟨p1, p2⟩ := pre_true (numT r)
  obtain ⟨f1, f2, f3, f4⟩ := num_facts h h2
  have hc := numT_cut h
  have hform : formB (45 :: numT r) = true := by unfold formB; rw [p2, hc]; simp [f1, f2]
  have hn : numOf (45 :: numT r) = oddN r := by unfold numOf; rw [p2, hc]; exact f3
  have hp : powOf (45 :: numT r) = powN r := by unfold powOf; rw [p2, hc]; exact f4
  unfold coreN
  rw [hform, hn, hp, (fits_iff _ _).2 (fits_of h h2), p1, ofOdd_self h h2]
  rfl
theorem numT_mem (r : Nat) : (112 : UInt8) ∈ numT r := by unfold numT; simp
/-- WHAT IS PRINTED IS READ. -/
theorem parse_text {b : Nat} (hb : b < 18446744073709551616) : parseN (textN b) = (canon b, 0) := by
  rcases cls_cases hb with ⟨h, hn⟩ | ⟨h, e⟩ | ⟨h, e⟩ | ⟨h, e⟩ | ⟨h, e⟩ | ⟨h, hc, h0, hi, hs⟩ | ⟨h, hc, h0, hi, hs⟩
  · rw [textN_0 h, canon_nan hn]; rfl
  · rw [textN_1 h, e]; decide
  · rw [textN_4 h, e]; decide
  · rw [textN_5 h, e]; decide
  · rw [textN_8 h, e]; decide
  · rw [textN_neg h, parse_core (List.mem_cons_of_mem _ (numT_mem _)), core_neg h0 hi, hc]
    have : 9223372036854775808 + b % 9223372036854775808 = b := by omega
    rw [this]
  · rw [textN_pos h, parse_core (numT_mem _), core_pos h0 hi, hc]
    have : b % 9223372036854775808 = b := by omega
    rw [this]
theorem cls_posnum {r : Nat} (h : 0 < r) (h2 : r < infR) : clsN r = 6 ∨ clsN r = 7 := by
  have h3 := h2
  unfold infR at h3
  rcases cls_cases (b := r) (by omega) with ⟨hh, hn⟩ | ⟨hh, e⟩ | ⟨hh, e⟩ | ⟨hh, e⟩ | ⟨hh, e⟩ | ⟨hh, hc, h0, hi, hs⟩ | ⟨hh, hc, h0, hi, hs⟩
  · exfalso; unfold nanB infR at hn; rw [decide_eq_true_iff] at hn; omega
  · omega
  · omega
  · omega
  · unfold infR at e; omega
  · omega
  · exact hh
theorem cls_negnum {r : Nat} (h : 0 < r) (h2 : r < infR) : clsN (9223372036854775808 + r) = 2 ∨ clsN (9223372036854775808 + r) = 3 := by
  have h3 := h2
  unfold infR at h3
  rcases cls_cases (b := 9223372036854775808 + r) (by omega) with ⟨hh, hn⟩ | ⟨hh, e⟩ | ⟨hh, e⟩ | ⟨hh, e⟩ | ⟨hh, e⟩ | ⟨hh, hc, h0, hi, hs⟩ | ⟨hh, hc, h0, hi, hs⟩
  · exfalso; unfold nanB infR at hn; rw [decide_eq_true_iff] at hn; omega
  · omega
  · omega
  · omega
  · unfold infR at e; omega
  · exact hh
  · omega
theorem text_pos {r : Nat} (h : 0 < r) (h2 : r < infR) : textN r = numT r := by
  have h3 := h2
  unfold infR at h3
  rw [textN_pos (cls_posnum h h2), show r % 9223372036854775808 = r by omega]
theorem text_neg {r : Nat} (h : 0 < r) (h2 : r < infR) : textN (9223372036854775808 + r) = 45 :: numT r := by
  have h3 := h2
  unfold infR at h3
  rw [textN_neg (cls_negnum h h2), show (9223372036854775808 + r) % 9223372036854775808 = r by omega]
theorem fits_bd {n : Nat} {p : Int} (h : Fits n p) : -9007199254740992 < p ∧ p < 9007199254740992 := by
  have := h.lo; have := h.hi; omega
/-- A text of the right form whose parts fit is that of its float. -/
theorem text_form {a k : List UInt8} (ha : cntB a = true) (hk : intB k = true) (hf : Fits (satN a) (intN k)) : numT (ofOdd (satN a) (intN k)) = a ++ 112 :: k := by
  obtain ⟨s1, s2, s3, s4⟩ := ofOdd_spec hf
  obtain ⟨b1, b2⟩ := fits_bd hf
  have hl := hf.lt
  have hv : satN a = valN a := by unfold satN at hl ⊢; omega
  unfold numT digT powT
  rw [s3, s4, itoa_intN hk b1 b2, hv, (val_dec ha).1]
/-- WHAT IS READ IS PRINTED JUST SO. -/
theorem text_parse (l : List UInt8) : ((parseN l).2 = 0 ∧ textN (parseN l).1 = l ∧ (parseN l).1 < 18446744073709551616) ∨ ((parseN l).2 = 1 ∧ (parseN l).1 = 0) ∨ ((parseN l).2 = 4 ∧ (parseN l).1 = 0) := by
  cases n1 : (l == [110, 97, 110])
  case true =>
    have e : l = [110, 97, 110] := by simpa using n1
    subst e; left; exact ⟨rfl, textN_0 (by decide), by decide⟩
  cases n2 : (l == [105, 110, 102])
  case true =>
    have e : l = [105, 110, 102] := by simpa using n2
    subst e; left; exact ⟨rfl, textN_8 (by decide), by decide⟩
  cases n3 : (l == [45, 105, 110, 102])
  case true =>
    have e : l = [45, 105, 110, 102] := by simpa using n3
    subst e; left; exact ⟨rfl, textN_1 (by decide), by decide⟩
  cases n4 : (l == [48])
  case true =>
    have e : l = [48] := by simpa using n4
    subst e; left; exact ⟨rfl, textN_5 (by decide), by decide⟩
  cases n5 : (l == [45, 48])
  case true =>
    have e : l = [45, 48] := by simpa using n5
    subst e; left; exact ⟨rfl, textN_4 (by decide), by decide⟩
  have hcore : parseN l = coreN l := by unfold parseN; rw [n1, n2, n3, n4, n5]; rfl
  rw [hcore]
  clear hcore n1 n2 n3 n4 n5
  obtain ⟨t, ht⟩ : ∃ t, Lib.trimPrefix l [45] = t := ⟨_, rfl⟩
  rcases cut_split t with ⟨hc, _⟩ | ⟨a, k, e, hna, hc⟩
  · right; right
    have hform : formB l = false := by unfold formB; rw [ht, hc]; rfl
    unfold coreN; rw [hform]; exact ⟨rfl, rfl⟩
  · have hform : formB l = (cntB a && intB k) := by unfold formB; rw [ht, hc]; rfl
    have hnum : numOf l = satN a := by unfold numOf; rw [ht, hc]
    have hpow : powOf l = intN k := by unfold powOf; rw [ht, hc]
    unfold coreN
    rw [hform, hnum, hpow]
    cases ha : cntB a
    · right; right; exact ⟨rfl, rfl⟩
    cases hk : intB k
    · right; right; exact ⟨rfl, rfl⟩
    cases hf : fitsB (satN a) (intN k)
    · right; left; exact ⟨rfl, rfl⟩
    left
    have hF := (fits_iff _ _).1 hf
    obtain ⟨s1, s2, s3, s4⟩ := ofOdd_spec hF
    have hT := text_form ha hk hF
    have s2' := s2
    unfold infR at s2'
    by_cases hm : ∃ u, l = 45 :: u
    · obtain ⟨u, rfl⟩ := hm
      rw [(pre_true u).2] at ht
      rw [(pre_true u).1]
      refine ⟨rfl, ?_, ?_⟩
      · show textN (9223372036854775808 + ofOdd (satN a) (intN k)) = _
        rw [text_neg s1 s2, hT, ← e, ht]
      · show 9223372036854775808 + ofOdd (satN a) (intN k) < _
        omega
    · obtain ⟨p1, p2⟩ := pre_false (l := l) (fun u e' => hm ⟨u, e'⟩)
      rw [p2] at ht
      rw [p1]
      refine ⟨rfl, ?_, ?_⟩
      · show textN (ofOdd (satN a) (intN k)) = _
        rw [text_pos s1 s2, hT, ← e, ht]
      · show ofOdd (satN a) (intN k) < _
        omega
end Go.Proofs.YtbgccaconhmbaaaGreatDoor
