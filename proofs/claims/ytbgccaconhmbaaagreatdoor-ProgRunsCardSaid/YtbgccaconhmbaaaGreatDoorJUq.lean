/- datum.Unquote. Conditions: fewer than 2^47 bytes. -/
import Derived.Test.YtbgccaconhmbaaaGreatDoorJVc
import Derived.Test.YtbgccaconhmbaaaGreatDoorJRo
namespace Go.Proofs.YtbgccaconhmbaaaGreatDoor
open Go.RowKit
/-- The bytes that a text between quotes stands for. -/
def unqL : Nat → List UInt8 → Option (List UInt8)
  | 0, l => if l = [] then some [] else none
  | n + 1, l => if l = [] then some [] else if (firstV l).2 = 0 then none else (unqL n (l.drop (firstV l).2)).map ((firstV l).1 :: ·)
def bodyV (l : List UInt8) : List UInt8 := Lib.trimSuffix (Lib.trimPrefix l [34]) [34]
def closedV (l : List UInt8) : Bool := Lib.hasSuffix (Lib.trimPrefix l [34]) [34]
def unqV (l : List UInt8) : Option (List UInt8) := if Lib.hasPrefix l [34] && closedV l then unqL (bodyV l).length (bodyV l) else none
def unqS (o : Option (List UInt8)) : List UInt8 := match o with | some t => t | none => []
def unqE (o : Option (List UInt8)) : Int := match o with | some _ => 0 | none => 4
theorem unqL_nil (n : Nat) : unqL n [] = some [] := by cases n <;> simp [unqL]
theorem unqL_none {n : Nat} {l : List UInt8} (hl : l ≠ []) (h : (firstV l).2 = 0) : unqL n l = none := by
  cases n with
  | zero => simp [unqL, hl]
  | succ n => simp [unqL, hl, h]
theorem firstV_le {l : List UInt8} (hl : l ≠ []) : (firstV l).2 ≤ l.length := by
  have : 0 < l.length := List.length_pos_iff.2 hl
  unfold firstV
  split
  · simp; omega
  · split
    · simp
    · split
      · simp
      · split
        · simp
        · rename_i h _ _
          simp only
          omega
theorem unqL_step {n : Nat} {l : List UInt8} (hl : l ≠ []) (h : (firstV l).2 ≠ 0) : unqL (n + 1) l = (unqL n (l.drop (firstV l).2)).map ((firstV l).1 :: ·) := by
  simp [unqL, hl, h]
theorem unqL_fuel : ∀ (n : Nat) (l : List UInt8), l.length ≤ n → ∀ m, l.length ≤ m → unqL n l = unqL m l := by
  intro n
  induction n with
  | zero =>
    intro l h m _
    obtain rfl : l = [] := List.eq_nil_of_length_eq_zero (by omega)
    rw [unqL_nil, unqL_nil]
  | succ n ih =>
    intro l h m hm
    by_cases hl : l = []
    · subst hl; rw [unqL_nil, unqL_nil]
    · by_cases hk : (firstV l).2 = 0
      · rw [unqL_none hl hk, unqL_none hl hk]
      · have hpos : 0 < l.length := List.length_pos_iff.2 hl
        cases m with
        | zero => omega
        | succ m =>
          rw [unqL_step hl hk, unqL_step hl hk, ih (l.drop (firstV l).2) (by rw [List.length_drop]; omega) m (by rw [List.length_drop]; omega)]
theorem unqL_more {l : List UInt8} (hl : l ≠ []) (h : (firstV l).2 ≠ 0) : unqL l.length l = (unqL (l.drop (firstV l).2).length (l.drop (firstV l).2)).map ((firstV l).1 :: ·) := by
  have hpos : 0 < l.length := List.length_pos_iff.2 hl
  obtain ⟨n, hn⟩ : ∃ n, l.length = n + 1 := ⟨l.length - 1, by omega⟩
  rw [hn, unqL_step hl h, unqL_fuel n (l.drop (firstV l).2) (by rw [List.length_drop]; omega) (l.drop (firstV l).2).length (Nat.le_refl _)]
theorem extract_drop (t : List UInt8) (k : Nat) : (⟨t.toArray⟩ : ByteArray).extract k t.length = ⟨(t.drop k).toArray⟩ := by
  apply ByteArray.ext
  simp only [ByteArray.data_extract, List.extract_toArray]
  congr 1
  rw [List.extract_eq_take_drop, List.take_of_length_le (by rw [List.length_drop]; omega)]
theorem trimP_le (l : List UInt8) : (Lib.trimPrefix l [34]).length ≤ l.length := by
  unfold Lib.trimPrefix
  split
  · rw [List.length_drop]; omega
  · exact Nat.le_refl _
theorem trimS_le (l : List UInt8) : (Lib.trimSuffix l [34]).length ≤ l.length := by
  unfold Lib.trimSuffix
  split
  · rw [List.length_take]; omega
  · exact Nat.le_refl _
def strSz (v : Value) : Nat := match v with | .string s => s.size | _ => 0
set_option maxRecDepth 100000 in
theorem unquote_any (s : ByteArray) (hs : s.size ≤ 140737488355328) (w : World) :
    Calls Tryz.prog 128 #[.string s] w fun e w' => e = .returned (.tuple #[.string ⟨(unqS (unqV s.data.toList)).toArray⟩, .int .i64 (unqE (unqV s.data.toList))]) ∧ Below w.heap.size w w' := by
  obtain ⟨i0, hi, hz0, hz1, hz2⟩ := info_parts info5
  have h1 := fun w => Lib.hid (Tryz.strings_CutPrefix s ⟨#[34]⟩ w)
  have hsl : s.data.toList.length ≤ 140737488355328 := by rw [← Lib.size_eq]; exact hs
  have hsz : (⟨(Lib.trimPrefix s.data.toList [34]).toArray⟩ : ByteArray).size ≤ 140737488355328 := by rw [Lib.size_eq]; exact Nat.le_trans (trimP_le _) hsl
  have hbl : (bodyV s.data.toList).length ≤ 140737488355328 := Nat.le_trans (trimS_le _) (Nat.le_trans (trimP_le _) hsl)
  have h2 := fun w => Lib.hid (Tryz.strings_CutSuffix ⟨(Lib.trimPrefix s.data.toList [34]).toArray⟩ ⟨#[34]⟩ w (by omega))
  rw [show (⟨#[34]⟩ : ByteArray).data.toList = [34] from rfl] at h1 h2
  rw [show (⟨(Lib.trimPrefix s.data.toList [34]).toArray⟩ : ByteArray).data.toList = Lib.trimPrefix s.data.toList [34] from rfl] at h2
  unfold unqV closedV
  cases hp : Lib.hasPrefix s.data.toList [34]
  · rw [Bool.false_and]
    rw [hp] at h1
    clear hbl hsz hsl
    go_enter Tryz.func128, Tryz.ntmps128
    go_wp2_with (first
      | (go_at_call 124; refine (h1 _).out.mono ?_; rintro e w1 ⟨rfl, hww⟩; obtain rfl := hww.symm)
      | (go_at_call 165; refine (h2 _).out.mono ?_; rintro e w1 ⟨rfl, hww⟩; obtain rfl := hww.symm))
    go_returns
    exact ⟨rfl, Below.refl _ _⟩
  cases hq : Lib.hasSuffix (Lib.trimPrefix s.data.toList [34]) [34]
  · rw [Bool.true_and]
    rw [hp] at h1
    rw [hq] at h2
    clear hbl hsz hsl
    go_enter Tryz.func128, Tryz.ntmps128
    go_wp2_with (first
      | (go_at_call 124; refine (h1 _).out.mono ?_; rintro e w1 ⟨rfl, hww⟩; obtain rfl := hww.symm)
      | (go_at_call 165; refine (h2 _).out.mono ?_; rintro e w1 ⟨rfl, hww⟩; obtain rfl := hww.symm))
    go_returns
    exact ⟨rfl, Below.refl _ _⟩
  rw [hp] at h1
  rw [hq] at h2
  rw [Bool.true_and, if_pos rfl]
  have h2' : ∀ w, Hid (Calls Tryz.prog 165 #[.string ⟨(Lib.trimPrefix s.data.toList [34]).toArray⟩, .string ⟨#[34]⟩] w fun e w' => e = .returned (.tuple #[.string ⟨(bodyV s.data.toList).toArray⟩, .bool true]) ∧ w' = w) := h2
  clear h2 hp hq hsz hs hsl
  generalize bodyV s.data.toList = b at *
  have HBL := Lib.hid hbl
  clear hbl
  go_enter Tryz.func128, Tryz.ntmps128
  go_wp2_with (first
    | (go_at_call 124; refine (h1 _).out.mono ?_; rintro e w1 ⟨rfl, hww⟩; obtain rfl := hww.symm)
    | (go_at_call 165; refine (h2' _).out.mono ?_; rintro e w1 ⟨rfl, hww⟩; obtain rfl := hww.symm))
  go_loopw [4, 7, 8, 9] (fun r v _ _ wr => ∃ (t A : List UInt8), r = .string ⟨t.toArray⟩ ∧ Hid (wr.ownsRow w.heap.size 5 1 v A.length (bys A)) ∧ Hid (unqL b.length b = (unqL t.length t).map (A ++ ·) ∧ A.length + t.length ≤ b.length) ∧ Hid (Below w.heap.size w wr)) (fun r _ _ _ _ => strSz r)
  case atStart => exact ⟨b, [], rfl, World.ownsRow_nil _ _ _ _, ⟨by simp, by simp⟩, Below.refl _ _⟩
  case round =>
    obtain ⟨t, A, rfl, HO, HU, HB⟩ := hrel
    by_cases ht : t = []
    · subst ht
      have hcv := conv_own HO.out
      have HU2 : Hid (unqL b.length b = some A) := by
        have := HU.out.1
        rw [unqL_nil, Option.map_some, List.append_nil] at this
        exact this
      clear HU
      go_wp2
      go_returns
      rw [HU2.out]
      exact ⟨rfl, HB.out⟩
    · have hpos : 0 < (⟨t.toArray⟩ : ByteArray).size := List.length_pos_iff.2 ht
      have HF := fun w => Lib.hid (first_any ⟨t.toArray⟩ hpos w)
      have hle := firstV_le ht
      have hemp : t.isEmpty = false := by simp [ht]
      obtain ⟨F, hF⟩ : ∃ F, F = firstV t := ⟨_, rfl⟩
      rw [show (⟨t.toArray⟩ : ByteArray).data.toList = t from rfl, ← hF] at HF
      rw [← hF] at hle
      have HFE := Lib.hid hF
      obtain ⟨c, k⟩ := F
      simp only at hle HF
      clear hF
      by_cases hk : k = 0
      · subst hk
        have HU2 : Hid (unqL b.length b = none) := by
          have := HU.out.1
          rw [unqL_none ht (by rw [← HFE.out])] at this
          exact this
        clear HU ht
        go_wp2_with (first
          | (go_at_call 166; refine (HF _).out.mono ?_; rintro e w1 ⟨rfl, m, hww⟩; have HB1 := Lib.hid (show Below w.heap.size w w1 by rw [hww]; exact drewB HB.out m (Nat.le_refl _)); clear hww))
        go_returns
        rw [HU2.out]
        exact ⟨rfl, HB1.out⟩
      · have HK := Lib.hid (extract_drop t k)
        have HU2 : Hid (unqL b.length b = (unqL (t.drop k).length (t.drop k)).map ((A ++ [c]) ++ ·) ∧ (A ++ [c]).length + (t.drop k).length ≤ b.length) := by
          have e1 : (firstV t).2 = k := by rw [← HFE.out]
          have e2 : (firstV t).1 = c := by rw [← HFE.out]
          refine ⟨?_, ?_⟩
          · rw [HU.out.1, unqL_more ht (by rw [e1]; exact hk), e1, e2, Option.map_map]
            congr 1
            funext x
            simp
          · have := HU.out.2
            rw [List.length_append, List.length_drop]
            simp only [List.length_cons, List.length_nil]
            omega
        have kb : ((k : Int) == 0) = false := by rw [beq_eq_false_iff_ne]; omega
        have hle' : (k : Int) ≤ (t.length : Int) := by omega
        have hAl : A.length + 1 ≤ 140737488355328 := by
          have := HBL.out
          have := HU.out.2
          have : 0 < t.length := List.length_pos_iff.2 ht
          omega
        have hsize : w.heap.size ≤ wr.heap.size := HB.out.size
        clear HU ht
        go_wp2_with (first
          | (go_at_call 166; refine (HF _).out.mono ?_; rintro e w1 ⟨rfl, m, hww⟩; have HB1 := Lib.hid (show Below w.heap.size w w1 by rw [hww]; exact drewB HB.out m (Nat.le_refl _)); have HO1 := Lib.hid (own_below HO.out (show Below wr.heap.size wr w1 by rw [hww]; exact drewB' wr m)); have HBA := fun o => Lib.hid (HB1.out.alloc HB1.out.size o); clear hww)
          | (at_builtin; refine wpList_append_own _ rfl (.tmp 35) (.tmp 37) 129 rfl w.heap.size 5 i0 (.int .u8 0) 1 1 under50 hi hz0 hz1 hz2 rfl (by decide) _ _ _ rfl (HO1.out.alloc _) ⟨w1.heap.size, 0, none⟩ 1 1 (bys [c]) rfl rfl (cell_one_new _ _ _) (bys_one _) (by unfold maxLen; omega) (by omega) (by have := HB1.out.size; simp; omega) ?_; intro v2 w2 hown' hgrow _; have HO2 := Lib.hid hown'; have HG2 := Lib.hid hgrow; clear hown' hgrow))
        refine ⟨⟨t.drop k, A ++ [c], by rw [HK.out], ?_, HU2, ?_⟩, ?_⟩
        · have := HO2.out
          rw [← bys_append] at this
          have e : (A ++ [c]).length = A.length + 1 := by simp
          rw [e]
          exact this
        · exact (HB1.out.alloc HB1.out.size _).grown HG2.out (HB1.out.alloc HB1.out.size _).size (fun i e => (HO1.out.lt i e).1)
        · rw [HK.out]
          show (t.drop k).length < t.length
          rw [List.length_drop]
          omega
end Go.Proofs.YtbgccaconhmbaaaGreatDoor
