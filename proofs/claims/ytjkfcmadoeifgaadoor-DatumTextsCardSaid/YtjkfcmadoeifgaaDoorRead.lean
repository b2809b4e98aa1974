/- raceref1.digits, raceref1.number. Conditions: texts of at most a million bytes; number: at most 17 digits alone. -/
import Derived.Test.YtjkfcmadoeifgaaDoorSaid
namespace Go.Proofs.YtjkfcmadoeifgaaDoor
open Go.RowKit Go.Lib

/-- How many digits stand at the beginning. -/
def leadN (l : List UInt8) : Nat := (l.takeWhile digB).length
def okD (l : List UInt8) : Bool := decide (0 < leadN l) && (l.headD 0 != 48 || leadN l == 1)
theorem lead_le (l : List UInt8) : leadN l ≤ l.length := by
  unfold leadN
  induction l with
  | nil => simp
  | cons c t ih => rw [List.takeWhile_cons]; split <;> simp; exact ih
theorem lead_eq (l : List UInt8) : ∀ k, k ≤ l.length → (l.take k).all digB = true → (k = l.length ∨ digB (l.getD k 0) = false) → leadN l = k := by
  unfold leadN
  induction l with
  | nil => intro k hk _ _; simp at hk; simp [hk]
  | cons c t ih =>
    intro k hk ha hs
    cases k with
    | zero =>
      rcases hs with h | h
      · simp at h
      · have : digB c = false := by simpa using h
        simp [this]
    | succ k =>
      rw [List.take_succ_cons, List.all_cons, Bool.and_eq_true] at ha
      rw [List.takeWhile_cons, if_pos ha.1, List.length_cons]
      rw [ih k (by simpa using hk) ha.2 (by
        rcases hs with h | h
        · left; simpa using h
        · right; simpa using h)]
theorem idx_get (s : ByteArray) (k : Nat) (h : k < s.size) : s[k] = s.data.toList.getD k 0 := by
  have hl : k < s.data.toList.length := by rw [← Lib.size_eq]; exact h
  rw [List.getD, List.getElem?_eq_getElem hl]; rfl
theorem okD_0 {l : List UInt8} (h : leadN l = 0) : okD l = false := by simp [okD, h]
theorem okD_48 {l : List UInt8} {k : Nat} (h : leadN l = k) (h0 : 0 < k) (hz : l.getD 0 0 = 48) : okD l = ((k : Int) == 1) := by
  have e : l.headD 0 = 48 := by
    cases l with
    | nil => simp at hz
    | cons c t => simpa using hz
  have e2 : ((k : Int) == 1) = (k == 1) := by
    by_cases hk : k = 1
    · subst hk; rfl
    · have a1 : (k == 1) = false := by simpa using hk
      have a2 : ((k : Int) == 1) = false := by simp; omega
      rw [a1, a2]
  unfold okD
  rw [e, h, e2]; simp [h0]
theorem okD_ne {l : List UInt8} {k : Nat} (h : leadN l = k) (h0 : 0 < k) (hz : l.getD 0 0 ≠ 48) : okD l = true := by
  have e : (l.headD 0 != 48) = true := by
    cases l with
    | nil => rfl
    | cons c t => simpa using hz
  unfold okD
  rw [e, h]; simp [h0]
theorem ret_ib {k : IntKind} {a b : Int} {c d : Bool} (h1 : a = b) (h2 : c = d) : Ending.returned (.tuple #[.int k a, .bool c]) = .returned (.tuple #[.int k b, .bool d]) := by rw [h1, h2]
set_option maxRecDepth 100000 in
set_option maxHeartbeats 1600000 in
theorem digits_any (s : ByteArray) (hs : s.size ≤ 1000000) (w : World) :
    Calls Tryd.prog 62 #[.string s] w fun e w' => e = .returned (.tuple #[.int .i64 (leadN s.data.toList : Nat), .bool (okD s.data.toList)]) ∧ w = w' := by
  obtain ⟨bs, hL⟩ : ∃ bs, bs = s.data.toList := ⟨_, rfl⟩
  have hLn : bs.length = s.size := by rw [hL, Lib.size_eq]
  have HG : Hid (∀ k (h : k < s.size), s[k] = bs.getD k 0) := fun k h => by rw [hL]; exact idx_get s k h
  rw [← hL]
  clear hL
  have HLN := Lib.hid hLn; clear hLn
  go_enter Tryd.func62, Tryd.ntmps62
  go_wp2
  go_loop [4] (fun vi => ∃ k : Nat, vi = .int .i64 (k : Int) ∧ k ≤ s.size ∧ Hid ((bs.take k).all digB = true)) (fun vi => s.size - (RowKit.intOf vi).toNat)
  case atStart => exact ⟨0, rfl, Nat.zero_le _, rfl⟩
  case round =>
    obtain ⟨k, rfl, hk, hh⟩ := hrel
    by_cases hlt : k < s.size
    · have hkl : k < bs.length := by rw [HLN.out]; exact hlt
      by_cases hd : 48 ≤ s[k].toNat ∧ s[k].toNat ≤ 57
      · have HT : Hid ((bs.take (k + 1)).all digB = true) := by
          unfold Hid
          rw [all_step bs k hkl, hh.out, ← HG.out k hlt]
          simpa [digB] using hd
        have d1 : (48 : Int) ≤ (s[k].toNat : Int) := by omega
        have d2 : (s[k].toNat : Int) ≤ 57 := by omega
        clear hd hkl hh
        go_wp2
        go_round
        case rel => exact ⟨k + 1, by go_num, by omega, HT⟩
        case measure => simp [RowKit.intOf]; omega
      · have HE : Hid (leadN bs = k) := lead_eq bs k (by omega) hh.out (.inr (by
          have : digB s[k] = false := by simpa [digB] using hd
          rw [← HG.out k hlt]; exact this))
        have d1 : (s[k].toNat : Int) < 48 ∨ 57 < (s[k].toNat : Int) := by omega
        have hp : 0 < s.size := by omega
        have Z := Lib.hid (HG.out 0 hp)
        clear hd hkl hh
        rcases d1 with d1 | d1
        all_goals
          by_cases h0 : 0 < k
          · by_cases hz : (s[0].toNat : Int) = 48
            · have HO := Lib.hid (okD_48 HE.out h0 (by rw [← Z.out]; exact UInt8.toNat_inj.1 (by have e48 : (48 : UInt8).toNat = 48 := rfl; omega)))
              go_wp2
              all_goals go_ret2
              all_goals exact ⟨ret_ib (by rw [HE.out]) (by rw [HO.out]), rfl⟩
            · have HO := Lib.hid (okD_ne HE.out h0 (by rw [← Z.out]; intro e; apply hz; rw [e]; rfl))
              go_wp2
              all_goals go_ret2
              all_goals exact ⟨ret_ib (by rw [HE.out]) (by rw [HO.out]), rfl⟩
          · have HO := Lib.hid (okD_0 (l := bs) (by rw [HE.out]; omega))
            go_wp2
            all_goals go_ret2
            all_goals exact ⟨ret_ib (by rw [HE.out]) (by rw [HO.out]), rfl⟩
    · obtain rfl : k = s.size := by omega
      have HE : Hid (leadN bs = s.size) := lead_eq bs s.size (by rw [HLN.out]; exact Nat.le_refl _) hh.out (.inl HLN.out.symm)
      clear hh hlt
      by_cases h0 : 0 < s.size
      · have Z := Lib.hid (HG.out 0 h0)
        by_cases hz : (s[0].toNat : Int) = 48
        · have HO := Lib.hid (okD_48 HE.out h0 (by rw [← Z.out]; exact UInt8.toNat_inj.1 (by have e48 : (48 : UInt8).toNat = 48 := rfl; omega)))
          go_wp2
          all_goals go_ret2
          all_goals exact ⟨ret_ib (by rw [HE.out]) (by rw [HO.out]), rfl⟩
        · have HO := Lib.hid (okD_ne HE.out h0 (by rw [← Z.out]; intro e; apply hz; rw [e]; rfl))
          go_wp2
          all_goals go_ret2
          all_goals exact ⟨ret_ib (by rw [HE.out]) (by rw [HO.out]), rfl⟩
      · have HO := Lib.hid (okD_0 (l := bs) (by rw [HE.out]; omega))
        go_wp2
        all_goals go_ret2
        all_goals exact ⟨ret_ib (by rw [HE.out]) (by rw [HO.out]), rfl⟩
theorem val_lt_pow (l : List UInt8) (h : l.all digB = true) : valN l < 10 ^ l.length := by
  have key : ∀ (k : Nat) (l : List UInt8), l.length = k → l.all digB = true → valN l < 10 ^ k := by
    intro k
    induction k with
    | zero => intro l hl _; rw [List.length_eq_zero_iff.1 hl]; decide
    | succ k ih =>
      intro l hl ha
      rcases List.eq_nil_or_concat l with h | ⟨m, c, h⟩
      · rw [h] at hl; simp at hl
      · rw [List.concat_eq_append] at h
        subst h
        rw [List.all_append, Bool.and_eq_true] at ha
        have hc : 48 ≤ c.toNat ∧ c.toNat ≤ 57 := by have := ha.2; simpa [digB] using this
        rw [valN_snoc, Nat.pow_succ]
        have := ih m (by simpa using hl) ha.1
        omega
  exact key _ l rfl h
theorem take_all {l : List UInt8} (h : l.all digB = true) (k : Nat) : (l.take k).all digB = true := by
  rw [List.all_eq_true] at h ⊢
  exact fun x hx => h x (List.mem_of_mem_take hx)
set_option maxRecDepth 100000 in
set_option maxHeartbeats 800000 in
theorem digs_any (s : ByteArray) (hs : s.size ≤ 17) (hd : s.data.toList.all digB = true) (w : World) :
    Calls Tryd.prog 63 #[.string s] w fun e w' => e = .returned (.int .i64 (valN s.data.toList : Nat)) ∧ w = w' := by
  obtain ⟨bs, hL⟩ : ∃ bs, bs = s.data.toList := ⟨_, rfl⟩
  have hLn : bs.length = s.size := by rw [hL, Lib.size_eq]
  have HG : Hid (∀ k (h : k < s.size), s[k] = bs.getD k 0) := fun k h => by rw [hL]; exact idx_get s k h
  rw [← hL] at hd ⊢
  clear hL
  have HLN := Lib.hid hLn; clear hLn
  have HD := Lib.hid hd; clear hd
  go_enter Tryd.func63, Tryd.ntmps63
  go_wp2
  go_loop [3, 4] (fun vn vi => ∃ (k : Nat) (a : Int), vn = .int .i64 a ∧ vi = .int .i64 (k : Int) ∧ k ≤ s.size ∧ Hid (a = (valN (bs.take k) : Nat))) (fun _ vi => s.size - (RowKit.intOf vi).toNat)
  case atStart => exact ⟨0, 0, rfl, rfl, Nat.zero_le _, rfl⟩
  case round =>
    obtain ⟨k, a, rfl, rfl, hk, hh⟩ := hrel
    have a0 : 0 ≤ a := by have := hh.out; omega
    have a1 : a ≤ 100000000000000000 := by
      have h1 := hh.out
      have h2 := val_lt_pow (bs.take k) (take_all HD.out k)
      have h3 : (bs.take k).length ≤ 17 := Nat.le_trans (List.length_take_le _ _) (by omega)
      have h4 : 10 ^ (bs.take k).length ≤ 10 ^ 17 := Nat.pow_le_pow_right (by decide) h3
      omega
    by_cases hlt : k < s.size
    · have hkl : k < bs.length := by rw [HLN.out]; exact hlt
      have HS := Lib.hid (valN_step bs k hkl)
      have hdk : digB (bs.getD k 0) = true := by
        have := HD.out
        rw [List.all_eq_true] at this
        exact this _ (by simp [List.getD, hkl])
      obtain ⟨d1, d2⟩ : 48 ≤ (bs.getD k 0).toNat ∧ (bs.getD k 0).toNat ≤ 57 := by simpa [digB] using hdk
      have hg := HG.out k hlt
      rw [← hg] at d1 d2
      have HV := Lib.hid (show 10 * a + ((s[k].toNat : Int) - 48) = (valN (bs.take (k + 1)) : Nat) by rw [HS.out, hh.out, ← hg]; omega)
      have e1 : (48 : Int) ≤ (s[k].toNat : Int) := by omega
      have e2 : (s[k].toNat : Int) ≤ 57 := by omega
      clear hkl hdk hg d1 d2 hh HS
      go_wp2
      go_round
      case rel => exact ⟨k + 1, _, rfl, by go_num, by omega, HV⟩
      case measure => simp [RowKit.intOf]; omega
    · obtain rfl : k = s.size := by omega
      have HE : Hid (a = (valN bs : Nat)) := by unfold Hid; have := hh.out; rwa [List.take_of_length_le (by rw [HLN.out]; exact Nat.le_refl _)] at this
      clear hh hlt
      go_wp2
      go_ret
      exact ⟨ret_i HE.out, rfl⟩
end Go.Proofs.YtjkfcmadoeifgaaDoor
