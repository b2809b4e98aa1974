/- Contracts at the texts of floats. Conditions: bits below 2^64. raceref1.digits, raceref1.number. Conditions: texts of at most a million bytes; number: at most 17 digits alone. raceref1.Parse's ways. Conditions: texts of at most a million bytes. Plain facts on the texts that raceref1.Parse reads. Conditions: none. raceref1.Parse at any text of at most 20000 bytes: what num.Parse answers. Conditions: at most 20000 bytes. -/
import Derived.Test.YtbgccaconhmbaaaGreatDoorJD
import Derived.Test.YtbgccaconhmbaaaGreatDoorJS
import Derived.ShutString
namespace Go.Proofs.YtbgccaconhmbaaaGreatDoor
open Go.RowKit
theorem textN_len {b : Nat} (hb : b < 18446744073709551616) : (textN b).length ≤ 50 := by
  have num : ∀ r, 0 < r → r < infR → (numT r).length ≤ 42 := fun r h h2 => by
    have h3 := digT_len h
    have h4 := powT_len h h2
    unfold numT; rw [List.length_append, List.length_cons]; omega
  rcases cls_cases hb with ⟨h, _⟩ | ⟨h, _⟩ | ⟨h, _⟩ | ⟨h, _⟩ | ⟨h, _⟩ | ⟨h, hc, h0, hi, hs⟩ | ⟨h, hc, h0, hi, hs⟩
  · rw [textN_0 h]; decide
  · rw [textN_1 h]; decide
  · rw [textN_4 h]; decide
  · rw [textN_5 h]; decide
  · rw [textN_8 h]; decide
  · rw [textN_neg h, List.length_cons]; have := num _ h0 hi; omega
  · rw [textN_pos h]; have := num _ h0 hi; omega
/-- The text of a float, read. -/
theorem parse_back (b : Nat) (hb : b < 18446744073709551616) (w : World) :
    Calls Tryz.prog 168 #[.string ⟨(textN b).toArray⟩] w fun e w' => e = .returned (.tuple #[.float .f64 (canon b), .int .i64 0]) ∧ Below w.heap.size w w' := by
  have := parse_any ⟨(textN b).toArray⟩ (by rw [mk_size]; have := textN_len hb; omega) w
  rw [mk_list, parse_text hb] at this
  exact this
theorem parse_is (s : ByteArray) (z : Nat) (f : Int) (h : parseN s.data.toList = (z, f)) (hs : s.size ≤ 1000000) (w : World) :
    Calls Tryz.prog 168 #[.string s] w fun e w' => e = .returned (.tuple #[.float .f64 z, .int .i64 f]) ∧ Below w.heap.size w w' := by
  have := parse_any s hs w
  rw [h] at this
  exact this
theorem print_is (z : Nat) (s : ByteArray) (h : textN z = s.data.toList) (hz : z < 18446744073709551616) (w : World) (hT : Tabs w) :
    Calls Tryz.prog 137 #[.float .f64 z] w fun e w' => e = .returned (.string s) ∧ Below w.heap.size w w' := by
  have := print_any z hz w hT
  rw [h] at this
  exact this
end Go.Proofs.YtbgccaconhmbaaaGreatDoor
namespace Go.Proofs.YtbgccaconhmbaaaGreatDoor
open Go.RowKit Go.Lib

/-- How many digits stand at the beginning. -/
def leadN (l : List UInt8) : Nat := (l.takeWhile digB).length
def okD (l : List UInt8) : Bool := decide (0 < leadN l) && (l.headD 0 != 48 || leadN l == 1)
theorem lead_le (l : List UInt8) : leadN l ≤ l.length := by
  unfold leadN
  induction l with
  | nil => simp
  | cons c t ih => rw [List.takeWhile_cons]; split <;> simp; exact ih
theorem lead_eq (l : List UInt8) : ∀ k, k ≤ l.length → (l.take k).all digB = true → (k = l.length ∨ digB (l.getD k 0) = false) → leadN l = k := by
  unfold leadN
  induction l with
  | nil => intro k hk _ _; simp at hk; simp [hk]
  | cons c t ih =>
    intro k hk ha hs
    cases k with
    | zero =>
      rcases hs with h | h
      · simp at h
      · have : digB c = false := by simpa using h
        simp [this]
    | succ k =>
      rw [List.take_succ_cons, List.all_cons, Bool.and_eq_true] at ha
      rw [List.takeWhile_cons, if_pos ha.1, List.length_cons]
      rw [ih k (by simpa using hk) ha.2 (by
        rcases hs with h | h
        · left; simpa using h
        · right; simpa using h)]
theorem idx_get (s : ByteArray) (k : Nat) (h : k < s.size) : s[k] = s.data.toList.getD k 0 := by
  have hl : k < s.data.toList.length := by rw [← Lib.size_eq]; exact h
  rw [List.getD, List.getElem?_eq_getElem hl]; rfl
theorem okD_0 {l : List UInt8} (h : leadN l = 0) : okD l = false := by simp [okD, h]
theorem okD_48 {l : List UInt8} {k : Nat} (h : leadN l = k) (h0 : 0 < k) (hz : l.getD 0 0 = 48) : okD l = ((k : Int) == 1) := by
  have e : l.headD 0 = 48 := by
    cases l with
    | nil => simp at hz
    | cons c t => simpa using hz
  have e2 : ((k : Int) == 1) = (k == 1) := by
    by_cases hk : k = 1
    · subst hk; rfl
    · have a1 : (k == 1) = false := by simpa using hk
      have a2 : ((k : Int) == 1) = false := by simp; omega
      rw [a1, a2]
  unfold okD
  rw [e, h, e2]; simp [h0]
theorem okD_ne {l : List UInt8} {k : Nat} (h : leadN l = k) (h0 : 0 < k) (hz : l.getD 0 0 ≠ 48) : okD l = true := by
  have e : (l.headD 0 != 48) = true := by
    cases l with
    | nil => rfl
    | cons c t => simpa using hz
  unfold okD
  rw [e, h]; simp [h0]
theorem ret_ib {k : IntKind} {a b : Int} {c d : Bool} (h1 : a = b) (h2 : c = d) : Ending.returned (.tuple #[.int k a, .bool c]) = .returned (.tuple #[.int k b, .bool d]) := by rw [h1, h2]
set_option maxRecDepth 100000 in
set_option maxHeartbeats 1600000 in
theorem digits_any (s : ByteArray) (hs : s.size ≤ 1000000) (w : World) :
    Calls Tryz.prog 133 #[.string s] w fun e w' => e = .returned (.tuple #[.int .i64 (leadN s.data.toList : Nat), .bool (okD s.data.toList)]) ∧ w = w' := by
  obtain ⟨bs, hL⟩ : ∃ bs, bs = s.data.toList := ⟨_, rfl⟩
  have hLn : bs.length = s.size := by rw [hL, Lib.size_eq]
  have HG : Hid (∀ k (h : k < s.size), s[k] = bs.getD k 0) := fun k h => by rw [hL]; exact idx_get s k h
  rw [← hL]
  clear hL
  have HLN := Lib.hid hLn; clear hLn
  go_enter Tryz.func133, Tryz.ntmps133
  go_wp2
  go_loop [4] (fun vi => ∃ k : Nat, vi = .int .i64 (k : Int) ∧ k ≤ s.size ∧ Hid ((bs.take k).all digB = true)) (fun vi => s.size - (RowKit.intOf vi).toNat)
  case atStart => exact ⟨0, rfl, Nat.zero_le _, rfl⟩
  case round =>
    obtain ⟨k, rfl, hk, hh⟩ := hrel
    by_cases hlt : k < s.size
    · have hkl : k < bs.length := by rw [HLN.out]; exact hlt
      by_cases hd : 48 ≤ s[k].toNat ∧ s[k].toNat ≤ 57
      · have HT : Hid ((bs.take (k + 1)).all digB = true) := by
          unfold Hid
          rw [all_step bs k hkl, hh.out, ← HG.out k hlt]
          simpa [digB] using hd
        have d1 : (48 : Int) ≤ (s[k].toNat : Int) := by omega
        have d2 : (s[k].toNat : Int) ≤ 57 := by omega
        clear hd hkl hh
        go_wp2
        go_round
        case rel => exact ⟨k + 1, by go_num, by omega, HT⟩
        case measure => simp [RowKit.intOf]; omega
      · have HE : Hid (leadN bs = k) := lead_eq bs k (by omega) hh.out (.inr (by
          have : digB s[k] = false := by simpa [digB] using hd
          rw [← HG.out k hlt]; exact this))
        have d1 : (s[k].toNat : Int) < 48 ∨ 57 < (s[k].toNat : Int) := by omega
        have hp : 0 < s.size := by omega
        have Z := Lib.hid (HG.out 0 hp)
        clear hd hkl hh
        rcases d1 with d1 | d1
        all_goals
          by_cases h0 : 0 < k
          · by_cases hz : (s[0].toNat : Int) = 48
            · have HO := Lib.hid (okD_48 HE.out h0 (by rw [← Z.out]; exact UInt8.toNat_inj.1 (by have e48 : (48 : UInt8).toNat = 48 := rfl; omega)))
              go_wp2
              all_goals go_ret2
              all_goals exact ⟨ret_ib (by rw [HE.out]) (by rw [HO.out]), rfl⟩
            · have HO := Lib.hid (okD_ne HE.out h0 (by rw [← Z.out]; intro e; apply hz; rw [e]; rfl))
              go_wp2
              all_goals go_ret2
              all_goals exact ⟨ret_ib (by rw [HE.out]) (by rw [HO.out]), rfl⟩
          · have HO := Lib.hid (okD_0 (l := bs) (by rw [HE.out]; omega))
            go_wp2
            all_goals go_ret2
            all_goals exact ⟨ret_ib (by rw [HE.out]) (by rw [HO.out]), rfl⟩
    · obtain rfl : k = s.size := by omega
      have HE : Hid (leadN bs = s.size) := lead_eq bs s.size (by rw [HLN.out]; exact Nat.le_refl _) hh.out (.inl HLN.out.symm)
      clear hh hlt
      by_cases h0 : 0 < s.size
      · have Z := Lib.hid (HG.out 0 h0)
        by_cases hz : (s[0].toNat : Int) = 48
        · have HO := Lib.hid (okD_48 HE.out h0 (by rw [← Z.out]; exact UInt8.toNat_inj.1 (by have e48 : (48 : UInt8).toNat = 48 := rfl; omega)))
          go_wp2
          all_goals go_ret2
          all_goals exact ⟨ret_ib (by rw [HE.out]) (by rw [HO.out]), rfl⟩
        · have HO := Lib.hid (okD_ne HE.out h0 (by rw [← Z.out]; intro e; apply hz; rw [e]; rfl))
          go_wp2
          all_goals go_ret2
          all_goals exact ⟨ret_ib (by rw [HE.out]) (by rw [HO.out]), rfl⟩
      · have HO := Lib.hid (okD_0 (l := bs) (by rw [HE.out]; omega))
        go_wp2
        all_goals go_ret2
        all_goals exact ⟨ret_ib (by rw [HE.out]) (by rw [HO.out]), rfl⟩
theorem val_lt_pow (l : List UInt8) (h : l.all digB = true) : valN l < 10 ^ l.length := by
  have key : ∀ (k : Nat) (l : List UInt8), l.length = k → l.all digB = true → valN l < 10 ^ k := by
    intro k
    induction k with
    | zero => intro l hl _; rw [List.length_eq_zero_iff.1 hl]; decide
    | succ k ih =>
      intro l hl ha
      rcases List.eq_nil_or_concat l with h | ⟨m, c, h⟩
      · rw [h] at hl; simp at hl
      · rw [List.concat_eq_append] at h
        subst h
        rw [List.all_append, Bool.and_eq_true] at ha
        have hc : 48 ≤ c.toNat ∧ c.toNat ≤ 57 := by have := ha.2; simpa [digB] using this
        rw [valN_snoc, Nat.pow_succ]
        have := ih m (by simpa using hl) ha.1
        omega
  exact key _ l rfl h
theorem take_all {l : List UInt8} (h : l.all digB = true) (k : Nat) : (l.take k).all digB = true := by
  rw [List.all_eq_true] at h ⊢
  exact fun x hx => h x (List.mem_of_mem_take hx)
set_option maxRecDepth 100000 in
set_option maxHeartbeats 800000 in
theorem digs_any (s : ByteArray) (hs : s.size ≤ 17) (hd : s.data.toList.all digB = true) (w : World) :
    Calls Tryz.prog 134 #[.string s] w fun e w' => e = .returned (.int .i64 (valN s.data.toList : Nat)) ∧ w = w' := by
  obtain ⟨bs, hL⟩ : ∃ bs, bs = s.data.toList := ⟨_, rfl⟩
  have hLn : bs.length = s.size := by rw [hL, Lib.size_eq]
  have HG : Hid (∀ k (h : k < s.size), s[k] = bs.getD k 0) := fun k h => by rw [hL]; exact idx_get s k h
  rw [← hL] at hd ⊢
  clear hL
  have HLN := Lib.hid hLn; clear hLn
  have HD := Lib.hid hd; clear hd
  go_enter Tryz.func134, Tryz.ntmps134
  go_wp2
  go_loop [3, 4] (fun vn vi => ∃ (k : Nat) (a : Int), vn = .int .i64 a ∧ vi = .int .i64 (k : Int) ∧ k ≤ s.size ∧ Hid (a = (valN (bs.take k) : Nat))) (fun _ vi => s.size - (RowKit.intOf vi).toNat)
  case atStart => exact ⟨0, 0, rfl, rfl, Nat.zero_le _, rfl⟩
  case round =>
    obtain ⟨k, a, rfl, rfl, hk, hh⟩ := hrel
    have a0 : 0 ≤ a := by have := hh.out; omega
    have a1 : a ≤ 100000000000000000 := by
      have h1 := hh.out
      have h2 := val_lt_pow (bs.take k) (take_all HD.out k)
      have h3 : (bs.take k).length ≤ 17 := Nat.le_trans (List.length_take_le _ _) (by omega)
      have h4 : 10 ^ (bs.take k).length ≤ 10 ^ 17 := Nat.pow_le_pow_right (by decide) h3
      omega
    by_cases hlt : k < s.size
    · have hkl : k < bs.length := by rw [HLN.out]; exact hlt
      have HS := Lib.hid (valN_step bs k hkl)
      have hdk : digB (bs.getD k 0) = true := by
        have := HD.out
        rw [List.all_eq_true] at this
        exact this _ (by simp [List.getD, hkl])
      obtain ⟨d1, d2⟩ : 48 ≤ (bs.getD k 0).toNat ∧ (bs.getD k 0).toNat ≤ 57 := by simpa [digB] using hdk
      have hg := HG.out k hlt
      rw [← hg] at d1 d2
      have HV := Lib.hid (show 10 * a + ((s[k].toNat : Int) - 48) = (valN (bs.take (k + 1)) : Nat) by rw [HS.out, hh.out, ← hg]; omega)
      have e1 : (48 : Int) ≤ (s[k].toNat : Int) := by omega
      have e2 : (s[k].toNat : Int) ≤ 57 := by omega
      clear hkl hdk hg d1 d2 hh HS
      go_wp2
      go_round
      case rel => exact ⟨k + 1, _, rfl, by go_num, by omega, HV⟩
      case measure => simp [RowKit.intOf]; omega
    · obtain rfl : k = s.size := by omega
      have HE : Hid (a = (valN bs : Nat)) := by unfold Hid; have := hh.out; rwa [List.take_of_length_le (by rw [HLN.out]; exact Nat.le_refl _)] at this
      clear hh hlt
      go_wp2
      go_ret
      exact ⟨ret_i HE.out, rfl⟩
end Go.Proofs.YtbgccaconhmbaaaGreatDoor
namespace Go.Proofs.YtbgccaconhmbaaaGreatDoor
open Go.RowKit Go.Lib
theorem digits_is (s : ByteArray) (n : Nat) (ok : Bool) (h1 : leadN s.data.toList = n) (h2 : okD s.data.toList = ok) (hs : s.size ≤ 1000000) (w : World) :
    Calls Tryz.prog 133 #[.string s] w fun e w' => e = .returned (.tuple #[.int .i64 (n : Nat), .bool ok]) ∧ w = w' := by
  subst h1; subst h2; exact digits_any s hs w
theorem number_is (s : ByteArray) (v : Nat) (h : valN s.data.toList = v) (hs : s.size ≤ 17) (hd : s.data.toList.all digB = true) (w : World) :
    Calls Tryz.prog 134 #[.string s] w fun e w' => e = .returned (.int .i64 (v : Nat)) ∧ w = w' := by
  subst h; exact digs_any s hs hd w
theorem rprint_is (z : Nat) (s : ByteArray) (h : textN z = s.data.toList) (hz : z < 18446744073709551616) (w : World) :
    Calls Tryz.prog 106 #[.float .f64 z] w fun e w' => e = .returned (.string s) ∧ Below w.heap.size w w' := by
  have := rprint_any z hz w
  rw [h] at this
  exact this
set_option maxRecDepth 100000 in
theorem inf_minus (w : World) : Calls Tryz.prog 132 #[.int .i64 (-1)] w fun e w' => e = .returned (.float .f64 18442240474082181120) ∧ w = w' := by
  have hg := run_frombits
  go_enter Tryz.func132, Tryz.ntmps132
  go_wp2
  go_ret
  exact ⟨rfl, rfl⟩
set_option maxRecDepth 100000 in
theorem rparse_nan (w : World) : Calls Tryz.prog 99 #[.string ⟨#[110, 97, 110]⟩] w fun e w' => e = .returned (.tuple #[.float .f64 oneNaN, .int .i64 0]) ∧ w = w' := by
  have H := Lib.hid (fun w => rof_any 9221120237041090560 w)
  have HC : Hid (canon 9221120237041090560 = oneNaN) := by unfold Hid; decide
  go_enter Tryz.func99, Tryz.ntmps99
  go_wp2_with (go_at_call 131; refine (H.out _).mono ?_; rw [HC.out]; rintro e w' ⟨rfl, rfl⟩)
  go_ret2
  exact ⟨rfl, rfl⟩
set_option maxRecDepth 100000 in
theorem rparse_inf (w : World) : Calls Tryz.prog 99 #[.string ⟨#[105, 110, 102]⟩] w fun e w' => e = .returned (.tuple #[.float .f64 infR, .int .i64 0]) ∧ w = w' := by
  go_enter Tryz.func99, Tryz.ntmps99
  go_wp2_with (go_at_call 132; refine (inf_one _).mono ?_; rintro e w' ⟨rfl, rfl⟩)
  go_ret2
  exact ⟨rfl, rfl⟩
set_option maxRecDepth 100000 in
theorem rparse_minf (w : World) : Calls Tryz.prog 99 #[.string ⟨#[45, 105, 110, 102]⟩] w fun e w' => e = .returned (.tuple #[.float .f64 18442240474082181120, .int .i64 0]) ∧ w = w' := by
  go_enter Tryz.func99, Tryz.ntmps99
  go_wp2_with (go_at_call 132; refine (inf_minus _).mono ?_; rintro e w' ⟨rfl, rfl⟩)
  go_ret2
  exact ⟨rfl, rfl⟩
set_option maxRecDepth 100000 in
theorem rparse_zero (w : World) : Calls Tryz.prog 99 #[.string ⟨#[48]⟩] w fun e w' => e = .returned (.tuple #[.float .f64 0, .int .i64 0]) ∧ w = w' := by
  go_enter Tryz.func99, Tryz.ntmps99
  go_wp2_with fail
  go_ret2
  exact ⟨rfl, rfl⟩
set_option maxRecDepth 100000 in
theorem rparse_mzero (w : World) : Calls Tryz.prog 99 #[.string ⟨#[45, 48]⟩] w fun e w' => e = .returned (.tuple #[.float .f64 9223372036854775808, .int .i64 0]) ∧ w = w' := by
  have hg := run_frombits
  go_enter Tryz.func99, Tryz.ntmps99
  go_wp2_with fail
  go_ret2
  exact ⟨rfl, rfl⟩
set_option maxRecDepth 100000 in
theorem rparse_empty (w : World) : Calls Tryz.prog 99 #[.string ⟨#[]⟩] w fun e w' => e = .returned (.tuple #[.float .f64 0, .int .i64 4]) ∧ w = w' := by
  have HL : Hid (leadN (⟨#[]⟩ : ByteArray).data.toList = 0) := by unfold Hid; decide
  have HO : Hid (okD (⟨#[]⟩ : ByteArray).data.toList = false) := by unfold Hid; decide
  go_enter Tryz.func99, Tryz.ntmps99
  go_wp2_with (go_at_call 133; refine (digits_is ⟨#[]⟩ 0 false HL.out HO.out (by decide) _).mono ?_; rintro e w' ⟨rfl, rfl⟩)
  go_ret2
  exact ⟨rfl, rfl⟩
set_option maxRecDepth 100000 in
set_option maxHeartbeats 1600000 in
theorem rparse_m_R1 (s t : ByteArray) (n : Nat) (n1 : (s.toList == [110, 97, 110]) = false) (n2 : (s.toList == [105, 110, 102]) = false) (n3 : (s.toList == [45, 105, 110, 102]) = false) (n4 : (s.toList == [48]) = false) (n5 : (s.toList == [45, 48]) = false)
    (hs0 : 0 < s.size) (h45 : ((s[0].toNat : Int) == 45) = true) (hex : s.extract 1 s.size = t) (HTZ : Hid (t.size ≤ 1000000)) (HL : Hid (leadN t.data.toList = n)) (HOK : Hid (okD t.data.toList = false)) (w : World) :
    Calls Tryz.prog 99 #[.string s] w fun e w' => e = .returned (.tuple #[.float .f64 0, .int .i64 4]) ∧ Below w.heap.size w w' := by
  go_enter Tryz.func99, Tryz.ntmps99
  go_wp2_with (first
    | (go_at_call 133; ((with_reducible refine (digits_is t n false HL.out HOK.out HTZ.out _).mono ?_)); rintro e w' ⟨rfl, rfl⟩))
  all_goals go_ret2
  all_goals exact ⟨by first | rfl | (simp; done), Below.refl _ _⟩
set_option maxRecDepth 100000 in
set_option maxHeartbeats 1600000 in
theorem rparse_m_R2 (s t : ByteArray) (n : Nat) (n1 : (s.toList == [110, 97, 110]) = false) (n2 : (s.toList == [105, 110, 102]) = false) (n3 : (s.toList == [45, 105, 110, 102]) = false) (n4 : (s.toList == [48]) = false) (n5 : (s.toList == [45, 48]) = false)
    (hs0 : 0 < s.size) (h45 : ((s[0].toNat : Int) == 45) = true) (hex : s.extract 1 s.size = t) (HTZ : Hid (t.size ≤ 1000000)) (HL : Hid (leadN t.data.toList = n)) (HOK : Hid (okD t.data.toList = true)) (ht0 : 0 < t.size) (h48 : ((t[0].toNat : Int) == 48) = true) (w : World) :
    Calls Tryz.prog 99 #[.string s] w fun e w' => e = .returned (.tuple #[.float .f64 0, .int .i64 4]) ∧ Below w.heap.size w w' := by
  go_enter Tryz.func99, Tryz.ntmps99
  go_wp2_with (first
    | (go_at_call 133; ((with_reducible refine (digits_is t n true HL.out HOK.out HTZ.out _).mono ?_)); rintro e w' ⟨rfl, rfl⟩))
  all_goals go_ret2
  all_goals exact ⟨by first | rfl | (simp; done), Below.refl _ _⟩
set_option maxRecDepth 100000 in
set_option maxHeartbeats 1600000 in
theorem rparse_m_R3 (s t : ByteArray) (_n : Nat) (n1 : (s.toList == [110, 97, 110]) = false) (n2 : (s.toList == [105, 110, 102]) = false) (n3 : (s.toList == [45, 105, 110, 102]) = false) (n4 : (s.toList == [48]) = false) (n5 : (s.toList == [45, 48]) = false)
    (hs0 : 0 < s.size) (h45 : ((s[0].toNat : Int) == 45) = true) (hex : s.extract 1 s.size = t) (HTZ : Hid (t.size ≤ 1000000)) (HL : Hid (leadN t.data.toList = t.size)) (HOK : Hid (okD t.data.toList = true)) (ht0 : 0 < t.size) (h48 : ((t[0].toNat : Int) == 48) = false) (w : World) :
    Calls Tryz.prog 99 #[.string s] w fun e w' => e = .returned (.tuple #[.float .f64 0, .int .i64 4]) ∧ Below w.heap.size w w' := by
  go_enter Tryz.func99, Tryz.ntmps99
  go_wp2_with (first
    | (go_at_call 133; ((with_reducible refine (digits_is t t.size true HL.out HOK.out HTZ.out _).mono ?_)); rintro e w' ⟨rfl, rfl⟩))
  all_goals go_ret2
  all_goals exact ⟨by first | rfl | (simp; done), Below.refl _ _⟩
set_option maxRecDepth 100000 in
set_option maxHeartbeats 1600000 in
theorem rparse_m_R4 (s t : ByteArray) (n : Nat) (n1 : (s.toList == [110, 97, 110]) = false) (n2 : (s.toList == [105, 110, 102]) = false) (n3 : (s.toList == [45, 105, 110, 102]) = false) (n4 : (s.toList == [48]) = false) (n5 : (s.toList == [45, 48]) = false)
    (hs0 : 0 < s.size) (h45 : ((s[0].toNat : Int) == 45) = true) (hex : s.extract 1 s.size = t) (HTZ : Hid (t.size ≤ 1000000)) (HL : Hid (leadN t.data.toList = n)) (HOK : Hid (okD t.data.toList = true)) (ht0 : 0 < t.size) (h48 : ((t[0].toNat : Int) == 48) = false) (hn : n < t.size) (hnne : ((n : Int) == (t.size : Int)) = false) (hp : ((t[n].toNat : Int) != 112) = true) (_hnb : (n : Int) ≤ 1000000) (w : World) :
    Calls Tryz.prog 99 #[.string s] w fun e w' => e = .returned (.tuple #[.float .f64 0, .int .i64 4]) ∧ Below w.heap.size w w' := by
  go_enter Tryz.func99, Tryz.ntmps99
  go_wp2_with (first
    | (go_at_call 133; ((with_reducible refine (digits_is t n true HL.out HOK.out HTZ.out _).mono ?_)); rintro e w' ⟨rfl, rfl⟩))
  all_goals go_ret2
  all_goals exact ⟨by first | rfl | (simp; done), Below.refl _ _⟩
set_option maxRecDepth 100000 in
set_option maxHeartbeats 1600000 in
theorem rparse_m_R5z (s t m e : ByteArray) (n : Nat) (n1 : (s.toList == [110, 97, 110]) = false) (n2 : (s.toList == [105, 110, 102]) = false) (n3 : (s.toList == [45, 105, 110, 102]) = false) (n4 : (s.toList == [48]) = false) (n5 : (s.toList == [45, 48]) = false)
    (hs0 : 0 < s.size) (h45 : ((s[0].toNat : Int) == 45) = true) (hex : s.extract 1 s.size = t) (HTZ : Hid (t.size ≤ 1000000)) (HL : Hid (leadN t.data.toList = n)) (HOK : Hid (okD t.data.toList = true)) (ht0 : 0 < t.size) (h48 : ((t[0].toNat : Int) == 48) = false) (hn : n < t.size) (hnne : ((n : Int) == (t.size : Int)) = false) (hp : ((t[n].toNat : Int) != 112) = false) (hnb : (n : Int) ≤ 1000000) (c2 : (n : Int) ≤ (t.size : Int)) (_c4 : (n : Int) + 1 ≤ (t.size : Int)) (hm : t.extract 0 n = m) (he : t.extract (n + 1) t.size = e) (hez : e.size = 0) (HEZ : Hid (e.size ≤ 1000000)) (HLE : Hid (leadN e.data.toList = 0)) (HOE : Hid (okD e.data.toList = false)) (w : World) :
    Calls Tryz.prog 99 #[.string s] w fun e w' => e = .returned (.tuple #[.float .f64 0, .int .i64 4]) ∧ Below w.heap.size w w' := by
  go_enter Tryz.func99, Tryz.ntmps99
  go_wp2_with (first
    | (go_at_call 133; first
        | ((with_reducible refine (digits_is t n true HL.out HOK.out HTZ.out _).mono ?_); rintro e w' ⟨rfl, rfl⟩)
        | ((with_reducible refine (digits_is e 0 false HLE.out HOE.out HEZ.out _).mono ?_); rintro e w' ⟨rfl, rfl⟩)))
  all_goals go_ret2
  all_goals exact ⟨by first | rfl | (simp; done), Below.refl _ _⟩
set_option maxRecDepth 100000 in
set_option maxHeartbeats 1600000 in
theorem rparse_m_b_R5a (s t m e e2 : ByteArray) (n k : Nat) (n1 : (s.toList == [110, 97, 110]) = false) (n2 : (s.toList == [105, 110, 102]) = false) (n3 : (s.toList == [45, 105, 110, 102]) = false) (n4 : (s.toList == [48]) = false) (n5 : (s.toList == [45, 48]) = false)
    (hs0 : 0 < s.size) (h45 : ((s[0].toNat : Int) == 45) = true) (hex : s.extract 1 s.size = t) (HTZ : Hid (t.size ≤ 1000000)) (HL : Hid (leadN t.data.toList = n)) (HOK : Hid (okD t.data.toList = true)) (ht0 : 0 < t.size) (h48 : ((t[0].toNat : Int) == 48) = false) (hn : n < t.size) (hnne : ((n : Int) == (t.size : Int)) = false) (hp : ((t[n].toNat : Int) != 112) = false) (hnb : (n : Int) ≤ 1000000) (c2 : (n : Int) ≤ (t.size : Int)) (_c4 : (n : Int) + 1 ≤ (t.size : Int)) (hm : t.extract 0 n = m) (he : t.extract (n + 1) t.size = e) (he0 : 0 < e.size) (hb45 : ((e[0].toNat : Int) == 45) = true) (hex2 : e.extract 1 e.size = e2) (HEZ : Hid (e2.size ≤ 1000000)) (HLE : Hid (leadN e2.data.toList = k)) (HOE : Hid (okD e2.data.toList = false)) (w : World) :
    Calls Tryz.prog 99 #[.string s] w fun e w' => e = .returned (.tuple #[.float .f64 0, .int .i64 4]) ∧ Below w.heap.size w w' := by
  go_enter Tryz.func99, Tryz.ntmps99
  go_wp2_with (first
    | (go_at_call 133; first
        | ((with_reducible refine (digits_is t n true HL.out HOK.out HTZ.out _).mono ?_); rintro e w' ⟨rfl, rfl⟩)
        | ((with_reducible refine (digits_is e2 k false HLE.out HOE.out HEZ.out _).mono ?_); rintro e w' ⟨rfl, rfl⟩)))
  all_goals go_ret2
  all_goals exact ⟨by first | rfl | (simp; done), Below.refl _ _⟩
set_option maxRecDepth 100000 in
set_option maxHeartbeats 1600000 in
theorem rparse_m_b_R5b (s t m e e2 : ByteArray) (n k : Nat) (n1 : (s.toList == [110, 97, 110]) = false) (n2 : (s.toList == [105, 110, 102]) = false) (n3 : (s.toList == [45, 105, 110, 102]) = false) (n4 : (s.toList == [48]) = false) (n5 : (s.toList == [45, 48]) = false)
    (hs0 : 0 < s.size) (h45 : ((s[0].toNat : Int) == 45) = true) (hex : s.extract 1 s.size = t) (HTZ : Hid (t.size ≤ 1000000)) (HL : Hid (leadN t.data.toList = n)) (HOK : Hid (okD t.data.toList = true)) (ht0 : 0 < t.size) (h48 : ((t[0].toNat : Int) == 48) = false) (hn : n < t.size) (hnne : ((n : Int) == (t.size : Int)) = false) (hp : ((t[n].toNat : Int) != 112) = false) (hnb : (n : Int) ≤ 1000000) (c2 : (n : Int) ≤ (t.size : Int)) (_c4 : (n : Int) + 1 ≤ (t.size : Int)) (hm : t.extract 0 n = m) (he : t.extract (n + 1) t.size = e) (he0 : 0 < e.size) (hb45 : ((e[0].toNat : Int) == 45) = true) (hex2 : e.extract 1 e.size = e2) (HEZ : Hid (e2.size ≤ 1000000)) (HLE : Hid (leadN e2.data.toList = k)) (HOE : Hid (okD e2.data.toList = true)) (hke : ((k : Int) != (e2.size : Int)) = true) (w : World) :
    Calls Tryz.prog 99 #[.string s] w fun e w' => e = .returned (.tuple #[.float .f64 0, .int .i64 4]) ∧ Below w.heap.size w w' := by
  go_enter Tryz.func99, Tryz.ntmps99
  go_wp2_with (first
    | (go_at_call 133; first
        | ((with_reducible refine (digits_is t n true HL.out HOK.out HTZ.out _).mono ?_); rintro e w' ⟨rfl, rfl⟩)
        | ((with_reducible refine (digits_is e2 k true HLE.out HOE.out HEZ.out _).mono ?_); rintro e w' ⟨rfl, rfl⟩)))
  all_goals go_ret2
  all_goals exact ⟨by first | rfl | (simp; done), Below.refl _ _⟩
set_option maxRecDepth 100000 in
set_option maxHeartbeats 1600000 in
theorem rparse_m_b_R5c (s t m e e2 : ByteArray) (n : Nat) (n1 : (s.toList == [110, 97, 110]) = false) (n2 : (s.toList == [105, 110, 102]) = false) (n3 : (s.toList == [45, 105, 110, 102]) = false) (n4 : (s.toList == [48]) = false) (n5 : (s.toList == [45, 48]) = false)
    (hs0 : 0 < s.size) (h45 : ((s[0].toNat : Int) == 45) = true) (hex : s.extract 1 s.size = t) (HTZ : Hid (t.size ≤ 1000000)) (HL : Hid (leadN t.data.toList = n)) (HOK : Hid (okD t.data.toList = true)) (ht0 : 0 < t.size) (h48 : ((t[0].toNat : Int) == 48) = false) (hn : n < t.size) (hnne : ((n : Int) == (t.size : Int)) = false) (hp : ((t[n].toNat : Int) != 112) = false) (hnb : (n : Int) ≤ 1000000) (c2 : (n : Int) ≤ (t.size : Int)) (_c4 : (n : Int) + 1 ≤ (t.size : Int)) (hm : t.extract 0 n = m) (he : t.extract (n + 1) t.size = e) (he0 : 0 < e.size) (hb45 : ((e[0].toNat : Int) == 45) = true) (hex2 : e.extract 1 e.size = e2) (HEZ : Hid (e2.size ≤ 1000000)) (HLE : Hid (leadN e2.data.toList = e2.size)) (HOE : Hid (okD e2.data.toList = true)) (he48 : (e2.toList == [48]) = true) (w : World) :
    Calls Tryz.prog 99 #[.string s] w fun e w' => e = .returned (.tuple #[.float .f64 0, .int .i64 4]) ∧ Below w.heap.size w w' := by
  go_enter Tryz.func99, Tryz.ntmps99
  go_wp2_with (first
    | (go_at_call 133; first
        | ((with_reducible refine (digits_is t n true HL.out HOK.out HTZ.out _).mono ?_); rintro e w' ⟨rfl, rfl⟩)
        | ((with_reducible refine (digits_is e2 e2.size true HLE.out HOE.out HEZ.out _).mono ?_); rintro e w' ⟨rfl, rfl⟩)))
  all_goals go_ret2
  all_goals exact ⟨by first | rfl | (simp; done), Below.refl _ _⟩
set_option maxRecDepth 100000 in
set_option maxHeartbeats 1600000 in
theorem rparse_m_b_R6m (s t m e e2 : ByteArray) (n : Nat) (n1 : (s.toList == [110, 97, 110]) = false) (n2 : (s.toList == [105, 110, 102]) = false) (n3 : (s.toList == [45, 105, 110, 102]) = false) (n4 : (s.toList == [48]) = false) (n5 : (s.toList == [45, 48]) = false)
    (hs0 : 0 < s.size) (h45 : ((s[0].toNat : Int) == 45) = true) (hex : s.extract 1 s.size = t) (HTZ : Hid (t.size ≤ 1000000)) (HL : Hid (leadN t.data.toList = n)) (HOK : Hid (okD t.data.toList = true)) (ht0 : 0 < t.size) (h48 : ((t[0].toNat : Int) == 48) = false) (hn : n < t.size) (hnne : ((n : Int) == (t.size : Int)) = false) (hp : ((t[n].toNat : Int) != 112) = false) (hnb : (n : Int) ≤ 1000000) (c2 : (n : Int) ≤ (t.size : Int)) (_c4 : (n : Int) + 1 ≤ (t.size : Int)) (hm : t.extract 0 n = m) (he : t.extract (n + 1) t.size = e) (he0 : 0 < e.size) (hb45 : ((e[0].toNat : Int) == 45) = true) (hex2 : e.extract 1 e.size = e2) (HEZ : Hid (e2.size ≤ 1000000)) (HLE : Hid (leadN e2.data.toList = e2.size)) (HOE : Hid (okD e2.data.toList = true)) (he48 : (e2.toList == [48]) = false) (hm17 : 17 < m.size) (w : World) :
    Calls Tryz.prog 99 #[.string s] w fun e w' => e = .returned (.tuple #[.float .f64 0, .int .i64 1]) ∧ Below w.heap.size w w' := by
  go_enter Tryz.func99, Tryz.ntmps99
  go_wp2_with (first
    | (go_at_call 133; first
        | ((with_reducible refine (digits_is t n true HL.out HOK.out HTZ.out _).mono ?_); rintro e w' ⟨rfl, rfl⟩)
        | ((with_reducible refine (digits_is e2 e2.size true HLE.out HOE.out HEZ.out _).mono ?_); rintro e w' ⟨rfl, rfl⟩)))
  all_goals go_ret2
  all_goals exact ⟨by first | rfl | (simp; done), Below.refl _ _⟩
set_option maxRecDepth 100000 in
set_option maxHeartbeats 1600000 in
theorem rparse_m_b_R6e (s t m e e2 : ByteArray) (n : Nat) (n1 : (s.toList == [110, 97, 110]) = false) (n2 : (s.toList == [105, 110, 102]) = false) (n3 : (s.toList == [45, 105, 110, 102]) = false) (n4 : (s.toList == [48]) = false) (n5 : (s.toList == [45, 48]) = false)
    (hs0 : 0 < s.size) (h45 : ((s[0].toNat : Int) == 45) = true) (hex : s.extract 1 s.size = t) (HTZ : Hid (t.size ≤ 1000000)) (HL : Hid (leadN t.data.toList = n)) (HOK : Hid (okD t.data.toList = true)) (ht0 : 0 < t.size) (h48 : ((t[0].toNat : Int) == 48) = false) (hn : n < t.size) (hnne : ((n : Int) == (t.size : Int)) = false) (hp : ((t[n].toNat : Int) != 112) = false) (hnb : (n : Int) ≤ 1000000) (c2 : (n : Int) ≤ (t.size : Int)) (_c4 : (n : Int) + 1 ≤ (t.size : Int)) (hm : t.extract 0 n = m) (he : t.extract (n + 1) t.size = e) (he0 : 0 < e.size) (hb45 : ((e[0].toNat : Int) == 45) = true) (hex2 : e.extract 1 e.size = e2) (HEZ : Hid (e2.size ≤ 1000000)) (HLE : Hid (leadN e2.data.toList = e2.size)) (HOE : Hid (okD e2.data.toList = true)) (he48 : (e2.toList == [48]) = false) (hm17 : ¬ 17 < m.size) (he5 : 5 < e2.size) (w : World) :
    Calls Tryz.prog 99 #[.string s] w fun e w' => e = .returned (.tuple #[.float .f64 0, .int .i64 1]) ∧ Below w.heap.size w w' := by
  go_enter Tryz.func99, Tryz.ntmps99
  go_wp2_with (first
    | (go_at_call 133; first
        | ((with_reducible refine (digits_is t n true HL.out HOK.out HTZ.out _).mono ?_); rintro e w' ⟨rfl, rfl⟩)
        | ((with_reducible refine (digits_is e2 e2.size true HLE.out HOE.out HEZ.out _).mono ?_); rintro e w' ⟨rfl, rfl⟩)))
  all_goals go_ret2
  all_goals exact ⟨by first | rfl | (simp; done), Below.refl _ _⟩
set_option maxRecDepth 100000 in
set_option maxHeartbeats 1600000 in
theorem rparse_m_b_R7f (s t m e e2 : ByteArray) (n nv pv r x : Nat) (n1 : (s.toList == [110, 97, 110]) = false) (n2 : (s.toList == [105, 110, 102]) = false) (n3 : (s.toList == [45, 105, 110, 102]) = false) (n4 : (s.toList == [48]) = false) (n5 : (s.toList == [45, 48]) = false)
    (hs0 : 0 < s.size) (h45 : ((s[0].toNat : Int) == 45) = true) (hex : s.extract 1 s.size = t) (HTZ : Hid (t.size ≤ 1000000)) (HL : Hid (leadN t.data.toList = n)) (HOK : Hid (okD t.data.toList = true)) (ht0 : 0 < t.size) (h48 : ((t[0].toNat : Int) == 48) = false) (hn : n < t.size) (hnne : ((n : Int) == (t.size : Int)) = false) (hp : ((t[n].toNat : Int) != 112) = false) (hnb : (n : Int) ≤ 1000000) (c2 : (n : Int) ≤ (t.size : Int)) (_c4 : (n : Int) + 1 ≤ (t.size : Int)) (hm : t.extract 0 n = m) (he : t.extract (n + 1) t.size = e) (he0 : 0 < e.size) (hb45 : ((e[0].toNat : Int) == 45) = true) (hex2 : e.extract 1 e.size = e2) (HEZ : Hid (e2.size ≤ 1000000)) (HLE : Hid (leadN e2.data.toList = e2.size)) (HOE : Hid (okD e2.data.toList = true)) (he48 : (e2.toList == [48]) = false) (hm17 : ¬ 17 < m.size) (he5 : ¬ 5 < e2.size) (HM17 : Hid (m.size ≤ 17)) (HE17 : Hid (e2.size ≤ 17)) (HMV : Hid (valN m.data.toList = nv)) (HEV : Hid (valN e2.data.toList = pv)) (HMD : Hid (m.data.toList.all digB = true)) (HED : Hid (e2.data.toList.all digB = true)) (hpv : (pv : Int) ≤ 99999) (HLD : Hid (∀ w, Calls Tryz.prog 170 #[.float .f64 (floatOfInt .f64 (nv : Int)), .int .i64 (-(pv : Int))] w fun e w' => e = .returned (.float .f64 r) ∧ w = w')) (hng : ∀ w, (Op.unary .neg (.float .f64 r)).run Tryz.prog w = .ok (.float .f64 x) w) (HX : Hid (x < 18446744073709551616)) (HTX : Hid (textN x = s.data.toList)) (w : World) :
    Calls Tryz.prog 99 #[.string s] w fun e w' => e = .returned (.tuple #[.float .f64 x, .int .i64 0]) ∧ Below w.heap.size w w' := by
  go_enter Tryz.func99, Tryz.ntmps99
  go_wp2_with (first
    | (go_at_call 133; first
        | ((with_reducible refine (digits_is t n true HL.out HOK.out HTZ.out _).mono ?_); rintro e w' ⟨rfl, rfl⟩)
        | ((with_reducible refine (digits_is e2 e2.size true HLE.out HOE.out HEZ.out _).mono ?_); rintro e w' ⟨rfl, rfl⟩))
    | (go_at_call 106; ((with_reducible refine (rprint_is x s HTX.out HX.out _).mono ?_)); rintro e w1 ⟨rfl, hb1⟩; have HB1 := Lib.hid hb1; clear hb1)
    | (go_at_call 134; first
        | ((with_reducible refine (number_is m nv HMV.out HM17.out HMD.out _).mono ?_); rintro e w' ⟨rfl, rfl⟩)
        | ((with_reducible refine (number_is e2 pv HEV.out HE17.out HED.out _).mono ?_); rintro e w' ⟨rfl, rfl⟩))
    | (go_at_call 135; ((with_reducible refine (mldexp _ _ r HLD.out _).mono ?_)); rintro e w' ⟨rfl, rfl⟩))
  all_goals go_ret2
  all_goals exact ⟨by first | rfl | (simp; done), HB1.out⟩
set_option maxRecDepth 100000 in
set_option maxHeartbeats 1600000 in
theorem rparse_m_b_R7n (s t m e e2 tx : ByteArray) (n nv pv r x : Nat) (n1 : (s.toList == [110, 97, 110]) = false) (n2 : (s.toList == [105, 110, 102]) = false) (n3 : (s.toList == [45, 105, 110, 102]) = false) (n4 : (s.toList == [48]) = false) (n5 : (s.toList == [45, 48]) = false)
    (hs0 : 0 < s.size) (h45 : ((s[0].toNat : Int) == 45) = true) (hex : s.extract 1 s.size = t) (HTZ : Hid (t.size ≤ 1000000)) (HL : Hid (leadN t.data.toList = n)) (HOK : Hid (okD t.data.toList = true)) (ht0 : 0 < t.size) (h48 : ((t[0].toNat : Int) == 48) = false) (hn : n < t.size) (hnne : ((n : Int) == (t.size : Int)) = false) (hp : ((t[n].toNat : Int) != 112) = false) (hnb : (n : Int) ≤ 1000000) (c2 : (n : Int) ≤ (t.size : Int)) (_c4 : (n : Int) + 1 ≤ (t.size : Int)) (hm : t.extract 0 n = m) (he : t.extract (n + 1) t.size = e) (he0 : 0 < e.size) (hb45 : ((e[0].toNat : Int) == 45) = true) (hex2 : e.extract 1 e.size = e2) (HEZ : Hid (e2.size ≤ 1000000)) (HLE : Hid (leadN e2.data.toList = e2.size)) (HOE : Hid (okD e2.data.toList = true)) (he48 : (e2.toList == [48]) = false) (hm17 : ¬ 17 < m.size) (he5 : ¬ 5 < e2.size) (HM17 : Hid (m.size ≤ 17)) (HE17 : Hid (e2.size ≤ 17)) (HMV : Hid (valN m.data.toList = nv)) (HEV : Hid (valN e2.data.toList = pv)) (HMD : Hid (m.data.toList.all digB = true)) (HED : Hid (e2.data.toList.all digB = true)) (hpv : (pv : Int) ≤ 99999) (HLD : Hid (∀ w, Calls Tryz.prog 170 #[.float .f64 (floatOfInt .f64 (nv : Int)), .int .i64 (-(pv : Int))] w fun e w' => e = .returned (.float .f64 r) ∧ w = w')) (hng : ∀ w, (Op.unary .neg (.float .f64 r)).run Tryz.prog w = .ok (.float .f64 x) w) (HX : Hid (x < 18446744073709551616)) (HTX : Hid (textN x = tx.data.toList)) (hne : (tx.toList == s.toList) = false) (w : World) :
    Calls Tryz.prog 99 #[.string s] w fun e w' => e = .returned (.tuple #[.float .f64 0, .int .i64 1]) ∧ Below w.heap.size w w' := by
  go_enter Tryz.func99, Tryz.ntmps99
  go_wp2_with (first
    | (go_at_call 133; first
        | ((with_reducible refine (digits_is t n true HL.out HOK.out HTZ.out _).mono ?_); rintro e w' ⟨rfl, rfl⟩)
        | ((with_reducible refine (digits_is e2 e2.size true HLE.out HOE.out HEZ.out _).mono ?_); rintro e w' ⟨rfl, rfl⟩))
    | (go_at_call 106; ((with_reducible refine (rprint_is x tx HTX.out HX.out _).mono ?_)); rintro e w1 ⟨rfl, hb1⟩; have HB1 := Lib.hid hb1; clear hb1)
    | (go_at_call 134; first
        | ((with_reducible refine (number_is m nv HMV.out HM17.out HMD.out _).mono ?_); rintro e w' ⟨rfl, rfl⟩)
        | ((with_reducible refine (number_is e2 pv HEV.out HE17.out HED.out _).mono ?_); rintro e w' ⟨rfl, rfl⟩))
    | (go_at_call 135; ((with_reducible refine (mldexp _ _ r HLD.out _).mono ?_)); rintro e w' ⟨rfl, rfl⟩))
  all_goals go_ret2
  all_goals exact ⟨by first | rfl | (simp; done), HB1.out⟩
set_option maxRecDepth 100000 in
set_option maxHeartbeats 1600000 in
theorem rparse_m_a_R5a (s t m e : ByteArray) (n k : Nat) (n1 : (s.toList == [110, 97, 110]) = false) (n2 : (s.toList == [105, 110, 102]) = false) (n3 : (s.toList == [45, 105, 110, 102]) = false) (n4 : (s.toList == [48]) = false) (n5 : (s.toList == [45, 48]) = false)
    (hs0 : 0 < s.size) (h45 : ((s[0].toNat : Int) == 45) = true) (hex : s.extract 1 s.size = t) (HTZ : Hid (t.size ≤ 1000000)) (HL : Hid (leadN t.data.toList = n)) (HOK : Hid (okD t.data.toList = true)) (ht0 : 0 < t.size) (h48 : ((t[0].toNat : Int) == 48) = false) (hn : n < t.size) (hnne : ((n : Int) == (t.size : Int)) = false) (hp : ((t[n].toNat : Int) != 112) = false) (hnb : (n : Int) ≤ 1000000) (c2 : (n : Int) ≤ (t.size : Int)) (_c4 : (n : Int) + 1 ≤ (t.size : Int)) (hm : t.extract 0 n = m) (he : t.extract (n + 1) t.size = e) (he0 : 0 < e.size) (hb45 : ((e[0].toNat : Int) == 45) = false) (HEZ : Hid (e.size ≤ 1000000)) (HLE : Hid (leadN e.data.toList = k)) (HOE : Hid (okD e.data.toList = false)) (w : World) :
    Calls Tryz.prog 99 #[.string s] w fun e w' => e = .returned (.tuple #[.float .f64 0, .int .i64 4]) ∧ Below w.heap.size w w' := by
  go_enter Tryz.func99, Tryz.ntmps99
  go_wp2_with (first
    | (go_at_call 133; first
        | ((with_reducible refine (digits_is t n true HL.out HOK.out HTZ.out _).mono ?_); rintro e w' ⟨rfl, rfl⟩)
        | ((with_reducible refine (digits_is e k false HLE.out HOE.out HEZ.out _).mono ?_); rintro e w' ⟨rfl, rfl⟩)))
  all_goals go_ret2
  all_goals exact ⟨by first | rfl | (simp; done), Below.refl _ _⟩
set_option maxRecDepth 100000 in
set_option maxHeartbeats 1600000 in
theorem rparse_m_a_R5b (s t m e : ByteArray) (n k : Nat) (n1 : (s.toList == [110, 97, 110]) = false) (n2 : (s.toList == [105, 110, 102]) = false) (n3 : (s.toList == [45, 105, 110, 102]) = false) (n4 : (s.toList == [48]) = false) (n5 : (s.toList == [45, 48]) = false)
    (hs0 : 0 < s.size) (h45 : ((s[0].toNat : Int) == 45) = true) (hex : s.extract 1 s.size = t) (HTZ : Hid (t.size ≤ 1000000)) (HL : Hid (leadN t.data.toList = n)) (HOK : Hid (okD t.data.toList = true)) (ht0 : 0 < t.size) (h48 : ((t[0].toNat : Int) == 48) = false) (hn : n < t.size) (hnne : ((n : Int) == (t.size : Int)) = false) (hp : ((t[n].toNat : Int) != 112) = false) (hnb : (n : Int) ≤ 1000000) (c2 : (n : Int) ≤ (t.size : Int)) (_c4 : (n : Int) + 1 ≤ (t.size : Int)) (hm : t.extract 0 n = m) (he : t.extract (n + 1) t.size = e) (he0 : 0 < e.size) (hb45 : ((e[0].toNat : Int) == 45) = false) (HEZ : Hid (e.size ≤ 1000000)) (HLE : Hid (leadN e.data.toList = k)) (HOE : Hid (okD e.data.toList = true)) (hke : ((k : Int) != (e.size : Int)) = true) (w : World) :
    Calls Tryz.prog 99 #[.string s] w fun e w' => e = .returned (.tuple #[.float .f64 0, .int .i64 4]) ∧ Below w.heap.size w w' := by
  go_enter Tryz.func99, Tryz.ntmps99
  go_wp2_with (first
    | (go_at_call 133; first
        | ((with_reducible refine (digits_is t n true HL.out HOK.out HTZ.out _).mono ?_); rintro e w' ⟨rfl, rfl⟩)
        | ((with_reducible refine (digits_is e k true HLE.out HOE.out HEZ.out _).mono ?_); rintro e w' ⟨rfl, rfl⟩)))
  all_goals go_ret2
  all_goals exact ⟨by first | rfl | (simp; done), Below.refl _ _⟩
set_option maxRecDepth 100000 in
set_option maxHeartbeats 1600000 in
theorem rparse_m_a_R6m (s t m e : ByteArray) (n : Nat) (n1 : (s.toList == [110, 97, 110]) = false) (n2 : (s.toList == [105, 110, 102]) = false) (n3 : (s.toList == [45, 105, 110, 102]) = false) (n4 : (s.toList == [48]) = false) (n5 : (s.toList == [45, 48]) = false)
    (hs0 : 0 < s.size) (h45 : ((s[0].toNat : Int) == 45) = true) (hex : s.extract 1 s.size = t) (HTZ : Hid (t.size ≤ 1000000)) (HL : Hid (leadN t.data.toList = n)) (HOK : Hid (okD t.data.toList = true)) (ht0 : 0 < t.size) (h48 : ((t[0].toNat : Int) == 48) = false) (hn : n < t.size) (hnne : ((n : Int) == (t.size : Int)) = false) (hp : ((t[n].toNat : Int) != 112) = false) (hnb : (n : Int) ≤ 1000000) (c2 : (n : Int) ≤ (t.size : Int)) (_c4 : (n : Int) + 1 ≤ (t.size : Int)) (hm : t.extract 0 n = m) (he : t.extract (n + 1) t.size = e) (he0 : 0 < e.size) (hb45 : ((e[0].toNat : Int) == 45) = false) (HEZ : Hid (e.size ≤ 1000000)) (HLE : Hid (leadN e.data.toList = e.size)) (HOE : Hid (okD e.data.toList = true)) (hm17 : 17 < m.size) (w : World) :
    Calls Tryz.prog 99 #[.string s] w fun e w' => e = .returned (.tuple #[.float .f64 0, .int .i64 1]) ∧ Below w.heap.size w w' := by
  go_enter Tryz.func99, Tryz.ntmps99
  go_wp2_with (first
    | (go_at_call 133; first
        | ((with_reducible refine (digits_is t n true HL.out HOK.out HTZ.out _).mono ?_); rintro e w' ⟨rfl, rfl⟩)
        | ((with_reducible refine (digits_is e e.size true HLE.out HOE.out HEZ.out _).mono ?_); rintro e w' ⟨rfl, rfl⟩)))
  all_goals go_ret2
  all_goals exact ⟨by first | rfl | (simp; done), Below.refl _ _⟩
set_option maxRecDepth 100000 in
set_option maxHeartbeats 1600000 in
theorem rparse_m_a_R6e (s t m e : ByteArray) (n : Nat) (n1 : (s.toList == [110, 97, 110]) = false) (n2 : (s.toList == [105, 110, 102]) = false) (n3 : (s.toList == [45, 105, 110, 102]) = false) (n4 : (s.toList == [48]) = false) (n5 : (s.toList == [45, 48]) = false)
    (hs0 : 0 < s.size) (h45 : ((s[0].toNat : Int) == 45) = true) (hex : s.extract 1 s.size = t) (HTZ : Hid (t.size ≤ 1000000)) (HL : Hid (leadN t.data.toList = n)) (HOK : Hid (okD t.data.toList = true)) (ht0 : 0 < t.size) (h48 : ((t[0].toNat : Int) == 48) = false) (hn : n < t.size) (hnne : ((n : Int) == (t.size : Int)) = false) (hp : ((t[n].toNat : Int) != 112) = false) (hnb : (n : Int) ≤ 1000000) (c2 : (n : Int) ≤ (t.size : Int)) (_c4 : (n : Int) + 1 ≤ (t.size : Int)) (hm : t.extract 0 n = m) (he : t.extract (n + 1) t.size = e) (he0 : 0 < e.size) (hb45 : ((e[0].toNat : Int) == 45) = false) (HEZ : Hid (e.size ≤ 1000000)) (HLE : Hid (leadN e.data.toList = e.size)) (HOE : Hid (okD e.data.toList = true)) (hm17 : ¬ 17 < m.size) (he5 : 5 < e.size) (w : World) :
    Calls Tryz.prog 99 #[.string s] w fun e w' => e = .returned (.tuple #[.float .f64 0, .int .i64 1]) ∧ Below w.heap.size w w' := by
  go_enter Tryz.func99, Tryz.ntmps99
  go_wp2_with (first
    | (go_at_call 133; first
        | ((with_reducible refine (digits_is t n true HL.out HOK.out HTZ.out _).mono ?_); rintro e w' ⟨rfl, rfl⟩)
        | ((with_reducible refine (digits_is e e.size true HLE.out HOE.out HEZ.out _).mono ?_); rintro e w' ⟨rfl, rfl⟩)))
  all_goals go_ret2
  all_goals exact ⟨by first | rfl | (simp; done), Below.refl _ _⟩
set_option maxRecDepth 100000 in
set_option maxHeartbeats 1600000 in
theorem rparse_m_a_R7f (s t m e : ByteArray) (n nv pv r x : Nat) (n1 : (s.toList == [110, 97, 110]) = false) (n2 : (s.toList == [105, 110, 102]) = false) (n3 : (s.toList == [45, 105, 110, 102]) = false) (n4 : (s.toList == [48]) = false) (n5 : (s.toList == [45, 48]) = false)
    (hs0 : 0 < s.size) (h45 : ((s[0].toNat : Int) == 45) = true) (hex : s.extract 1 s.size = t) (HTZ : Hid (t.size ≤ 1000000)) (HL : Hid (leadN t.data.toList = n)) (HOK : Hid (okD t.data.toList = true)) (ht0 : 0 < t.size) (h48 : ((t[0].toNat : Int) == 48) = false) (hn : n < t.size) (hnne : ((n : Int) == (t.size : Int)) = false) (hp : ((t[n].toNat : Int) != 112) = false) (hnb : (n : Int) ≤ 1000000) (c2 : (n : Int) ≤ (t.size : Int)) (_c4 : (n : Int) + 1 ≤ (t.size : Int)) (hm : t.extract 0 n = m) (he : t.extract (n + 1) t.size = e) (he0 : 0 < e.size) (hb45 : ((e[0].toNat : Int) == 45) = false) (HEZ : Hid (e.size ≤ 1000000)) (HLE : Hid (leadN e.data.toList = e.size)) (HOE : Hid (okD e.data.toList = true)) (hm17 : ¬ 17 < m.size) (he5 : ¬ 5 < e.size) (HM17 : Hid (m.size ≤ 17)) (HE17 : Hid (e.size ≤ 17)) (HMV : Hid (valN m.data.toList = nv)) (HEV : Hid (valN e.data.toList = pv)) (HMD : Hid (m.data.toList.all digB = true)) (HED : Hid (e.data.toList.all digB = true)) (_hpv : (pv : Int) ≤ 99999) (HLD : Hid (∀ w, Calls Tryz.prog 170 #[.float .f64 (floatOfInt .f64 (nv : Int)), .int .i64 ((pv : Int))] w fun e w' => e = .returned (.float .f64 r) ∧ w = w')) (hng : ∀ w, (Op.unary .neg (.float .f64 r)).run Tryz.prog w = .ok (.float .f64 x) w) (HX : Hid (x < 18446744073709551616)) (HTX : Hid (textN x = s.data.toList)) (w : World) :
    Calls Tryz.prog 99 #[.string s] w fun e w' => e = .returned (.tuple #[.float .f64 x, .int .i64 0]) ∧ Below w.heap.size w w' := by
  go_enter Tryz.func99, Tryz.ntmps99
  go_wp2_with (first
    | (go_at_call 133; first
        | ((with_reducible refine (digits_is t n true HL.out HOK.out HTZ.out _).mono ?_); rintro e w' ⟨rfl, rfl⟩)
        | ((with_reducible refine (digits_is e e.size true HLE.out HOE.out HEZ.out _).mono ?_); rintro e w' ⟨rfl, rfl⟩))
    | (go_at_call 106; ((with_reducible refine (rprint_is x s HTX.out HX.out _).mono ?_)); rintro e w1 ⟨rfl, hb1⟩; have HB1 := Lib.hid hb1; clear hb1)
    | (go_at_call 134; first
        | ((with_reducible refine (number_is m nv HMV.out HM17.out HMD.out _).mono ?_); rintro e w' ⟨rfl, rfl⟩)
        | ((with_reducible refine (number_is e pv HEV.out HE17.out HED.out _).mono ?_); rintro e w' ⟨rfl, rfl⟩))
    | (go_at_call 135; ((with_reducible refine (mldexp _ _ r HLD.out _).mono ?_)); rintro e w' ⟨rfl, rfl⟩))
  all_goals go_ret2
  all_goals exact ⟨by first | rfl | (simp; done), HB1.out⟩
set_option maxRecDepth 100000 in
set_option maxHeartbeats 1600000 in
theorem rparse_m_a_R7n (s t m e tx : ByteArray) (n nv pv r x : Nat) (n1 : (s.toList == [110, 97, 110]) = false) (n2 : (s.toList == [105, 110, 102]) = false) (n3 : (s.toList == [45, 105, 110, 102]) = false) (n4 : (s.toList == [48]) = false) (n5 : (s.toList == [45, 48]) = false)
    (hs0 : 0 < s.size) (h45 : ((s[0].toNat : Int) == 45) = true) (hex : s.extract 1 s.size = t) (HTZ : Hid (t.size ≤ 1000000)) (HL : Hid (leadN t.data.toList = n)) (HOK : Hid (okD t.data.toList = true)) (ht0 : 0 < t.size) (h48 : ((t[0].toNat : Int) == 48) = false) (hn : n < t.size) (hnne : ((n : Int) == (t.size : Int)) = false) (hp : ((t[n].toNat : Int) != 112) = false) (hnb : (n : Int) ≤ 1000000) (c2 : (n : Int) ≤ (t.size : Int)) (_c4 : (n : Int) + 1 ≤ (t.size : Int)) (hm : t.extract 0 n = m) (he : t.extract (n + 1) t.size = e) (he0 : 0 < e.size) (hb45 : ((e[0].toNat : Int) == 45) = false) (HEZ : Hid (e.size ≤ 1000000)) (HLE : Hid (leadN e.data.toList = e.size)) (HOE : Hid (okD e.data.toList = true)) (hm17 : ¬ 17 < m.size) (he5 : ¬ 5 < e.size) (HM17 : Hid (m.size ≤ 17)) (HE17 : Hid (e.size ≤ 17)) (HMV : Hid (valN m.data.toList = nv)) (HEV : Hid (valN e.data.toList = pv)) (HMD : Hid (m.data.toList.all digB = true)) (HED : Hid (e.data.toList.all digB = true)) (_hpv : (pv : Int) ≤ 99999) (HLD : Hid (∀ w, Calls Tryz.prog 170 #[.float .f64 (floatOfInt .f64 (nv : Int)), .int .i64 ((pv : Int))] w fun e w' => e = .returned (.float .f64 r) ∧ w = w')) (hng : ∀ w, (Op.unary .neg (.float .f64 r)).run Tryz.prog w = .ok (.float .f64 x) w) (HX : Hid (x < 18446744073709551616)) (HTX : Hid (textN x = tx.data.toList)) (hne : (tx.toList == s.toList) = false) (w : World) :
    Calls Tryz.prog 99 #[.string s] w fun e w' => e = .returned (.tuple #[.float .f64 0, .int .i64 1]) ∧ Below w.heap.size w w' := by
  go_enter Tryz.func99, Tryz.ntmps99
  go_wp2_with (first
    | (go_at_call 133; first
        | ((with_reducible refine (digits_is t n true HL.out HOK.out HTZ.out _).mono ?_); rintro e w' ⟨rfl, rfl⟩)
        | ((with_reducible refine (digits_is e e.size true HLE.out HOE.out HEZ.out _).mono ?_); rintro e w' ⟨rfl, rfl⟩))
    | (go_at_call 106; ((with_reducible refine (rprint_is x tx HTX.out HX.out _).mono ?_)); rintro e w1 ⟨rfl, hb1⟩; have HB1 := Lib.hid hb1; clear hb1)
    | (go_at_call 134; first
        | ((with_reducible refine (number_is m nv HMV.out HM17.out HMD.out _).mono ?_); rintro e w' ⟨rfl, rfl⟩)
        | ((with_reducible refine (number_is e pv HEV.out HE17.out HED.out _).mono ?_); rintro e w' ⟨rfl, rfl⟩))
    | (go_at_call 135; ((with_reducible refine (mldexp _ _ r HLD.out _).mono ?_)); rintro e w' ⟨rfl, rfl⟩))
  all_goals go_ret2
  all_goals exact ⟨by first | rfl | (simp; done), HB1.out⟩
set_option maxRecDepth 100000 in
set_option maxHeartbeats 1600000 in
theorem rparse_p_R1 (s : ByteArray) (n : Nat) (n1 : (s.toList == [110, 97, 110]) = false) (n2 : (s.toList == [105, 110, 102]) = false) (n3 : (s.toList == [45, 105, 110, 102]) = false) (n4 : (s.toList == [48]) = false) (n5 : (s.toList == [45, 48]) = false)
    (hs0 : 0 < s.size) (h45 : ((s[0].toNat : Int) == 45) = false) (HTZ : Hid (s.size ≤ 1000000)) (HL : Hid (leadN s.data.toList = n)) (HOK : Hid (okD s.data.toList = false)) (w : World) :
    Calls Tryz.prog 99 #[.string s] w fun e w' => e = .returned (.tuple #[.float .f64 0, .int .i64 4]) ∧ Below w.heap.size w w' := by
  go_enter Tryz.func99, Tryz.ntmps99
  go_wp2_with (first
    | (go_at_call 133; ((with_reducible refine (digits_is s n false HL.out HOK.out HTZ.out _).mono ?_)); rintro e w' ⟨rfl, rfl⟩))
  all_goals go_ret2
  all_goals exact ⟨by first | rfl | (simp; done), Below.refl _ _⟩
set_option maxRecDepth 100000 in
set_option maxHeartbeats 1600000 in
theorem rparse_p_R2 (s : ByteArray) (n : Nat) (n1 : (s.toList == [110, 97, 110]) = false) (n2 : (s.toList == [105, 110, 102]) = false) (n3 : (s.toList == [45, 105, 110, 102]) = false) (n4 : (s.toList == [48]) = false) (n5 : (s.toList == [45, 48]) = false)
    (hs0 : 0 < s.size) (h45 : ((s[0].toNat : Int) == 45) = false) (HTZ : Hid (s.size ≤ 1000000)) (HL : Hid (leadN s.data.toList = n)) (HOK : Hid (okD s.data.toList = true)) (ht0 : 0 < s.size) (h48 : ((s[0].toNat : Int) == 48) = true) (w : World) :
    Calls Tryz.prog 99 #[.string s] w fun e w' => e = .returned (.tuple #[.float .f64 0, .int .i64 4]) ∧ Below w.heap.size w w' := by
  go_enter Tryz.func99, Tryz.ntmps99
  go_wp2_with (first
    | (go_at_call 133; ((with_reducible refine (digits_is s n true HL.out HOK.out HTZ.out _).mono ?_)); rintro e w' ⟨rfl, rfl⟩))
  all_goals go_ret2
  all_goals exact ⟨by first | rfl | (simp; done), Below.refl _ _⟩
set_option maxRecDepth 100000 in
set_option maxHeartbeats 1600000 in
theorem rparse_p_R3 (s : ByteArray) (_n : Nat) (n1 : (s.toList == [110, 97, 110]) = false) (n2 : (s.toList == [105, 110, 102]) = false) (n3 : (s.toList == [45, 105, 110, 102]) = false) (n4 : (s.toList == [48]) = false) (n5 : (s.toList == [45, 48]) = false)
    (hs0 : 0 < s.size) (h45 : ((s[0].toNat : Int) == 45) = false) (HTZ : Hid (s.size ≤ 1000000)) (HL : Hid (leadN s.data.toList = s.size)) (HOK : Hid (okD s.data.toList = true)) (ht0 : 0 < s.size) (h48 : ((s[0].toNat : Int) == 48) = false) (w : World) :
    Calls Tryz.prog 99 #[.string s] w fun e w' => e = .returned (.tuple #[.float .f64 0, .int .i64 4]) ∧ Below w.heap.size w w' := by
  go_enter Tryz.func99, Tryz.ntmps99
  go_wp2_with (first
    | (go_at_call 133; ((with_reducible refine (digits_is s s.size true HL.out HOK.out HTZ.out _).mono ?_)); rintro e w' ⟨rfl, rfl⟩))
  all_goals go_ret2
  all_goals exact ⟨by first | rfl | (simp; done), Below.refl _ _⟩
set_option maxRecDepth 100000 in
set_option maxHeartbeats 1600000 in
theorem rparse_p_R4 (s : ByteArray) (n : Nat) (n1 : (s.toList == [110, 97, 110]) = false) (n2 : (s.toList == [105, 110, 102]) = false) (n3 : (s.toList == [45, 105, 110, 102]) = false) (n4 : (s.toList == [48]) = false) (n5 : (s.toList == [45, 48]) = false)
    (hs0 : 0 < s.size) (h45 : ((s[0].toNat : Int) == 45) = false) (HTZ : Hid (s.size ≤ 1000000)) (HL : Hid (leadN s.data.toList = n)) (HOK : Hid (okD s.data.toList = true)) (ht0 : 0 < s.size) (h48 : ((s[0].toNat : Int) == 48) = false) (hn : n < s.size) (hnne : ((n : Int) == (s.size : Int)) = false) (hp : ((s[n].toNat : Int) != 112) = true) (_hnb : (n : Int) ≤ 1000000) (w : World) :
    Calls Tryz.prog 99 #[.string s] w fun e w' => e = .returned (.tuple #[.float .f64 0, .int .i64 4]) ∧ Below w.heap.size w w' := by
  go_enter Tryz.func99, Tryz.ntmps99
  go_wp2_with (first
    | (go_at_call 133; ((with_reducible refine (digits_is s n true HL.out HOK.out HTZ.out _).mono ?_)); rintro e w' ⟨rfl, rfl⟩))
  all_goals go_ret2
  all_goals exact ⟨by first | rfl | (simp; done), Below.refl _ _⟩
set_option maxRecDepth 100000 in
set_option maxHeartbeats 1600000 in
theorem rparse_p_R5z (s m e : ByteArray) (n : Nat) (n1 : (s.toList == [110, 97, 110]) = false) (n2 : (s.toList == [105, 110, 102]) = false) (n3 : (s.toList == [45, 105, 110, 102]) = false) (n4 : (s.toList == [48]) = false) (n5 : (s.toList == [45, 48]) = false)
    (hs0 : 0 < s.size) (h45 : ((s[0].toNat : Int) == 45) = false) (HTZ : Hid (s.size ≤ 1000000)) (HL : Hid (leadN s.data.toList = n)) (HOK : Hid (okD s.data.toList = true)) (ht0 : 0 < s.size) (h48 : ((s[0].toNat : Int) == 48) = false) (hn : n < s.size) (hnne : ((n : Int) == (s.size : Int)) = false) (hp : ((s[n].toNat : Int) != 112) = false) (hnb : (n : Int) ≤ 1000000) (c2 : (n : Int) ≤ (s.size : Int)) (_c4 : (n : Int) + 1 ≤ (s.size : Int)) (hm : s.extract 0 n = m) (he : s.extract (n + 1) s.size = e) (hez : e.size = 0) (HEZ : Hid (e.size ≤ 1000000)) (HLE : Hid (leadN e.data.toList = 0)) (HOE : Hid (okD e.data.toList = false)) (w : World) :
    Calls Tryz.prog 99 #[.string s] w fun e w' => e = .returned (.tuple #[.float .f64 0, .int .i64 4]) ∧ Below w.heap.size w w' := by
  go_enter Tryz.func99, Tryz.ntmps99
  go_wp2_with (first
    | (go_at_call 133; first
        | ((with_reducible refine (digits_is s n true HL.out HOK.out HTZ.out _).mono ?_); rintro e w' ⟨rfl, rfl⟩)
        | ((with_reducible refine (digits_is e 0 false HLE.out HOE.out HEZ.out _).mono ?_); rintro e w' ⟨rfl, rfl⟩)))
  all_goals go_ret2
  all_goals exact ⟨by first | rfl | (simp; done), Below.refl _ _⟩
set_option maxRecDepth 100000 in
set_option maxHeartbeats 1600000 in
theorem rparse_p_b_R5a (s m e e2 : ByteArray) (n k : Nat) (n1 : (s.toList == [110, 97, 110]) = false) (n2 : (s.toList == [105, 110, 102]) = false) (n3 : (s.toList == [45, 105, 110, 102]) = false) (n4 : (s.toList == [48]) = false) (n5 : (s.toList == [45, 48]) = false)
    (hs0 : 0 < s.size) (h45 : ((s[0].toNat : Int) == 45) = false) (HTZ : Hid (s.size ≤ 1000000)) (HL : Hid (leadN s.data.toList = n)) (HOK : Hid (okD s.data.toList = true)) (ht0 : 0 < s.size) (h48 : ((s[0].toNat : Int) == 48) = false) (hn : n < s.size) (hnne : ((n : Int) == (s.size : Int)) = false) (hp : ((s[n].toNat : Int) != 112) = false) (hnb : (n : Int) ≤ 1000000) (c2 : (n : Int) ≤ (s.size : Int)) (_c4 : (n : Int) + 1 ≤ (s.size : Int)) (hm : s.extract 0 n = m) (he : s.extract (n + 1) s.size = e) (he0 : 0 < e.size) (hb45 : ((e[0].toNat : Int) == 45) = true) (hex2 : e.extract 1 e.size = e2) (HEZ : Hid (e2.size ≤ 1000000)) (HLE : Hid (leadN e2.data.toList = k)) (HOE : Hid (okD e2.data.toList = false)) (w : World) :
    Calls Tryz.prog 99 #[.string s] w fun e w' => e = .returned (.tuple #[.float .f64 0, .int .i64 4]) ∧ Below w.heap.size w w' := by
  go_enter Tryz.func99, Tryz.ntmps99
  go_wp2_with (first
    | (go_at_call 133; first
        | ((with_reducible refine (digits_is s n true HL.out HOK.out HTZ.out _).mono ?_); rintro e w' ⟨rfl, rfl⟩)
        | ((with_reducible refine (digits_is e2 k false HLE.out HOE.out HEZ.out _).mono ?_); rintro e w' ⟨rfl, rfl⟩)))
  all_goals go_ret2
  all_goals exact ⟨by first | rfl | (simp; done), Below.refl _ _⟩
set_option maxRecDepth 100000 in
set_option maxHeartbeats 1600000 in
theorem rparse_p_b_R5b (s m e e2 : ByteArray) (n k : Nat) (n1 : (s.toList == [110, 97, 110]) = false) (n2 : (s.toList == [105, 110, 102]) = false) (n3 : (s.toList == [45, 105, 110, 102]) = false) (n4 : (s.toList == [48]) = false) (n5 : (s.toList == [45, 48]) = false)
    (hs0 : 0 < s.size) (h45 : ((s[0].toNat : Int) == 45) = false) (HTZ : Hid (s.size ≤ 1000000)) (HL : Hid (leadN s.data.toList = n)) (HOK : Hid (okD s.data.toList = true)) (ht0 : 0 < s.size) (h48 : ((s[0].toNat : Int) == 48) = false) (hn : n < s.size) (hnne : ((n : Int) == (s.size : Int)) = false) (hp : ((s[n].toNat : Int) != 112) = false) (hnb : (n : Int) ≤ 1000000) (c2 : (n : Int) ≤ (s.size : Int)) (_c4 : (n : Int) + 1 ≤ (s.size : Int)) (hm : s.extract 0 n = m) (he : s.extract (n + 1) s.size = e) (he0 : 0 < e.size) (hb45 : ((e[0].toNat : Int) == 45) = true) (hex2 : e.extract 1 e.size = e2) (HEZ : Hid (e2.size ≤ 1000000)) (HLE : Hid (leadN e2.data.toList = k)) (HOE : Hid (okD e2.data.toList = true)) (hke : ((k : Int) != (e2.size : Int)) = true) (w : World) :
    Calls Tryz.prog 99 #[.string s] w fun e w' => e = .returned (.tuple #[.float .f64 0, .int .i64 4]) ∧ Below w.heap.size w w' := by
  go_enter Tryz.func99, Tryz.ntmps99
  go_wp2_with (first
    | (go_at_call 133; first
        | ((with_reducible refine (digits_is s n true HL.out HOK.out HTZ.out _).mono ?_); rintro e w' ⟨rfl, rfl⟩)
        | ((with_reducible refine (digits_is e2 k true HLE.out HOE.out HEZ.out _).mono ?_); rintro e w' ⟨rfl, rfl⟩)))
  all_goals go_ret2
  all_goals exact ⟨by first | rfl | (simp; done), Below.refl _ _⟩
set_option maxRecDepth 100000 in
set_option maxHeartbeats 1600000 in
theorem rparse_p_b_R5c (s m e e2 : ByteArray) (n : Nat) (n1 : (s.toList == [110, 97, 110]) = false) (n2 : (s.toList == [105, 110, 102]) = false) (n3 : (s.toList == [45, 105, 110, 102]) = false) (n4 : (s.toList == [48]) = false) (n5 : (s.toList == [45, 48]) = false)
    (hs0 : 0 < s.size) (h45 : ((s[0].toNat : Int) == 45) = false) (HTZ : Hid (s.size ≤ 1000000)) (HL : Hid (leadN s.data.toList = n)) (HOK : Hid (okD s.data.toList = true)) (ht0 : 0 < s.size) (h48 : ((s[0].toNat : Int) == 48) = false) (hn : n < s.size) (hnne : ((n : Int) == (s.size : Int)) = false) (hp : ((s[n].toNat : Int) != 112) = false) (hnb : (n : Int) ≤ 1000000) (c2 : (n : Int) ≤ (s.size : Int)) (_c4 : (n : Int) + 1 ≤ (s.size : Int)) (hm : s.extract 0 n = m) (he : s.extract (n + 1) s.size = e) (he0 : 0 < e.size) (hb45 : ((e[0].toNat : Int) == 45) = true) (hex2 : e.extract 1 e.size = e2) (HEZ : Hid (e2.size ≤ 1000000)) (HLE : Hid (leadN e2.data.toList = e2.size)) (HOE : Hid (okD e2.data.toList = true)) (he48 : (e2.toList == [48]) = true) (w : World) :
    Calls Tryz.prog 99 #[.string s] w fun e w' => e = .returned (.tuple #[.float .f64 0, .int .i64 4]) ∧ Below w.heap.size w w' := by
  go_enter Tryz.func99, Tryz.ntmps99
  go_wp2_with (first
    | (go_at_call 133; first
        | ((with_reducible refine (digits_is s n true HL.out HOK.out HTZ.out _).mono ?_); rintro e w' ⟨rfl, rfl⟩)
        | ((with_reducible refine (digits_is e2 e2.size true HLE.out HOE.out HEZ.out _).mono ?_); rintro e w' ⟨rfl, rfl⟩)))
  all_goals go_ret2
  all_goals exact ⟨by first | rfl | (simp; done), Below.refl _ _⟩
set_option maxRecDepth 100000 in
set_option maxHeartbeats 1600000 in
theorem rparse_p_b_R6m (s m e e2 : ByteArray) (n : Nat) (n1 : (s.toList == [110, 97, 110]) = false) (n2 : (s.toList == [105, 110, 102]) = false) (n3 : (s.toList == [45, 105, 110, 102]) = false) (n4 : (s.toList == [48]) = false) (n5 : (s.toList == [45, 48]) = false)
    (hs0 : 0 < s.size) (h45 : ((s[0].toNat : Int) == 45) = false) (HTZ : Hid (s.size ≤ 1000000)) (HL : Hid (leadN s.data.toList = n)) (HOK : Hid (okD s.data.toList = true)) (ht0 : 0 < s.size) (h48 : ((s[0].toNat : Int) == 48) = false) (hn : n < s.size) (hnne : ((n : Int) == (s.size : Int)) = false) (hp : ((s[n].toNat : Int) != 112) = false) (hnb : (n : Int) ≤ 1000000) (c2 : (n : Int) ≤ (s.size : Int)) (_c4 : (n : Int) + 1 ≤ (s.size : Int)) (hm : s.extract 0 n = m) (he : s.extract (n + 1) s.size = e) (he0 : 0 < e.size) (hb45 : ((e[0].toNat : Int) == 45) = true) (hex2 : e.extract 1 e.size = e2) (HEZ : Hid (e2.size ≤ 1000000)) (HLE : Hid (leadN e2.data.toList = e2.size)) (HOE : Hid (okD e2.data.toList = true)) (he48 : (e2.toList == [48]) = false) (hm17 : 17 < m.size) (w : World) :
    Calls Tryz.prog 99 #[.string s] w fun e w' => e = .returned (.tuple #[.float .f64 0, .int .i64 1]) ∧ Below w.heap.size w w' := by
  go_enter Tryz.func99, Tryz.ntmps99
  go_wp2_with (first
    | (go_at_call 133; first
        | ((with_reducible refine (digits_is s n true HL.out HOK.out HTZ.out _).mono ?_); rintro e w' ⟨rfl, rfl⟩)
        | ((with_reducible refine (digits_is e2 e2.size true HLE.out HOE.out HEZ.out _).mono ?_); rintro e w' ⟨rfl, rfl⟩)))
  all_goals go_ret2
  all_goals exact ⟨by first | rfl | (simp; done), Below.refl _ _⟩
set_option maxRecDepth 100000 in
set_option maxHeartbeats 1600000 in
theorem rparse_p_b_R6e (s m e e2 : ByteArray) (n : Nat) (n1 : (s.toList == [110, 97, 110]) = false) (n2 : (s.toList == [105, 110, 102]) = false) (n3 : (s.toList == [45, 105, 110, 102]) = false) (n4 : (s.toList == [48]) = false) (n5 : (s.toList == [45, 48]) = false)
    (hs0 : 0 < s.size) (h45 : ((s[0].toNat : Int) == 45) = false) (HTZ : Hid (s.size ≤ 1000000)) (HL : Hid (leadN s.data.toList = n)) (HOK : Hid (okD s.data.toList = true)) (ht0 : 0 < s.size) (h48 : ((s[0].toNat : Int) == 48) = false) (hn : n < s.size) (hnne : ((n : Int) == (s.size : Int)) = false) (hp : ((s[n].toNat : Int) != 112) = false) (hnb : (n : Int) ≤ 1000000) (c2 : (n : Int) ≤ (s.size : Int)) (_c4 : (n : Int) + 1 ≤ (s.size : Int)) (hm : s.extract 0 n = m) (he : s.extract (n + 1) s.size = e) (he0 : 0 < e.size) (hb45 : ((e[0].toNat : Int) == 45) = true) (hex2 : e.extract 1 e.size = e2) (HEZ : Hid (e2.size ≤ 1000000)) (HLE : Hid (leadN e2.data.toList = e2.size)) (HOE : Hid (okD e2.data.toList = true)) (he48 : (e2.toList == [48]) = false) (hm17 : ¬ 17 < m.size) (he5 : 5 < e2.size) (w : World) :
    Calls Tryz.prog 99 #[.string s] w fun e w' => e = .returned (.tuple #[.float .f64 0, .int .i64 1]) ∧ Below w.heap.size w w' := by
  go_enter Tryz.func99, Tryz.ntmps99
  go_wp2_with (first
    | (go_at_call 133; first
        | ((with_reducible refine (digits_is s n true HL.out HOK.out HTZ.out _).mono ?_); rintro e w' ⟨rfl, rfl⟩)
        | ((with_reducible refine (digits_is e2 e2.size true HLE.out HOE.out HEZ.out _).mono ?_); rintro e w' ⟨rfl, rfl⟩)))
  all_goals go_ret2
  all_goals exact ⟨by first | rfl | (simp; done), Below.refl _ _⟩
set_option maxRecDepth 100000 in
set_option maxHeartbeats 1600000 in
theorem rparse_p_b_R7f (s m e e2 : ByteArray) (n nv pv r : Nat) (n1 : (s.toList == [110, 97, 110]) = false) (n2 : (s.toList == [105, 110, 102]) = false) (n3 : (s.toList == [45, 105, 110, 102]) = false) (n4 : (s.toList == [48]) = false) (n5 : (s.toList == [45, 48]) = false)
    (hs0 : 0 < s.size) (h45 : ((s[0].toNat : Int) == 45) = false) (HTZ : Hid (s.size ≤ 1000000)) (HL : Hid (leadN s.data.toList = n)) (HOK : Hid (okD s.data.toList = true)) (ht0 : 0 < s.size) (h48 : ((s[0].toNat : Int) == 48) = false) (hn : n < s.size) (hnne : ((n : Int) == (s.size : Int)) = false) (hp : ((s[n].toNat : Int) != 112) = false) (hnb : (n : Int) ≤ 1000000) (c2 : (n : Int) ≤ (s.size : Int)) (_c4 : (n : Int) + 1 ≤ (s.size : Int)) (hm : s.extract 0 n = m) (he : s.extract (n + 1) s.size = e) (he0 : 0 < e.size) (hb45 : ((e[0].toNat : Int) == 45) = true) (hex2 : e.extract 1 e.size = e2) (HEZ : Hid (e2.size ≤ 1000000)) (HLE : Hid (leadN e2.data.toList = e2.size)) (HOE : Hid (okD e2.data.toList = true)) (he48 : (e2.toList == [48]) = false) (hm17 : ¬ 17 < m.size) (he5 : ¬ 5 < e2.size) (HM17 : Hid (m.size ≤ 17)) (HE17 : Hid (e2.size ≤ 17)) (HMV : Hid (valN m.data.toList = nv)) (HEV : Hid (valN e2.data.toList = pv)) (HMD : Hid (m.data.toList.all digB = true)) (HED : Hid (e2.data.toList.all digB = true)) (hpv : (pv : Int) ≤ 99999) (HLD : Hid (∀ w, Calls Tryz.prog 170 #[.float .f64 (floatOfInt .f64 (nv : Int)), .int .i64 (-(pv : Int))] w fun e w' => e = .returned (.float .f64 r) ∧ w = w')) (HX : Hid (r < 18446744073709551616)) (HTX : Hid (textN r = s.data.toList)) (w : World) :
    Calls Tryz.prog 99 #[.string s] w fun e w' => e = .returned (.tuple #[.float .f64 r, .int .i64 0]) ∧ Below w.heap.size w w' := by
  go_enter Tryz.func99, Tryz.ntmps99
  go_wp2_with (first
    | (go_at_call 133; first
        | ((with_reducible refine (digits_is s n true HL.out HOK.out HTZ.out _).mono ?_); rintro e w' ⟨rfl, rfl⟩)
        | ((with_reducible refine (digits_is e2 e2.size true HLE.out HOE.out HEZ.out _).mono ?_); rintro e w' ⟨rfl, rfl⟩))
    | (go_at_call 106; ((with_reducible refine (rprint_is r s HTX.out HX.out _).mono ?_)); rintro e w1 ⟨rfl, hb1⟩; have HB1 := Lib.hid hb1; clear hb1)
    | (go_at_call 134; first
        | ((with_reducible refine (number_is m nv HMV.out HM17.out HMD.out _).mono ?_); rintro e w' ⟨rfl, rfl⟩)
        | ((with_reducible refine (number_is e2 pv HEV.out HE17.out HED.out _).mono ?_); rintro e w' ⟨rfl, rfl⟩))
    | (go_at_call 135; ((with_reducible refine (mldexp _ _ r HLD.out _).mono ?_)); rintro e w' ⟨rfl, rfl⟩))
  all_goals go_ret2
  all_goals exact ⟨by first | rfl | (simp; done), HB1.out⟩
set_option maxRecDepth 100000 in
set_option maxHeartbeats 1600000 in
theorem rparse_p_b_R7n (s m e e2 tx : ByteArray) (n nv pv r : Nat) (n1 : (s.toList == [110, 97, 110]) = false) (n2 : (s.toList == [105, 110, 102]) = false) (n3 : (s.toList == [45, 105, 110, 102]) = false) (n4 : (s.toList == [48]) = false) (n5 : (s.toList == [45, 48]) = false)
    (hs0 : 0 < s.size) (h45 : ((s[0].toNat : Int) == 45) = false) (HTZ : Hid (s.size ≤ 1000000)) (HL : Hid (leadN s.data.toList = n)) (HOK : Hid (okD s.data.toList = true)) (ht0 : 0 < s.size) (h48 : ((s[0].toNat : Int) == 48) = false) (hn : n < s.size) (hnne : ((n : Int) == (s.size : Int)) = false) (hp : ((s[n].toNat : Int) != 112) = false) (hnb : (n : Int) ≤ 1000000) (c2 : (n : Int) ≤ (s.size : Int)) (_c4 : (n : Int) + 1 ≤ (s.size : Int)) (hm : s.extract 0 n = m) (he : s.extract (n + 1) s.size = e) (he0 : 0 < e.size) (hb45 : ((e[0].toNat : Int) == 45) = true) (hex2 : e.extract 1 e.size = e2) (HEZ : Hid (e2.size ≤ 1000000)) (HLE : Hid (leadN e2.data.toList = e2.size)) (HOE : Hid (okD e2.data.toList = true)) (he48 : (e2.toList == [48]) = false) (hm17 : ¬ 17 < m.size) (he5 : ¬ 5 < e2.size) (HM17 : Hid (m.size ≤ 17)) (HE17 : Hid (e2.size ≤ 17)) (HMV : Hid (valN m.data.toList = nv)) (HEV : Hid (valN e2.data.toList = pv)) (HMD : Hid (m.data.toList.all digB = true)) (HED : Hid (e2.data.toList.all digB = true)) (hpv : (pv : Int) ≤ 99999) (HLD : Hid (∀ w, Calls Tryz.prog 170 #[.float .f64 (floatOfInt .f64 (nv : Int)), .int .i64 (-(pv : Int))] w fun e w' => e = .returned (.float .f64 r) ∧ w = w')) (HX : Hid (r < 18446744073709551616)) (HTX : Hid (textN r = tx.data.toList)) (hne : (tx.toList == s.toList) = false) (w : World) :
    Calls Tryz.prog 99 #[.string s] w fun e w' => e = .returned (.tuple #[.float .f64 0, .int .i64 1]) ∧ Below w.heap.size w w' := by
  go_enter Tryz.func99, Tryz.ntmps99
  go_wp2_with (first
    | (go_at_call 133; first
        | ((with_reducible refine (digits_is s n true HL.out HOK.out HTZ.out _).mono ?_); rintro e w' ⟨rfl, rfl⟩)
        | ((with_reducible refine (digits_is e2 e2.size true HLE.out HOE.out HEZ.out _).mono ?_); rintro e w' ⟨rfl, rfl⟩))
    | (go_at_call 106; ((with_reducible refine (rprint_is r tx HTX.out HX.out _).mono ?_)); rintro e w1 ⟨rfl, hb1⟩; have HB1 := Lib.hid hb1; clear hb1)
    | (go_at_call 134; first
        | ((with_reducible refine (number_is m nv HMV.out HM17.out HMD.out _).mono ?_); rintro e w' ⟨rfl, rfl⟩)
        | ((with_reducible refine (number_is e2 pv HEV.out HE17.out HED.out _).mono ?_); rintro e w' ⟨rfl, rfl⟩))
    | (go_at_call 135; ((with_reducible refine (mldexp _ _ r HLD.out _).mono ?_)); rintro e w' ⟨rfl, rfl⟩))
  all_goals go_ret2
  all_goals exact ⟨by first | rfl | (simp; done), HB1.out⟩
set_option maxRecDepth 100000 in
set_option maxHeartbeats 1600000 in
theorem rparse_p_a_R5a (s m e : ByteArray) (n k : Nat) (n1 : (s.toList == [110, 97, 110]) = false) (n2 : (s.toList == [105, 110, 102]) = false) (n3 : (s.toList == [45, 105, 110, 102]) = false) (n4 : (s.toList == [48]) = false) (n5 : (s.toList == [45, 48]) = false)
    (hs0 : 0 < s.size) (h45 : ((s[0].toNat : Int) == 45) = false) (HTZ : Hid (s.size ≤ 1000000)) (HL : Hid (leadN s.data.toList = n)) (HOK : Hid (okD s.data.toList = true)) (ht0 : 0 < s.size) (h48 : ((s[0].toNat : Int) == 48) = false) (hn : n < s.size) (hnne : ((n : Int) == (s.size : Int)) = false) (hp : ((s[n].toNat : Int) != 112) = false) (hnb : (n : Int) ≤ 1000000) (c2 : (n : Int) ≤ (s.size : Int)) (_c4 : (n : Int) + 1 ≤ (s.size : Int)) (hm : s.extract 0 n = m) (he : s.extract (n + 1) s.size = e) (he0 : 0 < e.size) (hb45 : ((e[0].toNat : Int) == 45) = false) (HEZ : Hid (e.size ≤ 1000000)) (HLE : Hid (leadN e.data.toList = k)) (HOE : Hid (okD e.data.toList = false)) (w : World) :
    Calls Tryz.prog 99 #[.string s] w fun e w' => e = .returned (.tuple #[.float .f64 0, .int .i64 4]) ∧ Below w.heap.size w w' := by
  go_enter Tryz.func99, Tryz.ntmps99
  go_wp2_with (first
    | (go_at_call 133; first
        | ((with_reducible refine (digits_is s n true HL.out HOK.out HTZ.out _).mono ?_); rintro e w' ⟨rfl, rfl⟩)
        | ((with_reducible refine (digits_is e k false HLE.out HOE.out HEZ.out _).mono ?_); rintro e w' ⟨rfl, rfl⟩)))
  all_goals go_ret2
  all_goals exact ⟨by first | rfl | (simp; done), Below.refl _ _⟩
set_option maxRecDepth 100000 in
set_option maxHeartbeats 1600000 in
theorem rparse_p_a_R5b (s m e : ByteArray) (n k : Nat) (n1 : (s.toList == [110, 97, 110]) = false) (n2 : (s.toList == [105, 110, 102]) = false) (n3 : (s.toList == [45, 105, 110, 102]) = false) (n4 : (s.toList == [48]) = false) (n5 : (s.toList == [45, 48]) = false)
    (hs0 : 0 < s.size) (h45 : ((s[0].toNat : Int) == 45) = false) (HTZ : Hid (s.size ≤ 1000000)) (HL : Hid (leadN s.data.toList = n)) (HOK : Hid (okD s.data.toList = true)) (ht0 : 0 < s.size) (h48 : ((s[0].toNat : Int) == 48) = false) (hn : n < s.size) (hnne : ((n : Int) == (s.size : Int)) = false) (hp : ((s[n].toNat : Int) != 112) = false) (hnb : (n : Int) ≤ 1000000) (c2 : (n : Int) ≤ (s.size : Int)) (_c4 : (n : Int) + 1 ≤ (s.size : Int)) (hm : s.extract 0 n = m) (he : s.extract (n + 1) s.size = e) (he0 : 0 < e.size) (hb45 : ((e[0].toNat : Int) == 45) = false) (HEZ : Hid (e.size ≤ 1000000)) (HLE : Hid (leadN e.data.toList = k)) (HOE : Hid (okD e.data.toList = true)) (hke : ((k : Int) != (e.size : Int)) = true) (w : World) :
    Calls Tryz.prog 99 #[.string s] w fun e w' => e = .returned (.tuple #[.float .f64 0, .int .i64 4]) ∧ Below w.heap.size w w' := by
  go_enter Tryz.func99, Tryz.ntmps99
  go_wp2_with (first
    | (go_at_call 133; first
        | ((with_reducible refine (digits_is s n true HL.out HOK.out HTZ.out _).mono ?_); rintro e w' ⟨rfl, rfl⟩)
        | ((with_reducible refine (digits_is e k true HLE.out HOE.out HEZ.out _).mono ?_); rintro e w' ⟨rfl, rfl⟩)))
  all_goals go_ret2
  all_goals exact ⟨by first | rfl | (simp; done), Below.refl _ _⟩
set_option maxRecDepth 100000 in
set_option maxHeartbeats 1600000 in
theorem rparse_p_a_R6m (s m e : ByteArray) (n : Nat) (n1 : (s.toList == [110, 97, 110]) = false) (n2 : (s.toList == [105, 110, 102]) = false) (n3 : (s.toList == [45, 105, 110, 102]) = false) (n4 : (s.toList == [48]) = false) (n5 : (s.toList == [45, 48]) = false)
    (hs0 : 0 < s.size) (h45 : ((s[0].toNat : Int) == 45) = false) (HTZ : Hid (s.size ≤ 1000000)) (HL : Hid (leadN s.data.toList = n)) (HOK : Hid (okD s.data.toList = true)) (ht0 : 0 < s.size) (h48 : ((s[0].toNat : Int) == 48) = false) (hn : n < s.size) (hnne : ((n : Int) == (s.size : Int)) = false) (hp : ((s[n].toNat : Int) != 112) = false) (hnb : (n : Int) ≤ 1000000) (c2 : (n : Int) ≤ (s.size : Int)) (_c4 : (n : Int) + 1 ≤ (s.size : Int)) (hm : s.extract 0 n = m) (he : s.extract (n + 1) s.size = e) (he0 : 0 < e.size) (hb45 : ((e[0].toNat : Int) == 45) = false) (HEZ : Hid (e.size ≤ 1000000)) (HLE : Hid (leadN e.data.toList = e.size)) (HOE : Hid (okD e.data.toList = true)) (hm17 : 17 < m.size) (w : World) :
    Calls Tryz.prog 99 #[.string s] w fun e w' => e = .returned (.tuple #[.float .f64 0, .int .i64 1]) ∧ Below w.heap.size w w' := by
  go_enter Tryz.func99, Tryz.ntmps99
  go_wp2_with (first
    | (go_at_call 133; first
        | ((with_reducible refine (digits_is s n true HL.out HOK.out HTZ.out _).mono ?_); rintro e w' ⟨rfl, rfl⟩)
        | ((with_reducible refine (digits_is e e.size true HLE.out HOE.out HEZ.out _).mono ?_); rintro e w' ⟨rfl, rfl⟩)))
  all_goals go_ret2
  all_goals exact ⟨by first | rfl | (simp; done), Below.refl _ _⟩
set_option maxRecDepth 100000 in
set_option maxHeartbeats 1600000 in
theorem rparse_p_a_R6e (s m e : ByteArray) (n : Nat) (n1 : (s.toList == [110, 97, 110]) = false) (n2 : (s.toList == [105, 110, 102]) = false) (n3 : (s.toList == [45, 105, 110, 102]) = false) (n4 : (s.toList == [48]) = false) (n5 : (s.toList == [45, 48]) = false)
    (hs0 : 0 < s.size) (h45 : ((s[0].toNat : Int) == 45) = false) (HTZ : Hid (s.size ≤ 1000000)) (HL : Hid (leadN s.data.toList = n)) (HOK : Hid (okD s.data.toList = true)) (ht0 : 0 < s.size) (h48 : ((s[0].toNat : Int) == 48) = false) (hn : n < s.size) (hnne : ((n : Int) == (s.size : Int)) = false) (hp : ((s[n].toNat : Int) != 112) = false) (hnb : (n : Int) ≤ 1000000) (c2 : (n : Int) ≤ (s.size : Int)) (_c4 : (n : Int) + 1 ≤ (s.size : Int)) (hm : s.extract 0 n = m) (he : s.extract (n + 1) s.size = e) (he0 : 0 < e.size) (hb45 : ((e[0].toNat : Int) == 45) = false) (HEZ : Hid (e.size ≤ 1000000)) (HLE : Hid (leadN e.data.toList = e.size)) (HOE : Hid (okD e.data.toList = true)) (hm17 : ¬ 17 < m.size) (he5 : 5 < e.size) (w : World) :
    Calls Tryz.prog 99 #[.string s] w fun e w' => e = .returned (.tuple #[.float .f64 0, .int .i64 1]) ∧ Below w.heap.size w w' := by
  go_enter Tryz.func99, Tryz.ntmps99
  go_wp2_with (first
    | (go_at_call 133; first
        | ((with_reducible refine (digits_is s n true HL.out HOK.out HTZ.out _).mono ?_); rintro e w' ⟨rfl, rfl⟩)
        | ((with_reducible refine (digits_is e e.size true HLE.out HOE.out HEZ.out _).mono ?_); rintro e w' ⟨rfl, rfl⟩)))
  all_goals go_ret2
  all_goals exact ⟨by first | rfl | (simp; done), Below.refl _ _⟩
set_option maxRecDepth 100000 in
set_option maxHeartbeats 1600000 in
theorem rparse_p_a_R7f (s m e : ByteArray) (n nv pv r : Nat) (n1 : (s.toList == [110, 97, 110]) = false) (n2 : (s.toList == [105, 110, 102]) = false) (n3 : (s.toList == [45, 105, 110, 102]) = false) (n4 : (s.toList == [48]) = false) (n5 : (s.toList == [45, 48]) = false)
    (hs0 : 0 < s.size) (h45 : ((s[0].toNat : Int) == 45) = false) (HTZ : Hid (s.size ≤ 1000000)) (HL : Hid (leadN s.data.toList = n)) (HOK : Hid (okD s.data.toList = true)) (ht0 : 0 < s.size) (h48 : ((s[0].toNat : Int) == 48) = false) (hn : n < s.size) (hnne : ((n : Int) == (s.size : Int)) = false) (hp : ((s[n].toNat : Int) != 112) = false) (hnb : (n : Int) ≤ 1000000) (c2 : (n : Int) ≤ (s.size : Int)) (_c4 : (n : Int) + 1 ≤ (s.size : Int)) (hm : s.extract 0 n = m) (he : s.extract (n + 1) s.size = e) (he0 : 0 < e.size) (hb45 : ((e[0].toNat : Int) == 45) = false) (HEZ : Hid (e.size ≤ 1000000)) (HLE : Hid (leadN e.data.toList = e.size)) (HOE : Hid (okD e.data.toList = true)) (hm17 : ¬ 17 < m.size) (he5 : ¬ 5 < e.size) (HM17 : Hid (m.size ≤ 17)) (HE17 : Hid (e.size ≤ 17)) (HMV : Hid (valN m.data.toList = nv)) (HEV : Hid (valN e.data.toList = pv)) (HMD : Hid (m.data.toList.all digB = true)) (HED : Hid (e.data.toList.all digB = true)) (_hpv : (pv : Int) ≤ 99999) (HLD : Hid (∀ w, Calls Tryz.prog 170 #[.float .f64 (floatOfInt .f64 (nv : Int)), .int .i64 ((pv : Int))] w fun e w' => e = .returned (.float .f64 r) ∧ w = w')) (HX : Hid (r < 18446744073709551616)) (HTX : Hid (textN r = s.data.toList)) (w : World) :
    Calls Tryz.prog 99 #[.string s] w fun e w' => e = .returned (.tuple #[.float .f64 r, .int .i64 0]) ∧ Below w.heap.size w w' := by
  go_enter Tryz.func99, Tryz.ntmps99
  go_wp2_with (first
    | (go_at_call 133; first
        | ((with_reducible refine (digits_is s n true HL.out HOK.out HTZ.out _).mono ?_); rintro e w' ⟨rfl, rfl⟩)
        | ((with_reducible refine (digits_is e e.size true HLE.out HOE.out HEZ.out _).mono ?_); rintro e w' ⟨rfl, rfl⟩))
    | (go_at_call 106; ((with_reducible refine (rprint_is r s HTX.out HX.out _).mono ?_)); rintro e w1 ⟨rfl, hb1⟩; have HB1 := Lib.hid hb1; clear hb1)
    | (go_at_call 134; first
        | ((with_reducible refine (number_is m nv HMV.out HM17.out HMD.out _).mono ?_); rintro e w' ⟨rfl, rfl⟩)
        | ((with_reducible refine (number_is e pv HEV.out HE17.out HED.out _).mono ?_); rintro e w' ⟨rfl, rfl⟩))
    | (go_at_call 135; ((with_reducible refine (mldexp _ _ r HLD.out _).mono ?_)); rintro e w' ⟨rfl, rfl⟩))
  all_goals go_ret2
  all_goals exact ⟨by first | rfl | (simp; done), HB1.out⟩
set_option maxRecDepth 100000 in
set_option maxHeartbeats 1600000 in
theorem rparse_p_a_R7n (s m e tx : ByteArray) (n nv pv r : Nat) (n1 : (s.toList == [110, 97, 110]) = false) (n2 : (s.toList == [105, 110, 102]) = false) (n3 : (s.toList == [45, 105, 110, 102]) = false) (n4 : (s.toList == [48]) = false) (n5 : (s.toList == [45, 48]) = false)
    (hs0 : 0 < s.size) (h45 : ((s[0].toNat : Int) == 45) = false) (HTZ : Hid (s.size ≤ 1000000)) (HL : Hid (leadN s.data.toList = n)) (HOK : Hid (okD s.data.toList = true)) (ht0 : 0 < s.size) (h48 : ((s[0].toNat : Int) == 48) = false) (hn : n < s.size) (hnne : ((n : Int) == (s.size : Int)) = false) (hp : ((s[n].toNat : Int) != 112) = false) (hnb : (n : Int) ≤ 1000000) (c2 : (n : Int) ≤ (s.size : Int)) (_c4 : (n : Int) + 1 ≤ (s.size : Int)) (hm : s.extract 0 n = m) (he : s.extract (n + 1) s.size = e) (he0 : 0 < e.size) (hb45 : ((e[0].toNat : Int) == 45) = false) (HEZ : Hid (e.size ≤ 1000000)) (HLE : Hid (leadN e.data.toList = e.size)) (HOE : Hid (okD e.data.toList = true)) (hm17 : ¬ 17 < m.size) (he5 : ¬ 5 < e.size) (HM17 : Hid (m.size ≤ 17)) (HE17 : Hid (e.size ≤ 17)) (HMV : Hid (valN m.data.toList = nv)) (HEV : Hid (valN e.data.toList = pv)) (HMD : Hid (m.data.toList.all digB = true)) (HED : Hid (e.data.toList.all digB = true)) (_hpv : (pv : Int) ≤ 99999) (HLD : Hid (∀ w, Calls Tryz.prog 170 #[.float .f64 (floatOfInt .f64 (nv : Int)), .int .i64 ((pv : Int))] w fun e w' => e = .returned (.float .f64 r) ∧ w = w')) (HX : Hid (r < 18446744073709551616)) (HTX : Hid (textN r = tx.data.toList)) (hne : (tx.toList == s.toList) = false) (w : World) :
    Calls Tryz.prog 99 #[.string s] w fun e w' => e = .returned (.tuple #[.float .f64 0, .int .i64 1]) ∧ Below w.heap.size w w' := by
  go_enter Tryz.func99, Tryz.ntmps99
  go_wp2_with (first
    | (go_at_call 133; first
        | ((with_reducible refine (digits_is s n true HL.out HOK.out HTZ.out _).mono ?_); rintro e w' ⟨rfl, rfl⟩)
        | ((with_reducible refine (digits_is e e.size true HLE.out HOE.out HEZ.out _).mono ?_); rintro e w' ⟨rfl, rfl⟩))
    | (go_at_call 106; ((with_reducible refine (rprint_is r tx HTX.out HX.out _).mono ?_)); rintro e w1 ⟨rfl, hb1⟩; have HB1 := Lib.hid hb1; clear hb1)
    | (go_at_call 134; first
        | ((with_reducible refine (number_is m nv HMV.out HM17.out HMD.out _).mono ?_); rintro e w' ⟨rfl, rfl⟩)
        | ((with_reducible refine (number_is e pv HEV.out HE17.out HED.out _).mono ?_); rintro e w' ⟨rfl, rfl⟩))
    | (go_at_call 135; ((with_reducible refine (mldexp _ _ r HLD.out _).mono ?_)); rintro e w' ⟨rfl, rfl⟩))
  all_goals go_ret2
  all_goals exact ⟨by first | rfl | (simp; done), HB1.out⟩
end Go.Proofs.YtbgccaconhmbaaaGreatDoor
namespace Go.Proofs.YtbgccaconhmbaaaGreatDoor
open Go.RowKit Go.Lib

theorem lead_append (a k : List UInt8) (ha : a.all digB = true) : leadN (a ++ 112 :: k) = a.length := by
  refine lead_eq _ _ (by simp) ?_ (.inr ?_)
  · rw [List.take_left' rfl]; exact ha
  · have : (a ++ 112 :: k).getD a.length 0 = 112 := by simp [List.getD]
    rw [this]; rfl
theorem cnt_parts {a : List UInt8} (h : cntB a = true) : ∃ c t, a = c :: t ∧ c ≠ 48 ∧ (c :: t).all digB = true := by
  cases a with
  | nil => cases h
  | cons c t =>
    simp only [cntB, Bool.and_eq_true] at h
    exact ⟨c, t, rfl, by simpa using h.1, h.2⟩
theorem cnt_of {c : UInt8} {t : List UInt8} (h : c ≠ 48) (ha : (c :: t).all digB = true) : cntB (c :: t) = true := by
  show (c != 48 && (c :: t).all digB) = true
  rw [ha]; simp [h]
/-- What a cut that is found, with a number ahead of it, says of the digits that stand at the beginning. -/
theorem lead_form {a k : List UInt8} (h : cntB a = true) : leadN (a ++ 112 :: k) = a.length ∧ okD (a ++ 112 :: k) = true ∧ (a ++ 112 :: k).getD 0 0 ≠ 48 ∧ 0 < a.length := by
  obtain ⟨c, t, rfl, hc, ha⟩ := cnt_parts h
  have hl := lead_append (c :: t) k ha
  have h0 : ((c :: t) ++ 112 :: k).getD 0 0 = c := by simp
  have hp : 0 < (c :: t).length := by simp
  exact ⟨hl, okD_ne hl hp (by rw [h0]; exact hc), by rw [h0]; exact hc, hp⟩
theorem take_lead (l : List UInt8) : (l.take (leadN l)).all digB = true := by
  unfold leadN
  induction l with
  | nil => rfl
  | cons c t ih =>
    rw [List.takeWhile_cons]
    split
    · rename_i h; rw [List.length_cons, List.take_succ_cons, List.all_cons, h, ih]; rfl
    · simp
theorem split_at (t : List UInt8) (h1 : leadN t < t.length) (h2 : t.getD (leadN t) 0 = 112) : t = t.take (leadN t) ++ 112 :: t.drop (leadN t + 1) := by
  have hd := List.drop_eq_getElem_cons h1
  have hg : t[leadN t] = 112 := by
    rw [List.getD, List.getElem?_eq_getElem h1] at h2; exact h2
  rw [hg] at hd
  rw [← hd, List.take_append_drop]
theorem okD_facts {l : List UInt8} (h : okD l = true) : 0 < leadN l ∧ (l.getD 0 0 ≠ 48 ∨ leadN l = 1) := by
  unfold okD at h
  rw [Bool.and_eq_true, Bool.or_eq_true] at h
  refine ⟨by simpa using h.1, ?_⟩
  rcases h.2 with h2 | h2
  · left
    cases l with
    | nil => simp
    | cons c t => simpa using h2
  · right; simpa using h2
/-- All digits, and a number as it is written. -/
theorem okD_full {l : List UInt8} (h : okD l = true) (hl : leadN l = l.length) : l = [48] ∨ cntB l = true := by
  obtain ⟨h0, h1⟩ := okD_facts h
  have ha := take_lead l
  rw [hl, List.take_length] at ha
  cases l with
  | nil => simp at hl; rw [hl] at h0; cases h0
  | cons c t =>
    rcases h1 with h1 | h1
    · right; exact cnt_of (by simpa using h1) ha
    · have ht : t = [] := by rw [hl] at h1; simpa using h1
      subst ht
      by_cases hc : c = 48
      · left; rw [hc]
      · right; exact cnt_of hc ha
theorem okD_of_cnt {l : List UInt8} (h : cntB l = true) : okD l = true ∧ leadN l = l.length := by
  obtain ⟨c, t, rfl, hc, ha⟩ := cnt_parts h
  have hl : leadN (c :: t) = (c :: t).length := lead_eq _ _ (Nat.le_refl _) (by rw [List.take_length]; exact ha) (.inl rfl)
  exact ⟨okD_ne hl (by simp) (by simpa using hc), hl⟩
theorem okD_48' : okD [48] = true ∧ leadN [48] = 1 := by decide
/-- The second part, as the reference reads it. -/
theorem int_ref (k : List UInt8) : intB k = true ↔ (okD (Lib.trimPrefix k [45]) = true ∧ leadN (Lib.trimPrefix k [45]) = (Lib.trimPrefix k [45]).length ∧ ¬ (Lib.hasPrefix k [45] = true ∧ Lib.trimPrefix k [45] = [48])) := by
  by_cases hm : ∃ u, k = 45 :: u
  · obtain ⟨u, rfl⟩ := hm
    rw [(pre_true u).1, (pre_true u).2]
    have e : intB (45 :: u) = cntB u := by unfold intB; rw [(pre_true u).2]; simp
    rw [e]
    constructor
    · intro h
      obtain ⟨a, b⟩ := okD_of_cnt h
      refine ⟨a, b, fun hh => ?_⟩
      rw [hh.2] at h; cases h
    · rintro ⟨a, b, c⟩
      rcases okD_full a b with h | h
      · exact absurd ⟨rfl, h⟩ c
      · exact h
  · obtain ⟨p1, p2⟩ := pre_false (l := k) (fun u e => hm ⟨u, e⟩)
    rw [p1, p2]
    have e : intB k = (k == [48] || cntB k) := by unfold intB; rw [p2]
    rw [e]
    constructor
    · intro h
      rw [Bool.or_eq_true] at h
      refine ⟨?_, ?_, fun hh => by cases hh.1⟩
      · rcases h with h | h
        · rw [show k = [48] by simpa using h]; decide
        · exact (okD_of_cnt h).1
      · rcases h with h | h
        · rw [show k = [48] by simpa using h]; decide
        · exact (okD_of_cnt h).2
    · rintro ⟨a, b, _⟩
      rcases okD_full a b with h | h
      · rw [h]; rfl
      · rw [h]; simp
theorem pow_le_val {l : List UInt8} (h : cntB l = true) : 10 ^ (l.length - 1) ≤ valN l := by
  have key : ∀ (k : Nat) (l : List UInt8), l.length = k + 1 → cntB l = true → 10 ^ k ≤ valN l := by
    intro k
    induction k with
    | zero => intro l _ h; have := (val_dec h).2; omega
    | succ k ih =>
      intro l hl h
      rcases List.eq_nil_or_concat l with e | ⟨m, c, e⟩
      · rw [e] at hl; simp at hl
      · rw [List.concat_eq_append] at e
        subst e
        rw [valN_snoc, Nat.pow_succ]
        obtain ⟨d, t, e2, hd, ha⟩ := cnt_parts h
        cases m with
        | nil => simp at hl
        | cons d' t' =>
          have hd' : d' = d := by simpa using (List.cons.inj e2).1
          have hall := cntB_digits h
          rw [List.all_append, Bool.and_eq_true] at hall
          have := ih (d' :: t') (by simpa using hl) (cnt_of (by rw [hd']; exact hd) hall.1)
          omega
  obtain ⟨c, t, e, _, _⟩ := cnt_parts h
  exact key (l.length - 1) l (by rw [e]; simp) h
theorem log2_nonneg_fits {n : Nat} {p : Int} (h : Fits n p) : -1074 ≤ p ∧ p < 1024 := by
  have := h.lo; have := h.hi; omega
/-- Too many digits never fit. -/
theorem not_fits_m {a k : List UInt8} (h : cntB a = true) (hl : 17 < a.length) : ¬ Fits (satN a) (intN k) := by
  intro hf
  have h1 := hf.lt
  have h2 := pow_le_val h
  have h3 : 10 ^ 17 ≤ 10 ^ (a.length - 1) := Nat.pow_le_pow_right (by decide) (by omega)
  unfold satN at h1
  have h4 : (10 : Nat) ^ 17 = 100000000000000000 := by decide
  omega
theorem not_fits_e {a k : List UInt8} (h : intB k = true) (hl : 5 < (Lib.trimPrefix k [45]).length) : ¬ Fits (satN a) (intN k) := by
  intro hf
  obtain ⟨b1, b2⟩ := log2_nonneg_fits hf
  have hc : cntB (Lib.trimPrefix k [45]) = true := by
    unfold intB at h
    rw [Bool.or_eq_true] at h
    rcases h with h | h
    · have : k = [48] := by simpa using h
      rw [this] at hl; exact absurd hl (by decide)
    · exact h
  have h2 := pow_le_val hc
  have h3 : 10 ^ 5 ≤ 10 ^ ((Lib.trimPrefix k [45]).length - 1) := Nat.pow_le_pow_right (by decide) (by omega)
  have h4 : (10 : Nat) ^ 5 = 100000 := by decide
  unfold intN satN at b1 b2
  cases hp : Lib.hasPrefix k [45]
  · rw [hp, cond_false] at b2; omega
  · rw [hp, cond_true] at b1; omega
theorem int_digits {k : List UInt8} (h : intB k = true) : (Lib.trimPrefix k [45]).all digB = true := intB_digits h
theorem intN_val {k : List UInt8} (hl : ¬ 5 < (Lib.trimPrefix k [45]).length) (h : intB k = true) : valN (Lib.trimPrefix k [45]) ≤ 99999 ∧ intN k = bif Lib.hasPrefix k [45] then -(valN (Lib.trimPrefix k [45]) : Int) else (valN (Lib.trimPrefix k [45]) : Int) := by
  have h1 := val_lt_pow _ (int_digits h)
  have h2 : 10 ^ (Lib.trimPrefix k [45]).length ≤ 10 ^ 5 := Nat.pow_le_pow_right (by decide) (by omega)
  have h3 : (10 : Nat) ^ 5 = 100000 := by decide
  refine ⟨by omega, ?_⟩
  have : satN (Lib.trimPrefix k [45]) = valN (Lib.trimPrefix k [45]) := by unfold satN; omega
  unfold intN
  rw [this]
end Go.Proofs.YtbgccaconhmbaaaGreatDoor
namespace Go.Proofs.YtbgccaconhmbaaaGreatDoor
open Go.RowKit Go.Lib

theorem core_form0 {l : List UInt8} (h : formB l = false) : coreN l = (0, 4) := by unfold coreN; rw [h]; rfl
theorem form_true {l : List UInt8} (h : formB l = true) : ∃ a k, Lib.trimPrefix l [45] = a ++ 112 :: k ∧ cntB a = true ∧ intB k = true ∧ (112 : UInt8) ∉ a := by
  unfold formB at h
  rw [Bool.and_eq_true, Bool.and_eq_true] at h
  rcases cut_split (Lib.trimPrefix l [45]) with ⟨e, _⟩ | ⟨a, k, e, hn, hc⟩
  · rw [e] at h; cases h.1.1
  · rw [hc] at h; exact ⟨a, k, e, h.1.2, h.2, hn⟩
theorem core_of {l a k : List UInt8} (e : Lib.trimPrefix l [45] = a ++ 112 :: k) (hn : (112 : UInt8) ∉ a) :
    formB l = (cntB a && intB k) ∧ numOf l = satN a ∧ powOf l = intN k := by
  have hc := cut_found a k hn
  refine ⟨?_, ?_, ?_⟩
  · unfold formB; rw [e, hc]; rfl
  · unfold numOf; rw [e, hc]
  · unfold powOf; rw [e, hc]
/-- What the last two ways want of Ldexp. -/
theorem ldexp_open (n : Nat) (p : Int) (h0 : n ≠ 0) (hn : n < 100000000000000000) (p1 : -99999 ≤ p) (p2 : p ≤ 99999) :
    ∃ r, r < 18446744073709551616 ∧ (Fits n p → r = ofOdd n p) ∧ ∀ w, Calls Tryz.prog 170 #[.float .f64 (floatOfInt .f64 (n : Int)), .int .i64 p] w fun e w' => e = .returned (.float .f64 r) ∧ w = w' := by
  by_cases hf : Fits n p
  · have := (ofOdd_spec hf).2.1
    unfold infR at this
    exact ⟨ofOdd n p, by omega, fun _ => rfl, fun w => ldexp_fits n p hf w⟩
  · obtain ⟨r, hr, hc⟩ := ldexp_some n p h0 (by omega) (by omega) (by omega)
    exact ⟨r, hr, fun h => absurd h hf, hc⟩
theorem neg_open (r : Nat) (hr : r < 18446744073709551616) : ∃ x, x < 18446744073709551616 ∧ (r < 9223372036854775808 → x = 9223372036854775808 + r) ∧ ∀ w, (Op.unary .neg (.float .f64 r)).run Tryz.prog w = .ok (.float .f64 x) w := by
  by_cases h : r < 9223372036854775808
  · exact ⟨9223372036854775808 + r, by omega, fun _ => rfl, fun w => run_neg_lo h w⟩
  · exact ⟨r - 9223372036854775808, by omega, fun h2 => absurd h2 h, fun w => run_neg_hi (by omega) hr w⟩
theorem byte_ne {c d : UInt8} {n : Nat} (hd : d.toNat = n) : ((c.toNat : Int) == (n : Int)) = decide (c = d) := by
  by_cases h : c = d
  · subst h; rw [hd]; simp
  · have : c.toNat ≠ n := fun e => h (UInt8.toNat_inj.1 (by omega))
    rw [decide_eq_false h]; simp; omega
theorem byte_t {c : UInt8} (d : UInt8) (n : Nat) (hd : d.toNat = n) (h : c = d) : ((c.toNat : Int) == (n : Int)) = true := by rw [byte_ne hd, decide_eq_true h]
theorem byte_f {c : UInt8} (d : UInt8) (n : Nat) (hd : d.toNat = n) (h : c ≠ d) : ((c.toNat : Int) == (n : Int)) = false := by rw [byte_ne hd, decide_eq_false h]
theorem byte_nt {c : UInt8} (d : UInt8) (n : Nat) (hd : d.toNat = n) (h : c = d) : ((c.toNat : Int) != (n : Int)) = false := by unfold bne; rw [byte_t d n hd h]; rfl
theorem byte_nf {c : UInt8} (d : UInt8) (n : Nat) (hd : d.toNat = n) (h : c ≠ d) : ((c.toNat : Int) != (n : Int)) = true := by unfold bne; rw [byte_f d n hd h]; rfl
theorem nat_ne {x y : Nat} (h : x ≠ y) : ((x : Int) == (y : Int)) = false := by simp; omega
theorem nat_nne {x y : Nat} (h : x ≠ y) : ((x : Int) != (y : Int)) = true := by simp; omega
theorem ne_text {z : Nat} {s tx : ByteArray} {p : Nat × Int} (hz : z < 18446744073709551616) (hp : parseN s.data.toList = p) (h1 : p.2 = 1) (ht : textN z = tx.data.toList) : (tx.toList == s.toList) = false := by
  cases h : (tx.toList == s.toList)
  · rfl
  · exfalso
    have e : tx.toList = s.toList := by simpa using h
    rw [toList_data, toList_data] at e
    have := parse_text hz
    rw [ht, e, hp] at this
    rw [this] at h1; cases h1
/-- With the sign ahead. -/
theorem rparse_m (s t : ByteArray) {l : List UInt8} (hl : s.data.toList = l) (hs : s.size ≤ 20000) (hs0 : 0 < s.size) (h45 : ((s[0].toNat : Int) == 45) = true) (hex : s.extract 1 s.size = t) (htp : Lib.trimPrefix l [45] = t.data.toList) (hpre : Lib.hasPrefix l [45] = true)
    (n1 : (s.toList == [110, 97, 110]) = false) (n2 : (s.toList == [105, 110, 102]) = false) (n3 : (s.toList == [45, 105, 110, 102]) = false) (n4 : (s.toList == [48]) = false) (n5 : (s.toList == [45, 48]) = false) (hpl : parseN l = coreN l) (w : World) :
    Calls Tryz.prog 99 #[.string s] w fun e w' => e = .returned (.tuple #[.float .f64 (parseN l).1, .int .i64 (parseN l).2]) ∧ Below w.heap.size w w' := by
  have hTZ : t.size ≤ 1000000 := by
    have := trim_len l [45]
    rw [htp, ← hl, ← Lib.size_eq, ← Lib.size_eq] at this; omega
  cases hok : okD t.data.toList
  case false =>
    have hform : formB l = false := by
      cases h : formB l
      · rfl
      · obtain ⟨a, k, e, h1, h2, h3⟩ := form_true h
        have := (lead_form (k := k) h1).2.1
        rw [← e, htp, hok] at this; cases this
    rw [hpl, core_form0 hform]
    exact rparse_m_R1 s t _ n1 n2 n3 n4 n5 hs0 h45 hex hTZ rfl hok w
  obtain ⟨o1, o2⟩ := okD_facts hok
  have hlt := lead_le t.data.toList
  rw [← Lib.size_eq] at hlt
  have ht0 : 0 < t.size := by omega
  have hg0 := idx_get t 0 ht0
  by_cases hz : t.data.toList.getD 0 0 = 48
  · have hform : formB l = false := by
      cases h : formB l
      · rfl
      · obtain ⟨a, k, e, h1, h2, h3⟩ := form_true h
        have := (lead_form (k := k) h1).2.2.1
        rw [← e, htp] at this; exact absurd hz this
    rw [hpl, core_form0 hform]
    exact rparse_m_R2 s t _ n1 n2 n3 n4 n5 hs0 h45 hex hTZ rfl hok ht0 (byte_t 48 48 rfl (by rw [hg0]; exact hz)) w
  have h48 := byte_f (c := t[0]) 48 48 rfl (by rw [hg0]; exact hz)
  by_cases hn : leadN t.data.toList < t.size
  case neg =>
    have hform : formB l = false := by
      cases h : formB l
      · rfl
      · obtain ⟨a, k, e, h1, h2, h3⟩ := form_true h
        have := (lead_form (k := k) h1).1
        rw [← e, htp] at this
        have h4 := congrArg List.length e
        rw [htp, List.length_append, List.length_cons, ← Lib.size_eq] at h4
        omega
    rw [hpl, core_form0 hform]
    exact rparse_m_R3 s t 0 n1 n2 n3 n4 n5 hs0 h45 hex hTZ (show leadN t.data.toList = t.size by omega) hok ht0 h48 w
  have hgn := idx_get t _ hn
  by_cases hp112 : t.data.toList.getD (leadN t.data.toList) 0 = 112
  case neg =>
    have hform : formB l = false := by
      cases h : formB l
      · rfl
      · obtain ⟨a, k, e, h1, h2, h3⟩ := form_true h
        have h4 := (lead_form (k := k) h1).1
        rw [← e, htp] at h4
        apply absurd _ hp112
        rw [h4, ← htp, e]; simp [List.getD]
    rw [hpl, core_form0 hform]
    exact rparse_m_R4 s t _ n1 n2 n3 n4 n5 hs0 h45 hex hTZ rfl hok ht0 h48 hn (nat_ne (by omega)) (byte_nf 112 112 rfl (by rw [hgn]; exact hp112)) (by omega) w
  have hp := byte_nt (c := t[leadN t.data.toList]) 112 112 rfl (by rw [hgn]; exact hp112)
  have hsplit := split_at t.data.toList (by rw [← Lib.size_eq]; exact hn) hp112
  obtain ⟨a, hadef⟩ : ∃ a, t.data.toList.take (leadN t.data.toList) = a := ⟨_, rfl⟩
  obtain ⟨k, hkdef⟩ : ∃ k, t.data.toList.drop (leadN t.data.toList + 1) = k := ⟨_, rfl⟩
  have had : a.all digB = true := by rw [← hadef]; exact take_lead _
  rw [hadef, hkdef] at hsplit
  have hal : a.length = leadN t.data.toList := by rw [← hadef, List.length_take]; rw [← Lib.size_eq]; omega
  have ha : cntB a = true := by
    cases a with
    | nil => simp at hal; omega
    | cons c u =>
      refine cnt_of (fun hc => hz ?_) had
      rw [hsplit, hc]; rfl
  obtain ⟨c1, c2, c3⟩ := core_of (l := l) (a := a) (k := k) (by rw [htp]; exact hsplit) (not_mem_p had)
  rw [ha, Bool.true_and] at c1
  obtain ⟨m, hm⟩ : ∃ m, t.extract 0 (leadN t.data.toList) = m := ⟨_, rfl⟩
  obtain ⟨e, he⟩ : ∃ e, t.extract (leadN t.data.toList + 1) t.size = e := ⟨_, rfl⟩
  have hmL : m.data.toList = a := by rw [← hm, Lib.extract_data, List.drop_zero, Nat.sub_zero, hadef]
  have heL : e.data.toList = k := by rw [← he, Lib.extract_to_end, hkdef]
  have heZ : e.size ≤ 1000000 := by
    rw [Lib.size_eq, heL, ← hkdef, List.length_drop, ← Lib.size_eq]; omega
  by_cases hez : e.size = 0
  · have hk0 : k = [] := by rw [← heL]; rw [Lib.size_eq] at hez; exact List.length_eq_zero_iff.1 hez
    rw [hpl, core_form0 (by rw [c1, hk0]; rfl)]
    exact rparse_m_R5z s t m e _ n1 n2 n3 n4 n5 hs0 h45 hex hTZ rfl hok ht0 h48 hn (nat_ne (by omega)) hp (by omega) (by omega) (by omega) hm he hez heZ (show leadN e.data.toList = 0 by rw [heL, hk0]; rfl) (show okD e.data.toList = false by rw [heL, hk0]; rfl) w
  have he0 : 0 < e.size := by omega
  have hge := idx_get e 0 he0
  rw [heL] at hge
  by_cases hb : e[0] = 45
  · have hb45 := byte_t (c := e[0]) 45 45 rfl hb
    obtain ⟨e2, hex2⟩ : ∃ e2, e.extract 1 e.size = e2 := ⟨_, rfl⟩
    have hek := head_eq e he0
    rw [heL, hb] at hek
    have hbel : Lib.hasPrefix k [45] = true := by rw [hek]; exact (pre_true _).1
    have hE : Lib.trimPrefix k [45] = e2.data.toList := by rw [← hex2, Lib.extract_to_end, heL]; conv => lhs; rw [hek]
                                                           exact (pre_true _).2
    have hEZ : e2.size ≤ 1000000 := by
      rw [Lib.size_eq, ← hex2, Lib.extract_to_end, List.length_drop, ← Lib.size_eq]; omega
    cases hoe : okD e2.data.toList
    · have hk : intB k = false := by
        cases hk : intB k
        · rfl
        · have := ((int_ref k).1 hk).1; rw [hE, hoe] at this; cases this
      rw [hpl, core_form0 (by rw [c1, hk])]
      exact rparse_m_b_R5a s t m e e2 _ _ n1 n2 n3 n4 n5 hs0 h45 hex hTZ rfl hok ht0 h48 hn (nat_ne (by omega)) hp (by omega) (by omega) (by omega) hm he he0 hb45 hex2 hEZ rfl hoe w
    by_cases hlead : leadN e2.data.toList = e2.size
    case neg =>
      have hk : intB k = false := by
        cases hk : intB k
        · rfl
        · have := ((int_ref k).1 hk).2.1; rw [hE, ← Lib.size_eq] at this; exact absurd this hlead
      rw [hpl, core_form0 (by rw [c1, hk])]
      exact rparse_m_b_R5b s t m e e2 _ _ n1 n2 n3 n4 n5 hs0 h45 hex hTZ rfl hok ht0 h48 hn (nat_ne (by omega)) hp (by omega) (by omega) (by omega) hm he he0 hb45 hex2 hEZ rfl hoe (nat_nne hlead) w
    cases he48 : (e2.toList == [48])
    case true =>
      have he : e2.data.toList = [48] := by rw [← toList_data]; simpa using he48
      have hk : intB k = false := by
        cases hk : intB k
        · rfl
        · exact absurd ⟨hbel, by rw [hE, he]⟩ ((int_ref k).1 hk).2.2
      rw [hpl, core_form0 (by rw [c1, hk])]
      exact rparse_m_b_R5c s t m e e2 _ n1 n2 n3 n4 n5 hs0 h45 hex hTZ rfl hok ht0 h48 hn (nat_ne (by omega)) hp (by omega) (by omega) (by omega) hm (by assumption) he0 hb45 hex2 hEZ hlead hoe he48 w
    have hk : intB k = true := (int_ref k).2 ⟨by rw [hE]; exact hoe, by rw [hE, ← Lib.size_eq]; exact hlead, fun hh => by
      rw [hE] at hh
      rw [toList_data, hh.2] at he48; cases he48⟩
    by_cases hm17 : 17 < m.size
    · have hfit : fitsB (satN a) (intN k) = false := by
        cases h : fitsB (satN a) (intN k)
        · rfl
        · exact absurd ((fits_iff _ _).1 h) (not_fits_m ha (by rw [← hmL, ← Lib.size_eq]; exact hm17))
      have hcore : coreN l = (0, 1) := by unfold coreN; rw [c1, c2, c3, hk, hfit]; rfl
      rw [hpl, hcore]
      exact rparse_m_b_R6m s t m e e2 _ n1 n2 n3 n4 n5 hs0 h45 hex hTZ rfl hok ht0 h48 hn (nat_ne (by omega)) hp (by omega) (by omega) (by omega) hm he he0 hb45 hex2 hEZ hlead hoe he48 hm17 w
    by_cases he5 : 5 < e2.size
    · have hfit : fitsB (satN a) (intN k) = false := by
        cases h : fitsB (satN a) (intN k)
        · rfl
        · exact absurd ((fits_iff _ _).1 h) (not_fits_e hk (by rw [hE, ← Lib.size_eq]; exact he5))
      have hcore : coreN l = (0, 1) := by unfold coreN; rw [c1, c2, c3, hk, hfit]; rfl
      rw [hpl, hcore]
      exact rparse_m_b_R6e s t m e e2 _ n1 n2 n3 n4 n5 hs0 h45 hex hTZ rfl hok ht0 h48 hn (nat_ne (by omega)) hp (by omega) (by omega) (by omega) hm he he0 hb45 hex2 hEZ hlead hoe he48 hm17 he5 w
    · 
      obtain ⟨v1, v2⟩ := intN_val (k := k) (by rw [hE, ← Lib.size_eq]; exact he5) hk
      rw [hE, hbel] at v2
      rw [hE] at v1
      have hvn : satN a = valN a ∨ 9007199254740992 ≤ valN a := by unfold satN; omega
      have hmd : m.data.toList.all digB = true := by rw [hmL]; exact cntB_digits ha
      have hv17 := val_lt_pow _ hmd
      have hp17 : 10 ^ m.data.toList.length ≤ 10 ^ 17 := Nat.pow_le_pow_right (by decide) (by rw [← Lib.size_eq]; omega)
      have hv0 : valN m.data.toList ≠ 0 := by rw [hmL]; exact (val_dec ha).2
      have hed : e2.data.toList.all digB = true := by have := int_digits hk; rw [hE] at this; exact this
      obtain ⟨r, hr, hrf, hcalls⟩ := ldexp_open (valN m.data.toList) (-(valN e2.data.toList : Int)) hv0 (by omega) (by omega) (by omega)
      obtain ⟨x, hx, hxf, hng⟩ := neg_open r hr
      cases hfit : fitsB (satN a) (intN k)
      · have hcore : coreN l = (0, 1) := by unfold coreN; rw [c1, c2, c3, hk, hfit]; rfl
        rw [hpl, hcore]
        have htx : textN x = (⟨(textN x).toArray⟩ : ByteArray).data.toList := by rw [mk_list]
        have hpp : parseN s.data.toList = (0, 1) := by rw [hl, hpl, hcore]
        exact rparse_m_b_R7n s t m e e2 ⟨(textN x).toArray⟩ _ _ _ r x n1 n2 n3 n4 n5 hs0 h45 hex hTZ rfl hok ht0 h48 hn (nat_ne (by omega)) hp (by omega) (by omega) (by omega) hm he he0 hb45 hex2 hEZ hlead hoe he48 hm17 he5 (show m.size ≤ 17 by omega) (show e2.size ≤ 17 by omega) rfl rfl hmd hed (by omega) hcalls hng hx htx (ne_text hx hpp rfl htx) w
      · have hF := (fits_iff _ _).1 hfit
        have hFl := hF.lt
        have hv : satN a = valN a := by unfold satN at hFl ⊢; omega
        have hcore : coreN l = (9223372036854775808 + ofOdd (satN a) (intN k), 0) := by unfold coreN; rw [c1, c2, c3, hk, hfit, hpre]; rfl
        have hr2 : r = ofOdd (satN a) (intN k) := by
          rw [hv, v2]
          rw [hv, v2] at hF
          rw [← hmL] at hF ⊢
          exact hrf hF
        have hlt := (ofOdd_spec hF).2.1
        unfold infR at hlt
        rw [← hr2] at hlt
        have hxr : x = 9223372036854775808 + ofOdd (satN a) (intN k) := by rw [hxf (by omega), hr2]
        rw [hpl, hcore]
        have htx : textN x = s.data.toList := by
          rcases text_parse s.data.toList with ⟨_, h2, _⟩ | ⟨h1, _⟩ | ⟨h1, _⟩
          · rw [hl, hpl, hcore] at h2
            rw [hxr, hl]; exact h2
          · rw [hl, hpl, hcore] at h1; cases h1
          · rw [hl, hpl, hcore] at h1; cases h1
        have := rparse_m_b_R7f s t m e e2 _ _ _ r x n1 n2 n3 n4 n5 hs0 h45 hex hTZ rfl hok ht0 h48 hn (nat_ne (by omega)) hp (by omega) (by omega) (by omega) hm he he0 hb45 hex2 hEZ hlead hoe he48 hm17 he5 (show m.size ≤ 17 by omega) (show e2.size ≤ 17 by omega) rfl rfl hmd hed (by omega) hcalls hng hx htx w
        rw [hxr] at this
        exact this
  · have hb45 := byte_f (c := e[0]) 45 45 rfl hb
    have hnp := pre_false (l := k) (fun u hu => hb (by rw [hge, hu]; rfl))
    have hbel := hnp.1
    have hE : Lib.trimPrefix k [45] = e.data.toList := by rw [hnp.2, heL]
    have hEZ := heZ
    cases hoe : okD e.data.toList
    · have hk : intB k = false := by
        cases hk : intB k
        · rfl
        · have := ((int_ref k).1 hk).1; rw [hE, hoe] at this; cases this
      rw [hpl, core_form0 (by rw [c1, hk])]
      exact rparse_m_a_R5a s t m e _ _ n1 n2 n3 n4 n5 hs0 h45 hex hTZ rfl hok ht0 h48 hn (nat_ne (by omega)) hp (by omega) (by omega) (by omega) hm he he0 hb45 hEZ rfl hoe w
    by_cases hlead : leadN e.data.toList = e.size
    case neg =>
      have hk : intB k = false := by
        cases hk : intB k
        · rfl
        · have := ((int_ref k).1 hk).2.1; rw [hE, ← Lib.size_eq] at this; exact absurd this hlead
      rw [hpl, core_form0 (by rw [c1, hk])]
      exact rparse_m_a_R5b s t m e _ _ n1 n2 n3 n4 n5 hs0 h45 hex hTZ rfl hok ht0 h48 hn (nat_ne (by omega)) hp (by omega) (by omega) (by omega) hm he he0 hb45 hEZ rfl hoe (nat_nne hlead) w
    have hk : intB k = true := (int_ref k).2 ⟨by rw [hE]; exact hoe, by rw [hE, ← Lib.size_eq]; exact hlead, fun hh => by rw [hbel] at hh; cases hh.1⟩
    by_cases hm17 : 17 < m.size
    · have hfit : fitsB (satN a) (intN k) = false := by
        cases h : fitsB (satN a) (intN k)
        · rfl
        · exact absurd ((fits_iff _ _).1 h) (not_fits_m ha (by rw [← hmL, ← Lib.size_eq]; exact hm17))
      have hcore : coreN l = (0, 1) := by unfold coreN; rw [c1, c2, c3, hk, hfit]; rfl
      rw [hpl, hcore]
      exact rparse_m_a_R6m s t m e _ n1 n2 n3 n4 n5 hs0 h45 hex hTZ rfl hok ht0 h48 hn (nat_ne (by omega)) hp (by omega) (by omega) (by omega) hm he he0 hb45 hEZ hlead hoe hm17 w
    by_cases he5 : 5 < e.size
    · have hfit : fitsB (satN a) (intN k) = false := by
        cases h : fitsB (satN a) (intN k)
        · rfl
        · exact absurd ((fits_iff _ _).1 h) (not_fits_e hk (by rw [hE, ← Lib.size_eq]; exact he5))
      have hcore : coreN l = (0, 1) := by unfold coreN; rw [c1, c2, c3, hk, hfit]; rfl
      rw [hpl, hcore]
      exact rparse_m_a_R6e s t m e _ n1 n2 n3 n4 n5 hs0 h45 hex hTZ rfl hok ht0 h48 hn (nat_ne (by omega)) hp (by omega) (by omega) (by omega) hm he he0 hb45 hEZ hlead hoe hm17 he5 w
    · 
      obtain ⟨v1, v2⟩ := intN_val (k := k) (by rw [hE, ← Lib.size_eq]; exact he5) hk
      rw [hE, hbel] at v2
      rw [hE] at v1
      have hvn : satN a = valN a ∨ 9007199254740992 ≤ valN a := by unfold satN; omega
      have hmd : m.data.toList.all digB = true := by rw [hmL]; exact cntB_digits ha
      have hv17 := val_lt_pow _ hmd
      have hp17 : 10 ^ m.data.toList.length ≤ 10 ^ 17 := Nat.pow_le_pow_right (by decide) (by rw [← Lib.size_eq]; omega)
      have hv0 : valN m.data.toList ≠ 0 := by rw [hmL]; exact (val_dec ha).2
      have hed : e.data.toList.all digB = true := by have := int_digits hk; rw [hE] at this; exact this
      obtain ⟨r, hr, hrf, hcalls⟩ := ldexp_open (valN m.data.toList) ((valN e.data.toList : Int)) hv0 (by omega) (by omega) (by omega)
      obtain ⟨x, hx, hxf, hng⟩ := neg_open r hr
      cases hfit : fitsB (satN a) (intN k)
      · have hcore : coreN l = (0, 1) := by unfold coreN; rw [c1, c2, c3, hk, hfit]; rfl
        rw [hpl, hcore]
        have htx : textN x = (⟨(textN x).toArray⟩ : ByteArray).data.toList := by rw [mk_list]
        have hpp : parseN s.data.toList = (0, 1) := by rw [hl, hpl, hcore]
        exact rparse_m_a_R7n s t m e ⟨(textN x).toArray⟩ _ _ _ r x n1 n2 n3 n4 n5 hs0 h45 hex hTZ rfl hok ht0 h48 hn (nat_ne (by omega)) hp (by omega) (by omega) (by omega) hm he he0 hb45 hEZ hlead hoe hm17 he5 (show m.size ≤ 17 by omega) (show e.size ≤ 17 by omega) rfl rfl hmd hed (by omega) hcalls hng hx htx (ne_text hx hpp rfl htx) w
      · have hF := (fits_iff _ _).1 hfit
        have hFl := hF.lt
        have hv : satN a = valN a := by unfold satN at hFl ⊢; omega
        have hcore : coreN l = (9223372036854775808 + ofOdd (satN a) (intN k), 0) := by unfold coreN; rw [c1, c2, c3, hk, hfit, hpre]; rfl
        have hr2 : r = ofOdd (satN a) (intN k) := by
          rw [hv, v2]
          rw [hv, v2] at hF
          rw [← hmL] at hF ⊢
          exact hrf hF
        have hlt := (ofOdd_spec hF).2.1
        unfold infR at hlt
        rw [← hr2] at hlt
        have hxr : x = 9223372036854775808 + ofOdd (satN a) (intN k) := by rw [hxf (by omega), hr2]
        rw [hpl, hcore]
        have htx : textN x = s.data.toList := by
          rcases text_parse s.data.toList with ⟨_, h2, _⟩ | ⟨h1, _⟩ | ⟨h1, _⟩
          · rw [hl, hpl, hcore] at h2
            rw [hxr, hl]; exact h2
          · rw [hl, hpl, hcore] at h1; cases h1
          · rw [hl, hpl, hcore] at h1; cases h1
        have := rparse_m_a_R7f s t m e _ _ _ r x n1 n2 n3 n4 n5 hs0 h45 hex hTZ rfl hok ht0 h48 hn (nat_ne (by omega)) hp (by omega) (by omega) (by omega) hm he he0 hb45 hEZ hlead hoe hm17 he5 (show m.size ≤ 17 by omega) (show e.size ≤ 17 by omega) rfl rfl hmd hed (by omega) hcalls hng hx htx w
        rw [hxr] at this
        exact this
/-- With the sign left out. -/
theorem rparse_p (s : ByteArray) {l : List UInt8} (hl : s.data.toList = l) (hs : s.size ≤ 20000) (hs0 : 0 < s.size) (h45 : ((s[0].toNat : Int) == 45) = false) (htp : Lib.trimPrefix l [45] = s.data.toList) (hpre : Lib.hasPrefix l [45] = false)
    (n1 : (s.toList == [110, 97, 110]) = false) (n2 : (s.toList == [105, 110, 102]) = false) (n3 : (s.toList == [45, 105, 110, 102]) = false) (n4 : (s.toList == [48]) = false) (n5 : (s.toList == [45, 48]) = false) (hpl : parseN l = coreN l) (w : World) :
    Calls Tryz.prog 99 #[.string s] w fun e w' => e = .returned (.tuple #[.float .f64 (parseN l).1, .int .i64 (parseN l).2]) ∧ Below w.heap.size w w' := by
  have hTZ : s.size ≤ 1000000 := by omega
  cases hok : okD s.data.toList
  case false =>
    have hform : formB l = false := by
      cases h : formB l
      · rfl
      · obtain ⟨a, k, e, h1, h2, h3⟩ := form_true h
        have := (lead_form (k := k) h1).2.1
        rw [← e, htp, hok] at this; cases this
    rw [hpl, core_form0 hform]
    exact rparse_p_R1 s _ n1 n2 n3 n4 n5 hs0 h45 hTZ rfl hok w
  obtain ⟨o1, o2⟩ := okD_facts hok
  have hlt := lead_le s.data.toList
  rw [← Lib.size_eq] at hlt
  have ht0 : 0 < s.size := by omega
  have hg0 := idx_get s 0 ht0
  by_cases hz : s.data.toList.getD 0 0 = 48
  · have hform : formB l = false := by
      cases h : formB l
      · rfl
      · obtain ⟨a, k, e, h1, h2, h3⟩ := form_true h
        have := (lead_form (k := k) h1).2.2.1
        rw [← e, htp] at this; exact absurd hz this
    rw [hpl, core_form0 hform]
    exact rparse_p_R2 s _ n1 n2 n3 n4 n5 hs0 h45 hTZ rfl hok ht0 (byte_t 48 48 rfl (by rw [hg0]; exact hz)) w
  have h48 := byte_f (c := s[0]) 48 48 rfl (by rw [hg0]; exact hz)
  by_cases hn : leadN s.data.toList < s.size
  case neg =>
    have hform : formB l = false := by
      cases h : formB l
      · rfl
      · obtain ⟨a, k, e, h1, h2, h3⟩ := form_true h
        have := (lead_form (k := k) h1).1
        rw [← e, htp] at this
        have h4 := congrArg List.length e
        rw [htp, List.length_append, List.length_cons, ← Lib.size_eq] at h4
        omega
    rw [hpl, core_form0 hform]
    exact rparse_p_R3 s 0 n1 n2 n3 n4 n5 hs0 h45 hTZ (show leadN s.data.toList = s.size by omega) hok ht0 h48 w
  have hgn := idx_get s _ hn
  by_cases hp112 : s.data.toList.getD (leadN s.data.toList) 0 = 112
  case neg =>
    have hform : formB l = false := by
      cases h : formB l
      · rfl
      · obtain ⟨a, k, e, h1, h2, h3⟩ := form_true h
        have h4 := (lead_form (k := k) h1).1
        rw [← e, htp] at h4
        apply absurd _ hp112
        rw [h4, ← htp, e]; simp [List.getD]
    rw [hpl, core_form0 hform]
    exact rparse_p_R4 s _ n1 n2 n3 n4 n5 hs0 h45 hTZ rfl hok ht0 h48 hn (nat_ne (by omega)) (byte_nf 112 112 rfl (by rw [hgn]; exact hp112)) (by omega) w
  have hp := byte_nt (c := s[leadN s.data.toList]) 112 112 rfl (by rw [hgn]; exact hp112)
  have hsplit := split_at s.data.toList (by rw [← Lib.size_eq]; exact hn) hp112
  obtain ⟨a, hadef⟩ : ∃ a, s.data.toList.take (leadN s.data.toList) = a := ⟨_, rfl⟩
  obtain ⟨k, hkdef⟩ : ∃ k, s.data.toList.drop (leadN s.data.toList + 1) = k := ⟨_, rfl⟩
  have had : a.all digB = true := by rw [← hadef]; exact take_lead _
  rw [hadef, hkdef] at hsplit
  have hal : a.length = leadN s.data.toList := by rw [← hadef, List.length_take]; rw [← Lib.size_eq]; omega
  have ha : cntB a = true := by
    cases a with
    | nil => simp at hal; omega
    | cons c u =>
      refine cnt_of (fun hc => hz ?_) had
      rw [hsplit, hc]; rfl
  obtain ⟨c1, c2, c3⟩ := core_of (l := l) (a := a) (k := k) (by rw [htp]; exact hsplit) (not_mem_p had)
  rw [ha, Bool.true_and] at c1
  obtain ⟨m, hm⟩ : ∃ m, s.extract 0 (leadN s.data.toList) = m := ⟨_, rfl⟩
  obtain ⟨e, he⟩ : ∃ e, s.extract (leadN s.data.toList + 1) s.size = e := ⟨_, rfl⟩
  have hmL : m.data.toList = a := by rw [← hm, Lib.extract_data, List.drop_zero, Nat.sub_zero, hadef]
  have heL : e.data.toList = k := by rw [← he, Lib.extract_to_end, hkdef]
  have heZ : e.size ≤ 1000000 := by
    rw [Lib.size_eq, heL, ← hkdef, List.length_drop, ← Lib.size_eq]; omega
  by_cases hez : e.size = 0
  · have hk0 : k = [] := by rw [← heL]; rw [Lib.size_eq] at hez; exact List.length_eq_zero_iff.1 hez
    rw [hpl, core_form0 (by rw [c1, hk0]; rfl)]
    exact rparse_p_R5z s m e _ n1 n2 n3 n4 n5 hs0 h45 hTZ rfl hok ht0 h48 hn (nat_ne (by omega)) hp (by omega) (by omega) (by omega) hm he hez heZ (show leadN e.data.toList = 0 by rw [heL, hk0]; rfl) (show okD e.data.toList = false by rw [heL, hk0]; rfl) w
  have he0 : 0 < e.size := by omega
  have hge := idx_get e 0 he0
  rw [heL] at hge
  by_cases hb : e[0] = 45
  · have hb45 := byte_t (c := e[0]) 45 45 rfl hb
    obtain ⟨e2, hex2⟩ : ∃ e2, e.extract 1 e.size = e2 := ⟨_, rfl⟩
    have hek := head_eq e he0
    rw [heL, hb] at hek
    have hbel : Lib.hasPrefix k [45] = true := by rw [hek]; exact (pre_true _).1
    have hE : Lib.trimPrefix k [45] = e2.data.toList := by rw [← hex2, Lib.extract_to_end, heL]; conv => lhs; rw [hek]
                                                           exact (pre_true _).2
    have hEZ : e2.size ≤ 1000000 := by
      rw [Lib.size_eq, ← hex2, Lib.extract_to_end, List.length_drop, ← Lib.size_eq]; omega
    cases hoe : okD e2.data.toList
    · have hk : intB k = false := by
        cases hk : intB k
        · rfl
        · have := ((int_ref k).1 hk).1; rw [hE, hoe] at this; cases this
      rw [hpl, core_form0 (by rw [c1, hk])]
      exact rparse_p_b_R5a s m e e2 _ _ n1 n2 n3 n4 n5 hs0 h45 hTZ rfl hok ht0 h48 hn (nat_ne (by omega)) hp (by omega) (by omega) (by omega) hm he he0 hb45 hex2 hEZ rfl hoe w
    by_cases hlead : leadN e2.data.toList = e2.size
    case neg =>
      have hk : intB k = false := by
        cases hk : intB k
        · rfl
        · have := ((int_ref k).1 hk).2.1; rw [hE, ← Lib.size_eq] at this; exact absurd this hlead
      rw [hpl, core_form0 (by rw [c1, hk])]
      exact rparse_p_b_R5b s m e e2 _ _ n1 n2 n3 n4 n5 hs0 h45 hTZ rfl hok ht0 h48 hn (nat_ne (by omega)) hp (by omega) (by omega) (by omega) hm he he0 hb45 hex2 hEZ rfl hoe (nat_nne hlead) w
    cases he48 : (e2.toList == [48])
    case true =>
      have he : e2.data.toList = [48] := by rw [← toList_data]; simpa using he48
      have hk : intB k = false := by
        cases hk : intB k
        · rfl
        · exact absurd ⟨hbel, by rw [hE, he]⟩ ((int_ref k).1 hk).2.2
      rw [hpl, core_form0 (by rw [c1, hk])]
      exact rparse_p_b_R5c s m e e2 _ n1 n2 n3 n4 n5 hs0 h45 hTZ rfl hok ht0 h48 hn (nat_ne (by omega)) hp (by omega) (by omega) (by omega) hm (by assumption) he0 hb45 hex2 hEZ hlead hoe he48 w
    have hk : intB k = true := (int_ref k).2 ⟨by rw [hE]; exact hoe, by rw [hE, ← Lib.size_eq]; exact hlead, fun hh => by
      rw [hE] at hh
      rw [toList_data, hh.2] at he48; cases he48⟩
    by_cases hm17 : 17 < m.size
    · have hfit : fitsB (satN a) (intN k) = false := by
        cases h : fitsB (satN a) (intN k)
        · rfl
        · exact absurd ((fits_iff _ _).1 h) (not_fits_m ha (by rw [← hmL, ← Lib.size_eq]; exact hm17))
      have hcore : coreN l = (0, 1) := by unfold coreN; rw [c1, c2, c3, hk, hfit]; rfl
      rw [hpl, hcore]
      exact rparse_p_b_R6m s m e e2 _ n1 n2 n3 n4 n5 hs0 h45 hTZ rfl hok ht0 h48 hn (nat_ne (by omega)) hp (by omega) (by omega) (by omega) hm he he0 hb45 hex2 hEZ hlead hoe he48 hm17 w
    by_cases he5 : 5 < e2.size
    · have hfit : fitsB (satN a) (intN k) = false := by
        cases h : fitsB (satN a) (intN k)
        · rfl
        · exact absurd ((fits_iff _ _).1 h) (not_fits_e hk (by rw [hE, ← Lib.size_eq]; exact he5))
      have hcore : coreN l = (0, 1) := by unfold coreN; rw [c1, c2, c3, hk, hfit]; rfl
      rw [hpl, hcore]
      exact rparse_p_b_R6e s m e e2 _ n1 n2 n3 n4 n5 hs0 h45 hTZ rfl hok ht0 h48 hn (nat_ne (by omega)) hp (by omega) (by omega) (by omega) hm he he0 hb45 hex2 hEZ hlead hoe he48 hm17 he5 w
    · 
      obtain ⟨v1, v2⟩ := intN_val (k := k) (by rw [hE, ← Lib.size_eq]; exact he5) hk
      rw [hE, hbel] at v2
      rw [hE] at v1
      have hvn : satN a = valN a ∨ 9007199254740992 ≤ valN a := by unfold satN; omega
      have hmd : m.data.toList.all digB = true := by rw [hmL]; exact cntB_digits ha
      have hv17 := val_lt_pow _ hmd
      have hp17 : 10 ^ m.data.toList.length ≤ 10 ^ 17 := Nat.pow_le_pow_right (by decide) (by rw [← Lib.size_eq]; omega)
      have hv0 : valN m.data.toList ≠ 0 := by rw [hmL]; exact (val_dec ha).2
      have hed : e2.data.toList.all digB = true := by have := int_digits hk; rw [hE] at this; exact this
      obtain ⟨r, hr, hrf, hcalls⟩ := ldexp_open (valN m.data.toList) (-(valN e2.data.toList : Int)) hv0 (by omega) (by omega) (by omega)
      cases hfit : fitsB (satN a) (intN k)
      · have hcore : coreN l = (0, 1) := by unfold coreN; rw [c1, c2, c3, hk, hfit]; rfl
        rw [hpl, hcore]
        have htx : textN r = (⟨(textN r).toArray⟩ : ByteArray).data.toList := by rw [mk_list]
        have hpp : parseN s.data.toList = (0, 1) := by rw [hl, hpl, hcore]
        exact rparse_p_b_R7n s m e e2 ⟨(textN r).toArray⟩ _ _ _ r n1 n2 n3 n4 n5 hs0 h45 hTZ rfl hok ht0 h48 hn (nat_ne (by omega)) hp (by omega) (by omega) (by omega) hm he he0 hb45 hex2 hEZ hlead hoe he48 hm17 he5 (show m.size ≤ 17 by omega) (show e2.size ≤ 17 by omega) rfl rfl hmd hed (by omega) hcalls hr htx (ne_text hr hpp rfl htx) w
      · have hF := (fits_iff _ _).1 hfit
        have hFl := hF.lt
        have hv : satN a = valN a := by unfold satN at hFl ⊢; omega
        have hcore : coreN l = (ofOdd (satN a) (intN k), 0) := by unfold coreN; rw [c1, c2, c3, hk, hfit, hpre]; rfl
        have hr2 : r = ofOdd (satN a) (intN k) := by
          rw [hv, v2]
          rw [hv, v2] at hF
          rw [← hmL] at hF ⊢
          exact hrf hF
        have hlt := (ofOdd_spec hF).2.1
        unfold infR at hlt
        rw [← hr2] at hlt
        have hxr : r = ofOdd (satN a) (intN k) := by exact hr2
        rw [hpl, hcore]
        have htx : textN r = s.data.toList := by
          rcases text_parse s.data.toList with ⟨_, h2, _⟩ | ⟨h1, _⟩ | ⟨h1, _⟩
          · rw [hl, hpl, hcore] at h2
            rw [hxr, hl]; exact h2
          · rw [hl, hpl, hcore] at h1; cases h1
          · rw [hl, hpl, hcore] at h1; cases h1
        have := rparse_p_b_R7f s m e e2 _ _ _ r n1 n2 n3 n4 n5 hs0 h45 hTZ rfl hok ht0 h48 hn (nat_ne (by omega)) hp (by omega) (by omega) (by omega) hm he he0 hb45 hex2 hEZ hlead hoe he48 hm17 he5 (show m.size ≤ 17 by omega) (show e2.size ≤ 17 by omega) rfl rfl hmd hed (by omega) hcalls hr htx w
        rw [hxr] at this
        exact this
  · have hb45 := byte_f (c := e[0]) 45 45 rfl hb
    have hnp := pre_false (l := k) (fun u hu => hb (by rw [hge, hu]; rfl))
    have hbel := hnp.1
    have hE : Lib.trimPrefix k [45] = e.data.toList := by rw [hnp.2, heL]
    have hEZ := heZ
    cases hoe : okD e.data.toList
    · have hk : intB k = false := by
        cases hk : intB k
        · rfl
        · have := ((int_ref k).1 hk).1; rw [hE, hoe] at this; cases this
      rw [hpl, core_form0 (by rw [c1, hk])]
      exact rparse_p_a_R5a s m e _ _ n1 n2 n3 n4 n5 hs0 h45 hTZ rfl hok ht0 h48 hn (nat_ne (by omega)) hp (by omega) (by omega) (by omega) hm he he0 hb45 hEZ rfl hoe w
    by_cases hlead : leadN e.data.toList = e.size
    case neg =>
      have hk : intB k = false := by
        cases hk : intB k
        · rfl
        · have := ((int_ref k).1 hk).2.1; rw [hE, ← Lib.size_eq] at this; exact absurd this hlead
      rw [hpl, core_form0 (by rw [c1, hk])]
      exact rparse_p_a_R5b s m e _ _ n1 n2 n3 n4 n5 hs0 h45 hTZ rfl hok ht0 h48 hn (nat_ne (by omega)) hp (by omega) (by omega) (by omega) hm he he0 hb45 hEZ rfl hoe (nat_nne hlead) w
    have hk : intB k = true := (int_ref k).2 ⟨by rw [hE]; exact hoe, by rw [hE, ← Lib.size_eq]; exact hlead, fun hh => by rw [hbel] at hh; cases hh.1⟩
    by_cases hm17 : 17 < m.size
    · have hfit : fitsB (satN a) (intN k) = false := by
        cases h : fitsB (satN a) (intN k)
        · rfl
        · exact absurd ((fits_iff _ _).1 h) (not_fits_m ha (by rw [← hmL, ← Lib.size_eq]; exact hm17))
      have hcore : coreN l = (0, 1) := by unfold coreN; rw [c1, c2, c3, hk, hfit]; rfl
      rw [hpl, hcore]
      exact rparse_p_a_R6m s m e _ n1 n2 n3 n4 n5 hs0 h45 hTZ rfl hok ht0 h48 hn (nat_ne (by omega)) hp (by omega) (by omega) (by omega) hm he he0 hb45 hEZ hlead hoe hm17 w
    by_cases he5 : 5 < e.size
    · have hfit : fitsB (satN a) (intN k) = false := by
        cases h : fitsB (satN a) (intN k)
        · rfl
        · exact absurd ((fits_iff _ _).1 h) (not_fits_e hk (by rw [hE, ← Lib.size_eq]; exact he5))
      have hcore : coreN l = (0, 1) := by unfold coreN; rw [c1, c2, c3, hk, hfit]; rfl
      rw [hpl, hcore]
      exact rparse_p_a_R6e s m e _ n1 n2 n3 n4 n5 hs0 h45 hTZ rfl hok ht0 h48 hn (nat_ne (by omega)) hp (by omega) (by omega) (by omega) hm he he0 hb45 hEZ hlead hoe hm17 he5 w
    · 
      obtain ⟨v1, v2⟩ := intN_val (k := k) (by rw [hE, ← Lib.size_eq]; exact he5) hk
      rw [hE, hbel] at v2
      rw [hE] at v1
      have hvn : satN a = valN a ∨ 9007199254740992 ≤ valN a := by unfold satN; omega
      have hmd : m.data.toList.all digB = true := by rw [hmL]; exact cntB_digits ha
      have hv17 := val_lt_pow _ hmd
      have hp17 : 10 ^ m.data.toList.length ≤ 10 ^ 17 := Nat.pow_le_pow_right (by decide) (by rw [← Lib.size_eq]; omega)
      have hv0 : valN m.data.toList ≠ 0 := by rw [hmL]; exact (val_dec ha).2
      have hed : e.data.toList.all digB = true := by have := int_digits hk; rw [hE] at this; exact this
      obtain ⟨r, hr, hrf, hcalls⟩ := ldexp_open (valN m.data.toList) ((valN e.data.toList : Int)) hv0 (by omega) (by omega) (by omega)
      cases hfit : fitsB (satN a) (intN k)
      · have hcore : coreN l = (0, 1) := by unfold coreN; rw [c1, c2, c3, hk, hfit]; rfl
        rw [hpl, hcore]
        have htx : textN r = (⟨(textN r).toArray⟩ : ByteArray).data.toList := by rw [mk_list]
        have hpp : parseN s.data.toList = (0, 1) := by rw [hl, hpl, hcore]
        exact rparse_p_a_R7n s m e ⟨(textN r).toArray⟩ _ _ _ r n1 n2 n3 n4 n5 hs0 h45 hTZ rfl hok ht0 h48 hn (nat_ne (by omega)) hp (by omega) (by omega) (by omega) hm he he0 hb45 hEZ hlead hoe hm17 he5 (show m.size ≤ 17 by omega) (show e.size ≤ 17 by omega) rfl rfl hmd hed (by omega) hcalls hr htx (ne_text hr hpp rfl htx) w
      · have hF := (fits_iff _ _).1 hfit
        have hFl := hF.lt
        have hv : satN a = valN a := by unfold satN at hFl ⊢; omega
        have hcore : coreN l = (ofOdd (satN a) (intN k), 0) := by unfold coreN; rw [c1, c2, c3, hk, hfit, hpre]; rfl
        have hr2 : r = ofOdd (satN a) (intN k) := by
          rw [hv, v2]
          rw [hv, v2] at hF
          rw [← hmL] at hF ⊢
          exact hrf hF
        have hlt := (ofOdd_spec hF).2.1
        unfold infR at hlt
        rw [← hr2] at hlt
        have hxr : r = ofOdd (satN a) (intN k) := by exact hr2
        rw [hpl, hcore]
        have htx : textN r = s.data.toList := by
          rcases text_parse s.data.toList with ⟨_, h2, _⟩ | ⟨h1, _⟩ | ⟨h1, _⟩
          · rw [hl, hpl, hcore] at h2
            rw [hxr, hl]; exact h2
          · rw [hl, hpl, hcore] at h1; cases h1
          · rw [hl, hpl, hcore] at h1; cases h1
        have := rparse_p_a_R7f s m e _ _ _ r n1 n2 n3 n4 n5 hs0 h45 hTZ rfl hok ht0 h48 hn (nat_ne (by omega)) hp (by omega) (by omega) (by omega) hm he he0 hb45 hEZ hlead hoe hm17 he5 (show m.size ≤ 17 by omega) (show e.size ≤ 17 by omega) rfl rfl hmd hed (by omega) hcalls hr htx w
        rw [hxr] at this
        exact this
end Go.Proofs.YtbgccaconhmbaaaGreatDoor
