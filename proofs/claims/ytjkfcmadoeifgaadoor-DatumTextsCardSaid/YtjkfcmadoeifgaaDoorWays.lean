/- raceref1.Parse's ways. Conditions: texts of at most a million bytes. -/
import Derived.Test.YtjkfcmadoeifgaaDoorRead
namespace Go.Proofs.YtjkfcmadoeifgaaDoor
open Go.RowKit Go.Lib
theorem digits_is (s : ByteArray) (n : Nat) (ok : Bool) (h1 : leadN s.data.toList = n) (h2 : okD s.data.toList = ok) (hs : s.size ≤ 1000000) (w : World) :
    Calls Tryd.prog 62 #[.string s] w fun e w' => e = .returned (.tuple #[.int .i64 (n : Nat), .bool ok]) ∧ w = w' := by
  subst h1; subst h2; exact digits_any s hs w
theorem number_is (s : ByteArray) (v : Nat) (h : valN s.data.toList = v) (hs : s.size ≤ 17) (hd : s.data.toList.all digB = true) (w : World) :
    Calls Tryd.prog 63 #[.string s] w fun e w' => e = .returned (.int .i64 (v : Nat)) ∧ w = w' := by
  subst h; exact digs_any s hs hd w
theorem rprint_is (z : Nat) (s : ByteArray) (h : textN z = s.data.toList) (hz : z < 18446744073709551616) (w : World) :
    Calls Tryd.prog 46 #[.float .f64 z] w fun e w' => e = .returned (.string s) ∧ Below w.heap.size w w' := by
  have := rprint_any z hz w
  rw [h] at this
  exact this
set_option maxRecDepth 100000 in
theorem inf_minus (w : World) : Calls Tryd.prog 61 #[.int .i64 (-1)] w fun e w' => e = .returned (.float .f64 18442240474082181120) ∧ w = w' := by
  have hg := run_frombits
  go_enter Tryd.func61, Tryd.ntmps61
  go_wp2
  go_ret
  exact ⟨rfl, rfl⟩
set_option maxRecDepth 100000 in
theorem rparse_nan (w : World) : Calls Tryd.prog 42 #[.string ⟨#[110, 97, 110]⟩] w fun e w' => e = .returned (.tuple #[.float .f64 oneNaN, .int .i64 0]) ∧ w = w' := by
  have H := Lib.hid (fun w => rof_any 9221120237041090560 w)
  have HC : Hid (canon 9221120237041090560 = oneNaN) := by unfold Hid; decide
  go_enter Tryd.func42, Tryd.ntmps42
  go_wp2_with (go_at_call 60; refine (H.out _).mono ?_; rw [HC.out]; rintro e w' ⟨rfl, rfl⟩)
  go_ret2
  exact ⟨rfl, rfl⟩
set_option maxRecDepth 100000 in
theorem rparse_inf (w : World) : Calls Tryd.prog 42 #[.string ⟨#[105, 110, 102]⟩] w fun e w' => e = .returned (.tuple #[.float .f64 infR, .int .i64 0]) ∧ w = w' := by
  go_enter Tryd.func42, Tryd.ntmps42
  go_wp2_with (go_at_call 61; refine (inf_one _).mono ?_; rintro e w' ⟨rfl, rfl⟩)
  go_ret2
  exact ⟨rfl, rfl⟩
set_option maxRecDepth 100000 in
theorem rparse_minf (w : World) : Calls Tryd.prog 42 #[.string ⟨#[45, 105, 110, 102]⟩] w fun e w' => e = .returned (.tuple #[.float .f64 18442240474082181120, .int .i64 0]) ∧ w = w' := by
  go_enter Tryd.func42, Tryd.ntmps42
  go_wp2_with (go_at_call 61; refine (inf_minus _).mono ?_; rintro e w' ⟨rfl, rfl⟩)
  go_ret2
  exact ⟨rfl, rfl⟩
set_option maxRecDepth 100000 in
theorem rparse_zero (w : World) : Calls Tryd.prog 42 #[.string ⟨#[48]⟩] w fun e w' => e = .returned (.tuple #[.float .f64 0, .int .i64 0]) ∧ w = w' := by
  go_enter Tryd.func42, Tryd.ntmps42
  go_wp2_with fail
  go_ret2
  exact ⟨rfl, rfl⟩
set_option maxRecDepth 100000 in
theorem rparse_mzero (w : World) : Calls Tryd.prog 42 #[.string ⟨#[45, 48]⟩] w fun e w' => e = .returned (.tuple #[.float .f64 9223372036854775808, .int .i64 0]) ∧ w = w' := by
  have hg := run_frombits
  go_enter Tryd.func42, Tryd.ntmps42
  go_wp2_with fail
  go_ret2
  exact ⟨rfl, rfl⟩
set_option maxRecDepth 100000 in
theorem rparse_empty (w : World) : Calls Tryd.prog 42 #[.string ⟨#[]⟩] w fun e w' => e = .returned (.tuple #[.float .f64 0, .int .i64 4]) ∧ w = w' := by
  have HL : Hid (leadN (⟨#[]⟩ : ByteArray).data.toList = 0) := by unfold Hid; decide
  have HO : Hid (okD (⟨#[]⟩ : ByteArray).data.toList = false) := by unfold Hid; decide
  go_enter Tryd.func42, Tryd.ntmps42
  go_wp2_with (go_at_call 62; refine (digits_is ⟨#[]⟩ 0 false HL.out HO.out (by decide) _).mono ?_; rintro e w' ⟨rfl, rfl⟩)
  go_ret2
  exact ⟨rfl, rfl⟩
set_option maxRecDepth 100000 in
set_option maxHeartbeats 1600000 in
theorem rparse_m_R1 (s t : ByteArray) (n : Nat) (n1 : (s.toList == [110, 97, 110]) = false) (n2 : (s.toList == [105, 110, 102]) = false) (n3 : (s.toList == [45, 105, 110, 102]) = false) (n4 : (s.toList == [48]) = false) (n5 : (s.toList == [45, 48]) = false)
    (hs0 : 0 < s.size) (h45 : ((s[0].toNat : Int) == 45) = true) (hex : s.extract 1 s.size = t) (HTZ : Hid (t.size ≤ 1000000)) (HL : Hid (leadN t.data.toList = n)) (HOK : Hid (okD t.data.toList = false)) (w : World) :
    Calls Tryd.prog 42 #[.string s] w fun e w' => e = .returned (.tuple #[.float .f64 0, .int .i64 4]) ∧ Below w.heap.size w w' := by
  go_enter Tryd.func42, Tryd.ntmps42
  go_wp2_with (first
    | (go_at_call 62; ((with_reducible refine (digits_is t n false HL.out HOK.out HTZ.out _).mono ?_)); rintro e w' ⟨rfl, rfl⟩))
  all_goals go_ret2
  all_goals exact ⟨by first | rfl | (simp; done), Below.refl _ _⟩
set_option maxRecDepth 100000 in
set_option maxHeartbeats 1600000 in
theorem rparse_m_R2 (s t : ByteArray) (n : Nat) (n1 : (s.toList == [110, 97, 110]) = false) (n2 : (s.toList == [105, 110, 102]) = false) (n3 : (s.toList == [45, 105, 110, 102]) = false) (n4 : (s.toList == [48]) = false) (n5 : (s.toList == [45, 48]) = false)
    (hs0 : 0 < s.size) (h45 : ((s[0].toNat : Int) == 45) = true) (hex : s.extract 1 s.size = t) (HTZ : Hid (t.size ≤ 1000000)) (HL : Hid (leadN t.data.toList = n)) (HOK : Hid (okD t.data.toList = true)) (ht0 : 0 < t.size) (h48 : ((t[0].toNat : Int) == 48) = true) (w : World) :
    Calls Tryd.prog 42 #[.string s] w fun e w' => e = .returned (.tuple #[.float .f64 0, .int .i64 4]) ∧ Below w.heap.size w w' := by
  go_enter Tryd.func42, Tryd.ntmps42
  go_wp2_with (first
    | (go_at_call 62; ((with_reducible refine (digits_is t n true HL.out HOK.out HTZ.out _).mono ?_)); rintro e w' ⟨rfl, rfl⟩))
  all_goals go_ret2
  all_goals exact ⟨by first | rfl | (simp; done), Below.refl _ _⟩
set_option maxRecDepth 100000 in
set_option maxHeartbeats 1600000 in
theorem rparse_m_R3 (s t : ByteArray) (_n : Nat) (n1 : (s.toList == [110, 97, 110]) = false) (n2 : (s.toList == [105, 110, 102]) = false) (n3 : (s.toList == [45, 105, 110, 102]) = false) (n4 : (s.toList == [48]) = false) (n5 : (s.toList == [45, 48]) = false)
    (hs0 : 0 < s.size) (h45 : ((s[0].toNat : Int) == 45) = true) (hex : s.extract 1 s.size = t) (HTZ : Hid (t.size ≤ 1000000)) (HL : Hid (leadN t.data.toList = t.size)) (HOK : Hid (okD t.data.toList = true)) (ht0 : 0 < t.size) (h48 : ((t[0].toNat : Int) == 48) = false) (w : World) :
    Calls Tryd.prog 42 #[.string s] w fun e w' => e = .returned (.tuple #[.float .f64 0, .int .i64 4]) ∧ Below w.heap.size w w' := by
  go_enter Tryd.func42, Tryd.ntmps42
  go_wp2_with (first
    | (go_at_call 62; ((with_reducible refine (digits_is t t.size true HL.out HOK.out HTZ.out _).mono ?_)); rintro e w' ⟨rfl, rfl⟩))
  all_goals go_ret2
  all_goals exact ⟨by first | rfl | (simp; done), Below.refl _ _⟩
set_option maxRecDepth 100000 in
set_option maxHeartbeats 1600000 in
theorem rparse_m_R4 (s t : ByteArray) (n : Nat) (n1 : (s.toList == [110, 97, 110]) = false) (n2 : (s.toList == [105, 110, 102]) = false) (n3 : (s.toList == [45, 105, 110, 102]) = false) (n4 : (s.toList == [48]) = false) (n5 : (s.toList == [45, 48]) = false)
    (hs0 : 0 < s.size) (h45 : ((s[0].toNat : Int) == 45) = true) (hex : s.extract 1 s.size = t) (HTZ : Hid (t.size ≤ 1000000)) (HL : Hid (leadN t.data.toList = n)) (HOK : Hid (okD t.data.toList = true)) (ht0 : 0 < t.size) (h48 : ((t[0].toNat : Int) == 48) = false) (hn : n < t.size) (hnne : ((n : Int) == (t.size : Int)) = false) (hp : ((t[n].toNat : Int) != 112) = true) (_hnb : (n : Int) ≤ 1000000) (w : World) :
    Calls Tryd.prog 42 #[.string s] w fun e w' => e = .returned (.tuple #[.float .f64 0, .int .i64 4]) ∧ Below w.heap.size w w' := by
  go_enter Tryd.func42, Tryd.ntmps42
  go_wp2_with (first
    | (go_at_call 62; ((with_reducible refine (digits_is t n true HL.out HOK.out HTZ.out _).mono ?_)); rintro e w' ⟨rfl, rfl⟩))
  all_goals go_ret2
  all_goals exact ⟨by first | rfl | (simp; done), Below.refl _ _⟩
set_option maxRecDepth 100000 in
set_option maxHeartbeats 1600000 in
theorem rparse_m_R5z (s t m e : ByteArray) (n : Nat) (n1 : (s.toList == [110, 97, 110]) = false) (n2 : (s.toList == [105, 110, 102]) = false) (n3 : (s.toList == [45, 105, 110, 102]) = false) (n4 : (s.toList == [48]) = false) (n5 : (s.toList == [45, 48]) = false)
    (hs0 : 0 < s.size) (h45 : ((s[0].toNat : Int) == 45) = true) (hex : s.extract 1 s.size = t) (HTZ : Hid (t.size ≤ 1000000)) (HL : Hid (leadN t.data.toList = n)) (HOK : Hid (okD t.data.toList = true)) (ht0 : 0 < t.size) (h48 : ((t[0].toNat : Int) == 48) = false) (hn : n < t.size) (hnne : ((n : Int) == (t.size : Int)) = false) (hp : ((t[n].toNat : Int) != 112) = false) (hnb : (n : Int) ≤ 1000000) (c2 : (n : Int) ≤ (t.size : Int)) (_c4 : (n : Int) + 1 ≤ (t.size : Int)) (hm : t.extract 0 n = m) (he : t.extract (n + 1) t.size = e) (hez : e.size = 0) (HEZ : Hid (e.size ≤ 1000000)) (HLE : Hid (leadN e.data.toList = 0)) (HOE : Hid (okD e.data.toList = false)) (w : World) :
    Calls Tryd.prog 42 #[.string s] w fun e w' => e = .returned (.tuple #[.float .f64 0, .int .i64 4]) ∧ Below w.heap.size w w' := by
  go_enter Tryd.func42, Tryd.ntmps42
  go_wp2_with (first
    | (go_at_call 62; first
        | ((with_reducible refine (digits_is t n true HL.out HOK.out HTZ.out _).mono ?_); rintro e w' ⟨rfl, rfl⟩)
        | ((with_reducible refine (digits_is e 0 false HLE.out HOE.out HEZ.out _).mono ?_); rintro e w' ⟨rfl, rfl⟩)))
  all_goals go_ret2
  all_goals exact ⟨by first | rfl | (simp; done), Below.refl _ _⟩
set_option maxRecDepth 100000 in
set_option maxHeartbeats 1600000 in
theorem rparse_m_b_R5a (s t m e e2 : ByteArray) (n k : Nat) (n1 : (s.toList == [110, 97, 110]) = false) (n2 : (s.toList == [105, 110, 102]) = false) (n3 : (s.toList == [45, 105, 110, 102]) = false) (n4 : (s.toList == [48]) = false) (n5 : (s.toList == [45, 48]) = false)
    (hs0 : 0 < s.size) (h45 : ((s[0].toNat : Int) == 45) = true) (hex : s.extract 1 s.size = t) (HTZ : Hid (t.size ≤ 1000000)) (HL : Hid (leadN t.data.toList = n)) (HOK : Hid (okD t.data.toList = true)) (ht0 : 0 < t.size) (h48 : ((t[0].toNat : Int) == 48) = false) (hn : n < t.size) (hnne : ((n : Int) == (t.size : Int)) = false) (hp : ((t[n].toNat : Int) != 112) = false) (hnb : (n : Int) ≤ 1000000) (c2 : (n : Int) ≤ (t.size : Int)) (_c4 : (n : Int) + 1 ≤ (t.size : Int)) (hm : t.extract 0 n = m) (he : t.extract (n + 1) t.size = e) (he0 : 0 < e.size) (hb45 : ((e[0].toNat : Int) == 45) = true) (hex2 : e.extract 1 e.size = e2) (HEZ : Hid (e2.size ≤ 1000000)) (HLE : Hid (leadN e2.data.toList = k)) (HOE : Hid (okD e2.data.toList = false)) (w : World) :
    Calls Tryd.prog 42 #[.string s] w fun e w' => e = .returned (.tuple #[.float .f64 0, .int .i64 4]) ∧ Below w.heap.size w w' := by
  go_enter Tryd.func42, Tryd.ntmps42
  go_wp2_with (first
    | (go_at_call 62; first
        | ((with_reducible refine (digits_is t n true HL.out HOK.out HTZ.out _).mono ?_); rintro e w' ⟨rfl, rfl⟩)
        | ((with_reducible refine (digits_is e2 k false HLE.out HOE.out HEZ.out _).mono ?_); rintro e w' ⟨rfl, rfl⟩)))
  all_goals go_ret2
  all_goals exact ⟨by first | rfl | (simp; done), Below.refl _ _⟩
set_option maxRecDepth 100000 in
set_option maxHeartbeats 1600000 in
theorem rparse_m_b_R5b (s t m e e2 : ByteArray) (n k : Nat) (n1 : (s.toList == [110, 97, 110]) = false) (n2 : (s.toList == [105, 110, 102]) = false) (n3 : (s.toList == [45, 105, 110, 102]) = false) (n4 : (s.toList == [48]) = false) (n5 : (s.toList == [45, 48]) = false)
    (hs0 : 0 < s.size) (h45 : ((s[0].toNat : Int) == 45) = true) (hex : s.extract 1 s.size = t) (HTZ : Hid (t.size ≤ 1000000)) (HL : Hid (leadN t.data.toList = n)) (HOK : Hid (okD t.data.toList = true)) (ht0 : 0 < t.size) (h48 : ((t[0].toNat : Int) == 48) = false) (hn : n < t.size) (hnne : ((n : Int) == (t.size : Int)) = false) (hp : ((t[n].toNat : Int) != 112) = false) (hnb : (n : Int) ≤ 1000000) (c2 : (n : Int) ≤ (t.size : Int)) (_c4 : (n : Int) + 1 ≤ (t.size : Int)) (hm : t.extract 0 n = m) (he : t.extract (n + 1) t.size = e) (he0 : 0 < e.size) (hb45 : ((e[0].toNat : Int) == 45) = true) (hex2 : e.extract 1 e.size = e2) (HEZ : Hid (e2.size ≤ 1000000)) (HLE : Hid (leadN e2.data.toList = k)) (HOE : Hid (okD e2.data.toList = true)) (hke : ((k : Int) != (e2.size : Int)) = true) (w : World) :
    Calls Tryd.prog 42 #[.string s] w fun e w' => e = .returned (.tuple #[.float .f64 0, .int .i64 4]) ∧ Below w.heap.size w w' := by
  go_enter Tryd.func42, Tryd.ntmps42
  go_wp2_with (first
    | (go_at_call 62; first
        | ((with_reducible refine (digits_is t n true HL.out HOK.out HTZ.out _).mono ?_); rintro e w' ⟨rfl, rfl⟩)
        | ((with_reducible refine (digits_is e2 k true HLE.out HOE.out HEZ.out _).mono ?_); rintro e w' ⟨rfl, rfl⟩)))
  all_goals go_ret2
  all_goals exact ⟨by first | rfl | (simp; done), Below.refl _ _⟩
set_option maxRecDepth 100000 in
set_option maxHeartbeats 1600000 in
theorem rparse_m_b_R5c (s t m e e2 : ByteArray) (n : Nat) (n1 : (s.toList == [110, 97, 110]) = false) (n2 : (s.toList == [105, 110, 102]) = false) (n3 : (s.toList == [45, 105, 110, 102]) = false) (n4 : (s.toList == [48]) = false) (n5 : (s.toList == [45, 48]) = false)
    (hs0 : 0 < s.size) (h45 : ((s[0].toNat : Int) == 45) = true) (hex : s.extract 1 s.size = t) (HTZ : Hid (t.size ≤ 1000000)) (HL : Hid (leadN t.data.toList = n)) (HOK : Hid (okD t.data.toList = true)) (ht0 : 0 < t.size) (h48 : ((t[0].toNat : Int) == 48) = false) (hn : n < t.size) (hnne : ((n : Int) == (t.size : Int)) = false) (hp : ((t[n].toNat : Int) != 112) = false) (hnb : (n : Int) ≤ 1000000) (c2 : (n : Int) ≤ (t.size : Int)) (_c4 : (n : Int) + 1 ≤ (t.size : Int)) (hm : t.extract 0 n = m) (he : t.extract (n + 1) t.size = e) (he0 : 0 < e.size) (hb45 : ((e[0].toNat : Int) == 45) = true) (hex2 : e.extract 1 e.size = e2) (HEZ : Hid (e2.size ≤ 1000000)) (HLE : Hid (leadN e2.data.toList = e2.size)) (HOE : Hid (okD e2.data.toList = true)) (he48 : (e2.toList == [48]) = true) (w : World) :
    Calls Tryd.prog 42 #[.string s] w fun e w' => e = .returned (.tuple #[.float .f64 0, .int .i64 4]) ∧ Below w.heap.size w w' := by
  go_enter Tryd.func42, Tryd.ntmps42
  go_wp2_with (first
    | (go_at_call 62; first
        | ((with_reducible refine (digits_is t n true HL.out HOK.out HTZ.out _).mono ?_); rintro e w' ⟨rfl, rfl⟩)
        | ((with_reducible refine (digits_is e2 e2.size true HLE.out HOE.out HEZ.out _).mono ?_); rintro e w' ⟨rfl, rfl⟩)))
  all_goals go_ret2
  all_goals exact ⟨by first | rfl | (simp; done), Below.refl _ _⟩
set_option maxRecDepth 100000 in
set_option maxHeartbeats 1600000 in
theorem rparse_m_b_R6m (s t m e e2 : ByteArray) (n : Nat) (n1 : (s.toList == [110, 97, 110]) = false) (n2 : (s.toList == [105, 110, 102]) = false) (n3 : (s.toList == [45, 105, 110, 102]) = false) (n4 : (s.toList == [48]) = false) (n5 : (s.toList == [45, 48]) = false)
    (hs0 : 0 < s.size) (h45 : ((s[0].toNat : Int) == 45) = true) (hex : s.extract 1 s.size = t) (HTZ : Hid (t.size ≤ 1000000)) (HL : Hid (leadN t.data.toList = n)) (HOK : Hid (okD t.data.toList = true)) (ht0 : 0 < t.size) (h48 : ((t[0].toNat : Int) == 48) = false) (hn : n < t.size) (hnne : ((n : Int) == (t.size : Int)) = false) (hp : ((t[n].toNat : Int) != 112) = false) (hnb : (n : Int) ≤ 1000000) (c2 : (n : Int) ≤ (t.size : Int)) (_c4 : (n : Int) + 1 ≤ (t.size : Int)) (hm : t.extract 0 n = m) (he : t.extract (n + 1) t.size = e) (he0 : 0 < e.size) (hb45 : ((e[0].toNat : Int) == 45) = true) (hex2 : e.extract 1 e.size = e2) (HEZ : Hid (e2.size ≤ 1000000)) (HLE : Hid (leadN e2.data.toList = e2.size)) (HOE : Hid (okD e2.data.toList = true)) (he48 : (e2.toList == [48]) = false) (hm17 : 17 < m.size) (w : World) :
    Calls Tryd.prog 42 #[.string s] w fun e w' => e = .returned (.tuple #[.float .f64 0, .int .i64 1]) ∧ Below w.heap.size w w' := by
  go_enter Tryd.func42, Tryd.ntmps42
  go_wp2_with (first
    | (go_at_call 62; first
        | ((with_reducible refine (digits_is t n true HL.out HOK.out HTZ.out _).mono ?_); rintro e w' ⟨rfl, rfl⟩)
        | ((with_reducible refine (digits_is e2 e2.size true HLE.out HOE.out HEZ.out _).mono ?_); rintro e w' ⟨rfl, rfl⟩)))
  all_goals go_ret2
  all_goals exact ⟨by first | rfl | (simp; done), Below.refl _ _⟩
set_option maxRecDepth 100000 in
set_option maxHeartbeats 1600000 in
theorem rparse_m_b_R6e (s t m e e2 : ByteArray) (n : Nat) (n1 : (s.toList == [110, 97, 110]) = false) (n2 : (s.toList == [105, 110, 102]) = false) (n3 : (s.toList == [45, 105, 110, 102]) = false) (n4 : (s.toList == [48]) = false) (n5 : (s.toList == [45, 48]) = false)
    (hs0 : 0 < s.size) (h45 : ((s[0].toNat : Int) == 45) = true) (hex : s.extract 1 s.size = t) (HTZ : Hid (t.size ≤ 1000000)) (HL : Hid (leadN t.data.toList = n)) (HOK : Hid (okD t.data.toList = true)) (ht0 : 0 < t.size) (h48 : ((t[0].toNat : Int) == 48) = false) (hn : n < t.size) (hnne : ((n : Int) == (t.size : Int)) = false) (hp : ((t[n].toNat : Int) != 112) = false) (hnb : (n : Int) ≤ 1000000) (c2 : (n : Int) ≤ (t.size : Int)) (_c4 : (n : Int) + 1 ≤ (t.size : Int)) (hm : t.extract 0 n = m) (he : t.extract (n + 1) t.size = e) (he0 : 0 < e.size) (hb45 : ((e[0].toNat : Int) == 45) = true) (hex2 : e.extract 1 e.size = e2) (HEZ : Hid (e2.size ≤ 1000000)) (HLE : Hid (leadN e2.data.toList = e2.size)) (HOE : Hid (okD e2.data.toList = true)) (he48 : (e2.toList == [48]) = false) (hm17 : ¬ 17 < m.size) (he5 : 5 < e2.size) (w : World) :
    Calls Tryd.prog 42 #[.string s] w fun e w' => e = .returned (.tuple #[.float .f64 0, .int .i64 1]) ∧ Below w.heap.size w w' := by
  go_enter Tryd.func42, Tryd.ntmps42
  go_wp2_with (first
    | (go_at_call 62; first
        | ((with_reducible refine (digits_is t n true HL.out HOK.out HTZ.out _).mono ?_); rintro e w' ⟨rfl, rfl⟩)
        | ((with_reducible refine (digits_is e2 e2.size true HLE.out HOE.out HEZ.out _).mono ?_); rintro e w' ⟨rfl, rfl⟩)))
  all_goals go_ret2
  all_goals exact ⟨by first | rfl | (simp; done), Below.refl _ _⟩
set_option maxRecDepth 100000 in
set_option maxHeartbeats 1600000 in
theorem rparse_m_b_R7f (s t m e e2 : ByteArray) (n nv pv r x : Nat) (n1 : (s.toList == [110, 97, 110]) = false) (n2 : (s.toList == [105, 110, 102]) = false) (n3 : (s.toList == [45, 105, 110, 102]) = false) (n4 : (s.toList == [48]) = false) (n5 : (s.toList == [45, 48]) = false)
    (hs0 : 0 < s.size) (h45 : ((s[0].toNat : Int) == 45) = true) (hex : s.extract 1 s.size = t) (HTZ : Hid (t.size ≤ 1000000)) (HL : Hid (leadN t.data.toList = n)) (HOK : Hid (okD t.data.toList = true)) (ht0 : 0 < t.size) (h48 : ((t[0].toNat : Int) == 48) = false) (hn : n < t.size) (hnne : ((n : Int) == (t.size : Int)) = false) (hp : ((t[n].toNat : Int) != 112) = false) (hnb : (n : Int) ≤ 1000000) (c2 : (n : Int) ≤ (t.size : Int)) (_c4 : (n : Int) + 1 ≤ (t.size : Int)) (hm : t.extract 0 n = m) (he : t.extract (n + 1) t.size = e) (he0 : 0 < e.size) (hb45 : ((e[0].toNat : Int) == 45) = true) (hex2 : e.extract 1 e.size = e2) (HEZ : Hid (e2.size ≤ 1000000)) (HLE : Hid (leadN e2.data.toList = e2.size)) (HOE : Hid (okD e2.data.toList = true)) (he48 : (e2.toList == [48]) = false) (hm17 : ¬ 17 < m.size) (he5 : ¬ 5 < e2.size) (HM17 : Hid (m.size ≤ 17)) (HE17 : Hid (e2.size ≤ 17)) (HMV : Hid (valN m.data.toList = nv)) (HEV : Hid (valN e2.data.toList = pv)) (HMD : Hid (m.data.toList.all digB = true)) (HED : Hid (e2.data.toList.all digB = true)) (hpv : (pv : Int) ≤ 99999) (HLD : Hid (∀ w, Calls Tryd.prog 85 #[.float .f64 (floatOfInt .f64 (nv : Int)), .int .i64 (-(pv : Int))] w fun e w' => e = .returned (.float .f64 r) ∧ w = w')) (hng : ∀ w, (Op.unary .neg (.float .f64 r)).run Tryd.prog w = .ok (.float .f64 x) w) (HX : Hid (x < 18446744073709551616)) (HTX : Hid (textN x = s.data.toList)) (w : World) :
    Calls Tryd.prog 42 #[.string s] w fun e w' => e = .returned (.tuple #[.float .f64 x, .int .i64 0]) ∧ Below w.heap.size w w' := by
  go_enter Tryd.func42, Tryd.ntmps42
  go_wp2_with (first
    | (go_at_call 62; first
        | ((with_reducible refine (digits_is t n true HL.out HOK.out HTZ.out _).mono ?_); rintro e w' ⟨rfl, rfl⟩)
        | ((with_reducible refine (digits_is e2 e2.size true HLE.out HOE.out HEZ.out _).mono ?_); rintro e w' ⟨rfl, rfl⟩))
    | (go_at_call 46; ((with_reducible refine (rprint_is x s HTX.out HX.out _).mono ?_)); rintro e w1 ⟨rfl, hb1⟩; have HB1 := Lib.hid hb1; clear hb1)
    | (go_at_call 63; first
        | ((with_reducible refine (number_is m nv HMV.out HM17.out HMD.out _).mono ?_); rintro e w' ⟨rfl, rfl⟩)
        | ((with_reducible refine (number_is e2 pv HEV.out HE17.out HED.out _).mono ?_); rintro e w' ⟨rfl, rfl⟩))
    | (go_at_call 64; ((with_reducible refine (mldexp _ _ r HLD.out _).mono ?_)); rintro e w' ⟨rfl, rfl⟩))
  all_goals go_ret2
  all_goals exact ⟨by first | rfl | (simp; done), HB1.out⟩
set_option maxRecDepth 100000 in
set_option maxHeartbeats 1600000 in
theorem rparse_m_b_R7n (s t m e e2 tx : ByteArray) (n nv pv r x : Nat) (n1 : (s.toList == [110, 97, 110]) = false) (n2 : (s.toList == [105, 110, 102]) = false) (n3 : (s.toList == [45, 105, 110, 102]) = false) (n4 : (s.toList == [48]) = false) (n5 : (s.toList == [45, 48]) = false)
    (hs0 : 0 < s.size) (h45 : ((s[0].toNat : Int) == 45) = true) (hex : s.extract 1 s.size = t) (HTZ : Hid (t.size ≤ 1000000)) (HL : Hid (leadN t.data.toList = n)) (HOK : Hid (okD t.data.toList = true)) (ht0 : 0 < t.size) (h48 : ((t[0].toNat : Int) == 48) = false) (hn : n < t.size) (hnne : ((n : Int) == (t.size : Int)) = false) (hp : ((t[n].toNat : Int) != 112) = false) (hnb : (n : Int) ≤ 1000000) (c2 : (n : Int) ≤ (t.size : Int)) (_c4 : (n : Int) + 1 ≤ (t.size : Int)) (hm : t.extract 0 n = m) (he : t.extract (n + 1) t.size = e) (he0 : 0 < e.size) (hb45 : ((e[0].toNat : Int) == 45) = true) (hex2 : e.extract 1 e.size = e2) (HEZ : Hid (e2.size ≤ 1000000)) (HLE : Hid (leadN e2.data.toList = e2.size)) (HOE : Hid (okD e2.data.toList = true)) (he48 : (e2.toList == [48]) = false) (hm17 : ¬ 17 < m.size) (he5 : ¬ 5 < e2.size) (HM17 : Hid (m.size ≤ 17)) (HE17 : Hid (e2.size ≤ 17)) (HMV : Hid (valN m.data.toList = nv)) (HEV : Hid (valN e2.data.toList = pv)) (HMD : Hid (m.data.toList.all digB = true)) (HED : Hid (e2.data.toList.all digB = true)) (hpv : (pv : Int) ≤ 99999) (HLD : Hid (∀ w, Calls Tryd.prog 85 #[.float .f64 (floatOfInt .f64 (nv : Int)), .int .i64 (-(pv : Int))] w fun e w' => e = .returned (.float .f64 r) ∧ w = w')) (hng : ∀ w, (Op.unary .neg (.float .f64 r)).run Tryd.prog w = .ok (.float .f64 x) w) (HX : Hid (x < 18446744073709551616)) (HTX : Hid (textN x = tx.data.toList)) (hne : (tx.toList == s.toList) = false) (w : World) :
    Calls Tryd.prog 42 #[.string s] w fun e w' => e = .returned (.tuple #[.float .f64 0, .int .i64 1]) ∧ Below w.heap.size w w' := by
  go_enter Tryd.func42, Tryd.ntmps42
  go_wp2_with (first
    | (go_at_call 62; first
        | ((with_reducible refine (digits_is t n true HL.out HOK.out HTZ.out _).mono ?_); rintro e w' ⟨rfl, rfl⟩)
        | ((with_reducible refine (digits_is e2 e2.size true HLE.out HOE.out HEZ.out _).mono ?_); rintro e w' ⟨rfl, rfl⟩))
    | (go_at_call 46; ((with_reducible refine (rprint_is x tx HTX.out HX.out _).mono ?_)); rintro e w1 ⟨rfl, hb1⟩; have HB1 := Lib.hid hb1; clear hb1)
    | (go_at_call 63; first
        | ((with_reducible refine (number_is m nv HMV.out HM17.out HMD.out _).mono ?_); rintro e w' ⟨rfl, rfl⟩)
        | ((with_reducible refine (number_is e2 pv HEV.out HE17.out HED.out _).mono ?_); rintro e w' ⟨rfl, rfl⟩))
    | (go_at_call 64; ((with_reducible refine (mldexp _ _ r HLD.out _).mono ?_)); rintro e w' ⟨rfl, rfl⟩))
  all_goals go_ret2
  all_goals exact ⟨by first | rfl | (simp; done), HB1.out⟩
set_option maxRecDepth 100000 in
set_option maxHeartbeats 1600000 in
theorem rparse_m_a_R5a (s t m e : ByteArray) (n k : Nat) (n1 : (s.toList == [110, 97, 110]) = false) (n2 : (s.toList == [105, 110, 102]) = false) (n3 : (s.toList == [45, 105, 110, 102]) = false) (n4 : (s.toList == [48]) = false) (n5 : (s.toList == [45, 48]) = false)
    (hs0 : 0 < s.size) (h45 : ((s[0].toNat : Int) == 45) = true) (hex : s.extract 1 s.size = t) (HTZ : Hid (t.size ≤ 1000000)) (HL : Hid (leadN t.data.toList = n)) (HOK : Hid (okD t.data.toList = true)) (ht0 : 0 < t.size) (h48 : ((t[0].toNat : Int) == 48) = false) (hn : n < t.size) (hnne : ((n : Int) == (t.size : Int)) = false) (hp : ((t[n].toNat : Int) != 112) = false) (hnb : (n : Int) ≤ 1000000) (c2 : (n : Int) ≤ (t.size : Int)) (_c4 : (n : Int) + 1 ≤ (t.size : Int)) (hm : t.extract 0 n = m) (he : t.extract (n + 1) t.size = e) (he0 : 0 < e.size) (hb45 : ((e[0].toNat : Int) == 45) = false) (HEZ : Hid (e.size ≤ 1000000)) (HLE : Hid (leadN e.data.toList = k)) (HOE : Hid (okD e.data.toList = false)) (w : World) :
    Calls Tryd.prog 42 #[.string s] w fun e w' => e = .returned (.tuple #[.float .f64 0, .int .i64 4]) ∧ Below w.heap.size w w' := by
  go_enter Tryd.func42, Tryd.ntmps42
  go_wp2_with (first
    | (go_at_call 62; first
        | ((with_reducible refine (digits_is t n true HL.out HOK.out HTZ.out _).mono ?_); rintro e w' ⟨rfl, rfl⟩)
        | ((with_reducible refine (digits_is e k false HLE.out HOE.out HEZ.out _).mono ?_); rintro e w' ⟨rfl, rfl⟩)))
  all_goals go_ret2
  all_goals exact ⟨by first | rfl | (simp; done), Below.refl _ _⟩
set_option maxRecDepth 100000 in
set_option maxHeartbeats 1600000 in
theorem rparse_m_a_R5b (s t m e : ByteArray) (n k : Nat) (n1 : (s.toList == [110, 97, 110]) = false) (n2 : (s.toList == [105, 110, 102]) = false) (n3 : (s.toList == [45, 105, 110, 102]) = false) (n4 : (s.toList == [48]) = false) (n5 : (s.toList == [45, 48]) = false)
    (hs0 : 0 < s.size) (h45 : ((s[0].toNat : Int) == 45) = true) (hex : s.extract 1 s.size = t) (HTZ : Hid (t.size ≤ 1000000)) (HL : Hid (leadN t.data.toList = n)) (HOK : Hid (okD t.data.toList = true)) (ht0 : 0 < t.size) (h48 : ((t[0].toNat : Int) == 48) = false) (hn : n < t.size) (hnne : ((n : Int) == (t.size : Int)) = false) (hp : ((t[n].toNat : Int) != 112) = false) (hnb : (n : Int) ≤ 1000000) (c2 : (n : Int) ≤ (t.size : Int)) (_c4 : (n : Int) + 1 ≤ (t.size : Int)) (hm : t.extract 0 n = m) (he : t.extract (n + 1) t.size = e) (he0 : 0 < e.size) (hb45 : ((e[0].toNat : Int) == 45) = false) (HEZ : Hid (e.size ≤ 1000000)) (HLE : Hid (leadN e.data.toList = k)) (HOE : Hid (okD e.data.toList = true)) (hke : ((k : Int) != (e.size : Int)) = true) (w : World) :
    Calls Tryd.prog 42 #[.string s] w fun e w' => e = .returned (.tuple #[.float .f64 0, .int .i64 4]) ∧ Below w.heap.size w w' := by
  go_enter Tryd.func42, Tryd.ntmps42
  go_wp2_with (first
    | (go_at_call 62; first
        | ((with_reducible refine (digits_is t n true HL.out HOK.out HTZ.out _).mono ?_); rintro e w' ⟨rfl, rfl⟩)
        | ((with_reducible refine (digits_is e k true HLE.out HOE.out HEZ.out _).mono ?_); rintro e w' ⟨rfl, rfl⟩)))
  all_goals go_ret2
  all_goals exact ⟨by first | rfl | (simp; done), Below.refl _ _⟩
set_option maxRecDepth 100000 in
set_option maxHeartbeats 1600000 in
theorem rparse_m_a_R6m (s t m e : ByteArray) (n : Nat) (n1 : (s.toList == [110, 97, 110]) = false) (n2 : (s.toList == [105, 110, 102]) = false) (n3 : (s.toList == [45, 105, 110, 102]) = false) (n4 : (s.toList == [48]) = false) (n5 : (s.toList == [45, 48]) = false)
    (hs0 : 0 < s.size) (h45 : ((s[0].toNat : Int) == 45) = true) (hex : s.extract 1 s.size = t) (HTZ : Hid (t.size ≤ 1000000)) (HL : Hid (leadN t.data.toList = n)) (HOK : Hid (okD t.data.toList = true)) (ht0 : 0 < t.size) (h48 : ((t[0].toNat : Int) == 48) = false) (hn : n < t.size) (hnne : ((n : Int) == (t.size : Int)) = false) (hp : ((t[n].toNat : Int) != 112) = false) (hnb : (n : Int) ≤ 1000000) (c2 : (n : Int) ≤ (t.size : Int)) (_c4 : (n : Int) + 1 ≤ (t.size : Int)) (hm : t.extract 0 n = m) (he : t.extract (n + 1) t.size = e) (he0 : 0 < e.size) (hb45 : ((e[0].toNat : Int) == 45) = false) (HEZ : Hid (e.size ≤ 1000000)) (HLE : Hid (leadN e.data.toList = e.size)) (HOE : Hid (okD e.data.toList = true)) (hm17 : 17 < m.size) (w : World) :
    Calls Tryd.prog 42 #[.string s] w fun e w' => e = .returned (.tuple #[.float .f64 0, .int .i64 1]) ∧ Below w.heap.size w w' := by
  go_enter Tryd.func42, Tryd.ntmps42
  go_wp2_with (first
    | (go_at_call 62; first
        | ((with_reducible refine (digits_is t n true HL.out HOK.out HTZ.out _).mono ?_); rintro e w' ⟨rfl, rfl⟩)
        | ((with_reducible refine (digits_is e e.size true HLE.out HOE.out HEZ.out _).mono ?_); rintro e w' ⟨rfl, rfl⟩)))
  all_goals go_ret2
  all_goals exact ⟨by first | rfl | (simp; done), Below.refl _ _⟩
set_option maxRecDepth 100000 in
set_option maxHeartbeats 1600000 in
theorem rparse_m_a_R6e (s t m e : ByteArray) (n : Nat) (n1 : (s.toList == [110, 97, 110]) = false) (n2 : (s.toList == [105, 110, 102]) = false) (n3 : (s.toList == [45, 105, 110, 102]) = false) (n4 : (s.toList == [48]) = false) (n5 : (s.toList == [45, 48]) = false)
    (hs0 : 0 < s.size) (h45 : ((s[0].toNat : Int) == 45) = true) (hex : s.extract 1 s.size = t) (HTZ : Hid (t.size ≤ 1000000)) (HL : Hid (leadN t.data.toList = n)) (HOK : Hid (okD t.data.toList = true)) (ht0 : 0 < t.size) (h48 : ((t[0].toNat : Int) == 48) = false) (hn : n < t.size) (hnne : ((n : Int) == (t.size : Int)) = false) (hp : ((t[n].toNat : Int) != 112) = false) (hnb : (n : Int) ≤ 1000000) (c2 : (n : Int) ≤ (t.size : Int)) (_c4 : (n : Int) + 1 ≤ (t.size : Int)) (hm : t.extract 0 n = m) (he : t.extract (n + 1) t.size = e) (he0 : 0 < e.size) (hb45 : ((e[0].toNat : Int) == 45) = false) (HEZ : Hid (e.size ≤ 1000000)) (HLE : Hid (leadN e.data.toList = e.size)) (HOE : Hid (okD e.data.toList = true)) (hm17 : ¬ 17 < m.size) (he5 : 5 < e.size) (w : World) :
    Calls Tryd.prog 42 #[.string s] w fun e w' => e = .returned (.tuple #[.float .f64 0, .int .i64 1]) ∧ Below w.heap.size w w' := by
  go_enter Tryd.func42, Tryd.ntmps42
  go_wp2_with (first
    | (go_at_call 62; first
        | ((with_reducible refine (digits_is t n true HL.out HOK.out HTZ.out _).mono ?_); rintro e w' ⟨rfl, rfl⟩)
        | ((with_reducible refine (digits_is e e.size true HLE.out HOE.out HEZ.out _).mono ?_); rintro e w' ⟨rfl, rfl⟩)))
  all_goals go_ret2
  all_goals exact ⟨by first | rfl | (simp; done), Below.refl _ _⟩
set_option maxRecDepth 100000 in
set_option maxHeartbeats 1600000 in
theorem rparse_m_a_R7f (s t m e : ByteArray) (n nv pv r x : Nat) (n1 : (s.toList == [110, 97, 110]) = false) (n2 : (s.toList == [105, 110, 102]) = false) (n3 : (s.toList == [45, 105, 110, 102]) = false) (n4 : (s.toList == [48]) = false) (n5 : (s.toList == [45, 48]) = false)
    (hs0 : 0 < s.size) (h45 : ((s[0].toNat : Int) == 45) = true) (hex : s.extract 1 s.size = t) (HTZ : Hid (t.size ≤ 1000000)) (HL : Hid (leadN t.data.toList = n)) (HOK : Hid (okD t.data.toList = true)) (ht0 : 0 < t.size) (h48 : ((t[0].toNat : Int) == 48) = false) (hn : n < t.size) (hnne : ((n : Int) == (t.size : Int)) = false) (hp : ((t[n].toNat : Int) != 112) = false) (hnb : (n : Int) ≤ 1000000) (c2 : (n : Int) ≤ (t.size : Int)) (_c4 : (n : Int) + 1 ≤ (t.size : Int)) (hm : t.extract 0 n = m) (he : t.extract (n + 1) t.size = e) (he0 : 0 < e.size) (hb45 : ((e[0].toNat : Int) == 45) = false) (HEZ : Hid (e.size ≤ 1000000)) (HLE : Hid (leadN e.data.toList = e.size)) (HOE : Hid (okD e.data.toList = true)) (hm17 : ¬ 17 < m.size) (he5 : ¬ 5 < e.size) (HM17 : Hid (m.size ≤ 17)) (HE17 : Hid (e.size ≤ 17)) (HMV : Hid (valN m.data.toList = nv)) (HEV : Hid (valN e.data.toList = pv)) (HMD : Hid (m.data.toList.all digB = true)) (HED : Hid (e.data.toList.all digB = true)) (_hpv : (pv : Int) ≤ 99999) (HLD : Hid (∀ w, Calls Tryd.prog 85 #[.float .f64 (floatOfInt .f64 (nv : Int)), .int .i64 ((pv : Int))] w fun e w' => e = .returned (.float .f64 r) ∧ w = w')) (hng : ∀ w, (Op.unary .neg (.float .f64 r)).run Tryd.prog w = .ok (.float .f64 x) w) (HX : Hid (x < 18446744073709551616)) (HTX : Hid (textN x = s.data.toList)) (w : World) :
    Calls Tryd.prog 42 #[.string s] w fun e w' => e = .returned (.tuple #[.float .f64 x, .int .i64 0]) ∧ Below w.heap.size w w' := by
  go_enter Tryd.func42, Tryd.ntmps42
  go_wp2_with (first
    | (go_at_call 62; first
        | ((with_reducible refine (digits_is t n true HL.out HOK.out HTZ.out _).mono ?_); rintro e w' ⟨rfl, rfl⟩)
        | ((with_reducible refine (digits_is e e.size true HLE.out HOE.out HEZ.out _).mono ?_); rintro e w' ⟨rfl, rfl⟩))
    | (go_at_call 46; ((with_reducible refine (rprint_is x s HTX.out HX.out _).mono ?_)); rintro e w1 ⟨rfl, hb1⟩; have HB1 := Lib.hid hb1; clear hb1)
    | (go_at_call 63; first
        | ((with_reducible refine (number_is m nv HMV.out HM17.out HMD.out _).mono ?_); rintro e w' ⟨rfl, rfl⟩)
        | ((with_reducible refine (number_is e pv HEV.out HE17.out HED.out _).mono ?_); rintro e w' ⟨rfl, rfl⟩))
    | (go_at_call 64; ((with_reducible refine (mldexp _ _ r HLD.out _).mono ?_)); rintro e w' ⟨rfl, rfl⟩))
  all_goals go_ret2
  all_goals exact ⟨by first | rfl | (simp; done), HB1.out⟩
set_option maxRecDepth 100000 in
set_option maxHeartbeats 1600000 in
theorem rparse_m_a_R7n (s t m e tx : ByteArray) (n nv pv r x : Nat) (n1 : (s.toList == [110, 97, 110]) = false) (n2 : (s.toList == [105, 110, 102]) = false) (n3 : (s.toList == [45, 105, 110, 102]) = false) (n4 : (s.toList == [48]) = false) (n5 : (s.toList == [45, 48]) = false)
    (hs0 : 0 < s.size) (h45 : ((s[0].toNat : Int) == 45) = true) (hex : s.extract 1 s.size = t) (HTZ : Hid (t.size ≤ 1000000)) (HL : Hid (leadN t.data.toList = n)) (HOK : Hid (okD t.data.toList = true)) (ht0 : 0 < t.size) (h48 : ((t[0].toNat : Int) == 48) = false) (hn : n < t.size) (hnne : ((n : Int) == (t.size : Int)) = false) (hp : ((t[n].toNat : Int) != 112) = false) (hnb : (n : Int) ≤ 1000000) (c2 : (n : Int) ≤ (t.size : Int)) (_c4 : (n : Int) + 1 ≤ (t.size : Int)) (hm : t.extract 0 n = m) (he : t.extract (n + 1) t.size = e) (he0 : 0 < e.size) (hb45 : ((e[0].toNat : Int) == 45) = false) (HEZ : Hid (e.size ≤ 1000000)) (HLE : Hid (leadN e.data.toList = e.size)) (HOE : Hid (okD e.data.toList = true)) (hm17 : ¬ 17 < m.size) (he5 : ¬ 5 < e.size) (HM17 : Hid (m.size ≤ 17)) (HE17 : Hid (e.size ≤ 17)) (HMV : Hid (valN m.data.toList = nv)) (HEV : Hid (valN e.data.toList = pv)) (HMD : Hid (m.data.toList.all digB = true)) (HED : Hid (e.data.toList.all digB = true)) (_hpv : (pv : Int) ≤ 99999) (HLD : Hid (∀ w, Calls Tryd.prog 85 #[.float .f64 (floatOfInt .f64 (nv : Int)), .int .i64 ((pv : Int))] w fun e w' => e = .returned (.float .f64 r) ∧ w = w')) (hng : ∀ w, (Op.unary .neg (.float .f64 r)).run Tryd.prog w = .ok (.float .f64 x) w) (HX : Hid (x < 18446744073709551616)) (HTX : Hid (textN x = tx.data.toList)) (hne : (tx.toList == s.toList) = false) (w : World) :
    Calls Tryd.prog 42 #[.string s] w fun e w' => e = .returned (.tuple #[.float .f64 0, .int .i64 1]) ∧ Below w.heap.size w w' := by
  go_enter Tryd.func42, Tryd.ntmps42
  go_wp2_with (first
    | (go_at_call 62; first
        | ((with_reducible refine (digits_is t n true HL.out HOK.out HTZ.out _).mono ?_); rintro e w' ⟨rfl, rfl⟩)
        | ((with_reducible refine (digits_is e e.size true HLE.out HOE.out HEZ.out _).mono ?_); rintro e w' ⟨rfl, rfl⟩))
    | (go_at_call 46; ((with_reducible refine (rprint_is x tx HTX.out HX.out _).mono ?_)); rintro e w1 ⟨rfl, hb1⟩; have HB1 := Lib.hid hb1; clear hb1)
    | (go_at_call 63; first
        | ((with_reducible refine (number_is m nv HMV.out HM17.out HMD.out _).mono ?_); rintro e w' ⟨rfl, rfl⟩)
        | ((with_reducible refine (number_is e pv HEV.out HE17.out HED.out _).mono ?_); rintro e w' ⟨rfl, rfl⟩))
    | (go_at_call 64; ((with_reducible refine (mldexp _ _ r HLD.out _).mono ?_)); rintro e w' ⟨rfl, rfl⟩))
  all_goals go_ret2
  all_goals exact ⟨by first | rfl | (simp; done), HB1.out⟩
set_option maxRecDepth 100000 in
set_option maxHeartbeats 1600000 in
theorem rparse_p_R1 (s : ByteArray) (n : Nat) (n1 : (s.toList == [110, 97, 110]) = false) (n2 : (s.toList == [105, 110, 102]) = false) (n3 : (s.toList == [45, 105, 110, 102]) = false) (n4 : (s.toList == [48]) = false) (n5 : (s.toList == [45, 48]) = false)
    (hs0 : 0 < s.size) (h45 : ((s[0].toNat : Int) == 45) = false) (HTZ : Hid (s.size ≤ 1000000)) (HL : Hid (leadN s.data.toList = n)) (HOK : Hid (okD s.data.toList = false)) (w : World) :
    Calls Tryd.prog 42 #[.string s] w fun e w' => e = .returned (.tuple #[.float .f64 0, .int .i64 4]) ∧ Below w.heap.size w w' := by
  go_enter Tryd.func42, Tryd.ntmps42
  go_wp2_with (first
    | (go_at_call 62; ((with_reducible refine (digits_is s n false HL.out HOK.out HTZ.out _).mono ?_)); rintro e w' ⟨rfl, rfl⟩))
  all_goals go_ret2
  all_goals exact ⟨by first | rfl | (simp; done), Below.refl _ _⟩
set_option maxRecDepth 100000 in
set_option maxHeartbeats 1600000 in
theorem rparse_p_R2 (s : ByteArray) (n : Nat) (n1 : (s.toList == [110, 97, 110]) = false) (n2 : (s.toList == [105, 110, 102]) = false) (n3 : (s.toList == [45, 105, 110, 102]) = false) (n4 : (s.toList == [48]) = false) (n5 : (s.toList == [45, 48]) = false)
    (hs0 : 0 < s.size) (h45 : ((s[0].toNat : Int) == 45) = false) (HTZ : Hid (s.size ≤ 1000000)) (HL : Hid (leadN s.data.toList = n)) (HOK : Hid (okD s.data.toList = true)) (ht0 : 0 < s.size) (h48 : ((s[0].toNat : Int) == 48) = true) (w : World) :
    Calls Tryd.prog 42 #[.string s] w fun e w' => e = .returned (.tuple #[.float .f64 0, .int .i64 4]) ∧ Below w.heap.size w w' := by
  go_enter Tryd.func42, Tryd.ntmps42
  go_wp2_with (first
    | (go_at_call 62; ((with_reducible refine (digits_is s n true HL.out HOK.out HTZ.out _).mono ?_)); rintro e w' ⟨rfl, rfl⟩))
  all_goals go_ret2
  all_goals exact ⟨by first | rfl | (simp; done), Below.refl _ _⟩
set_option maxRecDepth 100000 in
set_option maxHeartbeats 1600000 in
theorem rparse_p_R3 (s : ByteArray) (_n : Nat) (n1 : (s.toList == [110, 97, 110]) = false) (n2 : (s.toList == [105, 110, 102]) = false) (n3 : (s.toList == [45, 105, 110, 102]) = false) (n4 : (s.toList == [48]) = false) (n5 : (s.toList == [45, 48]) = false)
    (hs0 : 0 < s.size) (h45 : ((s[0].toNat : Int) == 45) = false) (HTZ : Hid (s.size ≤ 1000000)) (HL : Hid (leadN s.data.toList = s.size)) (HOK : Hid (okD s.data.toList = true)) (ht0 : 0 < s.size) (h48 : ((s[0].toNat : Int) == 48) = false) (w : World) :
    Calls Tryd.prog 42 #[.string s] w fun e w' => e = .returned (.tuple #[.float .f64 0, .int .i64 4]) ∧ Below w.heap.size w w' := by
  go_enter Tryd.func42, Tryd.ntmps42
  go_wp2_with (first
    | (go_at_call 62; ((with_reducible refine (digits_is s s.size true HL.out HOK.out HTZ.out _).mono ?_)); rintro e w' ⟨rfl, rfl⟩))
  all_goals go_ret2
  all_goals exact ⟨by first | rfl | (simp; done), Below.refl _ _⟩
set_option maxRecDepth 100000 in
set_option maxHeartbeats 1600000 in
theorem rparse_p_R4 (s : ByteArray) (n : Nat) (n1 : (s.toList == [110, 97, 110]) = false) (n2 : (s.toList == [105, 110, 102]) = false) (n3 : (s.toList == [45, 105, 110, 102]) = false) (n4 : (s.toList == [48]) = false) (n5 : (s.toList == [45, 48]) = false)
    (hs0 : 0 < s.size) (h45 : ((s[0].toNat : Int) == 45) = false) (HTZ : Hid (s.size ≤ 1000000)) (HL : Hid (leadN s.data.toList = n)) (HOK : Hid (okD s.data.toList = true)) (ht0 : 0 < s.size) (h48 : ((s[0].toNat : Int) == 48) = false) (hn : n < s.size) (hnne : ((n : Int) == (s.size : Int)) = false) (hp : ((s[n].toNat : Int) != 112) = true) (_hnb : (n : Int) ≤ 1000000) (w : World) :
    Calls Tryd.prog 42 #[.string s] w fun e w' => e = .returned (.tuple #[.float .f64 0, .int .i64 4]) ∧ Below w.heap.size w w' := by
  go_enter Tryd.func42, Tryd.ntmps42
  go_wp2_with (first
    | (go_at_call 62; ((with_reducible refine (digits_is s n true HL.out HOK.out HTZ.out _).mono ?_)); rintro e w' ⟨rfl, rfl⟩))
  all_goals go_ret2
  all_goals exact ⟨by first | rfl | (simp; done), Below.refl _ _⟩
set_option maxRecDepth 100000 in
set_option maxHeartbeats 1600000 in
theorem rparse_p_R5z (s m e : ByteArray) (n : Nat) (n1 : (s.toList == [110, 97, 110]) = false) (n2 : (s.toList == [105, 110, 102]) = false) (n3 : (s.toList == [45, 105, 110, 102]) = false) (n4 : (s.toList == [48]) = false) (n5 : (s.toList == [45, 48]) = false)
    (hs0 : 0 < s.size) (h45 : ((s[0].toNat : Int) == 45) = false) (HTZ : Hid (s.size ≤ 1000000)) (HL : Hid (leadN s.data.toList = n)) (HOK : Hid (okD s.data.toList = true)) (ht0 : 0 < s.size) (h48 : ((s[0].toNat : Int) == 48) = false) (hn : n < s.size) (hnne : ((n : Int) == (s.size : Int)) = false) (hp : ((s[n].toNat : Int) != 112) = false) (hnb : (n : Int) ≤ 1000000) (c2 : (n : Int) ≤ (s.size : Int)) (_c4 : (n : Int) + 1 ≤ (s.size : Int)) (hm : s.extract 0 n = m) (he : s.extract (n + 1) s.size = e) (hez : e.size = 0) (HEZ : Hid (e.size ≤ 1000000)) (HLE : Hid (leadN e.data.toList = 0)) (HOE : Hid (okD e.data.toList = false)) (w : World) :
    Calls Tryd.prog 42 #[.string s] w fun e w' => e = .returned (.tuple #[.float .f64 0, .int .i64 4]) ∧ Below w.heap.size w w' := by
  go_enter Tryd.func42, Tryd.ntmps42
  go_wp2_with (first
    | (go_at_call 62; first
        | ((with_reducible refine (digits_is s n true HL.out HOK.out HTZ.out _).mono ?_); rintro e w' ⟨rfl, rfl⟩)
        | ((with_reducible refine (digits_is e 0 false HLE.out HOE.out HEZ.out _).mono ?_); rintro e w' ⟨rfl, rfl⟩)))
  all_goals go_ret2
  all_goals exact ⟨by first | rfl | (simp; done), Below.refl _ _⟩
set_option maxRecDepth 100000 in
set_option maxHeartbeats 1600000 in
theorem rparse_p_b_R5a (s m e e2 : ByteArray) (n k : Nat) (n1 : (s.toList == [110, 97, 110]) = false) (n2 : (s.toList == [105, 110, 102]) = false) (n3 : (s.toList == [45, 105, 110, 102]) = false) (n4 : (s.toList == [48]) = false) (n5 : (s.toList == [45, 48]) = false)
    (hs0 : 0 < s.size) (h45 : ((s[0].toNat : Int) == 45) = false) (HTZ : Hid (s.size ≤ 1000000)) (HL : Hid (leadN s.data.toList = n)) (HOK : Hid (okD s.data.toList = true)) (ht0 : 0 < s.size) (h48 : ((s[0].toNat : Int) == 48) = false) (hn : n < s.size) (hnne : ((n : Int) == (s.size : Int)) = false) (hp : ((s[n].toNat : Int) != 112) = false) (hnb : (n : Int) ≤ 1000000) (c2 : (n : Int) ≤ (s.size : Int)) (_c4 : (n : Int) + 1 ≤ (s.size : Int)) (hm : s.extract 0 n = m) (he : s.extract (n + 1) s.size = e) (he0 : 0 < e.size) (hb45 : ((e[0].toNat : Int) == 45) = true) (hex2 : e.extract 1 e.size = e2) (HEZ : Hid (e2.size ≤ 1000000)) (HLE : Hid (leadN e2.data.toList = k)) (HOE : Hid (okD e2.data.toList = false)) (w : World) :
    Calls Tryd.prog 42 #[.string s] w fun e w' => e = .returned (.tuple #[.float .f64 0, .int .i64 4]) ∧ Below w.heap.size w w' := by
  go_enter Tryd.func42, Tryd.ntmps42
  go_wp2_with (first
    | (go_at_call 62; first
        | ((with_reducible refine (digits_is s n true HL.out HOK.out HTZ.out _).mono ?_); rintro e w' ⟨rfl, rfl⟩)
        | ((with_reducible refine (digits_is e2 k false HLE.out HOE.out HEZ.out _).mono ?_); rintro e w' ⟨rfl, rfl⟩)))
  all_goals go_ret2
  all_goals exact ⟨by first | rfl | (simp; done), Below.refl _ _⟩
set_option maxRecDepth 100000 in
set_option maxHeartbeats 1600000 in
theorem rparse_p_b_R5b (s m e e2 : ByteArray) (n k : Nat) (n1 : (s.toList == [110, 97, 110]) = false) (n2 : (s.toList == [105, 110, 102]) = false) (n3 : (s.toList == [45, 105, 110, 102]) = false) (n4 : (s.toList == [48]) = false) (n5 : (s.toList == [45, 48]) = false)
    (hs0 : 0 < s.size) (h45 : ((s[0].toNat : Int) == 45) = false) (HTZ : Hid (s.size ≤ 1000000)) (HL : Hid (leadN s.data.toList = n)) (HOK : Hid (okD s.data.toList = true)) (ht0 : 0 < s.size) (h48 : ((s[0].toNat : Int) == 48) = false) (hn : n < s.size) (hnne : ((n : Int) == (s.size : Int)) = false) (hp : ((s[n].toNat : Int) != 112) = false) (hnb : (n : Int) ≤ 1000000) (c2 : (n : Int) ≤ (s.size : Int)) (_c4 : (n : Int) + 1 ≤ (s.size : Int)) (hm : s.extract 0 n = m) (he : s.extract (n + 1) s.size = e) (he0 : 0 < e.size) (hb45 : ((e[0].toNat : Int) == 45) = true) (hex2 : e.extract 1 e.size = e2) (HEZ : Hid (e2.size ≤ 1000000)) (HLE : Hid (leadN e2.data.toList = k)) (HOE : Hid (okD e2.data.toList = true)) (hke : ((k : Int) != (e2.size : Int)) = true) (w : World) :
    Calls Tryd.prog 42 #[.string s] w fun e w' => e = .returned (.tuple #[.float .f64 0, .int .i64 4]) ∧ Below w.heap.size w w' := by
  go_enter Tryd.func42, Tryd.ntmps42
  go_wp2_with (first
    | (go_at_call 62; first
        | ((with_reducible refine (digits_is s n true HL.out HOK.out HTZ.out _).mono ?_); rintro e w' ⟨rfl, rfl⟩)
        | ((with_reducible refine (digits_is e2 k true HLE.out HOE.out HEZ.out _).mono ?_); rintro e w' ⟨rfl, rfl⟩)))
  all_goals go_ret2
  all_goals exact ⟨by first | rfl | (simp; done), Below.refl _ _⟩
set_option maxRecDepth 100000 in
set_option maxHeartbeats 1600000 in
theorem rparse_p_b_R5c (s m e e2 : ByteArray) (n : Nat) (n1 : (s.toList == [110, 97, 110]) = false) (n2 : (s.toList == [105, 110, 102]) = false) (n3 : (s.toList == [45, 105, 110, 102]) = false) (n4 : (s.toList == [48]) = false) (n5 : (s.toList == [45, 48]) = false)
    (hs0 : 0 < s.size) (h45 : ((s[0].toNat : Int) == 45) = false) (HTZ : Hid (s.size ≤ 1000000)) (HL : Hid (leadN s.data.toList = n)) (HOK : Hid (okD s.data.toList = true)) (ht0 : 0 < s.size) (h48 : ((s[0].toNat : Int) == 48) = false) (hn : n < s.size) (hnne : ((n : Int) == (s.size : Int)) = false) (hp : ((s[n].toNat : Int) != 112) = false) (hnb : (n : Int) ≤ 1000000) (c2 : (n : Int) ≤ (s.size : Int)) (_c4 : (n : Int) + 1 ≤ (s.size : Int)) (hm : s.extract 0 n = m) (he : s.extract (n + 1) s.size = e) (he0 : 0 < e.size) (hb45 : ((e[0].toNat : Int) == 45) = true) (hex2 : e.extract 1 e.size = e2) (HEZ : Hid (e2.size ≤ 1000000)) (HLE : Hid (leadN e2.data.toList = e2.size)) (HOE : Hid (okD e2.data.toList = true)) (he48 : (e2.toList == [48]) = true) (w : World) :
    Calls Tryd.prog 42 #[.string s] w fun e w' => e = .returned (.tuple #[.float .f64 0, .int .i64 4]) ∧ Below w.heap.size w w' := by
  go_enter Tryd.func42, Tryd.ntmps42
  go_wp2_with (first
    | (go_at_call 62; first
        | ((with_reducible refine (digits_is s n true HL.out HOK.out HTZ.out _).mono ?_); rintro e w' ⟨rfl, rfl⟩)
        | ((with_reducible refine (digits_is e2 e2.size true HLE.out HOE.out HEZ.out _).mono ?_); rintro e w' ⟨rfl, rfl⟩)))
  all_goals go_ret2
  all_goals exact ⟨by first | rfl | (simp; done), Below.refl _ _⟩
set_option maxRecDepth 100000 in
set_option maxHeartbeats 1600000 in
theorem rparse_p_b_R6m (s m e e2 : ByteArray) (n : Nat) (n1 : (s.toList == [110, 97, 110]) = false) (n2 : (s.toList == [105, 110, 102]) = false) (n3 : (s.toList == [45, 105, 110, 102]) = false) (n4 : (s.toList == [48]) = false) (n5 : (s.toList == [45, 48]) = false)
    (hs0 : 0 < s.size) (h45 : ((s[0].toNat : Int) == 45) = false) (HTZ : Hid (s.size ≤ 1000000)) (HL : Hid (leadN s.data.toList = n)) (HOK : Hid (okD s.data.toList = true)) (ht0 : 0 < s.size) (h48 : ((s[0].toNat : Int) == 48) = false) (hn : n < s.size) (hnne : ((n : Int) == (s.size : Int)) = false) (hp : ((s[n].toNat : Int) != 112) = false) (hnb : (n : Int) ≤ 1000000) (c2 : (n : Int) ≤ (s.size : Int)) (_c4 : (n : Int) + 1 ≤ (s.size : Int)) (hm : s.extract 0 n = m) (he : s.extract (n + 1) s.size = e) (he0 : 0 < e.size) (hb45 : ((e[0].toNat : Int) == 45) = true) (hex2 : e.extract 1 e.size = e2) (HEZ : Hid (e2.size ≤ 1000000)) (HLE : Hid (leadN e2.data.toList = e2.size)) (HOE : Hid (okD e2.data.toList = true)) (he48 : (e2.toList == [48]) = false) (hm17 : 17 < m.size) (w : World) :
    Calls Tryd.prog 42 #[.string s] w fun e w' => e = .returned (.tuple #[.float .f64 0, .int .i64 1]) ∧ Below w.heap.size w w' := by
  go_enter Tryd.func42, Tryd.ntmps42
  go_wp2_with (first
    | (go_at_call 62; first
        | ((with_reducible refine (digits_is s n true HL.out HOK.out HTZ.out _).mono ?_); rintro e w' ⟨rfl, rfl⟩)
        | ((with_reducible refine (digits_is e2 e2.size true HLE.out HOE.out HEZ.out _).mono ?_); rintro e w' ⟨rfl, rfl⟩)))
  all_goals go_ret2
  all_goals exact ⟨by first | rfl | (simp; done), Below.refl _ _⟩
set_option maxRecDepth 100000 in
set_option maxHeartbeats 1600000 in
theorem rparse_p_b_R6e (s m e e2 : ByteArray) (n : Nat) (n1 : (s.toList == [110, 97, 110]) = false) (n2 : (s.toList == [105, 110, 102]) = false) (n3 : (s.toList == [45, 105, 110, 102]) = false) (n4 : (s.toList == [48]) = false) (n5 : (s.toList == [45, 48]) = false)
    (hs0 : 0 < s.size) (h45 : ((s[0].toNat : Int) == 45) = false) (HTZ : Hid (s.size ≤ 1000000)) (HL : Hid (leadN s.data.toList = n)) (HOK : Hid (okD s.data.toList = true)) (ht0 : 0 < s.size) (h48 : ((s[0].toNat : Int) == 48) = false) (hn : n < s.size) (hnne : ((n : Int) == (s.size : Int)) = false) (hp : ((s[n].toNat : Int) != 112) = false) (hnb : (n : Int) ≤ 1000000) (c2 : (n : Int) ≤ (s.size : Int)) (_c4 : (n : Int) + 1 ≤ (s.size : Int)) (hm : s.extract 0 n = m) (he : s.extract (n + 1) s.size = e) (he0 : 0 < e.size) (hb45 : ((e[0].toNat : Int) == 45) = true) (hex2 : e.extract 1 e.size = e2) (HEZ : Hid (e2.size ≤ 1000000)) (HLE : Hid (leadN e2.data.toList = e2.size)) (HOE : Hid (okD e2.data.toList = true)) (he48 : (e2.toList == [48]) = false) (hm17 : ¬ 17 < m.size) (he5 : 5 < e2.size) (w : World) :
    Calls Tryd.prog 42 #[.string s] w fun e w' => e = .returned (.tuple #[.float .f64 0, .int .i64 1]) ∧ Below w.heap.size w w' := by
  go_enter Tryd.func42, Tryd.ntmps42
  go_wp2_with (first
    | (go_at_call 62; first
        | ((with_reducible refine (digits_is s n true HL.out HOK.out HTZ.out _).mono ?_); rintro e w' ⟨rfl, rfl⟩)
        | ((with_reducible refine (digits_is e2 e2.size true HLE.out HOE.out HEZ.out _).mono ?_); rintro e w' ⟨rfl, rfl⟩)))
  all_goals go_ret2
  all_goals exact ⟨by first | rfl | (simp; done), Below.refl _ _⟩
set_option maxRecDepth 100000 in
set_option maxHeartbeats 1600000 in
theorem rparse_p_b_R7f (s m e e2 : ByteArray) (n nv pv r : Nat) (n1 : (s.toList == [110, 97, 110]) = false) (n2 : (s.toList == [105, 110, 102]) = false) (n3 : (s.toList == [45, 105, 110, 102]) = false) (n4 : (s.toList == [48]) = false) (n5 : (s.toList == [45, 48]) = false)
    (hs0 : 0 < s.size) (h45 : ((s[0].toNat : Int) == 45) = false) (HTZ : Hid (s.size ≤ 1000000)) (HL : Hid (leadN s.data.toList = n)) (HOK : Hid (okD s.data.toList = true)) (ht0 : 0 < s.size) (h48 : ((s[0].toNat : Int) == 48) = false) (hn : n < s.size) (hnne : ((n : Int) == (s.size : Int)) = false) (hp : ((s[n].toNat : Int) != 112) = false) (hnb : (n : Int) ≤ 1000000) (c2 : (n : Int) ≤ (s.size : Int)) (_c4 : (n : Int) + 1 ≤ (s.size : Int)) (hm : s.extract 0 n = m) (he : s.extract (n + 1) s.size = e) (he0 : 0 < e.size) (hb45 : ((e[0].toNat : Int) == 45) = true) (hex2 : e.extract 1 e.size = e2) (HEZ : Hid (e2.size ≤ 1000000)) (HLE : Hid (leadN e2.data.toList = e2.size)) (HOE : Hid (okD e2.data.toList = true)) (he48 : (e2.toList == [48]) = false) (hm17 : ¬ 17 < m.size) (he5 : ¬ 5 < e2.size) (HM17 : Hid (m.size ≤ 17)) (HE17 : Hid (e2.size ≤ 17)) (HMV : Hid (valN m.data.toList = nv)) (HEV : Hid (valN e2.data.toList = pv)) (HMD : Hid (m.data.toList.all digB = true)) (HED : Hid (e2.data.toList.all digB = true)) (hpv : (pv : Int) ≤ 99999) (HLD : Hid (∀ w, Calls Tryd.prog 85 #[.float .f64 (floatOfInt .f64 (nv : Int)), .int .i64 (-(pv : Int))] w fun e w' => e = .returned (.float .f64 r) ∧ w = w')) (HX : Hid (r < 18446744073709551616)) (HTX : Hid (textN r = s.data.toList)) (w : World) :
    Calls Tryd.prog 42 #[.string s] w fun e w' => e = .returned (.tuple #[.float .f64 r, .int .i64 0]) ∧ Below w.heap.size w w' := by
  go_enter Tryd.func42, Tryd.ntmps42
  go_wp2_with (first
    | (go_at_call 62; first
        | ((with_reducible refine (digits_is s n true HL.out HOK.out HTZ.out _).mono ?_); rintro e w' ⟨rfl, rfl⟩)
        | ((with_reducible refine (digits_is e2 e2.size true HLE.out HOE.out HEZ.out _).mono ?_); rintro e w' ⟨rfl, rfl⟩))
    | (go_at_call 46; ((with_reducible refine (rprint_is r s HTX.out HX.out _).mono ?_)); rintro e w1 ⟨rfl, hb1⟩; have HB1 := Lib.hid hb1; clear hb1)
    | (go_at_call 63; first
        | ((with_reducible refine (number_is m nv HMV.out HM17.out HMD.out _).mono ?_); rintro e w' ⟨rfl, rfl⟩)
        | ((with_reducible refine (number_is e2 pv HEV.out HE17.out HED.out _).mono ?_); rintro e w' ⟨rfl, rfl⟩))
    | (go_at_call 64; ((with_reducible refine (mldexp _ _ r HLD.out _).mono ?_)); rintro e w' ⟨rfl, rfl⟩))
  all_goals go_ret2
  all_goals exact ⟨by first | rfl | (simp; done), HB1.out⟩
set_option maxRecDepth 100000 in
set_option maxHeartbeats 1600000 in
theorem rparse_p_b_R7n (s m e e2 tx : ByteArray) (n nv pv r : Nat) (n1 : (s.toList == [110, 97, 110]) = false) (n2 : (s.toList == [105, 110, 102]) = false) (n3 : (s.toList == [45, 105, 110, 102]) = false) (n4 : (s.toList == [48]) = false) (n5 : (s.toList == [45, 48]) = false)
    (hs0 : 0 < s.size) (h45 : ((s[0].toNat : Int) == 45) = false) (HTZ : Hid (s.size ≤ 1000000)) (HL : Hid (leadN s.data.toList = n)) (HOK : Hid (okD s.data.toList = true)) (ht0 : 0 < s.size) (h48 : ((s[0].toNat : Int) == 48) = false) (hn : n < s.size) (hnne : ((n : Int) == (s.size : Int)) = false) (hp : ((s[n].toNat : Int) != 112) = false) (hnb : (n : Int) ≤ 1000000) (c2 : (n : Int) ≤ (s.size : Int)) (_c4 : (n : Int) + 1 ≤ (s.size : Int)) (hm : s.extract 0 n = m) (he : s.extract (n + 1) s.size = e) (he0 : 0 < e.size) (hb45 : ((e[0].toNat : Int) == 45) = true) (hex2 : e.extract 1 e.size = e2) (HEZ : Hid (e2.size ≤ 1000000)) (HLE : Hid (leadN e2.data.toList = e2.size)) (HOE : Hid (okD e2.data.toList = true)) (he48 : (e2.toList == [48]) = false) (hm17 : ¬ 17 < m.size) (he5 : ¬ 5 < e2.size) (HM17 : Hid (m.size ≤ 17)) (HE17 : Hid (e2.size ≤ 17)) (HMV : Hid (valN m.data.toList = nv)) (HEV : Hid (valN e2.data.toList = pv)) (HMD : Hid (m.data.toList.all digB = true)) (HED : Hid (e2.data.toList.all digB = true)) (hpv : (pv : Int) ≤ 99999) (HLD : Hid (∀ w, Calls Tryd.prog 85 #[.float .f64 (floatOfInt .f64 (nv : Int)), .int .i64 (-(pv : Int))] w fun e w' => e = .returned (.float .f64 r) ∧ w = w')) (HX : Hid (r < 18446744073709551616)) (HTX : Hid (textN r = tx.data.toList)) (hne : (tx.toList == s.toList) = false) (w : World) :
    Calls Tryd.prog 42 #[.string s] w fun e w' => e = .returned (.tuple #[.float .f64 0, .int .i64 1]) ∧ Below w.heap.size w w' := by
  go_enter Tryd.func42, Tryd.ntmps42
  go_wp2_with (first
    | (go_at_call 62; first
        | ((with_reducible refine (digits_is s n true HL.out HOK.out HTZ.out _).mono ?_); rintro e w' ⟨rfl, rfl⟩)
        | ((with_reducible refine (digits_is e2 e2.size true HLE.out HOE.out HEZ.out _).mono ?_); rintro e w' ⟨rfl, rfl⟩))
    | (go_at_call 46; ((with_reducible refine (rprint_is r tx HTX.out HX.out _).mono ?_)); rintro e w1 ⟨rfl, hb1⟩; have HB1 := Lib.hid hb1; clear hb1)
    | (go_at_call 63; first
        | ((with_reducible refine (number_is m nv HMV.out HM17.out HMD.out _).mono ?_); rintro e w' ⟨rfl, rfl⟩)
        | ((with_reducible refine (number_is e2 pv HEV.out HE17.out HED.out _).mono ?_); rintro e w' ⟨rfl, rfl⟩))
    | (go_at_call 64; ((with_reducible refine (mldexp _ _ r HLD.out _).mono ?_)); rintro e w' ⟨rfl, rfl⟩))
  all_goals go_ret2
  all_goals exact ⟨by first | rfl | (simp; done), HB1.out⟩
set_option maxRecDepth 100000 in
set_option maxHeartbeats 1600000 in
theorem rparse_p_a_R5a (s m e : ByteArray) (n k : Nat) (n1 : (s.toList == [110, 97, 110]) = false) (n2 : (s.toList == [105, 110, 102]) = false) (n3 : (s.toList == [45, 105, 110, 102]) = false) (n4 : (s.toList == [48]) = false) (n5 : (s.toList == [45, 48]) = false)
    (hs0 : 0 < s.size) (h45 : ((s[0].toNat : Int) == 45) = false) (HTZ : Hid (s.size ≤ 1000000)) (HL : Hid (leadN s.data.toList = n)) (HOK : Hid (okD s.data.toList = true)) (ht0 : 0 < s.size) (h48 : ((s[0].toNat : Int) == 48) = false) (hn : n < s.size) (hnne : ((n : Int) == (s.size : Int)) = false) (hp : ((s[n].toNat : Int) != 112) = false) (hnb : (n : Int) ≤ 1000000) (c2 : (n : Int) ≤ (s.size : Int)) (_c4 : (n : Int) + 1 ≤ (s.size : Int)) (hm : s.extract 0 n = m) (he : s.extract (n + 1) s.size = e) (he0 : 0 < e.size) (hb45 : ((e[0].toNat : Int) == 45) = false) (HEZ : Hid (e.size ≤ 1000000)) (HLE : Hid (leadN e.data.toList = k)) (HOE : Hid (okD e.data.toList = false)) (w : World) :
    Calls Tryd.prog 42 #[.string s] w fun e w' => e = .returned (.tuple #[.float .f64 0, .int .i64 4]) ∧ Below w.heap.size w w' := by
  go_enter Tryd.func42, Tryd.ntmps42
  go_wp2_with (first
    | (go_at_call 62; first
        | ((with_reducible refine (digits_is s n true HL.out HOK.out HTZ.out _).mono ?_); rintro e w' ⟨rfl, rfl⟩)
        | ((with_reducible refine (digits_is e k false HLE.out HOE.out HEZ.out _).mono ?_); rintro e w' ⟨rfl, rfl⟩)))
  all_goals go_ret2
  all_goals exact ⟨by first | rfl | (simp; done), Below.refl _ _⟩
set_option maxRecDepth 100000 in
set_option maxHeartbeats 1600000 in
theorem rparse_p_a_R5b (s m e : ByteArray) (n k : Nat) (n1 : (s.toList == [110, 97, 110]) = false) (n2 : (s.toList == [105, 110, 102]) = false) (n3 : (s.toList == [45, 105, 110, 102]) = false) (n4 : (s.toList == [48]) = false) (n5 : (s.toList == [45, 48]) = false)
    (hs0 : 0 < s.size) (h45 : ((s[0].toNat : Int) == 45) = false) (HTZ : Hid (s.size ≤ 1000000)) (HL : Hid (leadN s.data.toList = n)) (HOK : Hid (okD s.data.toList = true)) (ht0 : 0 < s.size) (h48 : ((s[0].toNat : Int) == 48) = false) (hn : n < s.size) (hnne : ((n : Int) == (s.size : Int)) = false) (hp : ((s[n].toNat : Int) != 112) = false) (hnb : (n : Int) ≤ 1000000) (c2 : (n : Int) ≤ (s.size : Int)) (_c4 : (n : Int) + 1 ≤ (s.size : Int)) (hm : s.extract 0 n = m) (he : s.extract (n + 1) s.size = e) (he0 : 0 < e.size) (hb45 : ((e[0].toNat : Int) == 45) = false) (HEZ : Hid (e.size ≤ 1000000)) (HLE : Hid (leadN e.data.toList = k)) (HOE : Hid (okD e.data.toList = true)) (hke : ((k : Int) != (e.size : Int)) = true) (w : World) :
    Calls Tryd.prog 42 #[.string s] w fun e w' => e = .returned (.tuple #[.float .f64 0, .int .i64 4]) ∧ Below w.heap.size w w' := by
  go_enter Tryd.func42, Tryd.ntmps42
  go_wp2_with (first
    | (go_at_call 62; first
        | ((with_reducible refine (digits_is s n true HL.out HOK.out HTZ.out _).mono ?_); rintro e w' ⟨rfl, rfl⟩)
        | ((with_reducible refine (digits_is e k true HLE.out HOE.out HEZ.out _).mono ?_); rintro e w' ⟨rfl, rfl⟩)))
  all_goals go_ret2
  all_goals exact ⟨by first | rfl | (simp; done), Below.refl _ _⟩
set_option maxRecDepth 100000 in
set_option maxHeartbeats 1600000 in
theorem rparse_p_a_R6m (s m e : ByteArray) (n : Nat) (n1 : (s.toList == [110, 97, 110]) = false) (n2 : (s.toList == [105, 110, 102]) = false) (n3 : (s.toList == [45, 105, 110, 102]) = false) (n4 : (s.toList == [48]) = false) (n5 : (s.toList == [45, 48]) = false)
    (hs0 : 0 < s.size) (h45 : ((s[0].toNat : Int) == 45) = false) (HTZ : Hid (s.size ≤ 1000000)) (HL : Hid (leadN s.data.toList = n)) (HOK : Hid (okD s.data.toList = true)) (ht0 : 0 < s.size) (h48 : ((s[0].toNat : Int) == 48) = false) (hn : n < s.size) (hnne : ((n : Int) == (s.size : Int)) = false) (hp : ((s[n].toNat : Int) != 112) = false) (hnb : (n : Int) ≤ 1000000) (c2 : (n : Int) ≤ (s.size : Int)) (_c4 : (n : Int) + 1 ≤ (s.size : Int)) (hm : s.extract 0 n = m) (he : s.extract (n + 1) s.size = e) (he0 : 0 < e.size) (hb45 : ((e[0].toNat : Int) == 45) = false) (HEZ : Hid (e.size ≤ 1000000)) (HLE : Hid (leadN e.data.toList = e.size)) (HOE : Hid (okD e.data.toList = true)) (hm17 : 17 < m.size) (w : World) :
    Calls Tryd.prog 42 #[.string s] w fun e w' => e = .returned (.tuple #[.float .f64 0, .int .i64 1]) ∧ Below w.heap.size w w' := by
  go_enter Tryd.func42, Tryd.ntmps42
  go_wp2_with (first
    | (go_at_call 62; first
        | ((with_reducible refine (digits_is s n true HL.out HOK.out HTZ.out _).mono ?_); rintro e w' ⟨rfl, rfl⟩)
        | ((with_reducible refine (digits_is e e.size true HLE.out HOE.out HEZ.out _).mono ?_); rintro e w' ⟨rfl, rfl⟩)))
  all_goals go_ret2
  all_goals exact ⟨by first | rfl | (simp; done), Below.refl _ _⟩
set_option maxRecDepth 100000 in
set_option maxHeartbeats 1600000 in
theorem rparse_p_a_R6e (s m e : ByteArray) (n : Nat) (n1 : (s.toList == [110, 97, 110]) = false) (n2 : (s.toList == [105, 110, 102]) = false) (n3 : (s.toList == [45, 105, 110, 102]) = false) (n4 : (s.toList == [48]) = false) (n5 : (s.toList == [45, 48]) = false)
    (hs0 : 0 < s.size) (h45 : ((s[0].toNat : Int) == 45) = false) (HTZ : Hid (s.size ≤ 1000000)) (HL : Hid (leadN s.data.toList = n)) (HOK : Hid (okD s.data.toList = true)) (ht0 : 0 < s.size) (h48 : ((s[0].toNat : Int) == 48) = false) (hn : n < s.size) (hnne : ((n : Int) == (s.size : Int)) = false) (hp : ((s[n].toNat : Int) != 112) = false) (hnb : (n : Int) ≤ 1000000) (c2 : (n : Int) ≤ (s.size : Int)) (_c4 : (n : Int) + 1 ≤ (s.size : Int)) (hm : s.extract 0 n = m) (he : s.extract (n + 1) s.size = e) (he0 : 0 < e.size) (hb45 : ((e[0].toNat : Int) == 45) = false) (HEZ : Hid (e.size ≤ 1000000)) (HLE : Hid (leadN e.data.toList = e.size)) (HOE : Hid (okD e.data.toList = true)) (hm17 : ¬ 17 < m.size) (he5 : 5 < e.size) (w : World) :
    Calls Tryd.prog 42 #[.string s] w fun e w' => e = .returned (.tuple #[.float .f64 0, .int .i64 1]) ∧ Below w.heap.size w w' := by
  go_enter Tryd.func42, Tryd.ntmps42
  go_wp2_with (first
    | (go_at_call 62; first
        | ((with_reducible refine (digits_is s n true HL.out HOK.out HTZ.out _).mono ?_); rintro e w' ⟨rfl, rfl⟩)
        | ((with_reducible refine (digits_is e e.size true HLE.out HOE.out HEZ.out _).mono ?_); rintro e w' ⟨rfl, rfl⟩)))
  all_goals go_ret2
  all_goals exact ⟨by first | rfl | (simp; done), Below.refl _ _⟩
set_option maxRecDepth 100000 in
set_option maxHeartbeats 1600000 in
theorem rparse_p_a_R7f (s m e : ByteArray) (n nv pv r : Nat) (n1 : (s.toList == [110, 97, 110]) = false) (n2 : (s.toList == [105, 110, 102]) = false) (n3 : (s.toList == [45, 105, 110, 102]) = false) (n4 : (s.toList == [48]) = false) (n5 : (s.toList == [45, 48]) = false)
    (hs0 : 0 < s.size) (h45 : ((s[0].toNat : Int) == 45) = false) (HTZ : Hid (s.size ≤ 1000000)) (HL : Hid (leadN s.data.toList = n)) (HOK : Hid (okD s.data.toList = true)) (ht0 : 0 < s.size) (h48 : ((s[0].toNat : Int) == 48) = false) (hn : n < s.size) (hnne : ((n : Int) == (s.size : Int)) = false) (hp : ((s[n].toNat : Int) != 112) = false) (hnb : (n : Int) ≤ 1000000) (c2 : (n : Int) ≤ (s.size : Int)) (_c4 : (n : Int) + 1 ≤ (s.size : Int)) (hm : s.extract 0 n = m) (he : s.extract (n + 1) s.size = e) (he0 : 0 < e.size) (hb45 : ((e[0].toNat : Int) == 45) = false) (HEZ : Hid (e.size ≤ 1000000)) (HLE : Hid (leadN e.data.toList = e.size)) (HOE : Hid (okD e.data.toList = true)) (hm17 : ¬ 17 < m.size) (he5 : ¬ 5 < e.size) (HM17 : Hid (m.size ≤ 17)) (HE17 : Hid (e.size ≤ 17)) (HMV : Hid (valN m.data.toList = nv)) (HEV : Hid (valN e.data.toList = pv)) (HMD : Hid (m.data.toList.all digB = true)) (HED : Hid (e.data.toList.all digB = true)) (_hpv : (pv : Int) ≤ 99999) (HLD : Hid (∀ w, Calls Tryd.prog 85 #[.float .f64 (floatOfInt .f64 (nv : Int)), .int .i64 ((pv : Int))] w fun e w' => e = .returned (.float .f64 r) ∧ w = w')) (HX : Hid (r < 18446744073709551616)) (HTX : Hid (textN r = s.data.toList)) (w : World) :
    Calls Tryd.prog 42 #[.string s] w fun e w' => e = .returned (.tuple #[.float .f64 r, .int .i64 0]) ∧ Below w.heap.size w w' := by
  go_enter Tryd.func42, Tryd.ntmps42
  go_wp2_with (first
    | (go_at_call 62; first
        | ((with_reducible refine (digits_is s n true HL.out HOK.out HTZ.out _).mono ?_); rintro e w' ⟨rfl, rfl⟩)
        | ((with_reducible refine (digits_is e e.size true HLE.out HOE.out HEZ.out _).mono ?_); rintro e w' ⟨rfl, rfl⟩))
    | (go_at_call 46; ((with_reducible refine (rprint_is r s HTX.out HX.out _).mono ?_)); rintro e w1 ⟨rfl, hb1⟩; have HB1 := Lib.hid hb1; clear hb1)
    | (go_at_call 63; first
        | ((with_reducible refine (number_is m nv HMV.out HM17.out HMD.out _).mono ?_); rintro e w' ⟨rfl, rfl⟩)
        | ((with_reducible refine (number_is e pv HEV.out HE17.out HED.out _).mono ?_); rintro e w' ⟨rfl, rfl⟩))
    | (go_at_call 64; ((with_reducible refine (mldexp _ _ r HLD.out _).mono ?_)); rintro e w' ⟨rfl, rfl⟩))
  all_goals go_ret2
  all_goals exact ⟨by first | rfl | (simp; done), HB1.out⟩
set_option maxRecDepth 100000 in
set_option maxHeartbeats 1600000 in
theorem rparse_p_a_R7n (s m e tx : ByteArray) (n nv pv r : Nat) (n1 : (s.toList == [110, 97, 110]) = false) (n2 : (s.toList == [105, 110, 102]) = false) (n3 : (s.toList == [45, 105, 110, 102]) = false) (n4 : (s.toList == [48]) = false) (n5 : (s.toList == [45, 48]) = false)
    (hs0 : 0 < s.size) (h45 : ((s[0].toNat : Int) == 45) = false) (HTZ : Hid (s.size ≤ 1000000)) (HL : Hid (leadN s.data.toList = n)) (HOK : Hid (okD s.data.toList = true)) (ht0 : 0 < s.size) (h48 : ((s[0].toNat : Int) == 48) = false) (hn : n < s.size) (hnne : ((n : Int) == (s.size : Int)) = false) (hp : ((s[n].toNat : Int) != 112) = false) (hnb : (n : Int) ≤ 1000000) (c2 : (n : Int) ≤ (s.size : Int)) (_c4 : (n : Int) + 1 ≤ (s.size : Int)) (hm : s.extract 0 n = m) (he : s.extract (n + 1) s.size = e) (he0 : 0 < e.size) (hb45 : ((e[0].toNat : Int) == 45) = false) (HEZ : Hid (e.size ≤ 1000000)) (HLE : Hid (leadN e.data.toList = e.size)) (HOE : Hid (okD e.data.toList = true)) (hm17 : ¬ 17 < m.size) (he5 : ¬ 5 < e.size) (HM17 : Hid (m.size ≤ 17)) (HE17 : Hid (e.size ≤ 17)) (HMV : Hid (valN m.data.toList = nv)) (HEV : Hid (valN e.data.toList = pv)) (HMD : Hid (m.data.toList.all digB = true)) (HED : Hid (e.data.toList.all digB = true)) (_hpv : (pv : Int) ≤ 99999) (HLD : Hid (∀ w, Calls Tryd.prog 85 #[.float .f64 (floatOfInt .f64 (nv : Int)), .int .i64 ((pv : Int))] w fun e w' => e = .returned (.float .f64 r) ∧ w = w')) (HX : Hid (r < 18446744073709551616)) (HTX : Hid (textN r = tx.data.toList)) (hne : (tx.toList == s.toList) = false) (w : World) :
    Calls Tryd.prog 42 #[.string s] w fun e w' => e = .returned (.tuple #[.float .f64 0, .int .i64 1]) ∧ Below w.heap.size w w' := by
  go_enter Tryd.func42, Tryd.ntmps42
  go_wp2_with (first
    | (go_at_call 62; first
        | ((with_reducible refine (digits_is s n true HL.out HOK.out HTZ.out _).mono ?_); rintro e w' ⟨rfl, rfl⟩)
        | ((with_reducible refine (digits_is e e.size true HLE.out HOE.out HEZ.out _).mono ?_); rintro e w' ⟨rfl, rfl⟩))
    | (go_at_call 46; ((with_reducible refine (rprint_is r tx HTX.out HX.out _).mono ?_)); rintro e w1 ⟨rfl, hb1⟩; have HB1 := Lib.hid hb1; clear hb1)
    | (go_at_call 63; first
        | ((with_reducible refine (number_is m nv HMV.out HM17.out HMD.out _).mono ?_); rintro e w' ⟨rfl, rfl⟩)
        | ((with_reducible refine (number_is e pv HEV.out HE17.out HED.out _).mono ?_); rintro e w' ⟨rfl, rfl⟩))
    | (go_at_call 64; ((with_reducible refine (mldexp _ _ r HLD.out _).mono ?_)); rintro e w' ⟨rfl, rfl⟩))
  all_goals go_ret2
  all_goals exact ⟨by first | rfl | (simp; done), HB1.out⟩
end Go.Proofs.YtjkfcmadoeifgaaDoor
