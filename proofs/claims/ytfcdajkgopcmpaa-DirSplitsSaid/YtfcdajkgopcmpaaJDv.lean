/- raceref.few, raceref.WeighTexts, racelaw14.few: keys that are few. Conditions: none. -/
import Derived.Test.YtfcdajkgopcmpaaJDt
import Derived.Test.YtfcdajkgopcmpaaJRr
namespace Go.Proofs.Ytfcdajkgopcmpaa
open Go.ChangeShapes Go.WideShapes Go.ChangeAt Go.RowKit Go.Deep
def s0 : Str := ⟨⟨#[]⟩, by decide⟩
/-- Texts that came in, below block B. -/
abbrev KS (B : Nat) (w : World) (ao : Option Addr) (n cap : Nat) (l : List Str) : Prop := XB sv ⟨⟨#[]⟩, by decide⟩ B w ao n cap l
/-- As far as all are keys there are no more than 2000 of them. -/
def PK (l : List Str) : Prop := ∀ k, k ≤ l.length → (∀ s ∈ l.take k, keyB s.1 = true) → k ≤ 2000
theorem getD_at9 {α : Type} {l : List α} {k : Nat} (h : k < l.length) (d : α) : l.getD k d = l[k] := by rw [List.getD_eq_getElem?_getD, List.getElem?_eq_getElem h]; rfl
def fewM (n m : Int) : Int := if 2000 < m ∨ 2000 < n then 2001 else IntKind.i64.wrap (n + m)
theorem fewM_any (n m : Int) (w : World) :
    Calls Try.prog 44 #[.int .i64 n, .int .i64 m, .int .i64 2000] w fun e w' => e = .returned (.int .i64 (fewM n m)) ∧ w' = w := by
  by_cases h : 2000 < m
  · rw [show fewM n m = 2001 from if_pos (.inl h)]
    have h1 : m > 2000 := h
    clear h
    go_enter Try.func44, Try.ntmps44
    go_wp2
    go_ret
    exact ⟨rfl, rfl⟩
  · have h1 : ¬ m > 2000 := h
    by_cases h2 : 2000 < n
    · rw [show fewM n m = 2001 from if_pos (.inr h2)]
      have h3 : n > 2000 := h2
      clear h h2
      go_enter Try.func44, Try.ntmps44
      go_wp2
      go_ret
      exact ⟨rfl, rfl⟩
    · have h3 : ¬ n > 2000 := h2
      rw [show fewM n m = IntKind.i64.wrap (n + m) from if_neg (by omega)]
      clear h h2
      obtain ⟨q, hq⟩ : ∃ q, IntKind.i64.wrap (n + m) = q := ⟨_, rfl⟩
      rw [hq]
      go_enter Try.func44, Try.ntmps44
      go_wp2
      go_ret
      exact ⟨rfl, rfl⟩
theorem take_all {l : List Str} {k : Nat} (hk : k < l.length) (h : ∀ s ∈ l.take (k + 1), keyB s.1 = true) : (∀ s ∈ l.take k, keyB s.1 = true) ∧ keyB l[k].1 = true := by
  rw [List.take_succ_eq_append_getElem hk] at h
  exact ⟨fun s hs => h s (List.mem_append_left _ hs), h _ (List.mem_append_right _ (List.mem_singleton.2 rfl))⟩
/-- What the loop keeps to. -/
structure Wg (l : List Str) (k : Nat) (t : Int) : Prop where
  old : ∀ j, j < k → (∀ s ∈ l.take j, keyB s.1 = true) → j ≤ 2000
  now : (∀ s ∈ l.take k, keyB s.1 = true) → (k : Int) ≤ t
theorem Wg.zero (l : List Str) : Wg l 0 0 := ⟨fun _ hj => absurd hj (Nat.not_lt_zero _), fun _ => Int.le_refl _⟩
theorem Wg.step {l : List Str} {k : Nat} {t : Int} (h : Wg l k t) (hk : k < l.length) (ht : t ≤ 2000) : Wg l (k + 1) (fewM t (IntKind.i64.wrap (1 + (l[k].1.size : Int)))) := by
  refine ⟨fun j hj hs => ?_, fun hs => ?_⟩
  · by_cases e : j = k
    · subst e; have := h.now hs; omega
    · exact h.old j (by omega) hs
  · obtain ⟨h1, h2⟩ := take_all hk hs
    have h3 := h.now h1
    unfold keyB at h2
    simp only [Bool.and_eq_true, decide_eq_true_eq] at h2
    rw [show IntKind.i64.wrap (1 + (l[k].1.size : Int)) = 1 + (l[k].1.size : Int) from IntWalk.i64_in _ (by omega)]
    unfold fewM
    rw [if_neg (by omega), IntWalk.i64_in _ (by omega)]
    omega
theorem Wg.all {l : List Str} {t : Int} (h : Wg l l.length t) (ht : t ≤ 2000) : PK l := by
  intro k hk hs
  by_cases e : k = l.length
  · subst e; have := h.now hs; omega
  · exact h.old k (by omega) hs
section
variable {B n cap : Nat} {w : World} {ao : Option Addr} {l : List Str}
set_option maxRecDepth 100000 in
set_option maxHeartbeats 1000000 in
theorem weigh_any (h : KS B w ao n cap l) :
    Calls Try.prog 27 #[.slice ao n cap, .int .i64 2000] w fun e w' => ∃ R : Int, e = .returned (.int .i64 R) ∧ (R ≤ 2000 → PK l) ∧ w = w' := by
  have hlt := h.lt
  have HL := Lib.hid h.len
  have H := Lib.hid h
  clear h
  go_enter Try.func27, Try.ntmps27
  go_wp2
  go_loopw [5, 6] (fun s i wr => ∃ (k : Nat) (t : Int), k ≤ n ∧ i = .int .i64 k ∧ s = .int .i64 t ∧ Hid (Wg l k t) ∧ Hid (w = wr)) (fun _ i _ => n - (intOf i).toNat)
  case atStart => exact ⟨0, 0, Nat.zero_le _, rfl, rfl, Wg.zero l, Lib.hid rfl⟩
  case round =>
    obtain ⟨k, t, hk, rfl, rfl, HK, HE⟩ := hrel
    obtain rfl := HE.out
    by_cases hkn : k < n
    · have hkl : k < l.length := by rw [← HL.out]; exact hkn
      by_cases ht2 : t ≤ 2000
      · obtain ⟨b, off, rfl, c0⟩ := H.out.at_ hkn
        replace c0 := c0.trans (congrArg (fun s : Str => some (Value.string s.1)) (getD_at9 hkl _))
        have HS := Lib.hid (HK.out.step hkl ht2)
        generalize l[k] = s at *
        clear HK
        obtain ⟨q, hq⟩ : ∃ q, IntKind.i64.wrap (1 + (s.1.size : Int)) = q := ⟨_, rfl⟩
        have HM := fun w => Lib.hid (fewM_any t q w)
        rw [hq] at HS
        go_wp2_with (go_at_call 44; refine (HM _).out.mono ?_; rintro e w2 ⟨rfl, rfl⟩)
        go_roundw
        case rel => exact ⟨k + 1, _, by omega, by go_num, rfl, HS, trivial⟩
        case measure => simp [intOf]; omega
      · go_wp2
        go_ret
        exact ⟨t, rfl, fun e => absurd e (by omega), rfl⟩
    · obtain rfl : k = n := by omega
      have HR := Lib.hid (fun ht => (show Wg l l.length t by rw [← HL.out]; exact HK.out).all ht)
      go_wp2
      go_ret
      exact ⟨t, rfl, HR.out, rfl⟩
set_option maxRecDepth 100000 in
theorem few14_any (h : KS B w ao n cap l) (bo : Option Addr) (m bc : Nat) :
    Calls Try.prog 8 #[.slice ao n cap, .slice bo m bc] w fun e w' => ∃ b : Bool, e = .returned (.bool b) ∧ (b = true → m ≤ 100 ∧ PK l) ∧ w = w' := by
  have HW := Lib.hid (weigh_any h)
  clear h
  by_cases h2 : m ≤ 100
  · have h3 : decide ((m : Int) ≤ 100) = true := decide_eq_true (by omega)
    go_enter Try.func8, Try.ntmps8
    go_wp2_with (go_at_call 27; refine HW.out.mono ?_; rintro e w2 ⟨R, rfl, hp, rfl⟩; have HP := Lib.hid hp; clear hp)
    go_ret
    exact ⟨_, rfl, (fun e => ⟨h2, HP.out (by simpa using e)⟩), rfl⟩
  · have h3 : decide ((m : Int) ≤ 100) = false := decide_eq_false (by omega)
    have h5 : ¬ (m : Int) ≤ 100 := by omega
    go_enter Try.func8, Try.ntmps8
    go_wp2_with (fail)
    go_ret
    exact ⟨rfl, rfl⟩
end
end Go.Proofs.Ytfcdajkgopcmpaa
