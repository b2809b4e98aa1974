/- raceref.Rows; racelaw5.few and joined. Conditions: none of its own. -/
import Derived.Test.YtcpncmdnefemmaaS
import Derived.Deep.QuietTactic
import Derived.BigQuiet
import Derived.Deep.RegionHeld
namespace Go.Proofs.Ytcpncmdnefemmaa
open Go.RowKit
theorem take_same {L M : List (List UInt8)} {k : Nat} (hk : k < L.length) (hl : L.length = M.length) (h : L.take k = M.take k) (he : L.getD k [] = M.getD k []) : L.take (k + 1) = M.take (k + 1) := by
  rw [List.take_add_one, List.take_add_one, h]
  rw [List.getD_eq_getElem?_getD, List.getD_eq_getElem?_getD, List.getElem?_eq_getElem hk, List.getElem?_eq_getElem (by omega)] at he
  rw [List.getElem?_eq_getElem hk, List.getElem?_eq_getElem (by omega)]
  simp at he
  rw [he]
theorem drewN_add (w : World) (a b : Nat) : (w.drewN a).drewN b = w.drewN (a + b) := by
  simp [World.drewN, Nat.add_assoc]
set_option maxRecDepth 100000 in
theorem rows_any {B C : Nat} {w : World} {ao bo : Option Addr} {n cap m bcap : Nat} {L M : List (List UInt8)} (h : RB B w ao n cap L) (h2 : RB C w bo m bcap M) :
    Calls Try.prog 19 #[.slice ao n cap, .slice bo m bcap] w fun e w' => e = .returned (.bool (L == M)) ∧ ∃ k, w' = w.drewN k := by
  have hl := h.len
  have hl2 := h2.len
  have hlt := h.lt
  have H := Lib.hid h
  have H2 := Lib.hid h2
  clear h h2
  by_cases hnm : n = m
  · subst hnm
    have HL := Lib.hid hl
    have HM := Lib.hid hl2
    clear hl hl2
    go_enter Try.func19, Try.ntmps19
    go_wp2
    go_loopw [5] (fun i wr => ∃ k : Nat, i = .int .i64 k ∧ k ≤ n ∧ Hid (L.take k = M.take k) ∧ ∃ q, Hid (wr = w.drewN q)) (fun i _ => n - (intOf i).toNat)
    case atStart => exact ⟨0, rfl, Nat.zero_le _, rfl, 0, rfl⟩
    case round =>
      obtain ⟨k, rfl, hk, HT, q, HQ⟩ := hrel
      by_cases hkn : k < n
      · obtain ⟨b, off, ro, c, d, rfl, c1, s1⟩ := H.out.at_ hkn
        obtain ⟨b2, off2, ro2, cc2, d2, rfl, c2, s2⟩ := H2.out.at_ hkn
        have c1' : wr.cell? ⟨b, off + k, none⟩ = some (.slice ro c d) := by rw [HQ.out, World.cell?_drewN]; exact c1
        have c2' : wr.cell? ⟨b2, off2 + k, none⟩ = some (.slice ro2 cc2 d2) := by rw [HQ.out, World.cell?_drewN]; exact c2
        have s1w : SB B wr ro c d (L.getD k []) := by rw [HQ.out]; exact s1.drewN q
        have s2w : SB C wr ro2 cc2 d2 (M.getD k []) := by rw [HQ.out]; exact s2.drewN q
        have cv1 : ∀ q, (convert 22 9 (.slice ro c d)).run Try.prog (wr.drewN q) = .ok (.string ⟨(L.getD k []).toArray⟩) (wr.drewN q) := fun q => (s1w.drewN q).conv
        have cv2 : ∀ q, (convert 22 9 (.slice ro2 cc2 d2)).run Try.prog (wr.drewN q) = .ok (.string ⟨(M.getD k []).toArray⟩) (wr.drewN q) := fun q => (s2w.drewN q).conv
        clear c1 c2 s1 s2 s1w s2w
        have HE := Lib.hid (take_same (L := L) (M := M) (k := k) (by rw [← HL.out]; exact hkn) (by rw [← HL.out, ← HM.out]) HT.out)
        generalize hx : L.getD k [] = x at *
        generalize hy : M.getD k [] = y at *
        have HX := Lib.hid hx
        have HY := Lib.hid hy
        clear hx hy
        by_cases hxy : x = y
        · subst hxy
          have HE2 := Lib.hid (HE.out rfl)
          go_wp2
          go_quiet (fail)
          go_wp2
          go_roundw
          case rel => exact ⟨k + 1, by go_num, by omega, HE2.out, q + nq, by rw [HQ.out, drewN_add]; exact rfl⟩
          case measure => simp [intOf]; omega
        · have ht : (x == y) = false := by rw [beq_eq_false_iff_ne]; exact hxy
          have hne : (L == M) = false := by
            rw [beq_eq_false_iff_ne]
            intro e
            rw [e] at HX
            exact hxy (HX.out.symm.trans HY.out)
          have HNE := Lib.hid hne
          clear hne hxy
          go_wp2
          go_quiet (fail)
          go_wp2
          go_ret
          rw [HNE.out]
          exact ⟨rfl, q + nq, by rw [HQ.out, drewN_add]⟩
      · obtain rfl : k = n := by omega
        have hE : L = M := by
          have := HT.out
          rw [List.take_of_length_le (by rw [← HL.out]; omega), List.take_of_length_le (by rw [← HM.out]; omega)] at this
          exact this
        subst hE
        go_wp2
        go_ret
        exact ⟨by simp, q, HQ.out⟩
  · have hne : (L == M) = false := by
      rw [beq_eq_false_iff_ne]; intro e; subst e; omega
    rw [hne]
    have ht : (((n : Int)) != (m : Int)) = true := by rw [bne_iff_ne]; omega
    clear hl hl2 hnm
    go_enter Try.func19, Try.ntmps19
    go_wp2
    go_ret
    exact ⟨rfl, 0, rfl⟩
/-- How many bytes the first rows have. -/
def wei (L : List (List UInt8)) : Nat := (L.map fun l => min l.length 20001).sum
def fewB (L : List (List UInt8)) : Bool := decide (L.length ≤ 100) && decide (wei (L.take 100) ≤ 20000)
theorem wei_take {L : List (List UInt8)} {k : Nat} (h : k < L.length) : wei (L.take (k + 1)) = wei (L.take k) + min (L.getD k []).length 20001 := by
  have e : L.take (k + 1) = L.take k ++ [L.getD k []] := by
    rw [List.take_add_one, List.getD_eq_getElem?_getD, List.getElem?_eq_getElem h]; rfl
  unfold wei
  rw [e, List.map_append, List.sum_append]
  simp
theorem wei_le (L : List (List UInt8)) : wei L ≤ L.length * 20001 := by
  induction L with
  | nil => simp [wei]
  | cons t r ih =>
    have e : wei (t :: r) = min t.length 20001 + wei r := rfl
    rw [e, List.length_cons, Nat.add_mul]
    omega
theorem few_yes {L : List (List UInt8)} (h : fewB L = true) : L.length ≤ 100 ∧ wei L ≤ 20000 := by
  unfold fewB at h
  simp only [Bool.and_eq_true, decide_eq_true_eq] at h
  obtain ⟨h1, h2⟩ := h
  rw [List.take_of_length_le h1] at h2
  exact ⟨h1, h2⟩
theorem wei_mem {L : List (List UInt8)} (h : wei L ≤ 20000) : ∀ l ∈ L, l.length ≤ 20000 := by
  induction L with
  | nil => intro t ht; cases ht
  | cons u r ih =>
    have e : wei (u :: r) = min u.length 20001 + wei r := rfl
    intro t ht
    rcases List.mem_cons.1 ht with rfl | ht
    · omega
    · exact ih (by omega) t ht
theorem join_len {L : List (List UInt8)} (h : wei L ≤ 20000) : (joinV L).length ≤ L.length * 12 + wei L := by
  induction L with
  | nil => simp [joinV]
  | cons u r ih =>
    have e : wei (u :: r) = min u.length 20001 + wei r := rfl
    have := wei_mem h u List.mem_cons_self
    have := ih (by omega)
    rw [join_cons, List.length_append, frame_length, List.length_cons, e]
    omega
set_option maxRecDepth 100000 in
theorem few_any {B : Nat} {w : World} {ao : Option Addr} {n cap : Nat} {L : List (List UInt8)} (h : RB B w ao n cap L) :
    Calls Try.prog 20 #[.slice ao n cap] w fun e w' => e = .returned (.bool (fewB L)) ∧ w = w' := by
  have hlt := h.lt
  have hl := h.len
  have H := Lib.hid h
  have HL := Lib.hid hl
  clear h hl
  go_enter Try.func20, Try.ntmps20
  go_wp2
  go_loop [3, 4] (fun s i => ∃ k : Nat, k ≤ n ∧ k ≤ 100 ∧ i = .int .i64 k ∧ s = .int .i64 (wei (L.take k) : Nat)) (fun _ i => 100 - (intOf i).toNat)
  case atStart => exact ⟨0, Nat.zero_le _, Nat.zero_le _, rfl, rfl⟩
  case round =>
    obtain ⟨k, hk, hk4, rfl, rfl⟩ := hrel
    have hw := wei_le (L.take k)
    rw [List.length_take] at hw
    by_cases hlt2 : k < n ∧ k < 100
    · obtain ⟨hkn, hk100⟩ := hlt2
      obtain ⟨b, off, ro, c, d, rfl, c1, s1⟩ := H.out.at_ hkn
      have HW := Lib.hid (wei_take (L := L) (k := k) (by rw [← HL.out]; exact hkn))
      rw [← s1.len] at HW
      clear s1
      generalize wei (L.take k) = s at *
      by_cases hc : c ≤ 20001
      · have hmin : min c 20001 = c := by omega
        rw [hmin] at HW
        go_wp2
        go_round
        case rel => exact ⟨k + 1, by omega, by omega, by go_num, by rw [HW.out]; go_num⟩
        case measure => simp [intOf]; omega
      · have hmin : min c 20001 = 20001 := by omega
        rw [hmin] at HW
        go_wp2
        go_round
        case rel => exact ⟨k + 1, by omega, by omega, by go_num, by rw [HW.out]; go_num⟩
        case measure => simp [intOf]; omega
    · by_cases hkn : k < n
      · have hf := Lib.hid (show fewB L = false by unfold fewB; rw [← HL.out, decide_eq_false (by omega)]; rfl)
        have h100 : ¬ (k : Int) < 100 := by omega
        have hn100 : ¬ (n : Int) ≤ 100 := by omega
        clear hw hlt2
        generalize wei (L.take k) = s at *
        go_wp2
        go_ret
        rw [hf.out]
        exact ⟨rfl, rfl⟩
      · obtain rfl : k = n := by omega
        have hf := Lib.hid (show fewB L = decide (((wei (L.take k) : Nat) : Int) ≤ 20000) by
          unfold fewB
          rw [← HL.out, decide_eq_true hk4, Bool.true_and, List.take_of_length_le (by rw [← HL.out]; exact hk4), List.take_of_length_le (by rw [← HL.out]; exact Nat.le_refl _)]
          by_cases hc : wei L ≤ 20000
          · rw [decide_eq_true hc, decide_eq_true (by omega)]
          · rw [decide_eq_false hc, decide_eq_false (by omega)])
        clear hw hlt2
        generalize wei (L.take k) = s at *
        go_wp2
        go_ret
        rw [hf.out]
        exact ⟨rfl, rfl⟩
end Go.Proofs.Ytcpncmdnefemmaa
