/- raceref.Files: are two slices of files the same? Conditions: none of its own. -/
import Derived.Test.YtefgnlijgomgpaaUf
namespace Go.Proofs.Ytefgnlijgomgpaa
open Go.RowKit
def eqv (p q : FV) : Bool := p.name == q.name && (decide (p.safe = q.safe) && p.data == q.data)
def sameF : List FV → List FV → Bool
  | [], [] => true
  | p :: l, q :: m => eqv p q && sameF l m
  | _, _ => false
theorem eqv_iff {p q : FV} : eqv p q = true ↔ p = q := by
  obtain ⟨a, b, c⟩ := p
  obtain ⟨d, e, f⟩ := q
  unfold eqv
  simp
  intro _
  exact and_comm
theorem sameF_iff : ∀ {l m : List FV}, sameF l m = true ↔ l = m
  | [], [] => by simp [sameF]
  | [], _ :: _ => by simp [sameF]
  | _ :: _, [] => by simp [sameF]
  | p :: l, q :: m => by unfold sameF; rw [Bool.and_eq_true, eqv_iff, sameF_iff]; simp
theorem sameF_self (l : List FV) : sameF l l = true := sameF_iff.2 rfl
theorem sameF_no {l m : List FV} (h : l ≠ m) : sameF l m = false := by
  cases e : sameF l m with
  | false => rfl
  | true => exact absurd (sameF_iff.1 e) h
theorem drewN_add (w : World) (a b : Nat) : (w.drewN a).drewN b = w.drewN (a + b) := by
  simp [World.drewN, Nat.add_assoc]
theorem SB.drewN {C : Nat → Prop} {w : World} {ao : Option Addr} {n cap : Nat} {l : List UInt8} (h : SB C w ao n cap l) (q : Nat) : SB C (w.drewN q) ao n cap l := h.below (below_drewN w q)
set_option maxRecDepth 100000 in
set_option maxHeartbeats 4000000 in
theorem same_any {B C : Nat → Prop} {w : World} {ao bo : Option Addr} {n cap m bcap : Nat} {L M : List FV} (h : SF B w ao n cap L) (h2 : SF C w bo m bcap M) :
    Calls Try.prog 22 #[.slice ao n cap, .slice bo m bcap] w fun e w' => e = .returned (.bool (sameF L M)) ∧ ∃ k, w' = w.drewN k := by
  have hl := h.len
  have hl2 := h2.len
  have hlt := h.lt
  have H := Lib.hid h
  have H2 := Lib.hid h2
  clear h h2
  by_cases hnm : n = m
  · subst hnm
    have HL := Lib.hid hl
    have HM := Lib.hid hl2
    clear hl hl2
    go_enter Try.func22, Try.ntmps22
    go_wp2
    go_loopw [5] (fun i wr => ∃ k : Nat, i = .int .i64 k ∧ k ≤ n ∧ Hid (L.take k = M.take k) ∧ ∃ q, Hid (wr = w.drewN q)) (fun i _ => n - (intOf i).toNat)
    case atStart => exact ⟨0, rfl, Nat.zero_le _, rfl, 0, rfl⟩
    case round =>
      obtain ⟨k, rfl, hk, HT, q, HQ⟩ := hrel
      by_cases hkn : k < n
      · have hkl : k < L.length := by rw [← HL.out]; exact hkn
        have hkm : k < M.length := by rw [← HM.out]; exact hkn
        have h1 : SF B wr ao n cap L := by rw [HQ.out]; exact H.out.below (below_drewN w q)
        have h2 : SF C wr bo n bcap M := by rw [HQ.out]; exact H2.out.below (below_drewN w q)
        obtain ⟨b, off, rfl, _, f1, w1⟩ := h1.at_ hkl
        obtain ⟨b2, off2, rfl, _, f2, w2⟩ := h2.at_ hkm
        have HE1 := Lib.hid (List.take_succ_eq_append_getElem hkl)
        have HE2 := Lib.hid (List.take_succ_eq_append_getElem hkm)
        have HN : Hid (L[k] ≠ M[k] → L ≠ M) := fun hne e => by subst e; exact hne rfl
        generalize L[k] = p at *
        generalize M[k] = r at *
        have c10 := f1.c0
        have c12 := f1.c2
        have c20 := f2.c0
        have c22 := f2.c2
        obtain ⟨o1, k1, c11, s1⟩ := f1.c1
        obtain ⟨o2, k2, c21, s2⟩ := f2.c1
        have cv1 : ∀ q, (convert 33 9 (.slice o1 p.data.length k1)).run Try.prog (wr.drewN q) = .ok (.string ⟨p.data.toArray⟩) (wr.drewN q) := fun q => (s1.drewN q).conv
        have cv2 : ∀ q, (convert 33 9 (.slice o2 r.data.length k2)).run Try.prog (wr.drewN q) = .ok (.string ⟨r.data.toArray⟩) (wr.drewN q) := fun q => (s2.drewN q).conv
        clear s1 s2 f1 f2 w1 w2 h1 h2
        obtain ⟨p1, p2, p3⟩ := p
        obtain ⟨r1, r2, r3⟩ := r
        simp only at c10 c11 c12 c20 c21 c22 cv1 cv2
        by_cases e1 : p1 = r1
        · subst e1
          by_cases e2 : p3 = r3
          · subst e2
            by_cases e3 : p2 = r2
            · subst e3
              have HT2 : Hid (L.take (k + 1) = M.take (k + 1)) := by rw [HE1.out, HE2.out, HT.out]; exact rfl
              clear HN HE1 HE2
              go_wp2
              go_quiet (fail)
              go_wp2
              go_roundw
              case rel => exact ⟨k + 1, by go_num, by omega, HT2, q + nq, by rw [HQ.out, drewN_add]; exact rfl⟩
              case measure => simp [intOf]; omega
            · have hb : (p2 == r2) = false := by rw [beq_eq_false_iff_ne]; exact e3
              have HNE := Lib.hid (sameF_no (HN.out (fun e => by injection e with _ e _; exact e3 e)))
              clear e3 HN HE1 HE2
              go_wp2
              go_quiet (fail)
              go_wp2
              go_ret
              rw [HNE.out]
              exact ⟨rfl, q + nq, by rw [HQ.out, drewN_add]⟩
          · have hb : (p3 != r3) = true := by rw [bne_iff_ne]; exact e2
            have HNE := Lib.hid (sameF_no (HN.out (fun e => by injection e with _ _ e; exact e2 e)))
            clear e2 HN HE1 HE2
            go_wp2
            go_quiet (fail)
            go_wp2
            go_ret
            rw [HNE.out]
            exact ⟨rfl, q + nq, by rw [HQ.out, drewN_add]⟩
        · have hb : (p1 == r1) = false := by rw [beq_eq_false_iff_ne]; exact e1
          have HNE := Lib.hid (sameF_no (HN.out (fun e => by injection e with e _ _; exact e1 e)))
          clear e1 HN HE1 HE2
          go_wp2
          go_quiet (fail)
          go_wp2
          go_ret
          rw [HNE.out]
          exact ⟨rfl, q + nq, by rw [HQ.out, drewN_add]⟩
      · obtain rfl : k = n := by omega
        have hE : L = M := by
          have := HT.out
          rw [List.take_of_length_le (by rw [← HL.out]; omega), List.take_of_length_le (by rw [← HM.out]; omega)] at this
          exact this
        subst hE
        go_wp2
        go_ret
        exact ⟨by rw [sameF_self]; rfl, q, HQ.out⟩
  · have hne : sameF L M = false := sameF_no (fun e => by subst e; omega)
    rw [hne]
    have ht : (((n : Int)) != (m : Int)) = true := by rw [bne_iff_ne]; omega
    clear hl hl2 hnm
    go_enter Try.func22, Try.ntmps22
    go_wp2
    go_ret
    exact ⟨rfl, 0, rfl⟩
end Go.Proofs.Ytefgnlijgomgpaa
