/- racelaw6.Does at whatever operation; Few. Conditions: none of its own. -/
import Derived.Test.YtefgnlijgomgpaaP
namespace Go.Proofs.Ytefgnlijgomgpaa
open Go.RowKit
section
variable {S C : Nat → Prop} {w : World} {a m : Nat} {d : Dk} {ρ : Nm → Nat} {δ : Nm → Value}
/-- An operation as a value. -/
def opv (p : Do) (ao : Option Addr) (cap : Nat) (po : Option Addr) (pc : Nat) : Value := .agg #[.int .i64 p.kind, .int .i64 p.n, nmv p.name, nmv p.to, .slice ao p.b.length cap, .slice po p.picks.length pc]
theorem does_any {p : Do} {ao po : Option Addr} {cap pc : Nat} (h : DK S w a d) (hs : p.small) (hb : SB C w ao p.b.length cap p.b) (hp : SI C w po p.picks.length pc p.picks) (hC : ∀ k, C k → ¬ S k) (hd : d.done < 9223372036854775807) :
    Calls Try.prog 13 #[ptr a, opv p ao cap po pc] w (Wrote S w a (d.step p)) := by
  obtain ⟨m, ρ, δ, h⟩ := h
  obtain ⟨kind, n, name, to, b, picks⟩ := p
  unfold opv
  by_cases h1 : kind = 1
  · subst h1; exact does_1 h hs hb hp hC hd
  by_cases h2 : kind = 2
  · subst h2; exact does_2 h hs hb hp hC hd
  by_cases h3 : kind = 3
  · subst h3; exact does_3 h hs hb hp hC hd
  by_cases h4 : kind = 4
  · subst h4; exact does_4 h hs hb hp hC hd
  by_cases h5 : kind = 5
  · subst h5; exact does_5 h hs hb hp hC hd
  by_cases h6 : kind = 6
  · subst h6; exact does_6 h hs hb hp hC hd
  by_cases h7 : kind = 7
  · subst h7; exact does_7 h hs hb hp hC hd
  by_cases h8 : kind = 8
  · subst h8; exact does_8 h hs hb hp hC hd
  by_cases h9 : kind = 9
  · subst h9; exact does_9 h hs hb hp hC hd
  exact does_0 h hs hb hp hC hd h1 h2 h3 h4 h5 h6 h7 h8 h9
/-- How much it writes. -/
theorem done_step (d : Dk) (p : Do) : (d.step p).1.done ≤ d.done + 1 := by
  have h0 : d.spend.1.done ≤ d.done + 1 := by unfold Dk.spend; split <;> simp
  unfold Dk.step
  repeat' split
  all_goals first
    | (show d.done ≤ _; omega)
    | (unfold Dk.create; repeat' split) <;> first | (show d.done ≤ _; omega) | exact h0
    | (unfold Dk.append; repeat' split) <;> first | (show d.done ≤ _; omega) | exact h0
    | (unfold Dk.sync; repeat' split) <;> first | (show d.done ≤ _; omega) | exact h0
    | (unfold Dk.cut; repeat' split) <;> first | (show d.done ≤ _; omega) | exact h0
    | (unfold Dk.rename; repeat' split) <;> first | (show d.done ≤ _; omega) | exact h0
    | (unfold Dk.remove; repeat' split) <;> first | (show d.done ≤ _; omega) | exact h0
    | (unfold Dk.arm; repeat' split) <;> (show d.done ≤ _; omega)
    | (unfold Dk.crash; show d.done ≤ _; omega)
end
/-- How many bytes operations bear. -/
def wei (l : List Do) : Nat := (l.map fun p => min p.name.length 20001 + min p.to.length 20001 + min p.b.length 20001).sum
def fewB (l : List Do) : Bool := decide (l.length ≤ 300) && decide (wei (l.take 300) ≤ 20000)
theorem wei_take {l : List Do} {k : Nat} (h : k < l.length) : wei (l.take (k + 1)) = wei (l.take k) + (min l[k].name.length 20001 + min l[k].to.length 20001 + min l[k].b.length 20001) := by
  unfold wei
  rw [List.take_succ_eq_append_getElem h, List.map_append, List.sum_append]
  simp
theorem wei_le (l : List Do) : wei l ≤ l.length * 60003 := by
  induction l with
  | nil => simp [wei]
  | cons p r ih =>
    have e : wei (p :: r) = (min p.name.length 20001 + min p.to.length 20001 + min p.b.length 20001) + wei r := rfl
    rw [e, List.length_cons, Nat.add_mul]
    omega
theorem few_yes {l : List Do} (h : fewB l = true) : l.length ≤ 300 ∧ wei l ≤ 20000 := by
  unfold fewB at h
  simp only [Bool.and_eq_true, decide_eq_true_eq] at h
  obtain ⟨h1, h2⟩ := h
  rw [List.take_of_length_le h1] at h2
  exact ⟨h1, h2⟩
theorem wei_mem {l : List Do} (h : wei l ≤ 20000) : ∀ p ∈ l, p.name.length ≤ 20000 ∧ p.to.length ≤ 20000 ∧ p.b.length ≤ 20000 := by
  induction l with
  | nil => intro p hp; cases hp
  | cons u r ih =>
    have e : wei (u :: r) = (min u.name.length 20001 + min u.to.length 20001 + min u.b.length 20001) + wei r := rfl
    intro p hp
    rcases List.mem_cons.1 hp with rfl | hp
    · omega
    · exact ih (by omega) p hp
theorem few_small {l : List Do} (h : fewB l = true) (hw : ∀ p ∈ l, p.wf) : ∀ p ∈ l, p.small := fun p hp => by
  have := wei_mem (few_yes h).2 p hp
  exact ⟨hw p hp, by omega, by omega, by omega⟩
set_option maxRecDepth 100000 in
set_option maxHeartbeats 1000000 in
theorem few_any {C : Nat → Prop} {w : World} {ao : Option Addr} {n cap : Nat} {l : List Do} (h : SO C w ao n cap l) :
    Calls Try.prog 11 #[.slice ao n cap] w fun e w' => e = .returned (.bool (fewB l)) ∧ Below w.heap.size w w' := by
  have hlt := h.lt
  have hl := h.len
  have H := Lib.hid h
  have HL := Lib.hid hl
  clear h hl
  go_enter Try.func11, Try.ntmps11
  go_wp2
  go_loopw [3, 4] (fun s i wr => ∃ k : Nat, k ≤ n ∧ k ≤ 300 ∧ i = .int .i64 k ∧ s = .int .i64 (wei (l.take k) : Nat) ∧ Hid (Below w.heap.size w wr)) (fun _ i _ => 300 - (intOf i).toNat)
  case atStart => exact ⟨0, Nat.zero_le _, Nat.zero_le _, rfl, rfl, Below.refl _ _⟩
  case round =>
    obtain ⟨k, hk, hk4, rfl, rfl, HB⟩ := hrel
    have hw := wei_le (l.take k)
    rw [List.length_take] at hw
    by_cases hlt2 : k < n ∧ k < 300
    · obtain ⟨hkn, hk100⟩ := hlt2
      have hkl : k < l.length := by rw [← HL.out]; exact hkn
      obtain ⟨b, off, rfl, _, ho, hwf⟩ := (H.out.below HB.out).at_ hkl
      have HW := Lib.hid (wei_take hkl)
      have c2 := ho.c2
      have c3 := ho.c3
      obtain ⟨a4, k4, c4, s4⟩ := ho.c4
      clear s4 ho
      have n1 := hwf.name
      have n2 := hwf.to
      unfold maxLen at n1 n2
      generalize l[k].name = nm at *
      generalize l[k].to = to at *
      generalize l[k].b.length = bl at *
      have m1 : min (nm.length : Int) 20001 = ((min nm.length 20001 : Nat) : Int) := by omega
      have m2 : min (to.length : Int) 20001 = ((min to.length 20001 : Nat) : Int) := by omega
      have m3 : min (bl : Int) 20001 = ((min bl 20001 : Nat) : Int) := by omega
      go_wp2
      go_quiet (fail)
      have HB2 := Lib.hid (HB.out.trans ((below_drewN wr nq).mono HB.out.size))
      generalize wr.drewN nq = w2 at *
      go_wp2
      go_roundw
      case rel => exact ⟨k + 1, by omega, by omega, by go_num, by rw [HW.out]; congr 1; omega, HB2⟩
      case measure => simp [intOf]; omega
    · by_cases hkn : k < n
      · have hf := Lib.hid (show fewB l = false by unfold fewB; rw [← HL.out, decide_eq_false (by omega)]; rfl)
        have h100 : ¬ (k : Int) < 300 := by omega
        have hn100 : ¬ (n : Int) ≤ 300 := by omega
        clear hw hlt2
        generalize wei (l.take k) = s at *
        go_wp2
        go_ret
        rw [hf.out]
        exact ⟨rfl, HB.out⟩
      · obtain rfl : k = n := by omega
        have hf := Lib.hid (show fewB l = decide (((wei (l.take k) : Nat) : Int) ≤ 20000) by
          unfold fewB
          rw [← HL.out, decide_eq_true hk4, Bool.true_and, List.take_of_length_le (by rw [← HL.out]; exact hk4), List.take_of_length_le (by rw [← HL.out]; exact Nat.le_refl _)]
          by_cases hc : wei l ≤ 20000
          · rw [decide_eq_true hc, decide_eq_true (by omega)]
          · rw [decide_eq_false hc, decide_eq_false (by omega)])
        clear hw hlt2
        generalize wei (l.take k) = s at *
        go_wp2
        go_ret
        rw [hf.out]
        exact ⟨rfl, HB.out⟩
end Go.Proofs.Ytefgnlijgomgpaa
