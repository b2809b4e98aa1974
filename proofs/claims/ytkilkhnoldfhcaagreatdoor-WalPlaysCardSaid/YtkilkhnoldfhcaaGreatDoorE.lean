/- disk: New, Down, Writes, isName, spend, Arm, find, kept. Conditions: names and numbers as Go has them. -/
import Derived.Test.YtkilkhnoldfhcaaGreatDoorD
import Derived.Outline
import Derived.Handy
namespace Go.Proofs.YtkilkhnoldfhcaaGreatDoor
open Go.RowKit
section
variable {S : Nat → Prop} {w : World} {a m : Nat} {d : Dk} {ρ : Nm → Nat} {δ : Nm → Value}
theorem mat_new (w : World) : MAt (w.alloc (.map #[] 0)) w.heap.size ([] : Ent Nat) := World.ownsMap_made w Tryz.prog 9 refE
theorem new_any (w : World) : Calls Tryz.prog 13 #[] w fun e w' => e = .returned (ptr (w.heap.size + 1)) ∧ Below w.heap.size w w' ∧ DK (fun k => w.heap.size ≤ k ∧ k < w'.heap.size) w' (w.heap.size + 1) .zero := by
  have hmm := @run_makeMap Tryz.prog
  go_enter Tryz.func13, Tryz.ntmps13
  go_wp2
  go_ret
  refine ⟨by simp, ((Below.refl _ _).alloc (Nat.le_refl _) _).alloc (by simp) _, w.heap.size, fun _ => 0, fun _ => undef, ok_zero, by decide, ?_, ?_, fun _ h => (nomatch h), fun _ h => (nomatch h), fun _ h => (nomatch h), fun _ h => (nomatch h), ?_, ?_, fun _ h => (nomatch h), fun _ h => (nomatch h), fun k hk => hk.2⟩
  · have := heap_alloc_new (w.alloc (.map #[] 0)) (.cells #[.map (some w.heap.size), .int .i64 0, .int .i64 0, .bool false] 85)
    simpa [Dk.zero] using this
  · exact (mat_new w).alloc _
  · simp
  · simp; omega
theorem down_any (h : DAt S w a d m ρ δ) : Calls Tryz.prog 24 #[ptr a] w fun e w' => e = .returned (.bool d.off) ∧ w = w' := by
  have c3 := h.c3
  clear h
  go_enter Tryz.func24, Tryz.ntmps24
  go_wp2
  go_ret
  exact ⟨rfl, rfl⟩
theorem writes_any (h : DAt S w a d m ρ δ) : Calls Tryz.prog 94 #[ptr a] w fun e w' => e = .returned (.int .i64 (d.done : Int)) ∧ w = w' := by
  have c1 := h.c1
  clear h
  go_enter Tryz.func94, Tryz.ntmps94
  go_wp2
  go_ret
  exact ⟨rfl, rfl⟩
theorem isNm_int (s : Nm) : isNm s = (decide ((1 : Int) ≤ (s.length : Int)) && decide ((s.length : Int) ≤ 20)) := by
  unfold isNm
  congr 1 <;> (rw [Bool.eq_iff_iff]; simp; try omega)
theorem isName_any (s : Nm) (w : World) (hs : s.length ≤ 9223372036854775807) : Calls Tryz.prog 85 #[nmv s] w fun e w' => e = .returned (.bool (isNm s)) ∧ w = w' := by
  go_enter Tryz.func85, Tryz.ntmps85
  go_wp2
  all_goals
    go_ret
    refine ⟨?_, rfl⟩
    rw [isNm_int]
    first | (simp [*]; done) | (simp [*]; omega)
theorem heap_set {w : World} {b o : Nat} {cs cs' : Array Value} {t : TypeId} (h : w.heap[b]? = some (.cells cs t (0, 0))) (v : Value) (hc : cs.setIfInBounds o v = cs') : (w.setCell ⟨b, o, none⟩ v).heap[b]? = some (.cells cs' t (0, 0)) := by
  rw [heap_setCell_same w b o cs t v h, hc]
theorem tn_set {b i : Nat} {w w' : World} (h : Tn (· = b) w w') (v : Value) : Tn (· = b) w (w'.setCell ⟨b, i, none⟩ v) := h.setCell (fun _ => rfl) v
theorem DAt.tna (h : DAt S w a d m ρ δ) {w' : World} (ht : Tn (· = a) w w') : Tn S w w' := ht.mono fun _ _ e => e ▸ h.sa
theorem arm_any (h : DAt S w a d m ρ δ) (n : Int) (h1 : -9223372036854775808 ≤ n) (h2 : n ≤ 9223372036854775807) : Calls Tryz.prog 19 #[ptr a, .int .i64 n] w fun e w' => e = .returned (.tuple #[]) ∧ DAt S w' a (d.arm n) m ρ δ ∧ Tn S w w' := by
  have H := Lib.hid h
  have c2 := h.c2
  have c3 := h.c3
  have f2 := h.fz 2
  clear h
  cases ho : d.off with
  | true =>
    rw [ho] at c3
    have HO := Lib.hid ho
    clear ho
    go_enter Tryz.func19, Tryz.ntmps19
    go_wp2
    go_returns
    refine ⟨rfl, ?_, Tn.refl _ _⟩
    unfold Dk.arm
    rw [if_pos HO.out]
    exact H.out
  | false =>
    rw [ho] at c3
    have HO := Lib.hid ho
    clear ho
    go_enter Tryz.func19, Tryz.ntmps19
    go_wp2
    all_goals
      go_returns
      have ht : ∀ v, Tn (· = a) w (w.setCell ⟨a, 2, none⟩ v) := fun v => tn_set (Tn.refl _ _) v
      refine ⟨rfl, ?_, H.out.tna (ht _)⟩
      unfold Dk.arm
      rw [if_neg (by rw [HO.out]; decide)]
      refine H.out.ctl (by omega) (ht _) (heap_set H.out.box _ ?_)
      simp
      omega
theorem spend_any (h : DAt S w a d m ρ δ) (hd : d.done < 9223372036854775807) : Calls Tryz.prog 86 #[ptr a] w fun e w' => e = .returned (.bool d.spend.2) ∧ DAt S w' a d.spend.1 m ρ δ ∧ Tn (· = a) w w' := by
  have H := Lib.hid h
  have hl := h.left
  have c1 := h.c1
  have c2 := h.c2
  have c3 := h.c3
  have f1 := h.fz 1
  have f2 := h.fz 2
  have f3 := h.fz 3
  clear h
  have ht : ∀ v i, Tn (· = a) w (w.setCell ⟨a, i, none⟩ v) := fun v i => tn_set (Tn.refl _ _) v
  have HT := Lib.hid ht
  clear ht
  by_cases h1 : d.left = 1
  · have e : ((d.left : Int) == 1) = true := by simp [h1]
    have H1 := Lib.hid h1
    clear h1
    go_enter Tryz.func86, Tryz.ntmps86
    go_wp2
    go_ret
    have hs : d.spend = (⟨d.f, true, 0, d.done⟩, false) := by unfold Dk.spend; rw [if_pos H1.out]
    rw [hs]
    have ht := tn_set (i := 3) (HT.out (.int .i64 0) 2) (.bool true)
    exact ⟨rfl, H.out.ctl (by decide) ht (heap_set (heap_set H.out.box _ rfl) _ rfl), ht⟩
  · have e : ((d.left : Int) == 1) = false := by simp; omega
    have H1 := Lib.hid h1
    clear h1
    have hs : d.spend = (⟨d.f, d.off, d.left - 1, d.done + 1⟩, true) := by unfold Dk.spend; rw [if_neg H1.out]
    have HS := Lib.hid hs
    clear hs
    go_enter Tryz.func86, Tryz.ntmps86
    go_wp2
    all_goals
      go_ret
      rw [HS.out]
    · have ht := tn_set (i := 1) (HT.out (.int .i64 ((d.left : Int) - 1)) 2) (.int .i64 ((d.done : Int) + 1))
      refine ⟨rfl, H.out.ctl (by omega) ht (heap_set (heap_set H.out.box _ rfl) _ ?_), ht⟩
      simp
      omega
    · have ht := HT.out (.int .i64 ((d.done : Int) + 1)) 1
      refine ⟨rfl, H.out.ctl (by omega) ht (heap_set H.out.box _ ?_), ht⟩
      have := H1.out
      simp
      omega
end
end Go.Proofs.YtkilkhnoldfhcaaGreatDoor
