/- The document's disk (raceref6.Disk) in memory: at, name, Size, falls, Read. Conditions: none of its own. -/
import Derived.Test.YtefgnlijgomgpaaW
namespace Go.Proofs.Ytefgnlijgomgpaa
open Go.RowKit
/-- The document's disk: its struct in block a, its list of files a row of its own, all in blocks of C. -/
structure RAt (C : Nat → Prop) (w : World) (a : Nat) (d : Dk) (v : Value) (us : List (Nm × Value × Int)) : Prop where
  ok : Okr d
  left : d.left ≤ 9223372036854775807
  box : w.heap[a]? = some (.cells #[v, .bool d.off, .int .i64 (d.left : Int), .int .i64 (d.done : Int)] 30 (0, 0))
  fo : FO C w v us (fvs d.f)
  ca : C a
  lt : ∀ k, C k → k < w.heap.size
def RK (C : Nat → Prop) (w : World) (a : Nat) (d : Dk) : Prop := ∃ v us, RAt C w a d v us
section
variable {C S : Nat → Prop} {w w' : World} {a : Nat} {d : Dk} {v : Value} {us : List (Nm × Value × Int)} {s : Nm} {x : Fi}
theorem RAt.tn (h : RAt C w a d v us) (ht : Tn S w w') (hd : ∀ k, C k → ¬ S k) : RAt C w' a d v us :=
  ⟨h.ok, h.left, ht.at_ h.box (hd a h.ca), h.fo.tn ht hd, h.ca, fun k hk => Nat.lt_of_lt_of_le (h.lt k hk) ht.size⟩
theorem RAt.below (h : RAt C w a d v us) (hb : Below w.heap.size w w') : RAt C w' a d v us := h.tn (Tn.of_below (S := fun _ => False) hb) (fun _ _ e => e)
theorem RK.tn (h : RK C w a d) (ht : Tn S w w') (hd : ∀ k, C k → ¬ S k) : RK C w' a d := let ⟨_, _, h⟩ := h; ⟨_, _, h.tn ht hd⟩
theorem RK.below (h : RK C w a d) (hb : Below w.heap.size w w') : RK C w' a d := let ⟨_, _, h⟩ := h; ⟨_, _, h.below hb⟩
theorem RK.ok (h : RK C w a d) : Okr d := let ⟨_, _, h⟩ := h; h.ok
theorem RK.lt (h : RK C w a d) : ∀ k, C k → k < w.heap.size := let ⟨_, _, h⟩ := h; h.lt
theorem RAt.c0 (h : RAt C w a d v us) : w.cell? ⟨a, 0, none⟩ = some v := by simp [World.cell?, h.box]
theorem RAt.c1 (h : RAt C w a d v us) : w.cell? ⟨a, 1, none⟩ = some (.bool d.off) := by simp [World.cell?, h.box]
theorem RAt.c2 (h : RAt C w a d v us) : w.cell? ⟨a, 2, none⟩ = some (.int .i64 (d.left : Int)) := by simp [World.cell?, h.box]
theorem RAt.c3 (h : RAt C w a d v us) : w.cell? ⟨a, 3, none⟩ = some (.int .i64 (d.done : Int)) := by simp [World.cell?, h.box]
theorem RAt.fz (h : RAt C w a d v us) (o : Nat) : w.frozen? ⟨a, o, none⟩ = false := frozen_zero h.box
theorem RAt.sf (h : RAt C w a d v us) : ∃ ao cap, v = .slice ao (fvs d.f).length cap ∧ SF C w ao (fvs d.f).length cap (fvs d.f) := h.fo.sf (fvs_wf h.ok)
set_option linter.unusedSimpArgs false in
set_option maxRecDepth 100000 in
theorem rname_any (w : World) (s : Nm) (hs : s.length ≤ maxLen) : Calls Try.prog 52 #[nmv s] w fun e w' => e = .returned (.bool (isNm s)) ∧ w = w' := by
  unfold isNm
  unfold maxLen at hs
  go_enter Try.func52, Try.ntmps52
  by_cases h1 : 1 ≤ s.length
  · by_cases h2 : s.length ≤ 20
    · have h3 : (s.length : Int) ≤ 20 := by omega
      go_wp2
      go_ret
      simp [h1, h2, h3]
    · have h3 : ¬ (s.length : Int) ≤ 20 := by omega
      go_wp2
      go_ret
      simp [h1, h2, h3]
  · go_wp2
    go_ret
    simp
set_option maxRecDepth 100000 in
set_option maxHeartbeats 2000000 in
theorem rat_any (h : RAt C w a d v us) {k : Nat} (hk : k ≤ (fvs d.f).length) (hne : ∀ i (hi : i < (fvs d.f).length), i < k → (fvs d.f)[i].name ≠ s) (he : ∀ hk : k < (fvs d.f).length, (fvs d.f)[k].name = s) :
    Calls Try.prog 49 #[ptr a, nmv s] w fun e w' => e = .returned (.int .i64 (if k < (fvs d.f).length then (k : Int) else -1)) ∧ w = w' := by
  obtain ⟨ao, cap, rfl, hsf⟩ := h.sf
  have c0 := h.c0
  have hlt := hsf.lt
  have HSF := Lib.hid hsf
  have HNE := Lib.hid hne
  have HE := Lib.hid he
  clear h hsf hne he
  go_enter Try.func49, Try.ntmps49
  go_wp2
  go_loopw [5] (fun i wr => ∃ j : Nat, j ≤ k ∧ i = .int .i64 j ∧ Hid (wr = w)) (fun i _ => (fvs d.f).length - (intOf i).toNat)
  case atStart => exact ⟨0, Nat.zero_le _, rfl, rfl⟩
  case round =>
    obtain ⟨j, hj, rfl, hww⟩ := hrel
    obtain rfl := hww.out.symm
    by_cases hjl : j < (fvs d.f).length
    · obtain ⟨b, off, rfl, _, f1, _⟩ := HSF.out.at_ hjl
      by_cases hjk : j = k
      · subst hjk
        have hn := HE.out hjl
        generalize (fvs d.f)[j] = q at *
        have g0 := f1.c0
        rw [hn] at g0
        clear f1
        go_wp2
        go_ret
        exact ⟨rfl, rfl⟩
      · have hn := HNE.out j hjl (by omega)
        generalize (fvs d.f)[j] = q at *
        have g0 := f1.c0
        have ht : (q.name == s) = false := by rw [beq_eq_false_iff_ne]; exact hn
        clear f1
        go_wp2
        go_roundw
        case rel => exact ⟨j + 1, by omega, by go_num, trivial⟩
        case measure => simp [intOf]; omega
    · go_wp2
      go_ret
      exact ⟨rfl, rfl⟩
theorem get_pos {f : Ent Fi} (hr : Rising f) (hx : get f s = some x) : ∃ k, ∃ h : k < f.length, f[k] = (s, x) ∧ ∀ i (hi : i < f.length), i < k → f[i].1 ≠ s := by
  obtain ⟨k, hk, hs⟩ := List.getElem_of_mem (get_mem hx)
  refine ⟨k, hk, hs, fun i hi hik e => ?_⟩
  have h1 := List.pairwise_iff_getElem.1 hr i k hi hk hik
  rw [hs, e] at h1
  exact nm_irrefl _ h1
theorem rat_none (h : RAt C w a d v us) (hx : get d.f s = none) : Calls Try.prog 49 #[ptr a, nmv s] w fun e w' => e = .returned (.int .i64 (-1)) ∧ w = w' := by
  have h1 := rat_any (s := s) h (Nat.le_refl _) (fun i hi _ => by rw [fvs_get hi]; exact get_none hx _ (List.getElem_mem _)) (fun hk => absurd hk (Nat.lt_irrefl _))
  rw [if_neg (Nat.lt_irrefl _)] at h1
  exact h1
theorem rat_some (h : RAt C w a d v us) {k : Nat} (hk : k < d.f.length) (hs : d.f[k] = (s, x)) (hne : ∀ i (hi : i < d.f.length), i < k → d.f[i].1 ≠ s) : Calls Try.prog 49 #[ptr a, nmv s] w fun e w' => e = .returned (.int .i64 (k : Int)) ∧ w = w' := by
  have h1 := rat_any (s := s) h (k := k) (by rw [fvs_length]; omega) (fun i hi hik => by rw [fvs_get hi]; exact hne i _ hik) (fun hk => by rw [fvs_get hk, hs]; rfl)
  rw [if_pos (by rw [fvs_length]; exact hk)] at h1
  exact h1
/-- The list's cells of one file. -/
theorem RAt.file (h : RAt C w a d v us) {k : Nat} (hk : k < d.f.length) (hs : d.f[k] = (s, x)) : ∃ ao cap b off bo bc, v = .slice (some ⟨b, off, none⟩) (fvs d.f).length cap ∧ ao = some (⟨b, off, none⟩ : Addr) ∧ C b ∧ w.cell? ⟨b, off + k * 3, none⟩ = some (nmv s) ∧ w.cell? ⟨b, off + k * 3 + 1, none⟩ = some (.slice bo x.data.length bc) ∧ SB C w bo x.data.length bc x.data ∧ w.cell? ⟨b, off + k * 3 + 2, none⟩ = some (.int .i64 (x.safe : Int)) := by
  obtain ⟨ao, cap, hv, hsf⟩ := h.sf
  obtain ⟨b, off, rfl, hb, f1, _⟩ := hsf.at_ (i := k) (by rw [fvs_length]; exact hk)
  rw [fvs_get (by rw [fvs_length]; exact hk), hs] at f1
  obtain ⟨bo, bc, h1, h2⟩ := f1.c1
  exact ⟨_, cap, b, off, bo, bc, hv, rfl, hb, f1.c0, h1, h2, f1.c2⟩
set_option maxRecDepth 100000 in
set_option maxHeartbeats 2000000 in
theorem rsize_any (h : RAt C w a d v us) : Calls Try.prog 47 #[ptr a] w fun e w' => e = .returned (.int .i64 (totF (fvs d.f) : Nat)) ∧ w = w' := by
  obtain ⟨ao, cap, rfl, hsf⟩ := h.sf
  have c0 := h.c0
  have hlt := hsf.lt
  have HSF := Lib.hid hsf
  have HROOM := Lib.hid (told h.ok).room
  clear h hsf
  go_enter Try.func47, Try.ntmps47
  go_wp2
  go_loopw [3, 4] (fun n i wr => ∃ j : Nat, j ≤ (fvs d.f).length ∧ i = .int .i64 j ∧ n = .int .i64 (totF ((fvs d.f).take j) : Nat) ∧ Hid (wr = w)) (fun _ i _ => (fvs d.f).length - (intOf i).toNat)
  case atStart => exact ⟨0, Nat.zero_le _, rfl, rfl, rfl⟩
  case round =>
    obtain ⟨j, hj, rfl, rfl, hww⟩ := hrel
    obtain rfl := hww.out.symm
    by_cases hjl : j < (fvs d.f).length
    · obtain ⟨b, off, rfl, _, f1, _⟩ := HSF.out.at_ hjl
      have hle := totF_le (fvs d.f) (j + 1)
      have hroom := HROOM.out
      have htk := totF_take hjl
      rw [htk] at hle
      have hadd : IntKind.i64.wrap ((totF ((fvs d.f).take j) : Int) + ((fvs d.f)[j].data.length : Int)) = (totF ((fvs d.f).take (j + 1)) : Nat) := by rw [htk, wrap_in (by omega)]; omega
      generalize hT2 : totF ((fvs d.f).take (j + 1)) = T2 at *
      have HT2 := Lib.hid hT2
      clear hT2 htk hle hroom
      generalize totF ((fvs d.f).take j) = T at *
      generalize (fvs d.f)[j] = q at *
      obtain ⟨p1, k1, c1, _⟩ := f1.c1
      clear f1
      go_wp2
      go_roundw
      case rel => exact ⟨j + 1, by omega, by go_num, by rw [HT2.out], trivial⟩
      case measure => simp [intOf]; omega
    · obtain rfl : j = (fvs d.f).length := by omega
      rw [List.take_length]
      go_wp2
      go_ret
      exact ⟨rfl, rfl⟩
/-- The disk's own cells are turned. -/
theorem RAt.ne (h : RAt C w a d v us) : (∀ k, v.ownBlock = some k → k ≠ a) ∧ ∀ i (hi : i < us.length) k, us[i].2.1.ownBlock = some k → k ≠ a := by
  have hx : ∀ {k : Nat} {cur : Array Value} {e : TypeId}, w.heap[k]? = some (.cells cur e (0, 0)) → e ≠ 30 → k ≠ a := by
    intro k cur e hk he e2
    subst e2
    rw [h.box] at hk
    simp at hk
    exact he hk.2.symm
  refine ⟨fun k hk => ?_, fun i hi k hk => ?_⟩
  · obtain ⟨cur, hc⟩ := own_at h.fo.own hk
    exact hx hc (by decide)
  · obtain ⟨cur, hc⟩ := own_at (h.fo.at_ i hi (by rw [← h.fo.len]; exact hi)).2.2 hk
    exact hx hc (by decide)
theorem RAt.ctl (h : RAt C w a d v us) {off : Bool} {left done : Nat} (hl : left ≤ 9223372036854775807) (ht : Tn (· = a) w w')
    (hb : w'.heap[a]? = some (.cells #[v, .bool off, .int .i64 (left : Int), .int .i64 (done : Int)] 30 (0, 0))) : RAt C w' a ⟨d.f, off, left, done⟩ v us := by
  obtain ⟨n1, n2⟩ := h.ne
  exact ⟨h.ok.of_f rfl, hl, hb, ⟨own_tn h.fo.own ht n1, h.fo.len, fun i h1 h2 => ⟨(h.fo.at_ i h1 h2).1, (h.fo.at_ i h1 h2).2.1, own_tn (h.fo.at_ i h1 h2).2.2 ht (n2 i h1)⟩, h.fo.row, h.fo.rows⟩, h.ca, fun k hk => Nat.lt_of_lt_of_le (h.lt k hk) ht.size⟩
set_option maxRecDepth 100000 in
set_option maxHeartbeats 2000000 in
theorem falls_any (h : RAt C w a d v us) (hd : d.done < 9223372036854775807) : Calls Try.prog 60 #[ptr a] w fun e w' => e = .returned (.bool (!d.spend.2)) ∧ RAt C w' a d.spend.1 v us ∧ Tn (· = a) w w' := by
  have H := Lib.hid h
  have hl := h.left
  have c1 := h.c1
  have c2 := h.c2
  have c3 := h.c3
  have f1 := h.fz 1
  have f2 := h.fz 2
  have f3 := h.fz 3
  clear h
  have ht : ∀ v i, Tn (· = a) w (w.setCell ⟨a, i, none⟩ v) := fun v i => tn_set (Tn.refl _ _) v
  have HT := Lib.hid ht
  clear ht
  by_cases h1 : d.left = 1
  · have H1 := Lib.hid h1
    rw [h1] at c2
    clear h1
    go_enter Try.func60, Try.ntmps60
    go_wp2
    go_ret
    have hs : d.spend = (⟨d.f, true, 0, d.done⟩, false) := by unfold Dk.spend; rw [if_pos H1.out]
    rw [hs]
    have ht := tn_set (i := 1) (HT.out (.int .i64 0) 2) (.bool true)
    exact ⟨rfl, H.out.ctl (by decide) ht (heap_set (heap_set H.out.box _ rfl) _ rfl), ht⟩
  · have H1 := Lib.hid h1
    clear h1
    have hs : d.spend = (⟨d.f, d.off, d.left - 1, d.done + 1⟩, true) := by unfold Dk.spend; rw [if_neg H1.out]
    have HS := Lib.hid hs
    clear hs
    by_cases h0 : (0 : Int) < (d.left : Int)
    · have e : (((d.left : Int) - 1) == 0) = false := by have := H1.out; simp; omega
      have hw : IntKind.i64.wrap ((d.left : Int) - 1) = (d.left : Int) - 1 := wrap_in (by omega)
      go_enter Try.func60, Try.ntmps60
      go_wp2
      go_ret
      rw [HS.out]
      have ht := tn_set (i := 3) (HT.out (.int .i64 ((d.left : Int) - 1)) 2) (.int .i64 ((d.done : Int) + 1))
      refine ⟨rfl, H.out.ctl (by omega) ht (heap_set (heap_set H.out.box _ rfl) _ ?_), ht⟩
      simp
      omega
    · go_enter Try.func60, Try.ntmps60
      go_wp2
      go_ret
      rw [HS.out]
      have ht := HT.out (.int .i64 ((d.done : Int) + 1)) 3
      refine ⟨rfl, H.out.ctl (by omega) ht (heap_set H.out.box _ ?_), ht⟩
      simp
      omega
end
end Go.Proofs.Ytefgnlijgomgpaa
