/- The document's disk (raceref6.Disk) in memory: at, name, Size, falls, Read. Conditions: none of its own. One file of the document's disk turned in its place. Conditions: none of its own. raceref6.Disk: Read, Arm, Sync. Conditions: none of its own. raceref6.Disk: Arm, Cut. Conditions: none of its own. raceref6.Disk: Append. Conditions: none of its own. raceref6.Disk: drop. Conditions: none of its own. raceref6.Disk: Remove. Conditions: none of its own. Rows of files behind one another; a file at its place. Conditions: none of its own. raceref6.Disk: put. Conditions: none of its own. -/
import Derived.Test.YtkilkhnoldfhcaaGreatDoorW
namespace Go.Proofs.YtkilkhnoldfhcaaGreatDoor
open Go.RowKit
/-- The document's disk: its struct in block a, its list of files a row of its own, all in blocks of C. -/
structure RAt (C : Nat → Prop) (w : World) (a : Nat) (d : Dk) (v : Value) (us : List (Nm × Value × Int)) : Prop where
  ok : Okr d
  left : d.left ≤ 9223372036854775807
  box : w.heap[a]? = some (.cells #[v, .bool d.off, .int .i64 (d.left : Int), .int .i64 (d.done : Int)] 31 (0, 0))
  fo : FO C w v us (fvs d.f)
  ca : C a
  lt : ∀ k, C k → k < w.heap.size
def RK (C : Nat → Prop) (w : World) (a : Nat) (d : Dk) : Prop := ∃ v us, RAt C w a d v us
section
variable {C S : Nat → Prop} {w w' : World} {a : Nat} {d : Dk} {v : Value} {us : List (Nm × Value × Int)} {s : Nm} {x : Fi}
theorem RAt.tn (h : RAt C w a d v us) (ht : Tn S w w') (hd : ∀ k, C k → ¬ S k) : RAt C w' a d v us :=
  ⟨h.ok, h.left, ht.at_ h.box (hd a h.ca), h.fo.tn ht hd, h.ca, fun k hk => Nat.lt_of_lt_of_le (h.lt k hk) ht.size⟩
theorem RAt.below (h : RAt C w a d v us) (hb : Below w.heap.size w w') : RAt C w' a d v us := h.tn (Tn.of_below (S := fun _ => False) hb) (fun _ _ e => e)
theorem RK.tn (h : RK C w a d) (ht : Tn S w w') (hd : ∀ k, C k → ¬ S k) : RK C w' a d := let ⟨_, _, h⟩ := h; ⟨_, _, h.tn ht hd⟩
theorem RK.below (h : RK C w a d) (hb : Below w.heap.size w w') : RK C w' a d := let ⟨_, _, h⟩ := h; ⟨_, _, h.below hb⟩
theorem RK.ok (h : RK C w a d) : Okr d := let ⟨_, _, h⟩ := h; h.ok
theorem RK.lt (h : RK C w a d) : ∀ k, C k → k < w.heap.size := let ⟨_, _, h⟩ := h; h.lt
theorem RAt.c0 (h : RAt C w a d v us) : w.cell? ⟨a, 0, none⟩ = some v := by simp [World.cell?, h.box]
theorem RAt.c1 (h : RAt C w a d v us) : w.cell? ⟨a, 1, none⟩ = some (.bool d.off) := by simp [World.cell?, h.box]
theorem RAt.c2 (h : RAt C w a d v us) : w.cell? ⟨a, 2, none⟩ = some (.int .i64 (d.left : Int)) := by simp [World.cell?, h.box]
theorem RAt.c3 (h : RAt C w a d v us) : w.cell? ⟨a, 3, none⟩ = some (.int .i64 (d.done : Int)) := by simp [World.cell?, h.box]
theorem RAt.fz (h : RAt C w a d v us) (o : Nat) : w.frozen? ⟨a, o, none⟩ = false := frozen_zero h.box
theorem RAt.sf (h : RAt C w a d v us) : ∃ ao cap, v = .slice ao (fvs d.f).length cap ∧ SF C w ao (fvs d.f).length cap (fvs d.f) := h.fo.sf (fvs_wf h.ok)
set_option linter.unusedSimpArgs false in
set_option maxRecDepth 100000 in
theorem rname_any (w : World) (s : Nm) (hs : s.length ≤ maxLen) : Calls Tryz.prog 58 #[nmv s] w fun e w' => e = .returned (.bool (isNm s)) ∧ w = w' := by
  unfold isNm
  unfold maxLen at hs
  go_enter Tryz.func58, Tryz.ntmps58
  by_cases h1 : 1 ≤ s.length
  · by_cases h2 : s.length ≤ 20
    · have h3 : (s.length : Int) ≤ 20 := by omega
      go_wp2
      go_ret
      simp [h1, h2, h3]
    · have h3 : ¬ (s.length : Int) ≤ 20 := by omega
      go_wp2
      go_ret
      simp [h1, h2, h3]
  · go_wp2
    go_ret
    simp
set_option maxRecDepth 100000 in
set_option maxHeartbeats 2000000 in
theorem rat_any (h : RAt C w a d v us) {k : Nat} (hk : k ≤ (fvs d.f).length) (hne : ∀ i (hi : i < (fvs d.f).length), i < k → (fvs d.f)[i].name ≠ s) (he : ∀ hk : k < (fvs d.f).length, (fvs d.f)[k].name = s) :
    Calls Tryz.prog 59 #[ptr a, nmv s] w fun e w' => e = .returned (.int .i64 (if k < (fvs d.f).length then (k : Int) else -1)) ∧ w = w' := by
  obtain ⟨ao, cap, rfl, hsf⟩ := h.sf
  have c0 := h.c0
  have hlt := hsf.lt
  have HSF := Lib.hid hsf
  have HNE := Lib.hid hne
  have HE := Lib.hid he
  clear h hsf hne he
  go_enter Tryz.func59, Tryz.ntmps59
  go_wp2
  go_loopw [5] (fun i wr => ∃ j : Nat, j ≤ k ∧ i = .int .i64 j ∧ Hid (wr = w)) (fun i _ => (fvs d.f).length - (intOf i).toNat)
  case atStart => exact ⟨0, Nat.zero_le _, rfl, rfl⟩
  case round =>
    obtain ⟨j, hj, rfl, hww⟩ := hrel
    obtain rfl := hww.out.symm
    by_cases hjl : j < (fvs d.f).length
    · obtain ⟨b, off, rfl, _, f1, _⟩ := HSF.out.at_ hjl
      by_cases hjk : j = k
      · subst hjk
        have hn := HE.out hjl
        generalize (fvs d.f)[j] = q at *
        have g0 := f1.c0
        rw [hn] at g0
        clear f1
        go_wp2
        go_ret
        exact ⟨rfl, rfl⟩
      · have hn := HNE.out j hjl (by omega)
        generalize (fvs d.f)[j] = q at *
        have g0 := f1.c0
        have ht : (q.name == s) = false := by rw [beq_eq_false_iff_ne]; exact hn
        clear f1
        go_wp2
        go_roundw
        case rel => exact ⟨j + 1, by omega, by go_num, trivial⟩
        case measure => simp [intOf]; omega
    · go_wp2
      go_ret
      exact ⟨rfl, rfl⟩
theorem get_pos {f : Ent Fi} (hr : Rising f) (hx : get f s = some x) : ∃ k, ∃ h : k < f.length, f[k] = (s, x) ∧ ∀ i (hi : i < f.length), i < k → f[i].1 ≠ s := by
  obtain ⟨k, hk, hs⟩ := List.getElem_of_mem (get_mem hx)
  refine ⟨k, hk, hs, fun i hi hik e => ?_⟩
  have h1 := List.pairwise_iff_getElem.1 hr i k hi hk hik
  rw [hs, e] at h1
  exact nm_irrefl _ h1
theorem rat_none (h : RAt C w a d v us) (hx : get d.f s = none) : Calls Tryz.prog 59 #[ptr a, nmv s] w fun e w' => e = .returned (.int .i64 (-1)) ∧ w = w' := by
  have h1 := rat_any (s := s) h (Nat.le_refl _) (fun i hi _ => by rw [fvs_get hi]; exact get_none hx _ (List.getElem_mem _)) (fun hk => absurd hk (Nat.lt_irrefl _))
  rw [if_neg (Nat.lt_irrefl _)] at h1
  exact h1
theorem rat_some (h : RAt C w a d v us) {k : Nat} (hk : k < d.f.length) (hs : d.f[k] = (s, x)) (hne : ∀ i (hi : i < d.f.length), i < k → d.f[i].1 ≠ s) : Calls Tryz.prog 59 #[ptr a, nmv s] w fun e w' => e = .returned (.int .i64 (k : Int)) ∧ w = w' := by
  have h1 := rat_any (s := s) h (k := k) (by rw [fvs_length]; omega) (fun i hi hik => by rw [fvs_get hi]; exact hne i _ hik) (fun hk => by rw [fvs_get hk, hs]; rfl)
  rw [if_pos (by rw [fvs_length]; exact hk)] at h1
  exact h1
/-- The list's cells of one file. -/
theorem RAt.file (h : RAt C w a d v us) {k : Nat} (hk : k < d.f.length) (hs : d.f[k] = (s, x)) : ∃ ao cap b off bo bc, v = .slice (some ⟨b, off, none⟩) (fvs d.f).length cap ∧ ao = some (⟨b, off, none⟩ : Addr) ∧ C b ∧ w.cell? ⟨b, off + k * 3, none⟩ = some (nmv s) ∧ w.cell? ⟨b, off + k * 3 + 1, none⟩ = some (.slice bo x.data.length bc) ∧ SB C w bo x.data.length bc x.data ∧ w.cell? ⟨b, off + k * 3 + 2, none⟩ = some (.int .i64 (x.safe : Int)) := by
  obtain ⟨ao, cap, hv, hsf⟩ := h.sf
  obtain ⟨b, off, rfl, hb, f1, _⟩ := hsf.at_ (i := k) (by rw [fvs_length]; exact hk)
  rw [fvs_get (by rw [fvs_length]; exact hk), hs] at f1
  obtain ⟨bo, bc, h1, h2⟩ := f1.c1
  exact ⟨_, cap, b, off, bo, bc, hv, rfl, hb, f1.c0, h1, h2, f1.c2⟩
set_option maxRecDepth 100000 in
set_option maxHeartbeats 2000000 in
theorem rsize_any (h : RAt C w a d v us) : Calls Tryz.prog 61 #[ptr a] w fun e w' => e = .returned (.int .i64 (totF (fvs d.f) : Nat)) ∧ w = w' := by
  obtain ⟨ao, cap, rfl, hsf⟩ := h.sf
  have c0 := h.c0
  have hlt := hsf.lt
  have HSF := Lib.hid hsf
  have HROOM := Lib.hid (told h.ok).room
  clear h hsf
  go_enter Tryz.func61, Tryz.ntmps61
  go_wp2
  go_loopw [3, 4] (fun n i wr => ∃ j : Nat, j ≤ (fvs d.f).length ∧ i = .int .i64 j ∧ n = .int .i64 (totF ((fvs d.f).take j) : Nat) ∧ Hid (wr = w)) (fun _ i _ => (fvs d.f).length - (intOf i).toNat)
  case atStart => exact ⟨0, Nat.zero_le _, rfl, rfl, rfl⟩
  case round =>
    obtain ⟨j, hj, rfl, rfl, hww⟩ := hrel
    obtain rfl := hww.out.symm
    by_cases hjl : j < (fvs d.f).length
    · obtain ⟨b, off, rfl, _, f1, _⟩ := HSF.out.at_ hjl
      have hle := totF_le (fvs d.f) (j + 1)
      have hroom := HROOM.out
      have htk := totF_take hjl
      rw [htk] at hle
      have hadd : IntKind.i64.wrap ((totF ((fvs d.f).take j) : Int) + ((fvs d.f)[j].data.length : Int)) = (totF ((fvs d.f).take (j + 1)) : Nat) := by rw [htk, wrap_in (by omega)]; omega
      generalize hT2 : totF ((fvs d.f).take (j + 1)) = T2 at *
      have HT2 := Lib.hid hT2
      clear hT2 htk hle hroom
      generalize totF ((fvs d.f).take j) = T at *
      generalize (fvs d.f)[j] = q at *
      obtain ⟨p1, k1, c1, _⟩ := f1.c1
      clear f1
      go_wp2
      go_roundw
      case rel => exact ⟨j + 1, by omega, by go_num, by rw [HT2.out], trivial⟩
      case measure => simp [intOf]; omega
    · obtain rfl : j = (fvs d.f).length := by omega
      rw [List.take_length]
      go_wp2
      go_ret
      exact ⟨rfl, rfl⟩
/-- The disk's own cells are turned. -/
theorem RAt.ne (h : RAt C w a d v us) : (∀ k, v.ownBlock = some k → k ≠ a) ∧ ∀ i (hi : i < us.length) k, us[i].2.1.ownBlock = some k → k ≠ a := by
  have hx : ∀ {k : Nat} {cur : Array Value} {e : TypeId}, w.heap[k]? = some (.cells cur e (0, 0)) → e ≠ 31 → k ≠ a := by
    intro k cur e hk he e2
    subst e2
    rw [h.box] at hk
    simp at hk
    exact he hk.2.symm
  refine ⟨fun k hk => ?_, fun i hi k hk => ?_⟩
  · obtain ⟨cur, hc⟩ := own_at h.fo.own hk
    exact hx hc (by decide)
  · obtain ⟨cur, hc⟩ := own_at (h.fo.at_ i hi (by rw [← h.fo.len]; exact hi)).2.2 hk
    exact hx hc (by decide)
theorem RAt.ctl (h : RAt C w a d v us) {off : Bool} {left done : Nat} (hl : left ≤ 9223372036854775807) (ht : Tn (· = a) w w')
    (hb : w'.heap[a]? = some (.cells #[v, .bool off, .int .i64 (left : Int), .int .i64 (done : Int)] 31 (0, 0))) : RAt C w' a ⟨d.f, off, left, done⟩ v us := by
  obtain ⟨n1, n2⟩ := h.ne
  exact ⟨h.ok.of_f rfl, hl, hb, ⟨own_tn h.fo.own ht n1, h.fo.len, fun i h1 h2 => ⟨(h.fo.at_ i h1 h2).1, (h.fo.at_ i h1 h2).2.1, own_tn (h.fo.at_ i h1 h2).2.2 ht (n2 i h1)⟩, h.fo.row, h.fo.rows⟩, h.ca, fun k hk => Nat.lt_of_lt_of_le (h.lt k hk) ht.size⟩
set_option maxRecDepth 100000 in
set_option maxHeartbeats 2000000 in
theorem falls_any (h : RAt C w a d v us) (hd : d.done < 9223372036854775807) : Calls Tryz.prog 87 #[ptr a] w fun e w' => e = .returned (.bool (!d.spend.2)) ∧ RAt C w' a d.spend.1 v us ∧ Tn (· = a) w w' := by
  have H := Lib.hid h
  have hl := h.left
  have c1 := h.c1
  have c2 := h.c2
  have c3 := h.c3
  have f1 := h.fz 1
  have f2 := h.fz 2
  have f3 := h.fz 3
  clear h
  have ht : ∀ v i, Tn (· = a) w (w.setCell ⟨a, i, none⟩ v) := fun v i => tn_set (Tn.refl _ _) v
  have HT := Lib.hid ht
  clear ht
  by_cases h1 : d.left = 1
  · have H1 := Lib.hid h1
    rw [h1] at c2
    clear h1
    go_enter Tryz.func87, Tryz.ntmps87
    go_wp2
    go_ret
    have hs : d.spend = (⟨d.f, true, 0, d.done⟩, false) := by unfold Dk.spend; rw [if_pos H1.out]
    rw [hs]
    have ht := tn_set (i := 1) (HT.out (.int .i64 0) 2) (.bool true)
    exact ⟨rfl, H.out.ctl (by decide) ht (heap_set (heap_set H.out.box _ rfl) _ rfl), ht⟩
  · have H1 := Lib.hid h1
    clear h1
    have hs : d.spend = (⟨d.f, d.off, d.left - 1, d.done + 1⟩, true) := by unfold Dk.spend; rw [if_neg H1.out]
    have HS := Lib.hid hs
    clear hs
    by_cases h0 : (0 : Int) < (d.left : Int)
    · have e : (((d.left : Int) - 1) == 0) = false := by have := H1.out; simp; omega
      have hw : IntKind.i64.wrap ((d.left : Int) - 1) = (d.left : Int) - 1 := wrap_in (by omega)
      go_enter Tryz.func87, Tryz.ntmps87
      go_wp2
      go_ret
      rw [HS.out]
      have ht := tn_set (i := 3) (HT.out (.int .i64 ((d.left : Int) - 1)) 2) (.int .i64 ((d.done : Int) + 1))
      refine ⟨rfl, H.out.ctl (by omega) ht (heap_set (heap_set H.out.box _ rfl) _ ?_), ht⟩
      simp
      omega
    · go_enter Tryz.func87, Tryz.ntmps87
      go_wp2
      go_ret
      rw [HS.out]
      have ht := HT.out (.int .i64 ((d.done : Int) + 1)) 3
      refine ⟨rfl, H.out.ctl (by omega) ht (heap_set H.out.box _ ?_), ht⟩
      simp
      omega
end
end Go.Proofs.YtkilkhnoldfhcaaGreatDoor
namespace Go.Proofs.YtkilkhnoldfhcaaGreatDoor
open Go.RowKit
theorem cellsF_set1 : ∀ (us : List (Nm × Value × Int)) {k : Nat} (h : k < us.length) (u : Value), (cellsF us).set (k * 3 + 1) u = cellsF (us.set k (us[k].1, u, us[k].2.2))
  | p :: us, 0, _, u => rfl
  | p :: us, k + 1, h, u => by
    have hk : k < us.length := by simpa using h
    have ih := cellsF_set1 us hk u
    show (cellsF (p :: us)).set ((k + 1) * 3 + 1) u = cellsF (p :: us.set k (us[k].1, u, us[k].2.2))
    have e1 : ∀ q : List (Nm × Value × Int), cellsF (p :: q) = nmv p.1 :: p.2.1 :: .int .i64 p.2.2 :: cellsF q := fun _ => rfl
    rw [e1, e1, ← ih, show (k + 1) * 3 + 1 = k * 3 + 1 + 3 by omega]
    rfl
theorem cellsF_set2 : ∀ (us : List (Nm × Value × Int)) {k : Nat} (h : k < us.length) (z : Int), (cellsF us).set (k * 3 + 2) (.int .i64 z) = cellsF (us.set k (us[k].1, us[k].2.1, z))
  | p :: us, 0, _, u => rfl
  | p :: us, k + 1, h, u => by
    have hk : k < us.length := by simpa using h
    have ih := cellsF_set2 us hk u
    show (cellsF (p :: us)).set ((k + 1) * 3 + 2) _ = cellsF (p :: us.set k (us[k].1, us[k].2.1, u))
    have e1 : ∀ q : List (Nm × Value × Int), cellsF (p :: q) = nmv p.1 :: p.2.1 :: .int .i64 p.2.2 :: cellsF q := fun _ => rfl
    rw [e1, e1, ← ih, show (k + 1) * 3 + 2 = k * 3 + 2 + 3 by omega]
    rfl
section
variable {C D S : Nat → Prop} {w w' : World} {a : Nat} {d : Dk} {v : Value} {us : List (Nm × Value × Int)} {s : Nm} {x : Fi} {l : List FV}
theorem FO.turn {g cap k : Nat} {q : FV} {u : Value} (h : FO C w (.slice (some ⟨g, 0, none⟩) l.length cap) us l) (hg : w.grownBy w' (some g))
    (ho : w'.ownsRow 0 43 3 (.slice (some ⟨g, 0, none⟩) l.length cap) l.length (cellsF (us.set k (q.name, u, q.safe)))) (hu : w'.ownsRow 0 5 1 u q.data.length (bys q.data)) (hC : ∀ k, C k → D k) (hD : ∀ j, u.ownBlock = some j → D j) :
    FO D w' (.slice (some ⟨g, 0, none⟩) l.length cap) (us.set k (q.name, u, q.safe)) (l.set k q) := by
  have hkeep : ∀ {n : Nat} {t : Value} {xs : List Value}, w.ownsRow 0 5 1 t n xs → w'.ownsRow 0 5 1 t n xs := fun {n t xs} ht => ht.kept hg (by
    cases e : t.ownBlock with
    | none => exact .inl rfl
    | some j => exact .inr (fun e2 => own_apart ht h.own (by decide) j e e2.symm))
  refine ⟨by rw [List.length_set]; exact ho, by rw [List.length_set, List.length_set]; exact h.len, fun i h1 h2 => ?_, fun j hj => hC j (h.row j hj), fun i h1 j hj => ?_⟩
  · by_cases hi : k = i
    · subst hi
      rw [List.getElem_set_self, List.getElem_set_self]
      exact ⟨rfl, rfl, hu⟩
    · rw [List.getElem_set_ne hi, List.getElem_set_ne hi]
      obtain ⟨e1, e2, e3⟩ := h.at_ i (by simpa using h1) (by simpa using h2)
      exact ⟨e1, e2, hkeep e3⟩
  · by_cases hi : k = i
    · subst hi
      rw [List.getElem_set_self] at hj
      exact hD j hj
    · rw [List.getElem_set_ne hi] at hj
      exact hC j (h.rows i (by simpa using h1) j hj)
theorem fvs_upd {f : Ent Fi} (hr : Rising f) {k : Nat} (hk : k < f.length) (hs : f[k] = (s, x)) (g : Fi → Fi) : fvs (upd f s g) = (fvs f).set k ⟨s, (g x).data, ((g x).safe : Int)⟩ := by
  apply List.ext_getElem
  · rw [List.length_set, fvs_length, fvs_length, length_upd]
  · intro i h1 h2
    have hi : i < f.length := by rw [fvs_length, length_upd] at h1; exact h1
    have hu : (upd f s g)[i]'(by rw [length_upd]; exact hi) = if f[i].1 == s then (f[i].1, g f[i].2) else f[i] := by unfold upd; rw [List.getElem_map]
    rw [fvs_get h1, hu]
    by_cases hik : k = i
    · subst hik
      rw [List.getElem_set_self, hs]
      simp [fv]
    · rw [List.getElem_set_ne hik, fvs_get (by rw [fvs_length]; exact hi)]
      have hne : f[i].1 ≠ s := by
        intro e
        rcases Nat.lt_or_ge i k with h3 | h3
        · have h4 := List.pairwise_iff_getElem.1 hr i k hi hk h3
          rw [hs, e] at h4
          exact nm_irrefl _ h4
        · have h4 := List.pairwise_iff_getElem.1 hr k i hk hi (by omega)
          rw [hs, e] at h4
          exact nm_irrefl _ h4
      rw [if_neg (by simpa using hne)]
/-- One file's bytes are laid anew. -/
theorem RAt.data {g cap k : Nat} {y : Fi} {u : Value} {d' : Dk} (h : RAt C w a d (.slice (some ⟨g, 0, none⟩) (fvs d.f).length cap) us) (hk : k < d.f.length) (hs : d.f[k] = (s, x)) (hy : y.safe = x.safe) (hu : w.ownsRow 0 5 1 u y.data.length (bys y.data))
    (hf : d'.f = upd d.f s fun _ => y) (ho : d'.off = d.off) (hl : d'.left = d.left) (hd : d'.done = d.done) (hok : Okr d') (hC : ∀ k, C k → D k) (hD : ∀ j, u.ownBlock = some j → D j) (hlt : ∀ j, D j → j < w.heap.size) :
    ∃ us', RAt D (w.setCell ⟨g, k * 3 + 1, none⟩ u) a d' (.slice (some ⟨g, 0, none⟩) (fvs d'.f).length cap) us' := by
  have hkl : k < (fvs d.f).length := by rw [fvs_length]; exact hk
  have hku : k < us.length := by rw [h.fo.len]; exact hkl
  obtain ⟨e1, e2, _⟩ := h.fo.at_ k hku hkl
  rw [fvs_get hkl, hs] at e1 e2
  obtain ⟨h2, h3⟩ := h.fo.own.stored (k * 3 + 1) u
  rw [cellsF_set1 us hku, e1, e2] at h2
  have hapart : u.ownBlock = none ∨ u.ownBlock ≠ some g := by
    cases e : u.ownBlock with
    | none => exact .inl rfl
    | some j => exact .inr (fun e2 => own_apart hu h.fo.own (by decide) j e e2.symm)
  have hfo := h.fo.turn (q := ⟨s, y.data, (y.safe : Int)⟩) h3 (by rw [hy]; exact h2) (hu.kept h3 hapart) hC hD
  have hL : fvs d'.f = (fvs d.f).set k ⟨s, y.data, (y.safe : Int)⟩ := by rw [hf]; exact fvs_upd h.ok.rising hk hs _
  have hga : g ≠ a := h.ne.1 g rfl
  have hbox : (w.setCell ⟨g, k * 3 + 1, none⟩ u).heap[a]? = w.heap[a]? := Below.heap_setCell _ _ _ _ (fun e => hga e.symm)
  have hlen : (fvs d'.f).length = (fvs d.f).length := by rw [hL, List.length_set]
  rw [← hL] at hfo
  rw [hlen]
  exact ⟨_, hok, by rw [hl]; exact h.left, by rw [hbox, h.box, ho, hl, hd], hfo, hC a h.ca, fun j hj => by simpa using hlt j hj⟩
/-- How many of one file's bytes are safe is turned. -/
theorem RAt.safe {g cap k : Nat} {y : Fi} {d' : Dk} (h : RAt C w a d (.slice (some ⟨g, 0, none⟩) (fvs d.f).length cap) us) (hk : k < d.f.length) (hs : d.f[k] = (s, x)) (hy : y.data = x.data)
    (hf : d'.f = upd d.f s fun _ => y) (ho : d'.off = d.off) (hl : d'.left = d.left) (hd : d'.done = d.done) (hok : Okr d') :
    ∃ us', RAt C (w.setCell ⟨g, k * 3 + 2, none⟩ (.int .i64 (y.safe : Int))) a d' (.slice (some ⟨g, 0, none⟩) (fvs d'.f).length cap) us' := by
  have hkl : k < (fvs d.f).length := by rw [fvs_length]; exact hk
  have hku : k < us.length := by rw [h.fo.len]; exact hkl
  obtain ⟨e1, e2, e3⟩ := h.fo.at_ k hku hkl
  have e4 := fun j hj => h.fo.rows k hku j hj
  rw [fvs_get hkl, hs] at e1 e2 e3
  obtain ⟨h2, h3⟩ := h.fo.own.stored (k * 3 + 2) (.int .i64 (y.safe : Int))
  rw [cellsF_set2 us hku, e1] at h2
  generalize us[k].2.1 = u at *
  have hu : w.ownsRow 0 5 1 u y.data.length (bys y.data) := by rw [hy]; exact e3
  have hapart : u.ownBlock = none ∨ u.ownBlock ≠ some g := by
    cases e : u.ownBlock with
    | none => exact .inl rfl
    | some j => exact .inr (fun e2 => own_apart hu h.fo.own (by decide) j e e2.symm)
  have hfo := h.fo.turn (q := ⟨s, y.data, (y.safe : Int)⟩) h3 h2 (hu.kept h3 hapart) (fun _ hk => hk) e4
  have hL : fvs d'.f = (fvs d.f).set k ⟨s, y.data, (y.safe : Int)⟩ := by rw [hf]; exact fvs_upd h.ok.rising hk hs _
  have hga : g ≠ a := h.ne.1 g rfl
  have hbox : (w.setCell ⟨g, k * 3 + 2, none⟩ (.int .i64 (y.safe : Int))).heap[a]? = w.heap[a]? := Below.heap_setCell _ _ _ _ (fun e => hga e.symm)
  have hlen : (fvs d'.f).length = (fvs d.f).length := by rw [hL, List.length_set]
  rw [← hL] at hfo
  rw [hlen]
  exact ⟨_, hok, by rw [hl]; exact h.left, by rw [hbox, h.box, ho, hl, hd], hfo, h.ca, fun j hj => by simpa using h.lt j hj⟩
end
end Go.Proofs.YtkilkhnoldfhcaaGreatDoor
namespace Go.Proofs.YtkilkhnoldfhcaaGreatDoor
open Go.RowKit
section
variable {C D S : Nat → Prop} {w w' : World} {a : Nat} {d : Dk} {v : Value} {us : List (Nm × Value × Int)} {s : Nm} {x : Fi}
theorem RAt.grow (h : RAt C w a d v us) (hu : ∀ k, C k → D k) (hl : ∀ k, D k → k < w.heap.size) : RAt D w a d v us :=
  ⟨h.ok, h.left, h.box, ⟨h.fo.own, h.fo.len, h.fo.at_, fun k hk => hu k (h.fo.row k hk), fun i hi k hk => hu k (h.fo.rows i hi k hk)⟩, hu a h.ca, hl⟩
/-- What a write of the document's disk answers, and that it stands so. -/
def RWrote (C : Nat → Prop) (w : World) (a : Nat) (r : Dk × Nat) (e : Ending) (w' : World) : Prop := e = .returned (.int .i64 (r.2 : Int)) ∧ RK (Gw C w w') w' a r.1 ∧ Tn C w w'
theorem rwrote_same {r : Dk × Nat} (h : RAt C w' a r.1 v us) (ht : Tn C w w') (hl : ∀ k, C k → k < w.heap.size) : RWrote C w a r (.returned (.int .i64 (r.2 : Int))) w' :=
  ⟨rfl, ⟨v, us, h.grow (gw_self C w w') fun _ hk => Gw.size ht.size hl hk⟩, ht⟩
theorem RAt.tna (h : RAt C w a d v us) (ht : Tn (· = a) w w') : Tn C w w' := ht.mono fun _ _ e => e ▸ h.ca
theorem at_spend {k : Nat} (hk : k < d.f.length) (hs : d.f[k] = (s, x)) : ∃ h : k < d.spend.1.f.length, d.spend.1.f[k] = (s, x) := by
  have e := spend_f (d := d)
  generalize d.spend.1.f = F at *
  subst e
  exact ⟨hk, hs⟩
/-- The row of files, and one's cells. -/
theorem RAt.row (h : RAt C w a d v us) {k : Nat} (hk : k < d.f.length) (hs : d.f[k] = (s, x)) : ∃ g cap, v = .slice (some ⟨g, 0, none⟩) (fvs d.f).length cap ∧ C g ∧ (∀ o, w.frozen? ⟨g, o, none⟩ = false) ∧ w.cell? ⟨g, k * 3, none⟩ = some (nmv s) ∧ (∃ bo bc, w.cell? ⟨g, k * 3 + 1, none⟩ = some (.slice bo x.data.length bc) ∧ SB C w bo x.data.length bc x.data) ∧ w.cell? ⟨g, k * 3 + 2, none⟩ = some (.int .i64 (x.safe : Int)) := by
  have hkl : k < (fvs d.f).length := by rw [fvs_length]; exact hk
  obtain ⟨g, cap, hg⟩ := own_shape h.fo.own (by omega)
  obtain ⟨_, cap', b, off, bo, bc, hv, _, hb, h0, h1, h2, h3⟩ := h.file hk hs
  rw [hg] at hv
  injection hv with e1 e2 e3
  injection e1 with e1
  injection e1 with e4 e5
  subst e4; subst e5
  rw [Nat.zero_add] at h0 h1 h3
  obtain ⟨cur, hcur⟩ := own_at h.fo.own (k := g) (by rw [hg]; rfl)
  exact ⟨g, cap, hg, hb, fun _ => frozen_zero hcur, h0, ⟨bo, bc, h1, h2⟩, h3⟩
set_option maxRecDepth 100000 in
theorem rread_any (h : RAt C w a d v us) (s : Nm) : Calls Tryz.prog 81 #[ptr a, nmv s] w fun e w' => ∃ ao cap, e = .returned (.tuple #[.slice ao (d.read s).1.length cap, .int .i64 ((d.read s).2 : Nat)]) ∧ SB C w ao (d.read s).1.length cap (d.read s).1 ∧ w = w' := by
  have H := Lib.hid h
  cases hx : get d.f s with
  | none =>
    have e : d.read s = ([], 8) := by unfold Dk.read; rw [hx]
    rw [e]
    have HX := Lib.hid hx
    clear h hx e
    go_enter Tryz.func81, Tryz.ntmps81
    go_wp2_with (go_at_call 59; (with_reducible refine (rat_none H.out HX.out).mono ?_); rintro e w' ⟨rfl, rfl⟩)
    go_ret2
    exact ⟨_, _, rfl, sb_nil _ _, rfl⟩
  | some x =>
    have e : d.read s = (x.data, 0) := by unfold Dk.read; rw [hx]
    rw [e]
    obtain ⟨k, hk, hs, hne⟩ := get_pos h.ok.rising hx
    have HN := Lib.hid hne
    obtain ⟨g, cap, rfl, _, _, g0, ⟨bo, bc, g1, sb⟩, g2⟩ := h.row hk hs
    have c0 := h.c0
    have hkl : k < (fvs d.f).length := by rw [fvs_length]; exact hk
    have HS := Lib.hid hs
    have HSB := Lib.hid sb
    clear h hx e hne hs sb
    go_enter Tryz.func81, Tryz.ntmps81
    go_wp2_with (go_at_call 59; (with_reducible refine (rat_some H.out hk HS.out HN.out).mono ?_); rintro e w' ⟨rfl, rfl⟩)
    go_ret2
    exact ⟨_, _, rfl, HSB.out, rfl⟩
set_option maxRecDepth 100000 in
set_option maxHeartbeats 2000000 in
theorem rsync_any (h : RAt C w a d v us) (s : Nm) (hd : d.done < 9223372036854775807) : Calls Tryz.prog 90 #[ptr a, nmv s] w (RWrote C w a (d.sync s)) := by
  have H := Lib.hid h
  have HD := Lib.hid hd
  have c1 := h.c1
  cases hx : get d.f s with
  | none =>
    have HX := Lib.hid hx
    cases ho : d.off with
    | true =>
      have e : d.sync s = (d, 12) := by unfold Dk.sync; rw [if_pos ho]
      rw [e]
      rw [ho] at c1
      clear h hx e ho hd
      go_enter Tryz.func90, Tryz.ntmps90
      go_wp2_with (go_at_call 59; (with_reducible refine (rat_none H.out HX.out).mono ?_); rintro e w' ⟨rfl, rfl⟩)
      go_ret
      exact rwrote_same (r := (d, 12)) H.out (Tn.refl _ _) H.out.lt
    | false =>
      have e : d.sync s = (d, 8) := by unfold Dk.sync; rw [ho, has_get, hx]; rfl
      rw [e]
      rw [ho] at c1
      clear h hx e ho hd
      go_enter Tryz.func90, Tryz.ntmps90
      go_wp2_with (go_at_call 59; (with_reducible refine (rat_none H.out HX.out).mono ?_); rintro e w' ⟨rfl, rfl⟩)
      go_ret
      exact rwrote_same (r := (d, 8)) H.out (Tn.refl _ _) H.out.lt
  | some x =>
    obtain ⟨k, hk, hs, hne⟩ := get_pos h.ok.rising hx
    have HN := Lib.hid hne
    have HS := Lib.hid hs
    have HX := Lib.hid hx
    cases ho : d.off with
    | true =>
      have e : d.sync s = (d, 12) := by unfold Dk.sync; rw [if_pos ho]
      rw [e]
      rw [ho] at c1
      clear h hx e ho hne hs hd
      go_enter Tryz.func90, Tryz.ntmps90
      go_wp2_with (go_at_call 59; (with_reducible refine (rat_some H.out hk HS.out HN.out).mono ?_); rintro e w' ⟨rfl, rfl⟩)
      go_ret
      exact rwrote_same (r := (d, 12)) H.out (Tn.refl _ _) H.out.lt
    | false =>
      rw [ho] at c1
      cases hq : d.spend.2 with
      | false =>
        have e : d.sync s = (d.spend.1, 12) := by unfold Dk.sync; rw [ho, has_get, hx, hq]; rfl
        rw [e]
        have HQ := Lib.hid hq
        clear h ho e hx hq hne hs hd
        go_enter Tryz.func90, Tryz.ntmps90
        go_wp2_with (first
          | (go_at_call 59; (with_reducible refine (rat_some H.out hk HS.out HN.out).mono ?_); rintro e w' ⟨rfl, rfl⟩)
          | (go_at_call 87; (with_reducible refine (falls_any H.out HD.out).mono ?_); rw [HQ.out]; rintro e w1 ⟨rfl, h1, ht⟩; have H1 := Lib.hid h1; have HT := Lib.hid ht; clear h1 ht))
        go_ret
        exact rwrote_same (r := (d.spend.1, 12)) H1.out (H.out.tna HT.out) H.out.lt
      | true =>
        have e : d.sync s = ({ d.spend.1 with f := upd d.f s fun x => ⟨x.data, x.data.length⟩ }, 0) := by unfold Dk.sync; rw [ho, has_get, hx, hq]; rfl
        have HQ := Lib.hid hq
        have HE := Lib.hid e
        clear h ho e hx hq hne hs hd
        go_enter Tryz.func90, Tryz.ntmps90
        go_wp2_with (first
          | (go_at_call 59; (with_reducible refine (rat_some H.out hk HS.out HN.out).mono ?_); rintro e w' ⟨rfl, rfl⟩)
          | (go_at_call 87; (with_reducible refine (falls_any H.out HD.out).mono ?_); rw [HQ.out]; rintro e w1 ⟨rfl, h1, ht⟩; have H1 := Lib.hid h1; have HT := Lib.hid ht; clear h1 ht))
        obtain ⟨hk1, hs1⟩ := at_spend hk HS.out
        obtain ⟨g, cap, rfl, hCg, hfz, g0, ⟨bo, bc, g1, sb⟩, g2⟩ := H1.out.row hk1 hs1
        have c0 := H1.out.c0
        have hkl : k < (fvs d.spend.1.f).length := by rw [fvs_length]; exact hk1
        have HS1 := Lib.hid hs1
        have hz := hfz (k * 3 + 2)
        clear hs1 sb hfz c1
        refine wp_region_still_tail 16 (by kernel_rfl) (by kernel_rfl) ?_
        simp only [List.take_succ_cons, List.take_zero, List.drop_succ_cons, List.drop_zero]
        iterate 16 still_step
        refine wpStill_nil ?_
        change wpList _ _ _ _ _ w1.drew
        go_wp2
        go_ret
        have hup : upd d.f s (fun x => ⟨x.data, x.data.length⟩) = upd d.spend.1.f s fun _ => ⟨x.data, x.data.length⟩ := by rw [spend_f]; exact upd_const H.out.ok.rising (fun x => ⟨x.data, x.data.length⟩) HX.out
        obtain ⟨us', h2⟩ := ((H1.out.below (Below.refl _ w1).drew).safe (y := ⟨x.data, x.data.length⟩) (d' := { d.spend.1 with f := upd d.f s fun x => ⟨x.data, x.data.length⟩ }) hk1 HS1.out rfl hup rfl rfl rfl (by have h9 := H.out.ok.sync (s := s); rw [HE.out] at h9; exact h9))
        have h3 : Tn C w w1 := H.out.tna HT.out
        have h4 : Tn C w (w1.drew.setCell ⟨g, k * 3 + 2, none⟩ (.int .i64 (x.data.length : Int))) := h3.drew.setCell (fun _ => hCg) _
        rw [HE.out]
        exact rwrote_same (r := ({ d.spend.1 with f := upd d.f s fun x => ⟨x.data, x.data.length⟩ }, 0)) h2 h4 H.out.lt
end
end Go.Proofs.YtkilkhnoldfhcaaGreatDoor
namespace Go.Proofs.YtkilkhnoldfhcaaGreatDoor
open Go.RowKit
section
variable {C D S : Nat → Prop} {w w' : World} {a : Nat} {d : Dk} {v : Value} {us : List (Nm × Value × Int)} {s : Nm} {x : Fi}
theorem rarm_any (h : RAt C w a d v us) (n : Int) (h1 : -9223372036854775808 ≤ n) (h2 : n ≤ 9223372036854775807) : Calls Tryz.prog 20 #[ptr a, .int .i64 n] w fun e w' => e = .returned (.tuple #[]) ∧ RAt C w' a (d.arm n) v us ∧ Tn C w w' := by
  have H := Lib.hid h
  have c1 := h.c1
  have c2 := h.c2
  have f2 := h.fz 2
  clear h
  cases ho : d.off with
  | true =>
    rw [ho] at c1
    have HO := Lib.hid ho
    clear ho
    go_enter Tryz.func20, Tryz.ntmps20
    go_wp2
    go_returns
    refine ⟨rfl, ?_, Tn.refl _ _⟩
    unfold Dk.arm
    rw [if_pos HO.out]
    exact H.out
  | false =>
    rw [ho] at c1
    have HO := Lib.hid ho
    clear ho
    go_enter Tryz.func20, Tryz.ntmps20
    go_wp2
    all_goals
      go_returns
      have ht : ∀ v, Tn (· = a) w (w.setCell ⟨a, 2, none⟩ v) := fun v => tn_set (Tn.refl _ _) v
      refine ⟨rfl, ?_, H.out.tna (ht _)⟩
      unfold Dk.arm
      rw [if_neg (by rw [HO.out]; decide)]
      refine H.out.ctl (by omega) (ht _) (heap_set H.out.box _ ?_)
      first
        | (simp; done)
        | (simp; omega)
/-- One file's bytes are laid anew, and how many of them are safe. -/
theorem RAt.both {g cap k : Nat} {y : Fi} {u : Value} {d' : Dk} (h : RAt C w a d (.slice (some ⟨g, 0, none⟩) (fvs d.f).length cap) us) (hk : k < d.f.length) (hs : d.f[k] = (s, x)) (hu : w.ownsRow 0 5 1 u y.data.length (bys y.data))
    (hf : d'.f = upd d.f s fun _ => y) (ho : d'.off = d.off) (hl : d'.left = d.left) (hd : d'.done = d.done) (hok : Okr d') (hC : ∀ k, C k → D k) (hD : ∀ j, u.ownBlock = some j → D j) (hlt : ∀ j, D j → j < w.heap.size) :
    ∃ us', RAt D ((w.setCell ⟨g, k * 3 + 1, none⟩ u).setCell ⟨g, k * 3 + 2, none⟩ (.int .i64 (y.safe : Int))) a d' (.slice (some ⟨g, 0, none⟩) (fvs d'.f).length cap) us' := by
  have hkl : k < (fvs d.f).length := by rw [fvs_length]; exact hk
  have hku : k < us.length := by rw [h.fo.len]; exact hkl
  obtain ⟨e1, e2, _⟩ := h.fo.at_ k hku hkl
  rw [fvs_get hkl, hs] at e1 e2
  obtain ⟨h2, h3⟩ := h.fo.own.stored (k * 3 + 1) u
  rw [cellsF_set1 us hku] at h2
  obtain ⟨h4, h5⟩ := h2.stored (k * 3 + 2) (.int .i64 (y.safe : Int))
  rw [cellsF_set2 _ (by rw [List.length_set]; exact hku), List.getElem_set_self, List.set_set, e1] at h4
  have h6 := h3.trans h5
  have hapart : u.ownBlock = none ∨ u.ownBlock ≠ some g := by
    cases e : u.ownBlock with
    | none => exact .inl rfl
    | some j => exact .inr (fun e2 => own_apart hu h.fo.own (by decide) j e e2.symm)
  have hfo := h.fo.turn (q := ⟨s, y.data, (y.safe : Int)⟩) h6 h4 (hu.kept h6 hapart) hC hD
  have hL : fvs d'.f = (fvs d.f).set k ⟨s, y.data, (y.safe : Int)⟩ := by rw [hf]; exact fvs_upd h.ok.rising hk hs _
  have hga : g ≠ a := h.ne.1 g rfl
  have hbox : ((w.setCell ⟨g, k * 3 + 1, none⟩ u).setCell ⟨g, k * 3 + 2, none⟩ (.int .i64 (y.safe : Int))).heap[a]? = w.heap[a]? := (Below.heap_setCell _ _ _ _ (fun e => hga e.symm)).trans (Below.heap_setCell _ _ _ _ (fun e => hga e.symm))
  have hlen : (fvs d'.f).length = (fvs d.f).length := by rw [hL, List.length_set]
  rw [← hL] at hfo
  rw [hlen]
  exact ⟨_, hok, by rw [hl]; exact h.left, by rw [hbox, h.box, ho, hl, hd], hfo, hC a h.ca, fun j hj => by simpa using hlt j hj⟩
set_option maxRecDepth 100000 in
set_option maxHeartbeats 4000000 in
theorem rcut_any (h : RAt C w a d v us) (s : Nm) (hd : d.done < 9223372036854775807) (n : Int) (hn1 : -9223372036854775808 ≤ n) (hn2 : n ≤ 9223372036854775807) : Calls Tryz.prog 83 #[ptr a, nmv s, .int .i64 n] w (RWrote C w a (d.cut s n)) := by
  have H := Lib.hid h
  have HD := Lib.hid hd
  have c1 := h.c1
  cases hx : get d.f s with
  | none =>
    have HX := Lib.hid hx
    cases ho : d.off with
    | true =>
      have e : d.cut s n = (d, 12) := by unfold Dk.cut; rw [if_pos ho]
      rw [e]
      rw [ho] at c1
      clear h hx e ho hd
      go_enter Tryz.func83, Tryz.ntmps83
      go_wp2_with (go_at_call 59; (with_reducible refine (rat_none H.out HX.out).mono ?_); rintro e w' ⟨rfl, rfl⟩)
      go_ret
      exact rwrote_same (r := (d, 12)) H.out (Tn.refl _ _) H.out.lt
    | false =>
      have e : d.cut s n = (d, 8) := by unfold Dk.cut; rw [ho, has_get, hx]; rfl
      rw [e]
      rw [ho] at c1
      clear h hx e ho hd
      go_enter Tryz.func83, Tryz.ntmps83
      go_wp2_with (go_at_call 59; (with_reducible refine (rat_none H.out HX.out).mono ?_); rintro e w' ⟨rfl, rfl⟩)
      go_ret
      exact rwrote_same (r := (d, 8)) H.out (Tn.refl _ _) H.out.lt
  | some x =>
    obtain ⟨k, hk, hs, hne⟩ := get_pos h.ok.rising hx
    have HN := Lib.hid hne
    have HS := Lib.hid hs
    have HX := Lib.hid hx
    cases ho : d.off with
    | true =>
      have e : d.cut s n = (d, 12) := by unfold Dk.cut; rw [if_pos ho]
      rw [e]
      rw [ho] at c1
      clear h hx e ho hd hs hne
      go_enter Tryz.func83, Tryz.ntmps83
      go_wp2_with (go_at_call 59; (with_reducible refine (rat_some H.out hk HS.out HN.out).mono ?_); rintro e w' ⟨rfl, rfl⟩)
      go_ret
      exact rwrote_same (r := (d, 12)) H.out (Tn.refl _ _) H.out.lt
    | false =>
      rw [ho] at c1
      obtain ⟨g, cap, hv, hCg, hfz, g0, ⟨bo, bc, g1, sb⟩, g2⟩ := h.row hk hs
      subst hv
      have c0 := h.c0
      have hkl : k < (fvs d.f).length := by rw [fvs_length]; exact hk
      have hlen : len d.f s = x.data.length := by unfold len; rw [hx]
      by_cases hr : n < 0 ∨ (x.data.length : Int) < n
      · have e : d.cut s n = (d, 1) := by unfold Dk.cut; rw [ho, has_get, hx, hlen, if_pos hr]; rfl
        rw [e]
        clear h ho e hx hne hs hd sb hfz hlen
        by_cases hr0 : n < 0
        · go_enter Tryz.func83, Tryz.ntmps83
          go_wp2_with (go_at_call 59; (with_reducible refine (rat_some H.out hk HS.out HN.out).mono ?_); rintro e w' ⟨rfl, rfl⟩)
          go_ret
          exact rwrote_same (r := (d, 1)) H.out (Tn.refl _ _) H.out.lt
        · have hr1 : (x.data.length : Int) < n := by omega
          clear hr
          go_enter Tryz.func83, Tryz.ntmps83
          go_wp2_with (go_at_call 59; (with_reducible refine (rat_some H.out hk HS.out HN.out).mono ?_); rintro e w' ⟨rfl, rfl⟩)
          go_ret
          exact rwrote_same (r := (d, 1)) H.out (Tn.refl _ _) H.out.lt
      have hr0 : ¬ n < 0 := by omega
      have hr1 : ¬ (x.data.length : Int) < n := by omega
      cases hq : d.spend.2 with
      | false =>
        have e : d.cut s n = (d.spend.1, 12) := by unfold Dk.cut; rw [ho, has_get, hx, hlen, if_neg hr, hq]; rfl
        rw [e]
        have HQ := Lib.hid hq
        clear h ho e hx hq hne hs hd sb hfz hlen hr
        go_enter Tryz.func83, Tryz.ntmps83
        go_wp2_with (first
          | (go_at_call 59; (with_reducible refine (rat_some H.out hk HS.out HN.out).mono ?_); rintro e w' ⟨rfl, rfl⟩)
          | (go_at_call 87; (with_reducible refine (falls_any H.out HD.out).mono ?_); rw [HQ.out]; rintro e w1 ⟨rfl, h1, ht⟩; have H1 := Lib.hid h1; have HT := Lib.hid ht; clear h1 ht))
        go_ret
        exact rwrote_same (r := (d.spend.1, 12)) H1.out (H.out.tna HT.out) H.out.lt
      | true =>
        have e : d.cut s n = ({ d.spend.1 with f := upd d.f s fun x => ⟨x.data.take n.toNat, min x.safe n.toNat⟩ }, 0) := by unfold Dk.cut; rw [ho, has_get, hx, hlen, if_neg hr, hq]; rfl
        have HQ := Lib.hid hq
        have HE := Lib.hid e
        have HXL : Hid (x.data.length ≤ 4194304) := Nat.le_trans (get_tot h.ok.rising hx) h.ok.room
        clear h ho e hx hq hne hs hd sb hfz hlen hr
        go_enter Tryz.func83, Tryz.ntmps83
        go_wp2_with (first
          | (go_at_call 59; (with_reducible refine (rat_some H.out hk HS.out HN.out).mono ?_); rintro e w' ⟨rfl, rfl⟩)
          | (go_at_call 87; (with_reducible refine (falls_any H.out HD.out).mono ?_); rw [HQ.out]; rintro e w1 ⟨rfl, h1, ht⟩; have H1 := Lib.hid h1; have HT := Lib.hid ht; clear h1 ht))
        clear g0 g1 g2 c0 hkl
        have hf1 := spend_f (d := d)
        obtain ⟨hk1, hs1⟩ := at_spend hk HS.out
        obtain ⟨g', cap', hv, hCg', hfz, g0, ⟨bo, bc, g1, sb⟩, g2⟩ := H1.out.row hk1 hs1
        injection hv with e1 e2 e3
        injection e1 with e1
        injection e1 with e1
        subst e1; subst e3
        rw [← hf1] at H1 H ⊢
        obtain ⟨m, rfl⟩ : ∃ m : Nat, n = (m : Int) := ⟨n.toNat, by omega⟩
        have hm : m ≤ x.data.length := by omega
        have hup : (upd d.f s fun x => ⟨x.data.take m, min x.safe m⟩) = upd d.spend.1.f s fun _ => ⟨x.data.take m, min x.safe m⟩ := by rw [spend_f]; exact upd_const H.out.ok.rising (fun x => ⟨x.data.take m, min x.safe m⟩) HX.out
        have hok := H.out.ok.cut (s := s) (n := (m : Int))
        rw [HE.out] at hok
        have HUP := Lib.hid hup
        have HOK := Lib.hid hok
        have HGA : Hid (g ≠ a) := H1.out.ne.1 g rfl
        have HSB := Lib.hid ((sb.below (Below.refl _ w1).drew).top hm)
        have hbc := sb.le
        have c0 : w1.drew.cell? ⟨a, 0, none⟩ = _ := H1.out.c0
        have g1 : w1.drew.cell? ⟨g, k * 3 + 1, none⟩ = _ := g1
        have hz1 := hfz (k * 3 + 1)
        have hz2 := hfz (k * 3 + 2)
        have hkl : k < (fvs d.spend.1.f).length := by rw [fvs_length]; exact hk1
        have hcond : (0 : Int) ≤ (m : Int) ∧ (m : Int) ≤ (bc : Int) := by omega
        have HAS : Hid (a < w1.drew.heap.size) := H1.out.lt a H1.out.ca
        have HGS : Hid (g < w1.drew.heap.size) := H1.out.lt g hCg
        have HS1 := Lib.hid hs1
        have HML := Lib.hid hm
        have hm2 : m ≤ 140737488355328 := by have := HXL.out; omega
        clear hs1 sb hfz hup hok hCg' g0 e2 hf1
        refine wp_region_held (S := (fun w' => w'.cell? ⟨a, 0, none⟩ = some (.slice (some ⟨g, 0, none⟩) (fvs d.spend.1.f).length cap))) (by kernel_rfl) ?_
        change wpAnyH _ _ _ _ _ _ _ _ (World.drew _)
        refine wpAnyH_take (i := 0) (v := ?vf_0) rfl (by kernel_rfl) (by kernel_rfl) (by kernel_rfl) (fun _ _ _ h => h) (Or.inl ⟨by rfl, ?yf_0⟩) c0 ?rf_0
        case yf_0 => (intro W hSw; (try dsimp only at hSw); obtain _ := hSw; first | (go_simp; done) | (go_simp; with_reducible rfl))
        try go_simp
        refine wpAnyH_take (i := 1) (v := ?vf_1) rfl (by kernel_rfl) (by kernel_rfl) (by kernel_rfl) (fun _ _ _ h => h) (Or.inl ⟨by rfl, ?yf_1⟩) c0 ?rf_1
        case yf_1 => (intro W hSw; (try dsimp only at hSw); obtain _ := hSw; first | (go_simp; done) | (go_simp; with_reducible rfl))
        try go_simp
        refine wpAnyH_take (i := 2) (v := ?vf_2) rfl (by kernel_rfl) (by kernel_rfl) (by kernel_rfl) (fun _ _ _ h => h) (Or.inl ⟨by rfl, ?yf_2⟩) c0 ?rf_2
        case yf_2 => (intro W hSw; (try dsimp only at hSw); obtain _ := hSw; first | (go_simp; done) | (go_simp; with_reducible rfl))
        try go_simp
        refine wpAnyH_take (i := 3) (v := ?vf_3) rfl (by kernel_rfl) (by kernel_rfl) (by kernel_rfl) (fun _ _ _ h => h) (Or.inl ⟨by rfl, ?yf_3⟩) c0 ?rf_3
        case yf_3 => (intro W hSw; (try dsimp only at hSw); obtain _ := hSw; first | (go_simp; done) | (go_simp; with_reducible rfl))
        try go_simp
        refine wpAnyH_take (i := 4) (v := ?vf_4) rfl (by kernel_rfl) (by kernel_rfl) (by kernel_rfl) (fun _ _ _ h => h) (Or.inl ⟨by rfl, ?yf_4⟩) c0 ?rf_4
        case yf_4 => (intro W hSw; (try dsimp only at hSw); obtain _ := hSw; first | (go_simp; done) | (go_simp; with_reducible rfl))
        try go_simp
        refine wpAnyH_take (i := 5) (v := ?vf_5) rfl (by kernel_rfl) (by kernel_rfl) (by kernel_rfl) (fun _ _ _ h => h) (Or.inl ⟨by rfl, ?yf_5⟩) c0 ?rf_5
        case yf_5 => (intro W hSw; (try dsimp only at hSw); obtain _ := hSw; first | (go_simp; done) | (go_simp; with_reducible rfl))
        try go_simp
        refine wpAnyH_take (i := 6) (v := ?vf_6) rfl (by kernel_rfl) (by kernel_rfl) (by kernel_rfl) (fun _ _ _ h => h) (Or.inl ⟨by rfl, ?yf_6⟩) c0 ?rf_6
        case yf_6 => (intro W hSw; (try dsimp only at hSw); obtain _ := hSw; first | (go_simp; done) | (go_simp; with_reducible rfl))
        try go_simp
        refine wpAnyH_take (i := 7) (v := ?vf_7) rfl (by kernel_rfl) (by kernel_rfl) (by kernel_rfl) (fun _ _ _ h => h) (Or.inl ⟨by rfl, ?yf_7⟩) c0 ?rf_7
        case yf_7 => (intro W hSw; (try dsimp only at hSw); obtain _ := hSw; first | (go_simp; done) | (go_simp; with_reducible rfl))
        try go_simp
        refine wpAnyH_take (i := 8) (v := ?vf_8) rfl (by kernel_rfl) (by kernel_rfl) (by kernel_rfl) (fun _ _ _ h => h) (Or.inl ⟨by rfl, ?yf_8⟩) c0 ?rf_8
        case yf_8 => (intro W hSw; (try dsimp only at hSw); obtain _ := hSw; first | (go_simp; done) | (go_simp; with_reducible rfl))
        try go_simp
        refine wpAnyH_take (i := 9) (v := ?vf_9) rfl (by kernel_rfl) (by kernel_rfl) (by kernel_rfl) (fun _ _ _ h => h) (Or.inl ⟨by rfl, ?yf_9⟩) c0 ?rf_9
        case yf_9 => (intro W hSw; (try dsimp only at hSw); obtain _ := hSw; first | (go_simp; done) | (go_simp; with_reducible rfl))
        try go_simp
        refine wpAnyH_take (i := 10) (v := ?vf_10) rfl (by kernel_rfl) (by kernel_rfl) (by kernel_rfl) (fun _ _ _ h => h) (Or.inl ⟨by rfl, ?yf_10⟩) c0 ?rf_10
        case yf_10 => (intro W hSw; (try dsimp only at hSw); obtain _ := hSw; first | (go_simp; done) | (go_simp; with_reducible rfl))
        try go_simp
        refine wpAnyH_take (i := 11) (v := ?vf_11) rfl (by kernel_rfl) (by kernel_rfl) (by kernel_rfl) (fun _ _ _ h => h) (Or.inl ⟨by rfl, ?yf_11⟩) c0 ?rf_11
        case yf_11 => (intro W hSw; (try dsimp only at hSw); obtain _ := hSw; first | (go_simp; done) | (go_simp; with_reducible rfl))
        try go_simp
        refine wpAnyH_take (i := 13) (v := ?vf_13) rfl (by kernel_rfl) (by kernel_rfl) (by kernel_rfl) (fun _ _ _ h => h) (Or.inl ⟨by rfl, ?yf_13⟩) c0 ?rf_13
        case yf_13 => (intro W hSw; (try dsimp only at hSw); obtain _ := hSw; first | (go_simp; done) | (go_simp; with_reducible rfl))
        try go_simp
        refine wpAnyH_ready (rs := [12]) (by kernel_rfl) (by simp) ?_
        refine AllReadyH.cons rfl (fun K hK => ?_) AllReadyH.nil
        go_simp
        refine hK.out _ _ c0 (fun _ => ?_)
        clear hK K
        try go_simp
        refine wpAnyH_take (i := 14) (v := ?vf_14) rfl (by kernel_rfl) (by kernel_rfl) (by kernel_rfl) (fun _ _ _ h => h) (Or.inl ⟨by rfl, ?yf_14⟩) c0 ?rf_14
        case yf_14 => (intro W hSw; (try dsimp only at hSw); obtain _ := hSw; first | (go_simp; done) | (go_simp; with_reducible rfl))
        try go_simp
        refine wpAnyH_ready (rs := [15]) (by kernel_rfl) (by simp) ?_
        refine AllReadyH.cons rfl (fun K hK => ?_) AllReadyH.nil
        go_simp
        (go_wp2_with (first | (go_at_call 26; (refine (copyBytes_any HSB.out hm2).mono ?_); rintro e w3 ⟨o3, k3, rfl, ho3, hb3⟩; have HO3 := Lib.hid ho3; have HB3 := Lib.hid hb3; have p0 := (hb3.cell (p := ⟨a, 0, none⟩) HAS.out).trans c0; have p1 := (hb3.cell (p := ⟨g, k * 3 + 1, none⟩) HGS.out).trans g1; have p2 := (hb3.cell (p := ⟨g, k * 3 + 2, none⟩) HGS.out).trans g2; have fz1 := (hb3.frozen (p := ⟨g, k * 3 + 1, none⟩) HGS.out).trans hz1; have fz2 := (hb3.frozen (p := ⟨g, k * 3 + 2, none⟩) HGS.out).trans hz2; have H3 := Lib.hid ((H1.out.below (Below.refl _ w1).drew).below hb3); clear ho3 hb3)))
        refine hK.out _ _ p0 (fun _ => ?_)
        clear hK K
        try go_simp
        refine wpAnyH_take (i := 16) (v := ?vf_16) rfl (by kernel_rfl) (by kernel_rfl) (by kernel_rfl) (fun _ _ _ h => h) (Or.inl ⟨by rfl, ?yf_16⟩) p0 ?rf_16
        case yf_16 => (intro W hSw; (try dsimp only at hSw); obtain _ := hSw; first | (go_simp; done) | (go_simp; with_reducible rfl))
        try go_simp
        refine wpAnyH_take (i := 17) (v := ?vf_17) rfl (by kernel_rfl) (by kernel_rfl) (by kernel_rfl) (fun _ _ _ h => h) (Or.inl ⟨by rfl, ?yf_17⟩) p0 ?rf_17
        case yf_17 => (intro W hSw; (try dsimp only at hSw); obtain _ := hSw; first | (go_simp; done) | (go_simp; with_reducible rfl))
        try go_simp
        have q0 := (World.cell?_setCell_far w3 ⟨g, k * 3 + 1, none⟩ ⟨a, 0, none⟩ (.slice o3 m k3) HGA.out).trans p0
        refine wpAnyH_ready (rs := [18]) (by kernel_rfl) (by simp) ?_
        refine AllReadyH.cons rfl (fun K hK => ?_) AllReadyH.nil
        go_simp
        refine hK.out _ _ q0 (fun _ => ?_)
        clear hK K
        try go_simp
        refine wpAnyH_done (by kernel_rfl) ?_ _
        try go_wp2
        have r2 := (World.cell?_setCell_other (w := w3) (a := ⟨g, k * 3 + 1, none⟩) (b := ⟨g, k * 3 + 2, none⟩) (v := .slice o3 m k3) (by simp)).trans p2
        have rz : (w3.setCell ⟨g, k * 3 + 1, none⟩ (.slice o3 m k3)).frozen? ⟨g, k * 3 + 2, none⟩ = false := by rw [World.frozen?_setCell]; exact fz2
        clear p0 p1 p2 fz1 fz2 c0 g1 g2 hz1 hz2 c1
        obtain ⟨W, hW⟩ : ∃ W, W = w3.setCell ⟨g, k * 3 + 1, none⟩ (.slice o3 m k3) := ⟨_, rfl⟩
        rw [← hW] at q0 r2 rz ⊢
        have HW := Lib.hid hW
        clear hW
        have hml := HML.out
        refine wp_region_still_tail 17 (by kernel_rfl) (by kernel_rfl) ?_
        simp only [List.take_succ_cons, List.take_zero, List.drop_succ_cons, List.drop_zero]
        iterate 17 still_step
        refine wpStill_nil ?_
        change wpList _ _ _ _ _ W.drew
        go_wp2
        go_ret
        have hW := HW.out
        subst hW
        have hmn : min (x.safe : Int) (m : Int) = ((min x.safe m : Nat) : Int) := by omega
        have hy : (x.data.take m).length = m := by rw [List.length_take]; omega
        obtain ⟨us', h2⟩ := RAt.both (D := Gw C w w3) (y := ⟨x.data.take m, min x.safe m⟩) (u := .slice o3 m k3) (d' := { d.spend.1 with f := upd d.f s fun x => ⟨x.data.take m, min x.safe m⟩ }) H3.out hk1 HS1.out (by rw [hy]; exact own_mono HO3.out (Nat.zero_le _)) HUP.out rfl rfl rfl HOK.out (gw_self C w w3) (fun j hj => .inr ⟨Nat.le_trans HT.out.size (HO3.out.lt j hj).1, (HO3.out.lt j hj).2⟩) (fun j hj => Gw.size (Nat.le_trans HT.out.size HB3.out.size) H.out.lt hj)
        have h5 : Tn C w (((w3.setCell ⟨g, k * 3 + 1, none⟩ (.slice o3 m k3)).setCell ⟨g, k * 3 + 2, none⟩ (.int .i64 ((min x.safe m : Nat) : Int)))) := ((((H.out.tna HT.out).drew.trans (Tn.of_below (S := C) HB3.out) (fun _ _ h => h)).setCell (fun _ => hCg) _)).setCell (fun _ => hCg) _
        rw [HE.out, hmn]
        exact ⟨rfl, ⟨_, _, (h2.grow (D := Gw C w _) (fun j hj => by rcases hj with hj | hj; exact .inl hj; exact .inr ⟨hj.1, by simpa using hj.2⟩) (fun j hj => Gw.size h5.size H.out.lt hj)).below (Below.refl _ _).drew⟩, h5.drew⟩
end
end Go.Proofs.YtkilkhnoldfhcaaGreatDoor
namespace Go.Proofs.YtkilkhnoldfhcaaGreatDoor
open Go.RowKit
section
variable {C D S : Nat → Prop} {w w' : World} {a : Nat} {d : Dk} {v : Value} {us : List (Nm × Value × Int)} {s : Nm} {x : Fi}
theorem oper_append_sb {C : Nat → Prop} {ops : Array Oper} {o : Oper} {a : Act} {w : World} {K' : Act → World → Prop} {Q : Exit → Act → World → Prop} {X : Prop} (hw : Region.wanted o (yielded ops a.tmps) = true) (s x : Operand)
    (ho : o.op = .call { callee := .builtin .append, args := #[s, x], argTypes := #[36, 36] }) {v : Value} {l m : List UInt8} {B : Nat} (hs : a.eval s = v) (hown : w.ownsRow B 5 1 v l.length (bys l)) (hB : B ≤ w.heap.size)
    {ao : Option Addr} {n cap : Nat} (hx : a.eval x = .slice ao n cap) (hm : SB C w ao n cap m) (hroom : l.length + n ≤ 140737488355328)
    (h : ∀ v' w', w'.ownsRow B 5 1 v' (l ++ m).length (bys (l ++ m)) → w.grownBy w' v.ownBlock → (v'.ownBlock = v.ownBlock ∨ v'.ownBlock = some w.heap.size) → K' (a.put o.dst v') w') : if Region.wanted o (yielded ops a.tmps) = true then o.wp Tryz.prog a w K' Q else X := by
  obtain ⟨v', w', hr, h2, h3, h5⟩ := run_append_sb o.type hown hB hm hroom
  rw [if_pos hw]
  unfold Oper.wp execOp
  simp only [ho, resolve, invoke, builtin, Sem.run_bind, Sem.run_pure, Result.andThen_ok, List.map_toArray, List.map_cons, List.map_nil, hs, hx, hr]
  exact h v' w' h2 h3 h5
theorem spend_put (d : Dk) (f : Ent Fi) : ({ d with f := f } : Dk).spend = ({ d.spend.1 with f := f }, d.spend.2) := by
  unfold Dk.spend
  split <;> rfl
set_option maxRecDepth 100000 in
set_option maxHeartbeats 4000000 in
theorem rappend_any {E : Nat → Prop} {bo0 : Option Addr} {n bcap : Nat} {b : List UInt8} (h : RAt C w a d v us) (s : Nm) (hd : d.done < 9223372036854775807) (hb : SB E w bo0 n bcap b) : Calls Tryz.prog 89 #[ptr a, nmv s, .slice bo0 n bcap] w (RWrote C w a (d.append s b)) := by
  have H := Lib.hid h
  have HD := Lib.hid hd
  have c1 := h.c1
  cases hx : get d.f s with
  | none =>
    have HX := Lib.hid hx
    cases ho : d.off with
    | true =>
      have e : d.append s b = (d, 12) := by unfold Dk.append; rw [if_pos ho]
      rw [e]
      rw [ho] at c1
      clear h hx e ho hd
      go_enter Tryz.func89, Tryz.ntmps89
      go_wp2_with (go_at_call 59; (with_reducible refine (rat_none H.out HX.out).mono ?_); rintro e w' ⟨rfl, rfl⟩)
      go_ret
      exact rwrote_same (r := (d, 12)) H.out (Tn.refl _ _) H.out.lt
    | false =>
      have e : d.append s b = (d, 8) := by unfold Dk.append; rw [ho, has_get, hx]; rfl
      rw [e]
      rw [ho] at c1
      clear h hx e ho hd
      go_enter Tryz.func89, Tryz.ntmps89
      go_wp2_with (go_at_call 59; (with_reducible refine (rat_none H.out HX.out).mono ?_); rintro e w' ⟨rfl, rfl⟩)
      go_ret
      exact rwrote_same (r := (d, 8)) H.out (Tn.refl _ _) H.out.lt
  | some x =>
    obtain ⟨k, hk, hs, hne⟩ := get_pos h.ok.rising hx
    have HN := Lib.hid hne
    have HS := Lib.hid hs
    have HX := Lib.hid hx
    cases ho : d.off with
    | true =>
      have e : d.append s b = (d, 12) := by unfold Dk.append; rw [if_pos ho]
      rw [e]
      rw [ho] at c1
      clear h hx e ho hd hs hne
      go_enter Tryz.func89, Tryz.ntmps89
      go_wp2_with (go_at_call 59; (with_reducible refine (rat_some H.out hk HS.out HN.out).mono ?_); rintro e w' ⟨rfl, rfl⟩)
      go_ret
      exact rwrote_same (r := (d, 12)) H.out (Tn.refl _ _) H.out.lt
    | false =>
      rw [ho] at c1
      obtain ⟨g, cap, hv, hCg, hfz, g0, ⟨bo, bc, g1, sb⟩, g2⟩ := h.row hk hs
      subst hv
      have c0 := h.c0
      have hkl : k < (fvs d.f).length := by rw [fvs_length]; exact hk
      have hroom := h.ok.room
      have HTF : Hid (totF (fvs d.f) = tot d.f) := totF_fvs _
      obtain rfl := hb.len
      have hlt := hb.lt
      have hwr : IntKind.i64.wrap (4194304 - (tot d.f : Int)) = 4194304 - (tot d.f : Int) := wrap_in (by omega)
      by_cases hr : 4194304 - tot d.f < b.length
      · have e : d.append s b = (d, 11) := by unfold Dk.append; rw [ho, has_get, hx, if_pos hr]; rfl
        rw [e]
        have hr1 : 4194304 - (tot d.f : Int) < (b.length : Int) := by omega
        clear h ho e hx hne hs hd sb hfz hb
        go_enter Tryz.func89, Tryz.ntmps89
        go_wp2_with (first
          | (go_at_call 59; (with_reducible refine (rat_some H.out hk HS.out HN.out).mono ?_); rintro e w' ⟨rfl, rfl⟩)
          | (go_at_call 61; (with_reducible refine (rsize_any H.out).mono ?_); rintro e w' ⟨rfl, rfl⟩; rw [HTF.out]))
        go_ret
        exact rwrote_same (r := (d, 11)) H.out (Tn.refl _ _) H.out.lt
      · have e : d.append s b = ({ d.spend.1 with f := upd d.f s fun x => ⟨x.data ++ b, x.safe⟩ }, if d.spend.2 then 0 else 12) := by unfold Dk.append; rw [ho, has_get, hx, if_neg hr]; rfl
        have hr1 : ¬ 4194304 - (tot d.f : Int) < (b.length : Int) := by omega
        have hok := h.ok.append (s := s) (b := b)
        rw [e] at hok
        have hok1 : Okr { d with f := upd d.f s fun x => ⟨x.data ++ b, x.safe⟩ } := hok.of_f rfl
        have hup := upd_const h.ok.rising (fun x => ⟨x.data ++ b, x.safe⟩) hx
        have HSP := Lib.hid (spend_put d (upd d.f s fun x => ⟨x.data ++ b, x.safe⟩))
        have HE := Lib.hid e
        have HOK := Lib.hid hok1
        have HUP := Lib.hid hup
        have hx2 : x.data.length ≤ 140737488355328 := by have := get_tot h.ok.rising hx; omega
        have hab : x.data.length + b.length ≤ 140737488355328 := by have := get_tot h.ok.rising hx; omega
        have HGA : Hid (g ≠ a) := h.ne.1 g rfl
        have HSB := Lib.hid (sb.below (Below.refl _ w).drew)
        have HBB := Lib.hid (hb.below (Below.refl _ w).drew)
        have c0 : w.drew.cell? ⟨a, 0, none⟩ = _ := c0
        have g1 : w.drew.cell? ⟨g, k * 3 + 1, none⟩ = _ := g1
        have hz1 := hfz (k * 3 + 1)
        have HAS : Hid (a < w.drew.heap.size) := h.lt a h.ca
        have HGS : Hid (g < w.drew.heap.size) := h.lt g hCg
        obtain ⟨N, hN⟩ : ∃ N, (x.data ++ b).length = N := ⟨_, rfl⟩
        have HNL := Lib.hid hN
        have HCG := Lib.hid hCg
        have HCA := Lib.hid h.ca
        clear h ho e hx hne hs sb hfz hb hok hok1 hup hr hN g0 g2 hroom hlt hd
        go_enter Tryz.func89, Tryz.ntmps89
        go_wp2_with (first
          | (go_at_call 59; (with_reducible refine (rat_some H.out hk HS.out HN.out).mono ?_); rintro e w' ⟨rfl, rfl⟩)
          | (go_at_call 61; (with_reducible refine (rsize_any H.out).mono ?_); rintro e w' ⟨rfl, rfl⟩; rw [HTF.out]))
        refine wp_region_held (S := (fun w' => w'.cell? ⟨a, 0, none⟩ = some (.slice (some ⟨g, 0, none⟩) (fvs d.f).length cap))) (by kernel_rfl) ?_
        change wpAnyH _ _ _ _ _ _ _ _ (World.drew _)
        refine wpAnyH_take (i := 0) (v := ?vf_0) rfl (by kernel_rfl) (by kernel_rfl) (by kernel_rfl) (fun _ _ _ h => h) (Or.inl ⟨by rfl, ?yf_0⟩) c0 ?rf_0
        case yf_0 => (intro W hSw; (try dsimp only at hSw); obtain _ := hSw; first | (go_simp; done) | (go_simp; with_reducible rfl))
        try go_simp
        refine wpAnyH_take (i := 1) (v := ?vf_1) rfl (by kernel_rfl) (by kernel_rfl) (by kernel_rfl) (fun _ _ _ h => h) (Or.inl ⟨by rfl, ?yf_1⟩) c0 ?rf_1
        case yf_1 => (intro W hSw; (try dsimp only at hSw); obtain _ := hSw; first | (go_simp; done) | (go_simp; with_reducible rfl))
        try go_simp
        refine wpAnyH_take (i := 2) (v := ?vf_2) rfl (by kernel_rfl) (by kernel_rfl) (by kernel_rfl) (fun _ _ _ h => h) (Or.inl ⟨by rfl, ?yf_2⟩) c0 ?rf_2
        case yf_2 => (intro W hSw; (try dsimp only at hSw); obtain _ := hSw; first | (go_simp; done) | (go_simp; with_reducible rfl))
        try go_simp
        refine wpAnyH_take (i := 3) (v := ?vf_3) rfl (by kernel_rfl) (by kernel_rfl) (by kernel_rfl) (fun _ _ _ h => h) (Or.inl ⟨by rfl, ?yf_3⟩) c0 ?rf_3
        case yf_3 => (intro W hSw; (try dsimp only at hSw); obtain _ := hSw; first | (go_simp; done) | (go_simp; with_reducible rfl))
        try go_simp
        refine wpAnyH_take (i := 4) (v := ?vf_4) rfl (by kernel_rfl) (by kernel_rfl) (by kernel_rfl) (fun _ _ _ h => h) (Or.inl ⟨by rfl, ?yf_4⟩) c0 ?rf_4
        case yf_4 => (intro W hSw; (try dsimp only at hSw); obtain _ := hSw; first | (go_simp; done) | (go_simp; with_reducible rfl))
        try go_simp
        refine wpAnyH_take (i := 5) (v := ?vf_5) rfl (by kernel_rfl) (by kernel_rfl) (by kernel_rfl) (fun _ _ _ h => h) (Or.inl ⟨by rfl, ?yf_5⟩) c0 ?rf_5
        case yf_5 => (intro W hSw; (try dsimp only at hSw); obtain _ := hSw; first | (go_simp; done) | (go_simp; with_reducible rfl))
        try go_simp
        refine wpAnyH_take (i := 6) (v := ?vf_6) rfl (by kernel_rfl) (by kernel_rfl) (by kernel_rfl) (fun _ _ _ h => h) (Or.inl ⟨by rfl, ?yf_6⟩) c0 ?rf_6
        case yf_6 => (intro W hSw; (try dsimp only at hSw); obtain _ := hSw; first | (go_simp; done) | (go_simp; with_reducible rfl))
        try go_simp
        refine wpAnyH_take (i := 7) (v := ?vf_7) rfl (by kernel_rfl) (by kernel_rfl) (by kernel_rfl) (fun _ _ _ h => h) (Or.inl ⟨by rfl, ?yf_7⟩) c0 ?rf_7
        case yf_7 => (intro W hSw; (try dsimp only at hSw); obtain _ := hSw; first | (go_simp; done) | (go_simp; with_reducible rfl))
        try go_simp
        refine wpAnyH_take (i := 8) (v := ?vf_8) rfl (by kernel_rfl) (by kernel_rfl) (by kernel_rfl) (fun _ _ _ h => h) (Or.inl ⟨by rfl, ?yf_8⟩) c0 ?rf_8
        case yf_8 => (intro W hSw; (try dsimp only at hSw); obtain _ := hSw; first | (go_simp; done) | (go_simp; with_reducible rfl))
        try go_simp
        refine wpAnyH_take (i := 9) (v := ?vf_9) rfl (by kernel_rfl) (by kernel_rfl) (by kernel_rfl) (fun _ _ _ h => h) (Or.inl ⟨by rfl, ?yf_9⟩) c0 ?rf_9
        case yf_9 => (intro W hSw; (try dsimp only at hSw); obtain _ := hSw; first | (go_simp; done) | (go_simp; with_reducible rfl))
        try go_simp
        refine wpAnyH_take (i := 10) (v := ?vf_10) rfl (by kernel_rfl) (by kernel_rfl) (by kernel_rfl) (fun _ _ _ h => h) (Or.inl ⟨by rfl, ?yf_10⟩) c0 ?rf_10
        case yf_10 => (intro W hSw; (try dsimp only at hSw); obtain _ := hSw; first | (go_simp; done) | (go_simp; with_reducible rfl))
        try go_simp
        refine wpAnyH_take (i := 11) (v := ?vf_11) rfl (by kernel_rfl) (by kernel_rfl) (by kernel_rfl) (fun _ _ _ h => h) (Or.inl ⟨by rfl, ?yf_11⟩) c0 ?rf_11
        case yf_11 => (intro W hSw; (try dsimp only at hSw); obtain _ := hSw; first | (go_simp; done) | (go_simp; with_reducible rfl))
        try go_simp
        refine wpAnyH_take (i := 14) (v := ?vf_14) rfl (by kernel_rfl) (by kernel_rfl) (by kernel_rfl) (fun _ _ _ h => h) (Or.inl ⟨by rfl, ?yf_14⟩) c0 ?rf_14
        case yf_14 => (intro W hSw; (try dsimp only at hSw); obtain _ := hSw; first | (go_simp; done) | (go_simp; with_reducible rfl))
        try go_simp
        refine wpAnyH_ready (rs := [12]) (by kernel_rfl) (by simp) ?_
        refine AllReadyH.cons rfl (fun K hK => ?_) AllReadyH.nil
        go_simp
        refine hK.out _ _ c0 (fun _ => ?_)
        clear hK K
        try go_simp
        refine wpAnyH_ready (rs := [13]) (by kernel_rfl) (by simp) ?_
        refine AllReadyH.cons rfl (fun K hK => ?_) AllReadyH.nil
        go_simp
        (go_wp2_with (first | (go_at_call 26; (refine (copyBytes_any HSB.out hx2).mono ?_); rintro e w3 ⟨o3, k3, rfl, ho3, hb3⟩; have HO3 := Lib.hid ho3; have HB3 := Lib.hid hb3; have p0 := (hb3.cell (p := ⟨a, 0, none⟩) HAS.out).trans c0; have p1 := (hb3.cell (p := ⟨g, k * 3 + 1, none⟩) HGS.out).trans g1; have fz1 := (hb3.frozen (p := ⟨g, k * 3 + 1, none⟩) HGS.out).trans hz1; have H3 := Lib.hid ((H.out.below (Below.refl _ w).drew).below hb3); clear ho3 hb3)))
        refine hK.out _ _ p0 (fun _ => ?_)
        clear hK K
        try go_simp
        refine wpAnyH_ready (rs := [15]) (by kernel_rfl) (by simp) ?_
        refine AllReadyH.cons rfl (fun K hK => ?_) AllReadyH.nil
        have hb3 := HBB.out.below HB3.out
        refine oper_append_sb (wanted_none rfl _) (.tmp 39) (.tmp 40) rfl rfl (l := x.data) HO3.out (by simpa using HB3.out.size) rfl hb3 hab ?_
        intro v4 w4 ho4 hg4 hl4
        obtain ⟨o4, k4, rfl⟩ := own_slice ho4
        have hl5 : (x.data ++ b).length = N := HNL.out
        rw [hl5] at ho4 hl4 ⊢
        have hga : (Value.slice o3 x.data.length k3).ownBlock ≠ some a := fun e => by have h8 := (HO3.out.lt a e).1; have h9 := HAS.out; omega
        have hgg : (Value.slice o3 x.data.length k3).ownBlock ≠ some g := fun e => by have h8 := (HO3.out.lt g e).1; have h9 := HGS.out; omega
        have s0 := hg4.cell p0 (fun e => hga e.symm)
        have s1 := hg4.cell p1 (fun e => hgg e.symm)
        have fs1 := (World.frozen?_of_block (w := w3) (a := ⟨g, k * 3 + 1, none⟩) (hg4.block g (Nat.lt_of_lt_of_le HGS.out HB3.out.size) (fun e => hgg e.symm))).trans fz1
        have HG4 := Lib.hid hg4
        have HO4 := Lib.hid ho4
        have HL4 := Lib.hid hl4
        clear ho4 hg4 hl4 hga hgg hb3 p0 p1 fz1 hl5
        try go_simp
        refine hK.out _ _ s0 (fun _ => ?_)
        clear hK K
        try go_simp
        refine wpAnyH_take (i := 16) (v := ?vf_16) rfl (by kernel_rfl) (by kernel_rfl) (by kernel_rfl) (fun _ _ _ h => h) (Or.inl ⟨by rfl, ?yf_16⟩) s0 ?rf_16
        case yf_16 => (intro W hSw; (try dsimp only at hSw); obtain _ := hSw; first | (go_simp; done) | (go_simp; with_reducible rfl))
        try go_simp
        refine wpAnyH_take (i := 17) (v := ?vf_17) rfl (by kernel_rfl) (by kernel_rfl) (by kernel_rfl) (fun _ _ _ h => h) (Or.inl ⟨by rfl, ?yf_17⟩) s0 ?rf_17
        case yf_17 => (intro W hSw; (try dsimp only at hSw); obtain _ := hSw; first | (go_simp; done) | (go_simp; with_reducible rfl))
        try go_simp
        have q0 := (World.cell?_setCell_far w4 ⟨g, k * 3 + 1, none⟩ ⟨a, 0, none⟩ (.slice o4 N k4) HGA.out).trans s0
        refine wpAnyH_ready (rs := [18]) (by kernel_rfl) (by simp) ?_
        refine AllReadyH.cons rfl (fun K hK => ?_) AllReadyH.nil
        go_simp
        refine hK.out _ _ q0 (fun _ => ?_)
        clear hK K
        try go_simp
        refine wpAnyH_done (by kernel_rfl) ?_ _
        have H4 := H3.out.tn (S := fun j => (Value.slice o3 x.data.length k3).ownBlock = some j) ⟨HG4.out.os, HG4.out.tape, HG4.out.output, HG4.out.size, fun j hj hne => HG4.out.block j hj (fun e => hne e.symm)⟩ (fun j hj e => by have h8 := (HO3.out.lt j e).1; have h9 : j < w.drew.heap.size := H.out.lt j hj; omega)
        have hz34 : w3.heap.size ≤ w4.heap.size := HG4.out.size
        have hzw3 : w.heap.size ≤ w3.heap.size := HB3.out.size
        have hy : (x.data ++ b).length = N := HNL.out
        obtain ⟨us5, h5⟩ := H4.data (D := Gw C w w4) (y := ⟨x.data ++ b, x.safe⟩) (u := .slice o4 N k4) (d' := { d with f := upd d.f s fun x => ⟨x.data ++ b, x.safe⟩ }) hk HS.out rfl (by rw [hy]; exact own_mono HO4.out (Nat.zero_le _)) HUP.out rfl rfl rfl HOK.out (gw_self C w w4) (fun j hj => .inr (by
          have h7 := (HO4.out.lt j hj).2
          rcases HL4.out with e | e
          · exact ⟨(HO3.out.lt j (e ▸ hj)).1, h7⟩
          · rw [e] at hj
            injection hj with hj
            omega)) (fun j hj => Gw.size (Nat.le_trans hzw3 hz34) H.out.lt hj)
        have h6 : Tn C w (w4.setCell ⟨g, k * 3 + 1, none⟩ (.slice o4 N k4)) := ((Tn.of_below (S := C) ((Below.refl _ w).drew.trans HB3.out)).grown HG4.out (fun j hj hlt => by have h8 := (HO3.out.lt j hj).1; have h9 : j < w.drew.heap.size := hlt; omega)).setCell (fun _ => HCG.out) _
        have H5 := Lib.hid h5
        have H6T := Lib.hid h6
        have hzw : w4.heap.size = (w4.setCell ⟨g, k * 3 + 1, none⟩ (.slice o4 N k4)).heap.size := by simp
        have HZW := Lib.hid hzw
        clear h5 h6 H4 hzw hy hz34 hzw3 s0 s1 fs1 q0 c0 g1 hz1
        generalize w4.setCell ⟨g, k * 3 + 1, none⟩ (.slice o4 N k4) = W at *
        cases hq : d.spend.2 with
        | false =>
          have HQ := Lib.hid hq
          clear hq
          go_wp2_with (go_at_call 87; (with_reducible refine (falls_any H5.out HD.out).mono ?_); rw [HSP.out, HQ.out]; rintro e w6 ⟨rfl, h1, ht⟩; have H6 := Lib.hid h1; have HT6 := Lib.hid ht; clear h1 ht)
          go_ret
          rw [HE.out, HQ.out]
          have h7 := H6.out
          have h8 : Tn C w w6 := H6T.out.trans (HT6.out.mono (fun _ _ e => e ▸ HCA.out)) (fun _ _ h => h)
          exact ⟨rfl, ⟨_, _, h7.grow (fun j hj => by
            rcases hj with hj | hj
            · exact .inl hj
            · exact .inr ⟨hj.1, Nat.lt_of_lt_of_le (by rw [← HZW.out]; exact hj.2) HT6.out.size⟩) (fun j hj => Gw.size h8.size H.out.lt hj)⟩, h8⟩
        | true =>
          have HQ := Lib.hid hq
          clear hq
          go_wp2_with (go_at_call 87; (with_reducible refine (falls_any H5.out HD.out).mono ?_); rw [HSP.out, HQ.out]; rintro e w6 ⟨rfl, h1, ht⟩; have H6 := Lib.hid h1; have HT6 := Lib.hid ht; clear h1 ht)
          go_ret
          rw [HE.out, HQ.out]
          have h7 := H6.out
          have h8 : Tn C w w6 := H6T.out.trans (HT6.out.mono (fun _ _ e => e ▸ HCA.out)) (fun _ _ h => h)
          exact ⟨rfl, ⟨_, _, h7.grow (fun j hj => by
            rcases hj with hj | hj
            · exact .inl hj
            · exact .inr ⟨hj.1, Nat.lt_of_lt_of_le (by rw [← HZW.out]; exact hj.2) HT6.out.size⟩) (fun j hj => Gw.size h8.size H.out.lt hj)⟩, h8⟩
end
end Go.Proofs.YtkilkhnoldfhcaaGreatDoor
namespace Go.Proofs.YtkilkhnoldfhcaaGreatDoor
open Go.RowKit
/-- append of one file onto a row of them. -/
theorem wpList_append_file {ops : Array Oper} {rest : List Oper} {o : Oper} {a : Act} {w : World} {Q : Exit → Act → World → Prop} (hw : Region.wanted o (yielded ops a.tmps) = true) (s x : Operand)
    (ho : o.op = .call { callee := .builtin .append, args := #[s, x], argTypes := #[29, 29] })
    {v : Value} {n : Nat} {us : List (Nm × Value × Int)} {u : Nm × Value × Int} {b : Nat} (hs : a.eval s = v) (hown : w.ownsRow 0 43 3 v n (cellsF us)) (hx : a.eval x = .slice (some ⟨b, 0, none⟩) 1 1) (hm : w.heap[b]? = some (.cells #[nmv u.1, u.2.1, .int .i64 u.2.2] 43 (0, 0)))
    (h1 : u.2.1.oneCell' = true) (hroom : n ≤ 1000000)
    (h : ∀ v' w', w'.ownsRow 0 43 3 v' (n + 1) (cellsF (us ++ [u])) → w.grownBy w' v.ownBlock → (v'.ownBlock = v.ownBlock ∨ v'.ownBlock = some w.heap.size) → wpList Tryz.prog ops Q rest (a.put o.dst v') w') : wpList Tryz.prog ops Q (o :: rest) a w :=
  wpList_step fun K hK => oper_append_file (X := K (a.put o.dst undef) w) hw s x ho hs hown hx hm h1 hroom fun v' w' h2 h3 h4 => hK _ _ (h v' w' h2 h3 h4)
section
variable {C D S : Nat → Prop} {w w' : World} {a : Nat} {d : Dk} {v : Value} {us : List (Nm × Value × Int)} {s : Nm} {x : Fi}
theorem RAt.elem (h : RAt C w a d v us) {k : Nat} (hk : k < d.f.length) (hs : d.f[k] = (s, x)) : ∃ g cap bo bc, v = .slice (some ⟨g, 0, none⟩) (fvs d.f).length cap ∧ w.cell? ⟨g, k * 3, none⟩ = some (nmv s) ∧ w.cell? ⟨g, k * 3 + 1, none⟩ = some (.slice bo x.data.length bc) ∧ w.cell? ⟨g, k * 3 + 2, none⟩ = some (.int .i64 (x.safe : Int)) ∧ w.ownsRow 0 5 1 (.slice bo x.data.length bc) x.data.length (bys x.data) ∧ (∀ j, (Value.slice bo x.data.length bc).ownBlock = some j → C j) := by
  have hkl : k < (fvs d.f).length := by rw [fvs_length]; exact hk
  obtain ⟨g, cap, rfl⟩ := own_shape h.fo.own (by omega)
  have hku : k < us.length := by rw [h.fo.len]; exact hkl
  obtain ⟨e1, e2, e3⟩ := h.fo.at_ k hku hkl
  have e4 := fun j hj => h.fo.rows k hku j hj
  rw [fvs_get hkl, hs] at e1 e2 e3
  obtain ⟨g1, g2, g3⟩ := cellsF_get us hku
  obtain ⟨bo, bc, hb⟩ := own_slice e3
  rw [hb] at e3 e4 g2
  refine ⟨g, cap, bo, bc, rfl, ?_, ?_, ?_, e3, e4⟩
  · have h9 := h.fo.own.cellAt (k * 3) (by omega)
    rw [h9, g1, e1]; rfl
  · have h9 := h.fo.own.cellAt (k * 3 + 1) (by omega)
    rw [h9, g2]; rfl
  · have h9 := h.fo.own.cellAt (k * 3 + 2) (by omega)
    rw [h9, g3, e2]; rfl
theorem tot_del_le (f : Ent Fi) (s : Nm) : tot (del f s) ≤ tot f := by
  induction f with
  | nil => exact Nat.le_refl _
  | cons p f ih =>
    unfold del at ih ⊢
    rw [List.filter_cons, tot_cons]
    split
    · rw [tot_cons]; omega
    · omega
theorem ok_del {d : Dk} {n : Nat} (h : Okn n d) (s : Nm) : Okn n { d with f := del d.f s } := by
  have h1 := h.few
  have h2 := h.room
  have h3 := tot_del_le d.f s
  have h4 : (del d.f s).length ≤ d.f.length := List.length_filter_le _ _
  exact ⟨h.rising.del s, fun p hp => h.nm p (mem_del.1 hp).1, fun p hp => h.safe p (mem_del.1 hp).1, by show (del d.f s).length ≤ n; omega, by show tot (del d.f s) ≤ 4194304; omega⟩
theorem del_take {f : Ent Fi} {j : Nat} (hj : j < f.length) : del (f.take (j + 1)) s = if f[j].1 = s then del (f.take j) s else del (f.take j) s ++ [f[j]] := by
  rw [List.take_succ_eq_append_getElem hj]
  unfold del
  rw [List.filter_append]
  by_cases e : f[j].1 = s
  · rw [if_pos e]; simp [e]
  · rw [if_neg e]; simp [e]
theorem FO.box {P : Nat → Prop} {cs : Array Value} {l : List FV} (h : FO P w v us l) (hb : w.heap[a]? = some (.cells cs 31 (0, 0))) (ht : Tn (· = a) w w') : FO P w' v us l := by
  have hx : ∀ {k : Nat} {cur : Array Value} {e : TypeId}, w.heap[k]? = some (.cells cur e (0, 0)) → e ≠ 31 → k ≠ a := by
    intro k cur e hk he e2
    subst e2
    rw [hb] at hk
    simp at hk
    exact he hk.2.symm
  refine ⟨own_tn h.own ht (fun k hk => ?_), h.len, fun i h1 h2 => ⟨(h.at_ i h1 h2).1, (h.at_ i h1 h2).2.1, own_tn (h.at_ i h1 h2).2.2 ht (fun k hk => ?_)⟩, h.row, h.rows⟩
  · obtain ⟨cur, hc⟩ := own_at h.own hk
    exact hx hc (by decide)
  · obtain ⟨cur, hc⟩ := own_at (h.at_ i h1 h2).2.2 hk
    exact hx hc (by decide)
theorem fvs_append (f g : Ent Fi) : fvs (f ++ g) = fvs f ++ fvs g := List.map_append
set_option maxRecDepth 100000 in
set_option maxHeartbeats 4000000 in
theorem rdrop_a (h : RAt C w a d v us) {k : Nat} (hk : k < d.f.length) (hs : d.f[k] = (s, x)) : Calls Tryz.prog 114 #[ptr a, .int .i64 (k : Int)] w fun e w' => e = .returned (.tuple #[]) ∧ RK (Gw C w w') w' a { d with f := del d.f s } ∧ Tn (· = a) w w' := by
  have H := Lib.hid h
  have hfew := h.ok.few
  have c0 := h.c0
  have hfl := fvs_length d.f
  have HS := Lib.hid hs
  obtain ⟨fo, fc, rfl⟩ := own_slice h.fo.own
  clear h hs
  go_enter Tryz.func114, Tryz.ntmps114
  go_wp2
  go_loopw [4, 5] (fun o i wr => ∃ j : Nat, j ≤ d.f.length ∧ i = .int .i64 j ∧ Hid (∃ us2, FO (fun k => C k ∨ w.heap.size ≤ k) wr o us2 (fvs (del (d.f.take j) s))) ∧ Hid (Below w.heap.size w wr) ∧ Hid (∀ k, o.ownBlock = some k → w.heap.size ≤ k)) (fun _ i _ => d.f.length - (intOf i).toNat)
  case atStart => exact ⟨0, Nat.zero_le _, rfl, ⟨[], FO.nil _ _⟩, Below.refl _ _, fun _ hk => (nomatch hk)⟩
  case round =>
    obtain ⟨j, hj, rfl, HF, HB, HR⟩ := hrel
    have c0 := (H.out.below HB.out).c0
    by_cases hjl : j < d.f.length
    · by_cases hjk : j = k
      · subst hjk
        have hd : Hid (del (d.f.take (j + 1)) s = del (d.f.take j) s) := by
          have h1 := del_take (s := s) hjl
          rw [HS.out, if_pos rfl] at h1
          exact h1
        go_wp2
        go_roundw
        case rel => exact ⟨j + 1, by omega, by go_num, by rw [hd.out]; exact HF, HB, HR⟩
        case measure => simp [intOf]; omega
      · have hne : d.f[j].1 ≠ s := by
          intro e
          have hr := H.out.ok.rising
          rcases Nat.lt_or_ge j k with h3 | h3
          · have h4 := List.pairwise_iff_getElem.1 hr j k hjl hk h3
            rw [HS.out, e] at h4
            exact nm_irrefl _ h4
          · have h4 := List.pairwise_iff_getElem.1 hr k j hk hjl (by omega)
            rw [HS.out, e] at h4
            exact nm_irrefl _ h4
        obtain ⟨⟨t, y⟩, hty⟩ : ∃ p, d.f[j] = p := ⟨_, rfl⟩
        have hd : Hid (fvs (del (d.f.take (j + 1)) s) = fvs (del (d.f.take j) s) ++ [⟨t, y.data, (y.safe : Int)⟩]) := by
          have h1 := del_take (s := s) hjl
          rw [if_neg hne, hty] at h1
          show fvs _ = _
          rw [h1, fvs_append]
          rfl
        have hL : (fvs (del (d.f.take j) s)).length ≤ 1000000 := by
          rw [fvs_length]
          have h1 : (del (d.f.take j) s).length ≤ (d.f.take j).length := List.length_filter_le _ _
          rw [List.length_take] at h1
          omega
        obtain ⟨g, cap, bo, bc, hv, g0, g1, g2, hu, hCu⟩ := (H.out.below HB.out).elem hjl hty
        injection hv with e1 e2 e3
        subst e1; subst e3
        obtain ⟨us2, hfo⟩ := HF.out
        obtain ⟨oo, oc, rfl⟩ := own_slice hfo.own
        have HFO := Lib.hid hfo
        have HU := Lib.hid hu
        have HCU := Lib.hid hCu
        have hkj : ((j : Int) == (k : Int)) = false := by rw [beq_eq_false_iff_ne]; omega
        clear hfo hu hCu hty hne HF e2
        generalize hLL : fvs (del (d.f.take j) s) = L2 at *
        clear hLL
        have hsz := HB.out.size
        go_wp2_with (at_builtin; refine wpList_append_file (wanted_none rfl _) (.tmp 18) (.tmp 26) rfl rfl (u := (t, .slice bo y.data.length bc, (y.safe : Int))) (HFO.out.below (below1 wr _)).own rfl (heap_alloc_new wr _) rfl hL ?_; intro v3 w3 ho3 hg3 hl3; have hfo4 := (HFO.out.below (below1 wr _)).snoc (q := ⟨t, y.data, (y.safe : Int)⟩) (u := .slice bo y.data.length bc) hg3 ho3 hl3 (own_below HU.out (below1 wr _)) (fun j hj => .inl (HCU.out j hj)) (.inr (by simp; omega)); have HFO4 := Lib.hid hfo4; have HB4 := Lib.hid (((HB.out.trans ((below1 wr (.cells #[nmv t, .slice bo y.data.length bc, .int .i64 (y.safe : Int)] 43)).mono HB.out.size))).grown hg3 (by simp; omega) (fun j hj => HR.out j hj)); have HR4 := Lib.hid (fun j (hj : v3.ownBlock = some j) => (hl3.elim (fun e => HR.out j (e ▸ hj)) (fun e => by rw [e] at hj; injection hj with hj; subst hj; simp; omega) : w.heap.size ≤ j)); obtain ⟨o3, c3, rfl⟩ := own_slice ho3; clear hfo4 ho3 hg3 hl3)
        go_roundw
        case rel => exact ⟨j + 1, by omega, by go_num, ⟨_, by rw [hd.out]; exact HFO4.out⟩, HB4, HR4⟩
        case measure => simp [intOf]; omega
    · obtain rfl : j = d.f.length := by omega
      rw [List.take_length] at HF
      obtain ⟨us2, hfo⟩ := HF.out
      obtain ⟨oo, oc, rfl⟩ := own_slice hfo.own
      have HFO := Lib.hid hfo
      have hb := (H.out.below HB.out).box
      have fz := (H.out.below HB.out).fz 0
      have HBX := Lib.hid hb
      have hok : Okr { d with f := del d.f s } := ok_del H.out.ok s
      have HOK := Lib.hid hok
      have HLF := Lib.hid H.out.left
      clear hfo hb hok HF
      go_wp2
      go_returns
      have ht : Tn (· = a) wr (wr.setCell ⟨a, 0, none⟩ (.slice oo (fvs (del d.f s)).length oc)) := tn_set (Tn.refl _ _) _
      have h2 : Tn C w (wr.setCell ⟨a, 0, none⟩ (.slice oo (fvs (del d.f s)).length oc)) := (Tn.of_below HB.out).setCell (fun _ => H.out.ca) _
      have h2a : Tn (· = a) w (wr.setCell ⟨a, 0, none⟩ (.slice oo (fvs (del d.f s)).length oc)) := Tn.setCell (S := (· = a)) (Tn.of_below HB.out) (p := ⟨a, 0, none⟩) (fun _ => rfl) _
      have hlt : ∀ j, Gw C w (wr.setCell ⟨a, 0, none⟩ (.slice oo (fvs (del d.f s)).length oc)) j → j < (wr.setCell ⟨a, 0, none⟩ (.slice oo (fvs (del d.f s)).length oc)).heap.size := fun j hj => Gw.size h2.size H.out.lt hj
      refine ⟨rfl, ⟨_, us2, HOK.out, HLF.out, heap_set HBX.out _ rfl, (HFO.out.box HBX.out ht).mono (fun j hj e => ?_), .inl H.out.ca, hlt⟩, h2a⟩
      rcases e with e | e
      · exact .inl e
      · exact .inr ⟨e, hj⟩
theorem rdrop_any (h : RAt C w a d v us) {k : Nat} (hk : k < d.f.length) (hs : d.f[k] = (s, x)) : Calls Tryz.prog 114 #[ptr a, .int .i64 (k : Int)] w fun e w' => e = .returned (.tuple #[]) ∧ RK (Gw C w w') w' a { d with f := del d.f s } ∧ Tn C w w' :=
  (rdrop_a h hk hs).mono fun _ _ k => ⟨k.1, k.2.1, h.tna k.2.2⟩
end
end Go.Proofs.YtkilkhnoldfhcaaGreatDoor
namespace Go.Proofs.YtkilkhnoldfhcaaGreatDoor
open Go.RowKit
section
variable {C D S : Nat → Prop} {w w' : World} {a : Nat} {d : Dk} {v : Value} {us : List (Nm × Value × Int)} {s : Nm} {x : Fi}
set_option maxRecDepth 100000 in
set_option maxHeartbeats 2000000 in
theorem rremove_any (h : RAt C w a d v us) (s : Nm) (hd : d.done < 9223372036854775807) : Calls Tryz.prog 91 #[ptr a, nmv s] w (RWrote C w a (d.remove s)) := by
  have H := Lib.hid h
  have HD := Lib.hid hd
  have c1 := h.c1
  cases hx : get d.f s with
  | none =>
    have HX := Lib.hid hx
    cases ho : d.off with
    | true =>
      have e : d.remove s = (d, 12) := by unfold Dk.remove; rw [if_pos ho]
      rw [e]
      rw [ho] at c1
      clear h hx e ho hd
      go_enter Tryz.func91, Tryz.ntmps91
      go_wp2_with (go_at_call 59; (with_reducible refine (rat_none H.out HX.out).mono ?_); rintro e w' ⟨rfl, rfl⟩)
      go_ret
      exact rwrote_same (r := (d, 12)) H.out (Tn.refl _ _) H.out.lt
    | false =>
      have e : d.remove s = (d, 8) := by unfold Dk.remove; rw [ho, has_get, hx]; rfl
      rw [e]
      rw [ho] at c1
      clear h hx e ho hd
      go_enter Tryz.func91, Tryz.ntmps91
      go_wp2_with (go_at_call 59; (with_reducible refine (rat_none H.out HX.out).mono ?_); rintro e w' ⟨rfl, rfl⟩)
      go_ret
      exact rwrote_same (r := (d, 8)) H.out (Tn.refl _ _) H.out.lt
  | some x =>
    obtain ⟨k, hk, hs, hne⟩ := get_pos h.ok.rising hx
    have HN := Lib.hid hne
    have HS := Lib.hid hs
    have HX := Lib.hid hx
    cases ho : d.off with
    | true =>
      have e : d.remove s = (d, 12) := by unfold Dk.remove; rw [if_pos ho]
      rw [e]
      rw [ho] at c1
      clear h hx e ho hd hs hne
      go_enter Tryz.func91, Tryz.ntmps91
      go_wp2_with (go_at_call 59; (with_reducible refine (rat_some H.out hk HS.out HN.out).mono ?_); rintro e w' ⟨rfl, rfl⟩)
      go_ret
      exact rwrote_same (r := (d, 12)) H.out (Tn.refl _ _) H.out.lt
    | false =>
      rw [ho] at c1
      cases hq : d.spend.2 with
      | false =>
        have e : d.remove s = (d.spend.1, 12) := by unfold Dk.remove; rw [ho, has_get, hx, hq]; rfl
        rw [e]
        have HQ := Lib.hid hq
        clear h ho e hx hq hne hs hd
        go_enter Tryz.func91, Tryz.ntmps91
        go_wp2_with (first
          | (go_at_call 59; (with_reducible refine (rat_some H.out hk HS.out HN.out).mono ?_); rintro e w' ⟨rfl, rfl⟩)
          | (go_at_call 87; (with_reducible refine (falls_any H.out HD.out).mono ?_); rw [HQ.out]; rintro e w1 ⟨rfl, h1, ht⟩; have H1 := Lib.hid h1; have HT := Lib.hid ht; clear h1 ht))
        go_ret
        exact rwrote_same (r := (d.spend.1, 12)) H1.out (H.out.tna HT.out) H.out.lt
      | true =>
        have e : d.remove s = ({ d.spend.1 with f := del d.f s }, 0) := by unfold Dk.remove; rw [ho, has_get, hx, hq]; rfl
        have HQ := Lib.hid hq
        have HE := Lib.hid e
        obtain ⟨hk1, hs1⟩ := at_spend hk hs
        have HS1 := Lib.hid hs1
        clear h ho e hx hq hne hs hs1 hd
        go_enter Tryz.func91, Tryz.ntmps91
        go_wp2_with (first
          | (go_at_call 59; (with_reducible refine (rat_some H.out hk HS.out HN.out).mono ?_); rintro e w' ⟨rfl, rfl⟩)
          | (go_at_call 87; (with_reducible refine (falls_any H.out HD.out).mono ?_); rw [HQ.out]; rintro e w1 ⟨rfl, h1, ht⟩; have H1 := Lib.hid h1; have HT := Lib.hid ht; clear h1 ht)
          | (go_at_call 114; (with_reducible refine (rdrop_any H1.out hk1 HS1.out).mono ?_); rintro e w2 ⟨rfl, h2, ht⟩; have H2 := Lib.hid h2; have HT2 := Lib.hid ht; clear h2 ht))
        go_ret
        have h2 := H2.out
        rw [spend_f] at h2
        have h3 : Tn C w w2 := (H.out.tna HT.out).trans HT2.out (fun _ _ h => h)
        obtain ⟨v2, us2, h4⟩ := h2
        rw [HE.out]
        exact ⟨rfl, ⟨v2, us2, h4.grow (fun j hj => by
          rcases hj with hj | hj
          · exact .inl hj
          · exact .inr ⟨Nat.le_trans HT.out.size hj.1, hj.2⟩) (fun j hj => Gw.size h3.size H.out.lt hj)⟩, h3⟩
end
end Go.Proofs.YtkilkhnoldfhcaaGreatDoor
namespace Go.Proofs.YtkilkhnoldfhcaaGreatDoor
open Go.RowKit
theorem ins_at {α : Type} {s : Nm} {x : α} : ∀ {f : Ent α} {j : Nat}, j ≤ f.length → (∀ i (h : i < f.length), i < j → f[i].1 < s) → (∀ h : j < f.length, ¬ f[j].1 < s) → ins s x f = f.take j ++ (s, x) :: f.drop j
  | [], 0, _, _, _ => rfl
  | p :: r, 0, _, _, hhi => by
    have h0 : ¬ p.1 < s := hhi (by simp)
    show (if p.1 < s then p :: ins s x r else (s, x) :: p :: r) = _
    rw [if_neg h0]
    rfl
  | p :: r, j + 1, hj, hlo, hhi => by
    have h0 : p.1 < s := hlo 0 (by simp) (by omega)
    have ih := ins_at (f := r) (j := j) (s := s) (x := x) (by simpa using hj) (fun i h hij => by have := hlo (i + 1) (by simpa using h) (by omega); simpa using this) (fun h => by have := hhi (by simpa using h); simpa using this)
    show (if p.1 < s then p :: ins s x r else (s, x) :: p :: r) = _
    rw [if_pos h0, ih]
    rfl
theorem cellsF_drop : ∀ (us : List (Nm × Value × Int)) (j : Nat), cellsF (us.drop j) = (cellsF us).drop (j * 3)
  | [], j => by simp [cellsF]
  | p :: us, 0 => rfl
  | p :: us, j + 1 => by
    rw [List.drop_succ_cons, cellsF_drop us j, show (j + 1) * 3 = j * 3 + 3 by omega]
    rfl
theorem cellsF_mem {us : List (Nm × Value × Int)} (h : ∀ u ∈ us, u.2.1.oneCell' = true) : ∀ y ∈ cellsF us, y.oneCell' = true := by
  intro y hy
  unfold cellsF at hy
  rw [List.mem_flatMap] at hy
  obtain ⟨u, hu, hy⟩ := hy
  simp at hy
  rcases hy with rfl | rfl | rfl
  · rfl
  · exact h u hu
  · rfl
theorem run_append_files {w : World} {v : Value} {n : Nat} {us q : List (Nm × Value × Int)} (ty : TypeId) (hown : w.ownsRow 0 43 3 v n (cellsF us)) {xv : Value}
    (hx : (∃ b o cap, xv = .slice (some ⟨b, o, none⟩) q.length cap ∧ ∀ j y, (cellsF q)[j]? = some y → w.cell? ⟨b, o + j, none⟩ = some y) ∨ (xv = .slice none 0 0 ∧ q = [])) (h1 : ∀ u ∈ q, u.2.1.oneCell' = true) (hroom : n + q.length ≤ 1000000) :
    ∃ v' w', (Builtin.append_ #[29, 29] ty #[v, xv]).run Tryz.prog w = .ok v' w' ∧ w'.ownsRow 0 43 3 v' (n + q.length) (cellsF (us ++ q)) ∧ w.grownBy w' v.ownBlock ∧ (v'.ownBlock = v.ownBlock ∨ v'.ownBlock = some w.heap.size) := by
  obtain ⟨i0, hi, hz0, hz1, hz2⟩ := info_parts info43
  rcases hx with ⟨b, o, cap, rfl, hm⟩ | ⟨rfl, rfl⟩
  · obtain ⟨v', w', hr, h2, h3, _, h5⟩ := run_append_own_at (P := Tryz.prog) w 0 29 ty 43 i0 (.agg #[.string ⟨#[]⟩, .slice none 0 0, .int .i64 0]) 3 48 under28 hi hz0 hz1 hz2 rfl (by decide) v n (cellsF us) hown ⟨b, o, none⟩ q.length cap (cellsF q) (cellsF_length q) (fun j y hy => by
      rw [Addr.add_lit]
      exact hm j y hy) (cellsF_mem h1) (by unfold maxLen; omega) (by omega) (Nat.zero_le _)
    exact ⟨v', w', hr, by rw [cellsF_append]; exact h2, h3, h5⟩
  · obtain ⟨ao2, cap2, rfl⟩ := own_slice hown
    refine ⟨_, w, run_append_nothing (P := Tryz.prog) w 29 29 ty 43 i0 under28 hi ao2 n cap2 (own_cap hown) _ (Src.ofNil w under28 0), ?_, ⟨rfl, rfl, rfl, Nat.le_refl _, fun _ _ _ => rfl⟩, .inl rfl⟩
    rw [List.append_nil]; exact hown
theorem wpList_append_files {ops : Array Oper} {rest : List Oper} {o : Oper} {a : Act} {w : World} {Q : Exit → Act → World → Prop} (hw : Region.wanted o (yielded ops a.tmps) = true) (s x : Operand)
    (ho : o.op = .call { callee := .builtin .append, args := #[s, x], argTypes := #[29, 29] })
    {v xv : Value} {n : Nat} {us q : List (Nm × Value × Int)} (hs : a.eval s = v) (hown : w.ownsRow 0 43 3 v n (cellsF us)) (hxv : a.eval x = xv)
    (hx : (∃ b o cap, xv = .slice (some ⟨b, o, none⟩) q.length cap ∧ ∀ j y, (cellsF q)[j]? = some y → w.cell? ⟨b, o + j, none⟩ = some y) ∨ (xv = .slice none 0 0 ∧ q = [])) (h1 : ∀ u ∈ q, u.2.1.oneCell' = true) (hroom : n + q.length ≤ 1000000)
    (h : ∀ v' w', w'.ownsRow 0 43 3 v' (n + q.length) (cellsF (us ++ q)) → w.grownBy w' v.ownBlock → (v'.ownBlock = v.ownBlock ∨ v'.ownBlock = some w.heap.size) → wpList Tryz.prog ops Q rest (a.put o.dst v') w') : wpList Tryz.prog ops Q (o :: rest) a w := by
  obtain ⟨v', w', hr, h2, h3, h4⟩ := run_append_files o.type hown hx h1 hroom
  refine wpList_step fun K hK => ?_
  rw [if_pos hw]
  unfold Oper.wp execOp
  simp only [ho, resolve, invoke, builtin, Sem.run_bind, Sem.run_pure, Result.andThen_ok, List.map_toArray, List.map_cons, List.map_nil, hs, hxv, hr]
  exact hK _ _ (h v' w' h2 h3 h4)
theorem FO.concat {C : Nat → Prop} {w2 w3 : World} {v v3 : Value} {us q : List (Nm × Value × Int)} {l m : List FV} (h : FO C w2 v us l) (hg : w2.grownBy w3 v.ownBlock) (ho : w3.ownsRow 0 43 3 v3 (l.length + m.length) (cellsF (us ++ q)))
    (hl : v3.ownBlock = v.ownBlock ∨ v3.ownBlock = some w2.heap.size) (hlen : q.length = m.length) (hC : C w2.heap.size)
    (hq : ∀ i (h1 : i < q.length) (h2 : i < m.length), q[i].1 = m[i].name ∧ q[i].2.2 = m[i].safe ∧ w2.ownsRow 0 5 1 q[i].2.1 m[i].data.length (bys m[i].data) ∧ ∀ k, q[i].2.1.ownBlock = some k → C k) : FO C w3 v3 (us ++ q) (l ++ m) := by
  have hk : ∀ {n : Nat} {t : Value} {xs : List Value}, w2.ownsRow 0 5 1 t n xs → w3.ownsRow 0 5 1 t n xs := fun {n t xs} ht => ht.kept hg (by
    cases e : t.ownBlock with
    | none => exact .inl rfl
    | some j => exact .inr (fun e2 => own_apart ht h.own (by decide) j e e2.symm))
  have hll := h.len
  refine ⟨by rw [List.length_append]; exact ho, by rw [List.length_append, List.length_append, h.len, hlen], fun i h1 h2 => ?_, fun k hk => ?_, fun i h1 k hk => ?_⟩
  · by_cases hi : i < us.length
    · rw [List.getElem_append_left hi, List.getElem_append_left (by rw [← h.len]; exact hi)]
      obtain ⟨e1, e2, e3⟩ := h.at_ i hi (by rw [← h.len]; exact hi)
      exact ⟨e1, e2, hk e3⟩
    · rw [List.length_append] at h1 h2
      rw [List.getElem_append_right (by omega), List.getElem_append_right (by omega)]
      obtain ⟨e1, e2, e3, _⟩ := hq (i - us.length) (by omega) (by omega)
      simp only [← hll]
      exact ⟨e1, e2, hk e3⟩
  · rcases hl with e | e
    · exact h.row k (e ▸ hk)
    · rw [e] at hk; cases hk; exact hC
  · by_cases hi : i < us.length
    · rw [List.getElem_append_left hi] at hk
      exact h.rows i hi k hk
    · rw [List.length_append] at h1
      rw [List.getElem_append_right (by omega)] at hk
      exact (hq (i - us.length) (by omega) (by omega)).2.2.2 k hk
end Go.Proofs.YtkilkhnoldfhcaaGreatDoor
namespace Go.Proofs.YtkilkhnoldfhcaaGreatDoor
open Go.RowKit
section
variable {C D S : Nat → Prop} {w w' : World} {a : Nat} {d : Dk} {v : Value} {us : List (Nm × Value × Int)} {s : Nm} {x : Fi}
theorem put_fvs {f : Ent Fi} {j : Nat} (hn : get f s = none) (hj : j ≤ f.length) (hlo : ∀ i (h : i < f.length), i < j → f[i].1 < s) (hhi : ∀ h : j < f.length, ¬ f[j].1 < s) : fvs (put f s x) = (fvs (f.take j) ++ [⟨s, x.data, (x.safe : Int)⟩]) ++ fvs (f.drop j) := by
  unfold put
  rw [del_of_none hn, ins_at hj hlo hhi, fvs_append, List.append_assoc]
  rfl
theorem RAt.ones (h : RAt C w a d v us) : ∀ u ∈ us, u.2.1.oneCell' = true := by
  intro u hu
  obtain ⟨i, hi, rfl⟩ := List.getElem_of_mem hu
  obtain ⟨_, _, e⟩ := h.fo.at_ i hi (by rw [← h.fo.len]; exact hi)
  obtain ⟨ao, cap, e2⟩ := own_slice e
  rw [e2]
  rfl
theorem RAt.news {g cap : Nat} (h : RAt C w a d (.slice (some ⟨g, 0, none⟩) (fvs d.f).length cap) us) (j : Nat) : ∀ i y, (cellsF (us.drop j))[i]? = some y → w.cell? ⟨g, j * 3 + i, none⟩ = some y := by
  intro i y hy
  rw [cellsF_drop, List.getElem?_drop] at hy
  have hi := (List.getElem?_eq_some_iff.1 hy).1
  rw [cellsF_length, h.fo.len] at hi
  have h9 := h.fo.own.cellAt (j * 3 + i) hi
  rw [h9]
  exact hy
theorem RAt.rest {E : Nat → Prop} (h : RAt C w a d v us) (hE : ∀ k, C k → E k) (j : Nat) : ∀ i (h1 : i < (us.drop j).length) (h2 : i < (fvs (d.f.drop j)).length), (us.drop j)[i].1 = (fvs (d.f.drop j))[i].name ∧ (us.drop j)[i].2.2 = (fvs (d.f.drop j))[i].safe ∧ w.ownsRow 0 5 1 (us.drop j)[i].2.1 (fvs (d.f.drop j))[i].data.length (bys (fvs (d.f.drop j))[i].data) ∧ ∀ k, (us.drop j)[i].2.1.ownBlock = some k → E k := by
  intro i h1 h2
  have h1' : j + i < us.length := by rw [List.length_drop] at h1; omega
  have h2' : j + i < (fvs d.f).length := by rw [← h.fo.len]; exact h1'
  have e : (fvs (d.f.drop j))[i] = (fvs d.f)[j + i] := by
    have e0 : fvs (d.f.drop j) = (fvs d.f).drop j := List.map_drop ..
    simp only [e0, List.getElem_drop]
  rw [e, List.getElem_drop]
  obtain ⟨a1, a2, a3⟩ := h.fo.at_ (j + i) h1' h2'
  exact ⟨a1, a2, a3, fun k hk => hE k (h.fo.rows (j + i) h1' k hk)⟩
set_option maxRecDepth 100000 in
set_option maxHeartbeats 4000000 in
theorem rput_any {u : Value} (h : RAt C w a d v us) (hn : get d.f s = none) (hu : w.ownsRow 0 5 1 u x.data.length (bys x.data)) (hok : Okr { d with f := put d.f s x }) :
    Calls Tryz.prog 60 #[ptr a, .agg #[nmv s, u, .int .i64 (x.safe : Int)]] w fun e w' => e = .returned (.tuple #[]) ∧ RK (Gw (fun k => C k ∨ u.ownBlock = some k) w w') w' a { d with f := put d.f s x } ∧ Tn C w w' := by
  have H := Lib.hid h
  have hfew := h.ok.few
  have HN := Lib.hid hn
  have HU := Lib.hid hu
  have HOK := Lib.hid hok
  obtain ⟨uo, uc, rfl⟩ := own_slice hu
  obtain ⟨fo, fc, rfl⟩ := own_slice h.fo.own
  have hfl := fvs_length d.f
  have hwa : a < w.heap.size := h.lt a h.ca
  clear h hn hu hok
  go_enter Tryz.func60, Tryz.ntmps60
  go_wp2
  have HB0 := Lib.hid (below1 w (.cells #[nmv s, .slice uo x.data.length uc, .int .i64 (x.safe : Int)] 43))
  have HX0 := Lib.hid (heap_alloc_new w (.cells #[nmv s, .slice uo x.data.length uc, .int .i64 (x.safe : Int)] 43))
  have hz : (w.alloc (.cells #[nmv s, .slice uo x.data.length uc, .int .i64 (x.safe : Int)] 43)).heap.size = w.heap.size + 1 := by simp
  have HZ := Lib.hid hz
  clear hz
  generalize w.alloc (.cells #[nmv s, .slice uo x.data.length uc, .int .i64 (x.safe : Int)] 43) = wB at *
  go_loopw [4, 5] (fun o i wr => ∃ j : Nat, j ≤ d.f.length ∧ i = .int .i64 j ∧ Hid (∀ i (h : i < d.f.length), i < j → d.f[i].1 < s) ∧ Hid (∃ us2, FO (fun k => C k ∨ w.heap.size ≤ k) wr o us2 (fvs (d.f.take j))) ∧ Hid (Below wB.heap.size wB wr) ∧ Hid (∀ k, o.ownBlock = some k → wB.heap.size ≤ k)) (fun _ i _ => d.f.length - (intOf i).toNat)
  case atStart => exact ⟨0, Nat.zero_le _, rfl, fun _ _ h => absurd h (Nat.not_lt_zero _), ⟨[], FO.nil _ _⟩, Below.refl _ _, fun _ hk => (nomatch hk)⟩
  case round =>
    obtain ⟨j, hj, rfl, HLO, HF, HB, HR⟩ := hrel
    have HBW := Lib.hid (HB0.out.trans (HB.out.mono HB0.out.size))
    have c0 := (H.out.below HBW.out).c0
    rw [hfl] at c0
    have b0 : wr.cell? ⟨w.heap.size, 0, none⟩ = some (nmv s) := by
      have h1 := HB.out.block w.heap.size (by have := HZ.out; omega)
      rw [HX0.out] at h1
      simp [World.cell?, h1]
    by_cases hjl : j < d.f.length
    · obtain ⟨⟨t, y⟩, hty⟩ : ∃ p, d.f[j] = p := ⟨_, rfl⟩
      obtain ⟨g, cap, bo, bc, hv, g0, g1, g2, hu, hCu⟩ := (H.out.below HBW.out).elem hjl hty
      injection hv with e1 e2 e3
      subst e1; subst e3
      have hji : (j : Int) < ((fvs d.f).length : Int) := by omega
      by_cases hlt : t < s
      · have hbl : Op.bytesLess t s = true := by rw [less_eq]; exact decide_eq_true hlt
        go_wp2
        go_big_quiet (fail)
        have HB2 := Lib.hid (HB.out.trans ((below_drewN wr nq).mono HB.out.size))
        obtain ⟨us2, hfo⟩ := HF.out
        have hfo2 := hfo.below (below_drewN wr nq)
        generalize wr.drewN nq = wz at *
        have HBW2 := Lib.hid (HB0.out.trans (HB2.out.mono HB0.out.size))
        clear c0 b0 g0 g1 g2 hu hCu hbl hfo e2
        have c0 := (H.out.below HBW2.out).c0
        rw [hfl] at c0
        obtain ⟨g', cap', bo, bc, hv, g0, g1, g2, hu, hCu⟩ := (H.out.below HBW2.out).elem hjl hty
        injection hv with e1 e2 e3
        injection e1 with e1
        injection e1 with e1
        subst e1; subst e3
        have HD : Hid (fvs (d.f.take (j + 1)) = fvs (d.f.take j) ++ [⟨t, y.data, (y.safe : Int)⟩]) := fvs_snoc hjl hty
        have HL2 : Hid (∀ i (h : i < d.f.length), i < j + 1 → d.f[i].1 < s) := fun i h hij => by
          by_cases e : i = j
          · subst e; rw [hty]; exact hlt
          · exact HLO.out i h (by omega)
        have hL : (fvs (d.f.take j)).length ≤ 1000000 := by rw [fvs_length, List.length_take]; omega
        generalize fvs (d.f.take j) = L2 at *
        obtain ⟨oo, oc, rfl⟩ := own_slice hfo2.own
        have HFO := Lib.hid hfo2
        have HUJ := Lib.hid hu
        have HCU := Lib.hid hCu
        have hsz := HBW2.out.size
        have hszB := HB2.out.size
        clear hfo2 hu hCu hty hlt HF e2
        go_wp2_with (at_builtin; refine wpList_append_file (wanted_none rfl _) (.tmp 26) (.tmp 34) rfl rfl (u := (t, .slice bo y.data.length bc, (y.safe : Int))) (HFO.out.below (below1 wz _)).own rfl (heap_alloc_new wz _) rfl hL ?_; intro v3 w3 ho3 hg3 hl3; have hfo4 := (HFO.out.below (below1 wz _)).snoc (q := ⟨t, y.data, (y.safe : Int)⟩) (u := .slice bo y.data.length bc) hg3 ho3 hl3 (own_below HUJ.out (below1 wz _)) (fun j hj => .inl (HCU.out j hj)) (.inr (by simp; omega)); have HFO4 := Lib.hid hfo4; have HB4 := Lib.hid (((HB2.out.trans ((below1 wz (.cells #[nmv t, .slice bo y.data.length bc, .int .i64 (y.safe : Int)] 43)).mono HB2.out.size))).grown hg3 (by simp; omega) (fun j hj => HR.out j hj)); have HR4 := Lib.hid (fun j (hj : v3.ownBlock = some j) => (hl3.elim (fun e => HR.out j (e ▸ hj)) (fun e => by rw [e] at hj; injection hj with hj; subst hj; simp; omega) : wB.heap.size ≤ j)); obtain ⟨o3, c3, rfl⟩ := own_slice ho3; clear hfo4 ho3 hg3 hl3)
        go_roundw
        case rel => exact ⟨j + 1, by omega, by go_num, HL2, ⟨_, by rw [HD.out]; exact HFO4.out⟩, HB4, HR4⟩
        case measure => simp [intOf]; omega
      · have hcap := own_cap H.out.fo.own
        have hfcj : ¬ fc = j := by omega
        have hfcj2 : ¬ j = fc := by omega
        have hbl : Op.bytesLess t s = false := by rw [less_eq]; exact decide_eq_false hlt
        have HHI : Hid (∀ h : j < d.f.length, ¬ d.f[j].1 < s) := fun h => by rw [hty]; exact hlt
        go_wp2
        go_big_quiet (fail)
        have HB2 := Lib.hid (HB.out.trans ((below_drewN wr nq).mono HB.out.size))
        have HBW2 := Lib.hid (HB0.out.trans (HB2.out.mono HB0.out.size))
        obtain ⟨us2, hfo⟩ := HF.out
        have hfo2 := (hfo.below (below_drewN wr nq)).mono (D := fun k => (C k ∨ (Value.slice uo x.data.length uc).ownBlock = some k) ∨ w.heap.size ≤ k) (fun k _ e => e.elim (fun e => .inl (.inl e)) .inr)
        generalize wr.drewN nq = wz at *
        clear c0 b0 g0 g1 g2 hu hCu hbl hty hlt e2
        have hxb := HB2.out.block w.heap.size (by have := HZ.out; omega)
        rw [HX0.out] at hxb
        have b0 : wz.cell? ⟨w.heap.size, 0, none⟩ = some (nmv s) := by simp [World.cell?, hxb]
        have b1 : wz.cell? ⟨w.heap.size, 1, none⟩ = some (.slice uo x.data.length uc) := by simp [World.cell?, hxb]
        have b2 : wz.cell? ⟨w.heap.size, 2, none⟩ = some (.int .i64 (x.safe : Int)) := by simp [World.cell?, hxb]
        clear hxb
        have hL : (fvs (d.f.take j)).length ≤ 1000 := by rw [fvs_length, List.length_take]; omega
        have hL1 : (fvs (d.f.take j)).length ≤ 1000000 := by omega
        have hql : (us.drop j).length = d.f.length - j := by rw [List.length_drop, H.out.fo.len, hfl]
        have hroom : ((fvs (d.f.take j)) ++ [(⟨s, x.data, (x.safe : Int)⟩ : FV)]).length + (us.drop j).length ≤ 1000000 := by rw [List.length_append, hql]; show _ + 1 + _ ≤ _; omega
        have HINS : Hid (fvs (put d.f s x) = (fvs (d.f.take j) ++ [⟨s, x.data, (x.safe : Int)⟩]) ++ fvs (d.f.drop j)) := put_fvs HN.out (by omega) HLO.out HHI.out
        generalize hLL : fvs (d.f.take j) = L2 at *
        clear hLL
        obtain ⟨oo, oc, rfl⟩ := own_slice hfo2.own
        have HFO := Lib.hid hfo2
        have HONE : Hid (∀ u ∈ us.drop j, u.2.1.oneCell' = true) := fun u hu => H.out.ones u (List.mem_of_mem_drop hu)
        have hsz := HBW2.out.size
        have hszB := HB2.out.size
        clear hfo2 hfo HF
        go_wp2_with (first
          | (at_builtin; refine wpList_append_file (wanted_none rfl _) (.tmp 38) (.tmp 40) rfl rfl (u := (s, .slice uo x.data.length uc, (x.safe : Int))) (HFO.out.below (below1 wz _)).own rfl (heap_alloc_new wz _) rfl hL1 ?_; intro v3 w3 ho3 hg3 hl3; have hfo4 := (HFO.out.below (below1 wz _)).snoc (q := ⟨s, x.data, (x.safe : Int)⟩) (u := .slice uo x.data.length uc) hg3 ho3 hl3 (own_below (own_below HU.out HBW2.out) (below1 wz _)) (fun j hj => .inl (.inr hj)) (.inr (by simp; omega)); have HFO4 := Lib.hid hfo4; have HB4 := Lib.hid (((HBW2.out.trans ((below1 wz (.cells #[nmv s, .slice uo x.data.length uc, .int .i64 (x.safe : Int)] 43)).mono HBW2.out.size))).grown hg3 (by simp; omega) (fun j hj => Nat.le_trans HB0.out.size (HR.out j hj))); have HR4 := Lib.hid (fun j (hj : v3.ownBlock = some j) => (hl3.elim (fun e => Nat.le_trans HB0.out.size (HR.out j (e ▸ hj))) (fun e => by rw [e] at hj; injection hj with hj; subst hj; simp; omega) : w.heap.size ≤ j)); have c0 := (H.out.below HB4.out).c0; rw [hfl] at c0; have hsz4 := HB4.out.size; obtain ⟨o3, c3, rfl⟩ := own_slice ho3; clear hfo4 ho3 hg3 hl3)
          | ((at_builtin; refine wpList_append_files (q := us.drop j) (xv := .slice (some ⟨g, j * 3, none⟩) (d.f.length - j) (fc - j)) (wanted_none rfl _) (.tmp 43) (.tmp 49) rfl rfl HFO4.out.own rfl (.inl ⟨g, j * 3, fc - j, by rw [hql], (H.out.below HB4.out).news j⟩) HONE.out hroom ?_; intro v5 w5 ho5 hg5 hl5; have hfo6 := HFO4.out.concat (m := fvs (d.f.drop j)) hg5 (by rw [fvs_length, List.length_drop, ← hql]; exact ho5) hl5 (by rw [hql, fvs_length, List.length_drop]) (.inr hsz4) ((H.out.below HB4.out).rest (fun k hk => .inl (.inl hk)) j); have HFO6 := Lib.hid hfo6; have HB6 := Lib.hid (HB4.out.grown hg5 (by exact hsz4) (fun j hj => HR4.out j hj)); have fz := (H.out.below HB6.out).fz 0; have c05 := (H.out.below HB6.out).c0; obtain ⟨o5, c5, rfl⟩ := own_slice hfo6.own; clear hfo6 ho5 hg5 hl5)))
        go_returns
        have hbx := (H.out.below HB6.out).box
        have ht : ∀ u, Tn (· = a) w5 (w5.setCell ⟨a, 0, none⟩ u) := fun u => tn_set (Tn.refl _ _) u
        have h2 : ∀ u, Tn C w (w5.setCell ⟨a, 0, none⟩ u) := fun u => (Tn.of_below HB6.out).setCell (fun _ => H.out.ca) u
        have hul := fun k (e : (Value.slice uo x.data.length uc).ownBlock = some k) => (HU.out.lt k e).2
        have hlen : ((L2 ++ [(⟨s, x.data, (x.safe : Int)⟩ : FV)]) ++ fvs (d.f.drop j)).length = L2.length + ((fvs (d.f.drop j)).length + 1) := by simp
        have h6 := HFO6.out
        rw [hlen, ← HINS.out] at h6
        have h7 := (h6.box hbx (ht (.slice o5 (L2.length + ((fvs (d.f.drop j)).length + 1)) c5))).mono (D := Gw (fun k => C k ∨ (Value.slice uo x.data.length uc).ownBlock = some k) w (w5.setCell ⟨a, 0, none⟩ (.slice o5 (L2.length + ((fvs (d.f.drop j)).length + 1)) c5))) (fun j hj e => e.elim .inl fun e => .inr ⟨e, hj⟩)
        exact ⟨rfl, ⟨_, _, HOK.out, H.out.left, heap_set hbx _ rfl, h7, .inl (.inl H.out.ca), fun j hj => Gw.size (h2 _).size (fun k hk => hk.elim (H.out.lt k) (hul k)) hj⟩, h2 _⟩
    · have hje : j = d.f.length := by omega
      have HHI : Hid (∀ h : j < d.f.length, ¬ d.f[j].1 < s) := fun h => absurd h hjl
      have hji : decide ((j : Int) < (d.f.length : Int)) = false := decide_eq_false (by omega)
      have hqn : us.drop j = [] := List.drop_eq_nil_of_le (by rw [H.out.fo.len, hfl]; omega)
      have HQN := Lib.hid hqn
      have HJE := Lib.hid hje
      clear hje
      have hcap := own_cap H.out.fo.own
      rcases H.out.fo.own.2 with ⟨e, _⟩ | ⟨g, c, cur, e, _⟩
      · injection e with e1 e2 e3
        subst e1; subst e3
        have hl0 : d.f.length = 0 := by omega
        have hj0 : j = 0 := by omega
        clear hqn
        go_wp2
        go_big_quiet (fail)
        have HB2 := Lib.hid (HB.out.trans ((below_drewN wr nq).mono HB.out.size))
        have HBW2 := Lib.hid (HB0.out.trans (HB2.out.mono HB0.out.size))
        obtain ⟨us2, hfo⟩ := HF.out
        have hfo2 := (hfo.below (below_drewN wr nq)).mono (D := fun k => (C k ∨ (Value.slice uo x.data.length uc).ownBlock = some k) ∨ w.heap.size ≤ k) (fun k _ e => e.elim (fun e => .inl (.inl e)) .inr)
        generalize wr.drewN nq = wz at *
        clear c0 b0
        have hxb := HB2.out.block w.heap.size (by have := HZ.out; omega)
        rw [HX0.out] at hxb
        have b0 : wz.cell? ⟨w.heap.size, 0, none⟩ = some (nmv s) := by simp [World.cell?, hxb]
        have b1 : wz.cell? ⟨w.heap.size, 1, none⟩ = some (.slice uo x.data.length uc) := by simp [World.cell?, hxb]
        have b2 : wz.cell? ⟨w.heap.size, 2, none⟩ = some (.int .i64 (x.safe : Int)) := by simp [World.cell?, hxb]
        clear hxb
        have hL : (fvs (d.f.take j)).length ≤ 1000 := by rw [fvs_length, List.length_take]; omega
        have hL1 : (fvs (d.f.take j)).length ≤ 1000000 := by omega
        have hql : (us.drop j).length = d.f.length - j := by rw [List.length_drop, H.out.fo.len, hfl]
        have hroom : ((fvs (d.f.take j)) ++ [(⟨s, x.data, (x.safe : Int)⟩ : FV)]).length + (us.drop j).length ≤ 1000000 := by rw [List.length_append, hql]; show _ + 1 + _ ≤ _; omega
        have HINS : Hid (fvs (put d.f s x) = (fvs (d.f.take j) ++ [⟨s, x.data, (x.safe : Int)⟩]) ++ fvs (d.f.drop j)) := put_fvs HN.out (by omega) HLO.out HHI.out
        generalize hLL : fvs (d.f.take j) = L2 at *
        clear hLL
        obtain ⟨oo, oc, rfl⟩ := own_slice hfo2.own
        have HFO := Lib.hid hfo2
        have HONE : Hid (∀ u ∈ us.drop j, u.2.1.oneCell' = true) := fun u hu => H.out.ones u (List.mem_of_mem_drop hu)
        have hsz := HBW2.out.size
        have hszB := HB2.out.size
        clear hfo2 hfo HF
        go_wp2_with (first
          | (at_builtin; refine wpList_append_file (wanted_none rfl _) (.tmp 38) (.tmp 40) rfl rfl (u := (s, .slice uo x.data.length uc, (x.safe : Int))) (HFO.out.below (below1 wz _)).own rfl (heap_alloc_new wz _) rfl hL1 ?_; intro v3 w3 ho3 hg3 hl3; have hfo4 := (HFO.out.below (below1 wz _)).snoc (q := ⟨s, x.data, (x.safe : Int)⟩) (u := .slice uo x.data.length uc) hg3 ho3 hl3 (own_below (own_below HU.out HBW2.out) (below1 wz _)) (fun j hj => .inl (.inr hj)) (.inr (by simp; omega)); have HFO4 := Lib.hid hfo4; have HB4 := Lib.hid (((HBW2.out.trans ((below1 wz (.cells #[nmv s, .slice uo x.data.length uc, .int .i64 (x.safe : Int)] 43)).mono HBW2.out.size))).grown hg3 (by simp; omega) (fun j hj => Nat.le_trans HB0.out.size (HR.out j hj))); have HR4 := Lib.hid (fun j (hj : v3.ownBlock = some j) => (hl3.elim (fun e => Nat.le_trans HB0.out.size (HR.out j (e ▸ hj))) (fun e => by rw [e] at hj; injection hj with hj; subst hj; simp; omega) : w.heap.size ≤ j)); have c0 := (H.out.below HB4.out).c0; rw [hfl] at c0; have hsz4 := HB4.out.size; obtain ⟨o3, c3, rfl⟩ := own_slice ho3; clear hfo4 ho3 hg3 hl3)
          | ((at_builtin; refine wpList_append_files (q := us.drop j) (xv := .slice none 0 0) (wanted_none rfl _) (.tmp 43) (.tmp 49) rfl rfl HFO4.out.own rfl (.inr ⟨rfl, HQN.out⟩) HONE.out hroom ?_; intro v5 w5 ho5 hg5 hl5; have hfo6 := HFO4.out.concat (m := fvs (d.f.drop j)) hg5 (by rw [fvs_length, List.length_drop, ← hql]; exact ho5) hl5 (by rw [hql, fvs_length, List.length_drop]) (.inr hsz4) ((H.out.below HB4.out).rest (fun k hk => .inl (.inl hk)) j); have HFO6 := Lib.hid hfo6; have HB6 := Lib.hid (HB4.out.grown hg5 (by exact hsz4) (fun j hj => HR4.out j hj)); have fz := (H.out.below HB6.out).fz 0; have c05 := (H.out.below HB6.out).c0; obtain ⟨o5, c5, rfl⟩ := own_slice hfo6.own; clear hfo6 ho5 hg5 hl5)))
        go_returns
        have hbx := (H.out.below HB6.out).box
        have ht : ∀ u, Tn (· = a) w5 (w5.setCell ⟨a, 0, none⟩ u) := fun u => tn_set (Tn.refl _ _) u
        have h2 : ∀ u, Tn C w (w5.setCell ⟨a, 0, none⟩ u) := fun u => (Tn.of_below HB6.out).setCell (fun _ => H.out.ca) u
        have hul := fun k (e : (Value.slice uo x.data.length uc).ownBlock = some k) => (HU.out.lt k e).2
        have hlen : ((L2 ++ [(⟨s, x.data, (x.safe : Int)⟩ : FV)]) ++ fvs (d.f.drop j)).length = L2.length + 1 := by rw [List.length_append, List.length_append, fvs_length, List.length_drop]; show _ + 1 + _ = _; omega
        have h6 := HFO6.out
        rw [hlen, ← HINS.out] at h6
        have h7 := (h6.box hbx (ht (.slice o5 (L2.length + 1) c5))).mono (D := Gw (fun k => C k ∨ (Value.slice uo x.data.length uc).ownBlock = some k) w (w5.setCell ⟨a, 0, none⟩ (.slice o5 (L2.length + 1) c5))) (fun j hj e => e.elim .inl fun e => .inr ⟨e, hj⟩)
        exact ⟨rfl, ⟨_, _, HOK.out, H.out.left, heap_set hbx _ rfl, h7, .inl (.inl H.out.ca), fun j hj => Gw.size (h2 _).size (fun k hk => hk.elim (H.out.lt k) (hul k)) hj⟩, h2 _⟩
      · injection e with e1 e2 e3
        subst e1; subst e3
        by_cases hfcj : fc = j
        · clear hqn
          go_wp2
          go_big_quiet (fail)
          have HB2 := Lib.hid (HB.out.trans ((below_drewN wr nq).mono HB.out.size))
          have HBW2 := Lib.hid (HB0.out.trans (HB2.out.mono HB0.out.size))
          obtain ⟨us2, hfo⟩ := HF.out
          have hfo2 := (hfo.below (below_drewN wr nq)).mono (D := fun k => (C k ∨ (Value.slice uo x.data.length uc).ownBlock = some k) ∨ w.heap.size ≤ k) (fun k _ e => e.elim (fun e => .inl (.inl e)) .inr)
          generalize wr.drewN nq = wz at *
          clear c0 b0
          have hxb := HB2.out.block w.heap.size (by have := HZ.out; omega)
          rw [HX0.out] at hxb
          have b0 : wz.cell? ⟨w.heap.size, 0, none⟩ = some (nmv s) := by simp [World.cell?, hxb]
          have b1 : wz.cell? ⟨w.heap.size, 1, none⟩ = some (.slice uo x.data.length uc) := by simp [World.cell?, hxb]
          have b2 : wz.cell? ⟨w.heap.size, 2, none⟩ = some (.int .i64 (x.safe : Int)) := by simp [World.cell?, hxb]
          clear hxb
          have hL : (fvs (d.f.take j)).length ≤ 1000 := by rw [fvs_length, List.length_take]; omega
          have hL1 : (fvs (d.f.take j)).length ≤ 1000000 := by omega
          have hql : (us.drop j).length = d.f.length - j := by rw [List.length_drop, H.out.fo.len, hfl]
          have hroom : ((fvs (d.f.take j)) ++ [(⟨s, x.data, (x.safe : Int)⟩ : FV)]).length + (us.drop j).length ≤ 1000000 := by rw [List.length_append, hql]; show _ + 1 + _ ≤ _; omega
          have HINS : Hid (fvs (put d.f s x) = (fvs (d.f.take j) ++ [⟨s, x.data, (x.safe : Int)⟩]) ++ fvs (d.f.drop j)) := put_fvs HN.out (by omega) HLO.out HHI.out
          generalize hLL : fvs (d.f.take j) = L2 at *
          clear hLL
          obtain ⟨oo, oc, rfl⟩ := own_slice hfo2.own
          have HFO := Lib.hid hfo2
          have HONE : Hid (∀ u ∈ us.drop j, u.2.1.oneCell' = true) := fun u hu => H.out.ones u (List.mem_of_mem_drop hu)
          have hsz := HBW2.out.size
          have hszB := HB2.out.size
          clear hfo2 hfo HF
          go_wp2_with (first
            | (at_builtin; refine wpList_append_file (wanted_none rfl _) (.tmp 38) (.tmp 40) rfl rfl (u := (s, .slice uo x.data.length uc, (x.safe : Int))) (HFO.out.below (below1 wz _)).own rfl (heap_alloc_new wz _) rfl hL1 ?_; intro v3 w3 ho3 hg3 hl3; have hfo4 := (HFO.out.below (below1 wz _)).snoc (q := ⟨s, x.data, (x.safe : Int)⟩) (u := .slice uo x.data.length uc) hg3 ho3 hl3 (own_below (own_below HU.out HBW2.out) (below1 wz _)) (fun j hj => .inl (.inr hj)) (.inr (by simp; omega)); have HFO4 := Lib.hid hfo4; have HB4 := Lib.hid (((HBW2.out.trans ((below1 wz (.cells #[nmv s, .slice uo x.data.length uc, .int .i64 (x.safe : Int)] 43)).mono HBW2.out.size))).grown hg3 (by simp; omega) (fun j hj => Nat.le_trans HB0.out.size (HR.out j hj))); have HR4 := Lib.hid (fun j (hj : v3.ownBlock = some j) => (hl3.elim (fun e => Nat.le_trans HB0.out.size (HR.out j (e ▸ hj))) (fun e => by rw [e] at hj; injection hj with hj; subst hj; simp; omega) : w.heap.size ≤ j)); have c0 := (H.out.below HB4.out).c0; rw [hfl] at c0; have hsz4 := HB4.out.size; obtain ⟨o3, c3, rfl⟩ := own_slice ho3; clear hfo4 ho3 hg3 hl3)
            | ((at_builtin; refine wpList_append_files (q := us.drop j) (xv := .slice (some ⟨g, 0, none⟩) (d.f.length - j) 0) (wanted_none rfl _) (.tmp 43) (.tmp 49) rfl rfl HFO4.out.own rfl (.inl ⟨g, 0, 0, by rw [hql], fun i y hy => by rw [HQN.out] at hy; simp [cellsF] at hy⟩) HONE.out hroom ?_; intro v5 w5 ho5 hg5 hl5; have hfo6 := HFO4.out.concat (m := fvs (d.f.drop j)) hg5 (by rw [fvs_length, List.length_drop, ← hql]; exact ho5) hl5 (by rw [hql, fvs_length, List.length_drop]) (.inr hsz4) ((H.out.below HB4.out).rest (fun k hk => .inl (.inl hk)) j); have HFO6 := Lib.hid hfo6; have HB6 := Lib.hid (HB4.out.grown hg5 (by exact hsz4) (fun j hj => HR4.out j hj)); have fz := (H.out.below HB6.out).fz 0; have c05 := (H.out.below HB6.out).c0; obtain ⟨o5, c5, rfl⟩ := own_slice hfo6.own; clear hfo6 ho5 hg5 hl5)))
          go_returns
          have hbx := (H.out.below HB6.out).box
          have ht : ∀ u, Tn (· = a) w5 (w5.setCell ⟨a, 0, none⟩ u) := fun u => tn_set (Tn.refl _ _) u
          have h2 : ∀ u, Tn C w (w5.setCell ⟨a, 0, none⟩ u) := fun u => (Tn.of_below HB6.out).setCell (fun _ => H.out.ca) u
          have hul := fun k (e : (Value.slice uo x.data.length uc).ownBlock = some k) => (HU.out.lt k e).2
          have hlen : ((L2 ++ [(⟨s, x.data, (x.safe : Int)⟩ : FV)]) ++ fvs (d.f.drop j)).length = L2.length + ((fvs (d.f.drop j)).length + 1) := by simp
          have h6 := HFO6.out
          rw [hlen, ← HINS.out] at h6
          have h7 := (h6.box hbx (ht (.slice o5 (L2.length + ((fvs (d.f.drop j)).length + 1)) c5))).mono (D := Gw (fun k => C k ∨ (Value.slice uo x.data.length uc).ownBlock = some k) w (w5.setCell ⟨a, 0, none⟩ (.slice o5 (L2.length + ((fvs (d.f.drop j)).length + 1)) c5))) (fun j hj e => e.elim .inl fun e => .inr ⟨e, hj⟩)
          exact ⟨rfl, ⟨_, _, HOK.out, H.out.left, heap_set hbx _ rfl, h7, .inl (.inl H.out.ca), fun j hj => Gw.size (h2 _).size (fun k hk => hk.elim (H.out.lt k) (hul k)) hj⟩, h2 _⟩
        · have hfcj2 : ¬ j = fc := fun e => hfcj e.symm
          clear hqn
          go_wp2
          go_big_quiet (fail)
          have HB2 := Lib.hid (HB.out.trans ((below_drewN wr nq).mono HB.out.size))
          have HBW2 := Lib.hid (HB0.out.trans (HB2.out.mono HB0.out.size))
          obtain ⟨us2, hfo⟩ := HF.out
          have hfo2 := (hfo.below (below_drewN wr nq)).mono (D := fun k => (C k ∨ (Value.slice uo x.data.length uc).ownBlock = some k) ∨ w.heap.size ≤ k) (fun k _ e => e.elim (fun e => .inl (.inl e)) .inr)
          generalize wr.drewN nq = wz at *
          clear c0 b0
          have hxb := HB2.out.block w.heap.size (by have := HZ.out; omega)
          rw [HX0.out] at hxb
          have b0 : wz.cell? ⟨w.heap.size, 0, none⟩ = some (nmv s) := by simp [World.cell?, hxb]
          have b1 : wz.cell? ⟨w.heap.size, 1, none⟩ = some (.slice uo x.data.length uc) := by simp [World.cell?, hxb]
          have b2 : wz.cell? ⟨w.heap.size, 2, none⟩ = some (.int .i64 (x.safe : Int)) := by simp [World.cell?, hxb]
          clear hxb
          have hL : (fvs (d.f.take j)).length ≤ 1000 := by rw [fvs_length, List.length_take]; omega
          have hL1 : (fvs (d.f.take j)).length ≤ 1000000 := by omega
          have hql : (us.drop j).length = d.f.length - j := by rw [List.length_drop, H.out.fo.len, hfl]
          have hroom : ((fvs (d.f.take j)) ++ [(⟨s, x.data, (x.safe : Int)⟩ : FV)]).length + (us.drop j).length ≤ 1000000 := by rw [List.length_append, hql]; show _ + 1 + _ ≤ _; omega
          have HINS : Hid (fvs (put d.f s x) = (fvs (d.f.take j) ++ [⟨s, x.data, (x.safe : Int)⟩]) ++ fvs (d.f.drop j)) := put_fvs HN.out (by omega) HLO.out HHI.out
          generalize hLL : fvs (d.f.take j) = L2 at *
          clear hLL
          obtain ⟨oo, oc, rfl⟩ := own_slice hfo2.own
          have HFO := Lib.hid hfo2
          have HONE : Hid (∀ u ∈ us.drop j, u.2.1.oneCell' = true) := fun u hu => H.out.ones u (List.mem_of_mem_drop hu)
          have hsz := HBW2.out.size
          have hszB := HB2.out.size
          clear hfo2 hfo HF
          go_wp2_with (first
            | (at_builtin; refine wpList_append_file (wanted_none rfl _) (.tmp 38) (.tmp 40) rfl rfl (u := (s, .slice uo x.data.length uc, (x.safe : Int))) (HFO.out.below (below1 wz _)).own rfl (heap_alloc_new wz _) rfl hL1 ?_; intro v3 w3 ho3 hg3 hl3; have hfo4 := (HFO.out.below (below1 wz _)).snoc (q := ⟨s, x.data, (x.safe : Int)⟩) (u := .slice uo x.data.length uc) hg3 ho3 hl3 (own_below (own_below HU.out HBW2.out) (below1 wz _)) (fun j hj => .inl (.inr hj)) (.inr (by simp; omega)); have HFO4 := Lib.hid hfo4; have HB4 := Lib.hid (((HBW2.out.trans ((below1 wz (.cells #[nmv s, .slice uo x.data.length uc, .int .i64 (x.safe : Int)] 43)).mono HBW2.out.size))).grown hg3 (by simp; omega) (fun j hj => Nat.le_trans HB0.out.size (HR.out j hj))); have HR4 := Lib.hid (fun j (hj : v3.ownBlock = some j) => (hl3.elim (fun e => Nat.le_trans HB0.out.size (HR.out j (e ▸ hj))) (fun e => by rw [e] at hj; injection hj with hj; subst hj; simp; omega) : w.heap.size ≤ j)); have c0 := (H.out.below HB4.out).c0; rw [hfl] at c0; have hsz4 := HB4.out.size; obtain ⟨o3, c3, rfl⟩ := own_slice ho3; clear hfo4 ho3 hg3 hl3)
            | ((at_builtin; refine wpList_append_files (q := us.drop j) (xv := .slice (some ⟨g, j * 3, none⟩) (d.f.length - j) (fc - j)) (wanted_none rfl _) (.tmp 43) (.tmp 49) rfl rfl HFO4.out.own rfl (.inl ⟨g, j * 3, fc - j, by rw [hql], (H.out.below HB4.out).news j⟩) HONE.out hroom ?_; intro v5 w5 ho5 hg5 hl5; have hfo6 := HFO4.out.concat (m := fvs (d.f.drop j)) hg5 (by rw [fvs_length, List.length_drop, ← hql]; exact ho5) hl5 (by rw [hql, fvs_length, List.length_drop]) (.inr hsz4) ((H.out.below HB4.out).rest (fun k hk => .inl (.inl hk)) j); have HFO6 := Lib.hid hfo6; have HB6 := Lib.hid (HB4.out.grown hg5 (by exact hsz4) (fun j hj => HR4.out j hj)); have fz := (H.out.below HB6.out).fz 0; have c05 := (H.out.below HB6.out).c0; obtain ⟨o5, c5, rfl⟩ := own_slice hfo6.own; clear hfo6 ho5 hg5 hl5)))
          go_returns
          have hbx := (H.out.below HB6.out).box
          have ht : ∀ u, Tn (· = a) w5 (w5.setCell ⟨a, 0, none⟩ u) := fun u => tn_set (Tn.refl _ _) u
          have h2 : ∀ u, Tn C w (w5.setCell ⟨a, 0, none⟩ u) := fun u => (Tn.of_below HB6.out).setCell (fun _ => H.out.ca) u
          have hul := fun k (e : (Value.slice uo x.data.length uc).ownBlock = some k) => (HU.out.lt k e).2
          have hlen : ((L2 ++ [(⟨s, x.data, (x.safe : Int)⟩ : FV)]) ++ fvs (d.f.drop j)).length = L2.length + ((fvs (d.f.drop j)).length + 1) := by simp
          have h6 := HFO6.out
          rw [hlen, ← HINS.out] at h6
          have h7 := (h6.box hbx (ht (.slice o5 (L2.length + ((fvs (d.f.drop j)).length + 1)) c5))).mono (D := Gw (fun k => C k ∨ (Value.slice uo x.data.length uc).ownBlock = some k) w (w5.setCell ⟨a, 0, none⟩ (.slice o5 (L2.length + ((fvs (d.f.drop j)).length + 1)) c5))) (fun j hj e => e.elim .inl fun e => .inr ⟨e, hj⟩)
          exact ⟨rfl, ⟨_, _, HOK.out, H.out.left, heap_set hbx _ rfl, h7, .inl (.inl H.out.ca), fun j hj => Gw.size (h2 _).size (fun k hk => hk.elim (H.out.lt k) (hul k)) hj⟩, h2 _⟩
end
end Go.Proofs.YtkilkhnoldfhcaaGreatDoor
