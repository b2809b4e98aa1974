/- prog.Reads, prog.Names: the keys, sorted, each once. Conditions: no more than a million steps. prog.keysOf, Reads, Names. Conditions: no more than a million steps. prog.Check. Conditions: the table of steps holds what its initialiser lays. raceref9.add: a key more, in its place, once. Conditions: no more than a million keys. raceref9.Reads, raceref9.Names. Conditions: no more than a million steps. raceref9.Check. Conditions: none. -/
import Derived.Test.YtbgccaconhmbaaaGreatDoorJOa
import Derived.Test.YtbgccaconhmbaaaGreatDoorJShelg
import Derived.Sort.OwnSorted
import Derived.Lib.OwnBridge
import Derived.Lib.AppendIntMem
namespace Go.Proofs.YtbgccaconhmbaaaGreatDoor
open Go.ChangeShapes Go.WideShapes Go.ChangeAt Go.RowKit Go.Deep Go.Sort
theorem le_nm (x y : Nm) : decide (x ≤ y) = true ↔ ¬ y < x := by rw [decide_eq_true_iff]; exact Iff.rfl
theorem compact_inc {s : List Nm} (hs : s.Pairwise fun x y => ¬ y < x) : Inc (Lib.compact s) ∧ ∀ x, x ∈ Lib.compact s ↔ x ∈ s := by
  have hg : ∀ j (h : j < s.length), s.toArray[j]! = s[j] := fun j h => by rw [getElem!_pos _ j (by simpa using h)]; simp
  have key : ∀ m, m ≤ s.length → Inc (Lib.compactUpTo s.toArray m) ∧ (∀ x, x ∈ Lib.compactUpTo s.toArray m ↔ ∃ j, j < m ∧ s.toArray[j]! = x) := by
    intro m
    induction m with
    | zero => intro _; exact ⟨by simp [Lib.compactUpTo], fun x => by simp [Lib.compactUpTo]⟩
    | succ m ih =>
      intro hm
      obtain ⟨h1, h2⟩ := ih (by omega)
      rw [Lib.compactUpTo_succ]
      by_cases hk : Lib.keeps s.toArray m = true
      · rw [if_pos hk]
        refine ⟨List.pairwise_append.2 ⟨h1, List.pairwise_singleton _ _, fun x hx y hy => ?_⟩, fun x => ?_⟩
        · obtain rfl := List.mem_singleton.1 hy
          obtain ⟨j, hj, rfl⟩ := (h2 x).1 hx
          rw [hg j (by omega), hg m (by omega)]
          have hle : ¬ s[m] < s[j] := List.pairwise_iff_getElem.1 hs j m (by omega) (by omega) hj
          have hne : s[j] ≠ s[m] := by
            intro e
            have hk2 : m = 0 ∨ s.toArray[m]! ≠ s.toArray[m - 1]! := by simpa [Lib.keeps] using hk
            rcases hk2 with h | h
            · omega
            · rw [hg m (by omega), hg (m - 1) (by omega)] at h
              have hle2 : ¬ s[m] < s[m - 1] := List.pairwise_iff_getElem.1 hs (m - 1) m (by omega) (by omega) (by omega)
              have hle3 : ¬ s[m - 1] < s[j] := by
                by_cases e2 : j = m - 1
                · subst e2; exact nm_irrefl _
                · exact List.pairwise_iff_getElem.1 hs j (m - 1) (by omega) (by omega) (by omega)
              rcases nm_cases s[m] s[m - 1] with q | q | q
              · exact hle2 q
              · exact h q
              · exact hle3 (e ▸ q)
          rcases nm_cases s[j] s[m] with q | q | q
          · exact q
          · exact absurd q hne
          · exact absurd q hle
        · rw [List.mem_append, h2, List.mem_singleton]
          constructor
          · rintro (⟨j, hj, e⟩ | e)
            · exact ⟨j, by omega, e⟩
            · exact ⟨m, by omega, e.symm⟩
          · rintro ⟨j, hj, e⟩
            by_cases e2 : j = m
            · subst e2; exact .inr e.symm
            · exact .inl ⟨j, by omega, e⟩
      · rw [if_neg hk, List.append_nil]
        refine ⟨h1, fun x => ?_⟩
        rw [h2]
        have hk2 : ¬ m = 0 ∧ s.toArray[m]! = s.toArray[m - 1]! := by simpa [Lib.keeps] using hk
        constructor
        · rintro ⟨j, hj, e⟩; exact ⟨j, by omega, e⟩
        · rintro ⟨j, hj, e⟩
          by_cases e2 : j = m
          · subst e2; exact ⟨j - 1, by omega, by rw [← hk2.2]; exact e⟩
          · exact ⟨j, by omega, e⟩
  obtain ⟨h1, h2⟩ := key s.length (Nat.le_refl _)
  refine ⟨h1, fun x => ?_⟩
  unfold Lib.compact
  rw [h2]
  constructor
  · rintro ⟨j, hj, rfl⟩; rw [hg j hj]; exact List.getElem_mem _
  · intro hx
    obtain ⟨j, hj, rfl⟩ := List.mem_iff_getElem.1 hx
    exact ⟨j, hj, hg j hj⟩
theorem sorted_nm (l : List Nm) : (l.mergeSort fun x y => decide (x ≤ y)).Pairwise fun x y => ¬ y < x := by
  have := List.pairwise_mergeSort (le := fun x y : Nm => decide (x ≤ y)) (fun a b c h1 h2 => by
    rw [le_nm] at *
    intro h3
    rcases nm_cases b c with q | q | q
    · exact h1 (nm_trans q h3)
    · subst q; exact h1 h3
    · exact h2 q) (fun a b => by
    rw [Bool.or_eq_true, le_nm, le_nm]
    rcases nm_cases a b with q | q | q
    · exact .inl fun e => nm_irrefl _ (nm_trans q e)
    · subst q; exact .inl (nm_irrefl _)
    · exact .inr fun e => nm_irrefl _ (nm_trans q e)) l
  exact this.imp fun h => (le_nm _ _).1 h
theorem compact_set (l : List Nm) : Lib.compact (l.mergeSort fun x y => decide (x ≤ y)) = setV l := by
  obtain ⟨h1, h2⟩ := compact_inc (sorted_nm l)
  exact setV_eq h1 fun x => by rw [h2]; exact List.mem_mergeSort
def nmC (s : Nm) : List Value := [.string ⟨s.toArray⟩]
theorem nmC_len (s : Nm) : (nmC s).length = 1 := rfl
theorem cells_nm (l : List Nm) : cellsG nmC l = l.map encStr := by
  induction l with
  | nil => rfl
  | cons x l ih => show nmC x ++ cellsG nmC l = _; rw [ih]; rfl
abbrev HasS (P : Nat → Prop) (w : World) (v : Value) (l : List Nm) : Prop := HasG nmC 1 P w v l
theorem isRd_any (c : Int) (w : World) : Calls Tryz.prog 36 #[.int .i64 c] w fun e w' => e = .returned (.bool (isRd c)) ∧ w = w' := by
  unfold isRd
  go_enter Tryz.func36, Tryz.ntmps36
  go_wp2
  go_ret
  exact ⟨rfl, rfl⟩
theorem isWr_any (c : Int) (w : World) : Calls Tryz.prog 37 #[.int .i64 c] w fun e w' => e = .returned (.bool (isWr c)) ∧ w = w' := by
  unfold isWr
  cases h : c == 2
  all_goals
    go_enter Tryz.func37, Tryz.ntmps37
    go_wp2
    go_ret
    exact ⟨by simp, rfl⟩
theorem info_str : (Tryz.prog.info? 9).map (fun i => (i.zero, i.size, i.bytes)) = some (some (.string ⟨#[]⟩), 1, 16) := by kernel_rfl
theorem under_strs : Tryz.prog.underlying 26 = some (.slice 9) := by kernel_rfl
end Go.Proofs.YtbgccaconhmbaaaGreatDoor
namespace Go.Proofs.YtbgccaconhmbaaaGreatDoor
open Go.ChangeShapes Go.WideShapes Go.ChangeAt Go.RowKit Go.Deep Go.Sort
theorem take_snocO {l : List OpV} {k : Nat} (h : k < l.length) : l.take (k + 1) = l.take k ++ [l[k]] := by
  rw [List.take_add_one, List.getElem?_eq_getElem h]; rfl
/-- What sorting and compacting make of an own row. -/
theorem sort_own {w : World} {B : Nat} {v : Value} {ks : List Nm} (hB : B ≤ w.heap.size) (hown : w.ownsRow B 9 1 v ks.length (ks.map encStr)) (hm : ks.length ≤ 1000000) :
    Calls Tryz.prog 66 #[v] w fun e w' => e = .returned (.tuple #[]) ∧ Below B w w' ∧ w'.ownsRow B 9 1 v ks.length ((ks.mergeSort fun x y => decide (x ≤ y)).map encStr) := by
  rcases hown.2 with ⟨rfl, hn⟩ | ⟨g, cap, cur, rfl, hb, hg, hn, hmx, hcs, ht⟩
  · obtain rfl := List.eq_nil_of_length_eq_zero hn
    refine (Tryz.slices_Sort_string_none _ _ _).mono ?_
    rintro e w' ⟨rfl, rfl⟩
    exact ⟨rfl, (Below.refl w'.heap.size w').mono hB, by simpa using hown⟩
  · have hlt : g < w.heap.size := (Array.getElem?_eq_some_iff.1 hg).1
    refine (Tryz.slices_Sort_string g 0 cap ks w (holds_of_block hg (by simpa using ht)) hlt (by omega)).mono ?_
    rintro e w' ⟨rfl, n, os, rfl⟩
    refine ⟨rfl, ?_, ownsRow_sorted (by simp) hb hg hn hmx hcs⟩
    have h1 : Below B w (putRow encStr (Sort.ahead w n) g 0 (ks.mergeSort fun x y => decide (x ≤ y)).toArray) := Lib.below_putRow (Below.refl B w) hb
    have h2 := Lib.below_grow B (putRow encStr (Sort.ahead w n) g 0 (ks.mergeSort fun x y => decide (x ≤ y)).toArray) (Nat.le_trans hB h1.size) 0 os
    exact h1.trans h2
theorem compact_own {w : World} {B : Nat} {v : Value} {ks : List Nm} (hB : B ≤ w.heap.size) (hown : w.ownsRow B 9 1 v ks.length (ks.map encStr)) (hm : ks.length ≤ 1000000) :
    Calls Tryz.prog 67 #[v] w fun e w' => ∃ u, e = .returned u ∧ Below B w w' ∧ w'.ownsRow B 9 1 u (Lib.compact ks).length ((Lib.compact ks).map encStr) := by
  rcases hown.2 with ⟨rfl, hn⟩ | ⟨g, cap, cur, rfl, hb, hg, hn, hmx, hcs, ht⟩
  · obtain rfl := List.eq_nil_of_length_eq_zero hn
    refine (Tryz.slices_Compact_string_empty _ _ _).mono ?_
    rintro e w' ⟨rfl, rfl⟩
    exact ⟨_, rfl, (Below.refl w'.heap.size w').mono hB, hown⟩
  · refine (Tryz.slices_Compact_string g 0 cap ks w (holds_of_block hg (by simpa using ht)) (by omega) hn).mono ?_
    rintro e w' ⟨rfl, q, rfl⟩
    have hle := Lib.compact_length_le ks
    have hc := Lib.ownsRow_putRow (q := q) (k := (Lib.compact ks).length) (ys := Lib.compact ks ++ List.replicate (ks.length - (Lib.compact ks).length) []) hown (by simp; omega) hle
    rw [List.take_left] at hc
    exact ⟨_, rfl, Lib.below_putRow (Below.refl B w) hb, hc⟩
theorem one_nm (s : Nm) : ∀ u ∈ [Value.string ⟨s.toArray⟩], u.oneCell' = true := fun u hu => by obtain rfl := List.mem_singleton.1 hu; rfl
theorem cell_nm_at (w : World) (s : Nm) (b : Nat) (hb : b = w.heap.size) : ∀ (j : Nat) (u : Value), [Value.string ⟨s.toArray⟩][j]? = some u → (w.alloc (.cells #[.string ⟨s.toArray⟩] 9)).cell? ((⟨b, 0, none⟩ : Addr).add j) = some u := by
  subst hb
  intro j u h
  match j, h with
  | 0, h => obtain rfl := Option.some.inj h; rw [Addr.add_lit]; simp [World.cell?_alloc_new]
  | j + 1, h => cases h
set_option maxRecDepth 100000 in
set_option maxHeartbeats 4000000 in
theorem keysOf_reads (l : List OpV) (n b o cap : Nat) (hn : l.length = n) (hm : n ≤ 1000000) (w : World) (hb : 0 < n → b < w.heap.size) (hc : ∀ i, (h : i < l.length) → Lies opC w b (o + i * 5) l[i]) (ao : Option Addr) (ha : 0 < n → ao = some ⟨b, o, none⟩) :
    Calls Tryz.prog 35 #[.slice ao n cap, .func (.func 36) #[] #[]] w fun e w' => ∃ u, e = .returned u ∧ Below w.heap.size w w' ∧ w'.ownsRow w.heap.size 9 1 u (setV (keysV isRd l)).length ((setV (keysV isRd l)).map encStr) := by
  have hst := run_stf
  have HC := Lib.hid hc
  have HB := Lib.hid hb
  have HN := Lib.hid hn
  have HA := Lib.hid ha
  have HW := Lib.hid (Below.refl w.heap.size w)
  have HO := Lib.hid (World.ownsRow_nil w w.heap.size 9 1)
  have HF := fun c w => Lib.hid (isRd_any c w)
  have HK := fun s w => Lib.hid (key_any s w)
  obtain ⟨i0, hi, hz0, hz1, hz2⟩ := info_parts info_str
  clear hc hb hn ha
  go_enter Tryz.func35, Tryz.ntmps35
  go_wp2
  go_loopw [5, 10] (fun v i wr => ∃ (k : Nat), i = .int .i64 (k : Int) ∧ k ≤ n ∧ Hid (Below w.heap.size w wr) ∧ Hid (wr.ownsRow w.heap.size 9 1 v (keysV isRd (l.take k)).length ((keysV isRd (l.take k)).map encStr))) (fun _ i _ => n - (RowKit.intOf i).toNat)
  case atStart => exact ⟨0, rfl, Nat.zero_le _, HW, HO⟩
  case round =>
    obtain ⟨k, rfl, hk, HW1, HO1⟩ := hrel
    by_cases hlt : k < n
    · have hk' : k < l.length := by rw [HN.out]; exact hlt
      obtain rfl := HA.out (by omega)
      have HR := Lib.hid ((HC.out k hk').below HW1.out (HB.out (by omega))).op
      have HS := Lib.hid (keysV_snoc isRd (l.take k) l[k])
      have HT := Lib.hid (take_snocO hk')
      have HL := Lib.hid (Nat.le_trans (keysV_le isRd (l.take k)) (by rw [List.length_take]; omega : (l.take k).length ≤ k))
      generalize l[k] = r at *
      generalize keysV isRd (l.take k) = ks at *
      have r0 := HR.out.c0; have r1 := HR.out.c1; have r2 := HR.out.c2; have r3 := HR.out.c3; have r4 := HR.out.c4
      have HQ := Lib.hid (obox_new wr r)
      have HW2 := Lib.hid (HW1.out.alloc HW1.out.size (oobj r))
      have HO2 := Lib.hid (HO1.out.alloc (oobj r))
      have HF := fun w => Lib.hid (HF r.c w).out
      have HK := fun w => Lib.hid (HK r.key w).out
      obtain ⟨c, key, vk, vx, vs⟩ := r
      simp only at HF HK HS
      generalize hfc : isRd c = fc at *
      generalize hkc : keyV key = kc at *
      clear hfc hkc
      have hl9 := HL.out
      cases fc
      · have HS : Hid (keysV isRd (l.take (k + 1)) = ks) := Lib.hid (by rw [HT.out]; have := HS.out; simpa using this)
        go_wp2_with (first
          | (go_at_call 36; ((with_reducible refine (HF _).out.mono ?_); rintro e w2 ⟨rfl, rfl⟩)))
        go_roundw
        case rel => exact ⟨k + 1, by go_num, by omega, HW2, by rw [HS.out]; exact HO2⟩
        case measure => simp [RowKit.intOf]; omega
      cases kc
      · have HS : Hid (keysV isRd (l.take (k + 1)) = ks) := Lib.hid (by rw [HT.out]; have := HS.out; simpa using this)
        go_wp2_with (first
          | (go_at_call 36; ((with_reducible refine (HF _).out.mono ?_); rintro e w2 ⟨rfl, rfl⟩))
          | (go_at_call 65; ((with_reducible refine (HK _).out.mono ?_); rintro e w2 ⟨rfl, rfl⟩)))
        go_roundw
        case rel => exact ⟨k + 1, by go_num, by omega, HW2, by rw [HS.out]; exact HO2⟩
        case measure => simp [RowKit.intOf]; omega
      · have HS : Hid (keysV isRd (l.take (k + 1)) = ks ++ [key]) := Lib.hid (by rw [HT.out]; have := HS.out; simpa using this)
        go_wp2_with (first
          | (go_at_call 36; ((with_reducible refine (HF _).out.mono ?_); rintro e w2 ⟨rfl, rfl⟩))
          | (go_at_call 65; ((with_reducible refine (HK _).out.mono ?_); rintro e w2 ⟨rfl, rfl⟩))
          | (at_builtin; refine wpList_append_own _ rfl (.tmp 23) (.tmp 26) 26 rfl w.heap.size 9 i0 (.string ⟨#[]⟩) 1 16 under_strs hi hz0 hz1 hz2 rfl (by decide) _ _ _ rfl (HO2.out.alloc _) ⟨wr.heap.size + 1, 0, none⟩ 1 1 [.string ⟨key.toArray⟩] rfl rfl (cell_nm_at _ _ _ (by simp)) (one_nm _) (by unfold maxLen; omega) (by omega) (by have := HW2.out.size; simp at this ⊢; omega) ?_; intro v2 w2 hown' hgrow _; have HO3 := Lib.hid hown'; have HG3 := Lib.hid hgrow; clear hown' hgrow))
        go_roundw
        case rel => exact ⟨k + 1, by go_num, by omega, Lib.hid ((HW2.out.alloc HW2.out.size _).grown HG3.out (HW2.out.alloc HW2.out.size _).size fun q hq => (HO1.out.lt q hq).1), by rw [HS.out, List.length_append, List.map_append]; exact HO3⟩
        case measure => simp [RowKit.intOf]; omega
    · obtain rfl : k = n := by omega
      have HE : Hid (keysV isRd (l.take k) = keysV isRd l) := Lib.hid (by rw [List.take_of_length_le (by rw [HN.out]; exact Nat.le_refl _)])
      have HL := Lib.hid (Nat.le_trans (keysV_le isRd l) (by rw [HN.out]; exact Nat.le_refl _))
      rw [HE.out] at HO1
      have HSo := Lib.hid (compact_set (keysV isRd l))
      generalize hks : keysV isRd l = ks at *
      have HKs := Lib.hid hks
      have hl9 := HL.out
      clear hks
      go_wp2_with (first
        | (go_at_call 66; ((refine (sort_own HW1.out.size HO1.out (by omega)).mono ?_); rintro e w2 ⟨rfl, h2, h3⟩; have HW2 := Lib.hid (HW1.out.trans h2); have HO2 := Lib.hid h3; clear h2 h3))
        | (go_at_call 67; ((refine (compact_own (ks := ks.mergeSort fun x y => decide (x ≤ y)) HW2.out.size (by rw [List.length_mergeSort]; exact HO2.out) (by rw [List.length_mergeSort]; omega)).mono ?_); rintro e w3 ⟨u, rfl, h2, h3⟩; have HW3 := Lib.hid (HW2.out.trans h2); have HO3 := Lib.hid h3; clear h2 h3)))
      go_ret
      exact ⟨u, rfl, HW3.out, by rw [HKs.out, ← HSo.out]; exact HO3.out⟩
set_option maxRecDepth 100000 in
set_option maxHeartbeats 4000000 in
theorem keysOf_names (l : List OpV) (n b o cap : Nat) (hn : l.length = n) (hm : n ≤ 1000000) (w : World) (hb : 0 < n → b < w.heap.size) (hc : ∀ i, (h : i < l.length) → Lies opC w b (o + i * 5) l[i]) (ao : Option Addr) (ha : 0 < n → ao = some ⟨b, o, none⟩) :
    Calls Tryz.prog 35 #[.slice ao n cap, .func (.func 37) #[] #[]] w fun e w' => ∃ u, e = .returned u ∧ Below w.heap.size w w' ∧ w'.ownsRow w.heap.size 9 1 u (setV (keysV isWr l)).length ((setV (keysV isWr l)).map encStr) := by
  have hst := run_stf
  have HC := Lib.hid hc
  have HB := Lib.hid hb
  have HN := Lib.hid hn
  have HA := Lib.hid ha
  have HW := Lib.hid (Below.refl w.heap.size w)
  have HO := Lib.hid (World.ownsRow_nil w w.heap.size 9 1)
  have HF := fun c w => Lib.hid (isWr_any c w)
  have HK := fun s w => Lib.hid (key_any s w)
  obtain ⟨i0, hi, hz0, hz1, hz2⟩ := info_parts info_str
  clear hc hb hn ha
  go_enter Tryz.func35, Tryz.ntmps35
  go_wp2
  go_loopw [5, 10] (fun v i wr => ∃ (k : Nat), i = .int .i64 (k : Int) ∧ k ≤ n ∧ Hid (Below w.heap.size w wr) ∧ Hid (wr.ownsRow w.heap.size 9 1 v (keysV isWr (l.take k)).length ((keysV isWr (l.take k)).map encStr))) (fun _ i _ => n - (RowKit.intOf i).toNat)
  case atStart => exact ⟨0, rfl, Nat.zero_le _, HW, HO⟩
  case round =>
    obtain ⟨k, rfl, hk, HW1, HO1⟩ := hrel
    by_cases hlt : k < n
    · have hk' : k < l.length := by rw [HN.out]; exact hlt
      obtain rfl := HA.out (by omega)
      have HR := Lib.hid ((HC.out k hk').below HW1.out (HB.out (by omega))).op
      have HS := Lib.hid (keysV_snoc isWr (l.take k) l[k])
      have HT := Lib.hid (take_snocO hk')
      have HL := Lib.hid (Nat.le_trans (keysV_le isWr (l.take k)) (by rw [List.length_take]; omega : (l.take k).length ≤ k))
      generalize l[k] = r at *
      generalize keysV isWr (l.take k) = ks at *
      have r0 := HR.out.c0; have r1 := HR.out.c1; have r2 := HR.out.c2; have r3 := HR.out.c3; have r4 := HR.out.c4
      have HQ := Lib.hid (obox_new wr r)
      have HW2 := Lib.hid (HW1.out.alloc HW1.out.size (oobj r))
      have HO2 := Lib.hid (HO1.out.alloc (oobj r))
      have HF := fun w => Lib.hid (HF r.c w).out
      have HK := fun w => Lib.hid (HK r.key w).out
      obtain ⟨c, key, vk, vx, vs⟩ := r
      simp only at HF HK HS
      generalize hfc : isWr c = fc at *
      generalize hkc : keyV key = kc at *
      clear hfc hkc
      have hl9 := HL.out
      cases fc
      · have HS : Hid (keysV isWr (l.take (k + 1)) = ks) := Lib.hid (by rw [HT.out]; have := HS.out; simpa using this)
        go_wp2_with (first
          | (go_at_call 37; ((with_reducible refine (HF _).out.mono ?_); rintro e w2 ⟨rfl, rfl⟩)))
        go_roundw
        case rel => exact ⟨k + 1, by go_num, by omega, HW2, by rw [HS.out]; exact HO2⟩
        case measure => simp [RowKit.intOf]; omega
      cases kc
      · have HS : Hid (keysV isWr (l.take (k + 1)) = ks) := Lib.hid (by rw [HT.out]; have := HS.out; simpa using this)
        go_wp2_with (first
          | (go_at_call 37; ((with_reducible refine (HF _).out.mono ?_); rintro e w2 ⟨rfl, rfl⟩))
          | (go_at_call 65; ((with_reducible refine (HK _).out.mono ?_); rintro e w2 ⟨rfl, rfl⟩)))
        go_roundw
        case rel => exact ⟨k + 1, by go_num, by omega, HW2, by rw [HS.out]; exact HO2⟩
        case measure => simp [RowKit.intOf]; omega
      · have HS : Hid (keysV isWr (l.take (k + 1)) = ks ++ [key]) := Lib.hid (by rw [HT.out]; have := HS.out; simpa using this)
        go_wp2_with (first
          | (go_at_call 37; ((with_reducible refine (HF _).out.mono ?_); rintro e w2 ⟨rfl, rfl⟩))
          | (go_at_call 65; ((with_reducible refine (HK _).out.mono ?_); rintro e w2 ⟨rfl, rfl⟩))
          | (at_builtin; refine wpList_append_own _ rfl (.tmp 23) (.tmp 26) 26 rfl w.heap.size 9 i0 (.string ⟨#[]⟩) 1 16 under_strs hi hz0 hz1 hz2 rfl (by decide) _ _ _ rfl (HO2.out.alloc _) ⟨wr.heap.size + 1, 0, none⟩ 1 1 [.string ⟨key.toArray⟩] rfl rfl (cell_nm_at _ _ _ (by simp)) (one_nm _) (by unfold maxLen; omega) (by omega) (by have := HW2.out.size; simp at this ⊢; omega) ?_; intro v2 w2 hown' hgrow _; have HO3 := Lib.hid hown'; have HG3 := Lib.hid hgrow; clear hown' hgrow))
        go_roundw
        case rel => exact ⟨k + 1, by go_num, by omega, Lib.hid ((HW2.out.alloc HW2.out.size _).grown HG3.out (HW2.out.alloc HW2.out.size _).size fun q hq => (HO1.out.lt q hq).1), by rw [HS.out, List.length_append, List.map_append]; exact HO3⟩
        case measure => simp [RowKit.intOf]; omega
    · obtain rfl : k = n := by omega
      have HE : Hid (keysV isWr (l.take k) = keysV isWr l) := Lib.hid (by rw [List.take_of_length_le (by rw [HN.out]; exact Nat.le_refl _)])
      have HL := Lib.hid (Nat.le_trans (keysV_le isWr l) (by rw [HN.out]; exact Nat.le_refl _))
      rw [HE.out] at HO1
      have HSo := Lib.hid (compact_set (keysV isWr l))
      generalize hks : keysV isWr l = ks at *
      have HKs := Lib.hid hks
      have hl9 := HL.out
      clear hks
      go_wp2_with (first
        | (go_at_call 66; ((refine (sort_own HW1.out.size HO1.out (by omega)).mono ?_); rintro e w2 ⟨rfl, h2, h3⟩; have HW2 := Lib.hid (HW1.out.trans h2); have HO2 := Lib.hid h3; clear h2 h3))
        | (go_at_call 67; ((refine (compact_own (ks := ks.mergeSort fun x y => decide (x ≤ y)) HW2.out.size (by rw [List.length_mergeSort]; exact HO2.out) (by rw [List.length_mergeSort]; omega)).mono ?_); rintro e w3 ⟨u, rfl, h2, h3⟩; have HW3 := Lib.hid (HW2.out.trans h2); have HO3 := Lib.hid h3; clear h2 h3)))
      go_ret
      exact ⟨u, rfl, HW3.out, by rw [HKs.out, ← HSo.out]; exact HO3.out⟩
theorem reads_any {P : Nat → Prop} {w : World} {v : Value} {l : List OpV} (hv : HasO P w v l) (hm : l.length ≤ 1000000) :
    Calls Tryz.prog 14 #[v] w fun e w' => ∃ u, e = .returned u ∧ Below w.heap.size w w' ∧ w'.ownsRow w.heap.size 9 1 u (readsV l).length ((readsV l).map encStr) := by
  have hmf : ∀ (fn : Fn) (first cap : Array Value) (w : World), (Instr.makeFunc fn first cap).run Tryz.prog w = .ok (.func fn first cap) w := fun _ _ _ _ => rfl
  obtain ⟨ao, cap, rfl, h1, h2, h3, h4⟩ := hv
  have HK : Hid (∀ w0 : World, w0 = w → Calls Tryz.prog 35 #[.slice ao l.length cap, .func (.func 36) #[] #[]] w0 fun e w' => ∃ u, e = .returned u ∧ Below w0.heap.size w0 w' ∧ w'.ownsRow w0.heap.size 9 1 u (setV (keysV isRd l)).length ((setV (keysV isRd l)).map encStr)) := Lib.hid (by
    rintro w0 rfl
    rcases h4 with rfl | ⟨b, o, rfl, _, h6, h7⟩
    · exact keysOf_reads [] 0 0 0 cap rfl (by omega) w0 (fun h => absurd h (by omega)) (fun i hi => absurd hi (Nat.not_lt_zero _)) ao (fun h => absurd h (by omega))
    · exact keysOf_reads l l.length b o cap rfl hm w0 (fun _ => h6) h7 _ (fun _ => rfl))
  have HE : Hid (setV (keysV isRd l) = readsV l) := Lib.hid rfl
  generalize setV (keysV isRd l) = ks at *
  clear h4 h1 h2 h3 hm
  generalize l.length = n at *
  go_enter Tryz.func14, Tryz.ntmps14
  go_wp2_with (go_at_call 35; ((with_reducible refine (HK.out _ rfl).mono ?_); rintro e w2 ⟨u, rfl, h2, h3⟩; have HB := Lib.hid h2; have HO := Lib.hid h3; clear h2 h3))
  go_ret
  exact ⟨u, rfl, HB.out, by rw [← HE.out]; exact HO.out⟩
theorem names_any {P : Nat → Prop} {w : World} {v : Value} {l : List OpV} (hv : HasO P w v l) (hm : l.length ≤ 1000000) :
    Calls Tryz.prog 15 #[v] w fun e w' => ∃ u, e = .returned u ∧ Below w.heap.size w w' ∧ w'.ownsRow w.heap.size 9 1 u (namesV l).length ((namesV l).map encStr) := by
  have hmf : ∀ (fn : Fn) (first cap : Array Value) (w : World), (Instr.makeFunc fn first cap).run Tryz.prog w = .ok (.func fn first cap) w := fun _ _ _ _ => rfl
  obtain ⟨ao, cap, rfl, h1, h2, h3, h4⟩ := hv
  have HK : Hid (∀ w0 : World, w0 = w → Calls Tryz.prog 35 #[.slice ao l.length cap, .func (.func 37) #[] #[]] w0 fun e w' => ∃ u, e = .returned u ∧ Below w0.heap.size w0 w' ∧ w'.ownsRow w0.heap.size 9 1 u (setV (keysV isWr l)).length ((setV (keysV isWr l)).map encStr)) := Lib.hid (by
    rintro w0 rfl
    rcases h4 with rfl | ⟨b, o, rfl, _, h6, h7⟩
    · exact keysOf_names [] 0 0 0 cap rfl (by omega) w0 (fun h => absurd h (by omega)) (fun i hi => absurd hi (Nat.not_lt_zero _)) ao (fun h => absurd h (by omega))
    · exact keysOf_names l l.length b o cap rfl hm w0 (fun _ => h6) h7 _ (fun _ => rfl))
  have HE : Hid (setV (keysV isWr l) = namesV l) := Lib.hid rfl
  generalize setV (keysV isWr l) = ks at *
  clear h4 h1 h2 h3 hm
  generalize l.length = n at *
  go_enter Tryz.func15, Tryz.ntmps15
  go_wp2_with (go_at_call 35; ((with_reducible refine (HK.out _ rfl).mono ?_); rintro e w2 ⟨u, rfl, h2, h3⟩; have HB := Lib.hid h2; have HO := Lib.hid h3; clear h2 h3))
  go_ret
  exact ⟨u, rfl, HB.out, by rw [← HE.out]; exact HO.out⟩
end Go.Proofs.YtbgccaconhmbaaaGreatDoor
namespace Go.Proofs.YtbgccaconhmbaaaGreatDoor
open Go.ChangeShapes Go.WideShapes Go.ChangeAt Go.RowKit Go.Deep
theorem bad_kind {d : Nat} {o : OpV} (h : okC o.c = false) : badV d o = 7 := by unfold badV; rw [if_pos h]
theorem bad_form {d : Nat} {o : OpV} (h : okC o.c = true) (h2 : formV o = false) : badV d o = 4 := by unfold badV; rw [if_neg (by rw [h]; exact Bool.noConfusion), if_pos h2]
theorem bad_short {d : Nat} {o : OpV} (h : okC o.c = true) (h2 : formV o = true) (h3 : d < popC o.c) : badV d o = 5 := by unfold badV; rw [if_neg (by rw [h]; exact Bool.noConfusion), if_neg (by rw [h2]; exact Bool.noConfusion), if_pos h3]
theorem bad_long {d : Nat} {o : OpV} (h : okC o.c = true) (h2 : formV o = true) (h3 : ¬ d < popC o.c) (h4 : 16 < d - popC o.c + pushC o.c) : badV d o = 2 := by unfold badV; rw [if_neg (by rw [h]; exact Bool.noConfusion), if_neg (by rw [h2]; exact Bool.noConfusion), if_neg h3, if_pos h4]
theorem bad_none {d : Nat} {o : OpV} (h : okC o.c = true) (h2 : formV o = true) (h3 : ¬ d < popC o.c) (h4 : ¬ 16 < d - popC o.c + pushC o.c) : badV d o = 0 := by unfold badV; rw [if_neg (by rw [h]; exact Bool.noConfusion), if_neg (by rw [h2]; exact Bool.noConfusion), if_neg h3, if_neg h4]
theorem chk_bad {l : List OpV} {k d : Nat} (h : k < l.length) {R e : Int} (hR : chkL d (l.drop k) = R) (hb : badV d l[k] = e) (he : e ≠ 0) : R = e := by
  rw [List.drop_eq_getElem_cons h] at hR
  unfold chkL at hR
  rw [hb, if_neg he] at hR
  exact hR.symm
theorem chk_good {l : List OpV} {k d : Nat} (h : k < l.length) {R : Int} (hR : chkL d (l.drop k) = R) (hb : badV d l[k] = 0) : chkL (d - popC l[k].c + pushC l[k].c) (l.drop (k + 1)) = R := by
  rw [List.drop_eq_getElem_cons h] at hR
  unfold chkL at hR
  rw [if_pos hb] at hR
  exact hR
theorem pop_le (c : Int) : popC c ≤ 2 := by unfold popC; split <;> (try split) <;> omega
theorem push_le (c : Int) : pushC c ≤ 2 := by unfold pushC; split <;> (try split) <;> omega
theorem own_sl {w : World} {base : Nat} {e : TypeId} {size : Nat} {v : Value} {n : Nat} {xs : List Value} (h : w.ownsRow base e size v n xs) : ∃ ao cap, v = .slice ao n cap := by
  rcases h.2 with ⟨rfl, rfl⟩ | ⟨g, cap, cur, rfl, _⟩
  · exact ⟨_, _, rfl⟩
  · exact ⟨_, _, rfl⟩
theorem ok_nat {c : Int} (h : okC c = true) : ∃ m : Nat, c = (m : Int) ∧ 1 ≤ m ∧ m < 16 := by
  unfold okC at h
  rw [Bool.and_eq_true] at h
  have h1 := of_decide_eq_true h.1
  have h2 := of_decide_eq_true h.2
  exact ⟨c.toNat, by omega, by omega, by omega⟩
/-- A step of the table in a block of its own. -/
structure SBox (w : World) (b : Nat) (s : SV) : Prop where
  lt : b < w.heap.size
  c0 : w.cell? ⟨b, 0, none⟩ = some (.string ⟨s.w.toArray⟩)
  c1 : w.cell? ⟨b, 1, none⟩ = some (.int .i64 s.n)
  c2 : w.cell? ⟨b, 2, none⟩ = some (.int .i64 s.p)
  c3 : w.cell? ⟨b, 3, none⟩ = some (.int .i64 s.q)
theorem SBox.below {B : Nat} {w w' : World} {b : Nat} {r : SV} (h : SBox w b r) (hb : Below B w w') (hl : b < B) : SBox w' b r :=
  ⟨Nat.lt_of_lt_of_le h.lt hb.size, (hb.cell hl).trans h.c0, (hb.cell hl).trans h.c1, (hb.cell hl).trans h.c2, (hb.cell hl).trans h.c3⟩
theorem sbox_new (w : World) (r : SV) : SBox (w.alloc (sobj r)) w.heap.size r :=
  ⟨by simp, by simp [World.cell?_alloc_new], by simp [World.cell?_alloc_new], by simp [World.cell?_alloc_new], by simp [World.cell?_alloc_new]⟩
set_option maxRecDepth 100000 in
set_option maxHeartbeats 8000000 in
theorem check_some (l : List OpV) (n b o cap : Nat) (hn : l.length = n) (hm : n ≤ 40) (w : World) (hS : Stp w) (P : Nat → Prop) (ao : Option Addr) (hv : HasO P w (.slice ao n cap) l) (hb : 0 < n → b < w.heap.size) (hc : ∀ i, (h : i < l.length) → Lies opC w b (o + i * 5) l[i]) (ha : 0 < n → ao = some ⟨b, o, none⟩) :
    Calls Tryz.prog 16 #[.slice ao n cap] w fun e w' => e = .returned (.int .i64 (chkV l)) ∧ Below w.heap.size w w' := by
  have hst := run_stf
  have HC := Lib.hid hc
  have HB := Lib.hid hb
  have HN := Lib.hid hn
  have HA := Lib.hid ha
  have HV := Lib.hid hv
  have HS := Lib.hid hS
  have HW := Lib.hid (Below.refl w.heap.size w)
  have d40 : ¬ ((40 : Int) < (n : Int)) := by omega
  have HX : Hid (chkV l = if chkL 0 l = 0 then (if 16 < (readsV l).length ∨ 16 < (namesV l).length then 3 else 0) else chkL 0 l) := Lib.hid (by unfold chkV; rw [if_neg (by omega)])
  obtain ⟨R, hR⟩ : ∃ R, chkL 0 l = R := ⟨_, rfl⟩
  rw [hR] at HX
  have HR := Lib.hid hR
  clear hc hb hn ha hR hv hS
  go_enter Tryz.func16, Tryz.ntmps16
  go_wp2
  go_loopw [3, 13] (fun vd vi wr => ∃ (k d : Nat), vi = .int .i64 (k : Int) ∧ vd = .int .i64 (d : Int) ∧ k ≤ n ∧ d ≤ 16 ∧ Hid (chkL d (l.drop k) = R) ∧ Hid (Below w.heap.size w wr)) (fun _ vi _ => n - (RowKit.intOf vi).toNat)
  case atStart => exact ⟨0, 0, rfl, rfl, Nat.zero_le _, Nat.zero_le _, HR, HW⟩
  case round =>
    obtain ⟨k, d, rfl, rfl, hk, hd, HT, HW1⟩ := hrel
    by_cases hlt : k < n
    · have hk' : k < l.length := by rw [HN.out]; exact hlt
      obtain rfl := HA.out (by omega)
      have HG := Lib.hid ((HC.out k hk').below HW1.out (HB.out (by omega))).op
      have HBad := fun e => Lib.hid (fun hb he => chk_bad (e := e) hk' HT.out hb he)
      have HGood := Lib.hid (fun hb => chk_good hk' HT.out hb)
      generalize l[k] = r at *
      have r0 := HG.out.c0; have r1 := HG.out.c1; have r2 := HG.out.c2; have r3 := HG.out.c3; have r4 := HG.out.c4
      have HQ := Lib.hid (obox_new wr r)
      have HW2 := Lib.hid (HW1.out.alloc HW1.out.size (oobj r))
      have HS2 := Lib.hid (HS.out.below HW2.out)
      cases hok : okC r.c
      · have HE := Lib.hid ((HBad 7).out (bad_kind hok) (by decide))
        have HF := fun w => Lib.hid (stepOf_no hok w)
        clear HBad HGood
        obtain ⟨c, key, vk, vx, vs⟩ := r
        simp only at HF
        go_wp2_with (go_at_call 38; ((with_reducible refine (HF _).out.mono ?_); rintro e w2 ⟨rfl, h2⟩; have HW3 := Lib.hid (HW2.out.trans (h2.mono HW2.out.size)); clear h2))
        go_ret
        exact ⟨by rw [HX.out, HE.out]; rfl, HW3.out.alloc HW3.out.size _⟩
      obtain ⟨m, hc, hm1, hm2⟩ := ok_nat hok
      have HF := Lib.hid (stepOf_ok hm1 hm2 (wr.alloc (oobj r)) HS2.out)
      have HI := fun w => Lib.hid (isFormed_any r _ rfl w)
      have hp2 := pop_le r.c
      have hq2 := push_le r.c
      have HSV : Hid ((SV.at m).n = nmsC r.c ∧ (SV.at m).p = (popC r.c : Int) ∧ (SV.at m).q = (pushC r.c : Int)) := Lib.hid (by rw [hc]; exact ⟨rfl, rfl, rfl⟩)
      have H4 := Lib.hid fun h => (HBad 4).out (bad_form hok h) (by decide)
      have H5 := Lib.hid fun h h3 => (HBad 5).out (bad_short hok h h3) (by decide)
      have H2 := Lib.hid fun h h3 h4 => (HBad 2).out (bad_long hok h h3 h4) (by decide)
      have H0 := Lib.hid fun h h3 h4 => HGood.out (bad_none hok h h3 h4)
      clear HBad HGood hok
      have hrc : r.c = (m : Int) := hc
      generalize SV.at m = s at *
      obtain ⟨sw, sn, sp, sq⟩ := s
      simp only at HSV
      obtain ⟨rfl, rfl, rfl⟩ := HSV.out
      clear HSV
      generalize formV r = fo at *
      generalize popC r.c = p at *
      generalize pushC r.c = q at *
      generalize nmsC r.c = sn at *
      have HR0 := r0
      rw [hc] at r0
      obtain ⟨c, key, vk, vx, vs⟩ := r
      simp only at hc
      subst hc
      clear hrc HR0
      cases fo
      · have HE := Lib.hid (H4.out rfl)
        clear H4 H5 H2 H0
        go_wp2_with (first
          | (go_at_call 38; ((with_reducible refine HF.out.mono ?_); rintro e w2 ⟨rfl, h2⟩; have HW3 := Lib.hid (HW2.out.trans (h2.mono HW2.out.size)); have HQ2 := Lib.hid ((HQ.out.below h2 HQ.out.lt).below (below1 w2 (sobj ⟨sw, sn, p, q⟩)) (HQ.out.below h2 HQ.out.lt).lt); have a0 := HQ2.out.c0; have a1 := HQ2.out.c1; have a2 := HQ2.out.c2; have a3 := HQ2.out.c3; have a4 := HQ2.out.c4; clear h2))
          | (go_at_call 39; ((with_reducible refine (HI _).out.mono ?_); rintro e w4 ⟨rfl, h2⟩; have HW4 := Lib.hid ((HW3.out.alloc HW3.out.size _).trans (h2.mono (HW3.out.alloc HW3.out.size _).size)); clear h2)))
        go_ret
        exact ⟨by rw [HX.out, HE.out]; rfl, HW4.out⟩
      by_cases h3 : d < p
      · have HE := Lib.hid (H5.out rfl h3)
        have h3' : (d : Int) < (p : Int) := by omega
        clear H4 H5 H2 H0
        go_wp2_with (first
          | (go_at_call 38; ((with_reducible refine HF.out.mono ?_); rintro e w2 ⟨rfl, h2⟩; have HW3 := Lib.hid (HW2.out.trans (h2.mono HW2.out.size)); have HQ2 := Lib.hid ((HQ.out.below h2 HQ.out.lt).below (below1 w2 (sobj ⟨sw, sn, p, q⟩)) (HQ.out.below h2 HQ.out.lt).lt); have a0 := HQ2.out.c0; have a1 := HQ2.out.c1; have a2 := HQ2.out.c2; have a3 := HQ2.out.c3; have a4 := HQ2.out.c4; clear h2))
          | (go_at_call 39; ((with_reducible refine (HI _).out.mono ?_); rintro e w4 ⟨rfl, h2⟩; have HW4 := Lib.hid ((HW3.out.alloc HW3.out.size _).trans (h2.mono (HW3.out.alloc HW3.out.size _).size)); have HT2 := Lib.hid ((sbox_new w2 ⟨sw, sn, p, q⟩).below h2 (sbox_new w2 ⟨sw, sn, p, q⟩).lt); have s2 := HT2.out.c2; have s3 := HT2.out.c3; clear h2)))
        go_ret
        exact ⟨by rw [HX.out, HE.out]; rfl, HW4.out⟩
      have h3' : ¬ (d : Int) < (p : Int) := by omega
      by_cases h4 : 16 < d - p + q
      · have HE := Lib.hid (H2.out rfl h3 h4)
        have h4' : (16 : Int) < (d : Int) + ((q : Int) - (p : Int)) := by omega
        clear H4 H5 H2 H0
        go_wp2_with (first
          | (go_at_call 38; ((with_reducible refine HF.out.mono ?_); rintro e w2 ⟨rfl, h2⟩; have HW3 := Lib.hid (HW2.out.trans (h2.mono HW2.out.size)); have HQ2 := Lib.hid ((HQ.out.below h2 HQ.out.lt).below (below1 w2 (sobj ⟨sw, sn, p, q⟩)) (HQ.out.below h2 HQ.out.lt).lt); have a0 := HQ2.out.c0; have a1 := HQ2.out.c1; have a2 := HQ2.out.c2; have a3 := HQ2.out.c3; have a4 := HQ2.out.c4; clear h2))
          | (go_at_call 39; ((with_reducible refine (HI _).out.mono ?_); rintro e w4 ⟨rfl, h2⟩; have HW4 := Lib.hid ((HW3.out.alloc HW3.out.size _).trans (h2.mono (HW3.out.alloc HW3.out.size _).size)); have HT2 := Lib.hid ((sbox_new w2 ⟨sw, sn, p, q⟩).below h2 (sbox_new w2 ⟨sw, sn, p, q⟩).lt); have s2 := HT2.out.c2; have s3 := HT2.out.c3; clear h2)))
        go_ret
        exact ⟨by rw [HX.out, HE.out]; rfl, HW4.out⟩
      · have HE := Lib.hid (H0.out rfl h3 h4)
        have h4' : ¬ (16 : Int) < (d : Int) + ((q : Int) - (p : Int)) := by omega
        have HD : Hid ((d : Int) + ((q : Int) - (p : Int)) = ((d - p + q : Nat) : Int)) := Lib.hid (by omega)
        clear H4 H5 H2 H0
        go_wp2_with (first
          | (go_at_call 38; ((with_reducible refine HF.out.mono ?_); rintro e w2 ⟨rfl, h2⟩; have HW3 := Lib.hid (HW2.out.trans (h2.mono HW2.out.size)); have HQ2 := Lib.hid ((HQ.out.below h2 HQ.out.lt).below (below1 w2 (sobj ⟨sw, sn, p, q⟩)) (HQ.out.below h2 HQ.out.lt).lt); have a0 := HQ2.out.c0; have a1 := HQ2.out.c1; have a2 := HQ2.out.c2; have a3 := HQ2.out.c3; have a4 := HQ2.out.c4; clear h2))
          | (go_at_call 39; ((with_reducible refine (HI _).out.mono ?_); rintro e w4 ⟨rfl, h2⟩; have HW4 := Lib.hid ((HW3.out.alloc HW3.out.size _).trans (h2.mono (HW3.out.alloc HW3.out.size _).size)); have HT2 := Lib.hid ((sbox_new w2 ⟨sw, sn, p, q⟩).below h2 (sbox_new w2 ⟨sw, sn, p, q⟩).lt); have s2 := HT2.out.c2; have s3 := HT2.out.c3; clear h2)))
        go_roundw
        case rel => exact ⟨k + 1, d - p + q, by go_num, by rw [HD.out], by omega, by omega, HE, HW4⟩
        case measure => simp [RowKit.intOf]; omega
    · obtain rfl : k = n := by omega
      have HE : Hid (R = 0) := Lib.hid (by have := HT.out; rw [List.drop_of_length_le (by rw [HN.out]; exact Nat.le_refl _)] at this; exact this.symm)
      have HRd := Lib.hid (reads_any (HV.out.below HW1.out) (by rw [HN.out]; omega))
      have HY : Hid (chkV l = if 16 < (readsV l).length ∨ 16 < (namesV l).length then 3 else 0) := Lib.hid (by rw [HX.out, if_pos HE.out])
      have HNm := fun w2 h => Lib.hid (names_any (w := w2) ((HV.out.below HW1.out).below h) (by rw [HN.out]; omega))
      clear HT HE HX
      obtain ⟨z, hz⟩ : ∃ z, chkV l = z := ⟨_, rfl⟩
      rw [hz] at HY
      have HZ := Lib.hid hz
      have HLR := Lib.hid (Nat.le_trans (length_setV (keysV isRd l)) (Nat.le_trans (keysV_le isRd l) (Nat.le_of_eq HN.out)))
      have HLN := Lib.hid (Nat.le_trans (length_setV (keysV isWr l)) (Nat.le_trans (keysV_le isWr l) (Nat.le_of_eq HN.out)))
      replace HLR : Hid ((readsV l).length ≤ k) := HLR
      replace HLN : Hid ((namesV l).length ≤ k) := HLN
      generalize readsV l = rd at *
      generalize namesV l = nm at *
      clear hz
      by_cases h1 : 16 < rd.length
      · have HE := Lib.hid (HY.out.trans (if_pos (.inl h1)))
        have h1' : (16 : Int) < (rd.length : Int) := by omega
        go_wp2_with (go_at_call 14; ((with_reducible refine HRd.out.mono ?_); rintro e w2 ⟨u, rfl, h2, h3⟩; have HW2 := Lib.hid (HW1.out.trans (h2.mono HW1.out.size)); obtain ⟨ao2, c2, rfl⟩ := own_sl h3; clear h2 h3))
        go_ret
        exact ⟨by rw [HZ.out, HE.out]; rfl, HW2.out⟩
      have h1' : ¬ (16 : Int) < (rd.length : Int) := by omega
      by_cases h2 : 16 < nm.length
      · have HE := Lib.hid (HY.out.trans (if_pos (.inr h2)))
        have h2' : (16 : Int) < (nm.length : Int) := by omega
        go_wp2_with (first
          | (go_at_call 14; ((with_reducible refine HRd.out.mono ?_); rintro e w2 ⟨u, rfl, h2, h3⟩; have HW2 := Lib.hid (HW1.out.trans (h2.mono HW1.out.size)); have HN2 := Lib.hid (HNm _ h2).out; obtain ⟨ao2, c2, rfl⟩ := own_sl h3; clear h2 h3))
          | (go_at_call 15; ((with_reducible refine HN2.out.mono ?_); rintro e w3 ⟨u, rfl, h2, h3⟩; have HW3 := Lib.hid (HW2.out.trans (h2.mono HW2.out.size)); obtain ⟨ao3, c3, rfl⟩ := own_sl h3; clear h2 h3)))
        go_ret
        exact ⟨by rw [HZ.out, HE.out]; rfl, HW3.out⟩
      · have HE := Lib.hid (HY.out.trans (if_neg (by omega)))
        have h2' : ¬ (16 : Int) < (nm.length : Int) := by omega
        go_wp2_with (first
          | (go_at_call 14; ((with_reducible refine HRd.out.mono ?_); rintro e w2 ⟨u, rfl, h2, h3⟩; have HW2 := Lib.hid (HW1.out.trans (h2.mono HW1.out.size)); have HN2 := Lib.hid (HNm _ h2).out; obtain ⟨ao2, c2, rfl⟩ := own_sl h3; clear h2 h3))
          | (go_at_call 15; ((with_reducible refine HN2.out.mono ?_); rintro e w3 ⟨u, rfl, h2, h3⟩; have HW3 := Lib.hid (HW2.out.trans (h2.mono HW2.out.size)); obtain ⟨ao3, c3, rfl⟩ := own_sl h3; clear h2 h3)))
        go_ret
        exact ⟨by rw [HZ.out, HE.out]; rfl, HW3.out⟩
theorem check_any {P : Nat → Prop} {w : World} {v : Value} {l : List OpV} (hv : HasO P w v l) (hS : Stp w) : Calls Tryz.prog 16 #[v] w fun e w' => e = .returned (.int .i64 (chkV l)) ∧ Below w.heap.size w w' := by
  have hv0 := hv
  obtain ⟨ao, cap, rfl, h1, h2, h3, h4⟩ := hv
  by_cases h40 : 40 < l.length
  · have e : chkV l = 3 := by unfold chkV; rw [if_pos h40]
    rw [e]
    clear e hv0 h4
    have h40' : (40 : Int) < (l.length : Int) := by omega
    generalize l.length = n at *
    go_enter Tryz.func16, Tryz.ntmps16
    go_wp2
    go_ret
    exact ⟨rfl, Below.refl _ _⟩
  rcases h4 with rfl | ⟨b, o, rfl, _, h6, h7⟩
  · exact check_some [] 0 0 0 cap rfl (by omega) w hS P ao hv0 (fun h => absurd h (by omega)) (fun i hi => absurd hi (Nat.not_lt_zero _)) (fun h => absurd h (by omega))
  · exact check_some l _ b o cap rfl (by omega) w hS P _ hv0 (fun _ => h6) h7 (fun _ => rfl)
end Go.Proofs.YtbgccaconhmbaaaGreatDoor
namespace Go.Proofs.YtbgccaconhmbaaaGreatDoor
open Go.ChangeShapes Go.WideShapes Go.ChangeAt Go.RowKit Go.Deep
/-- What is still to come of a list to which a key is added. -/
def toAdd (k : Nm) (dn : Bool) (r : List Nm) : List Nm := if dn then r else addK k r
theorem toAdd_same (k : Nm) (dn : Bool) (r : List Nm) : toAdd k dn (k :: r) = k :: toAdd k true r := by
  unfold toAdd
  cases dn
  · show addK k (k :: r) = _
    unfold addK
    rw [if_neg (nm_irrefl _), if_pos rfl]
    rfl
  · rfl
theorem toAdd_over {k a : Nm} (h : k < a) (r : List Nm) : toAdd k false (a :: r) = k :: a :: toAdd k true r := by
  unfold toAdd
  show addK k (a :: r) = _
  unfold addK
  rw [if_neg (fun e => nm_irrefl _ (nm_trans h e)), if_neg (fun e => nm_ne h e.symm)]
  rfl
theorem toAdd_below {k a : Nm} (h : a < k) (dn : Bool) (r : List Nm) : toAdd k dn (a :: r) = a :: toAdd k dn r := by
  unfold toAdd
  cases dn
  · show addK k (a :: r) = _
    conv => lhs; unfold addK
    rw [if_pos h]
    rfl
  · rfl
theorem toAdd_done (k a : Nm) (r : List Nm) : toAdd k true (a :: r) = a :: toAdd k true r := rfl
theorem less_eq : ∀ (a b : Nm), Op.bytesLess a b = decide (a < b)
  | [], [] => by simp [Op.bytesLess]
  | [], _ :: _ => by simp [Op.bytesLess]
  | _ :: _, [] => by simp [Op.bytesLess]
  | a :: r, b :: s => by
    unfold Op.bytesLess
    rw [less_eq r s, Bool.eq_iff_iff]
    simp [List.cons_lt_cons_iff]
set_option maxRecDepth 100000 in
set_option maxHeartbeats 4000000 in
theorem radd_any {P : Nat → Prop} {w : World} {v : Value} {l : List Nm} (hv : HasS P w v l) (hl : l.length ≤ 1000000) (key : Nm) :
    Calls Tryz.prog 43 #[v, .string ⟨key.toArray⟩] w fun e w' => ∃ u, e = .returned u ∧ Below w.heap.size w w' ∧ w'.ownsRow w.heap.size 9 1 u (addK key l).length ((addK key l).map encStr) := by
  obtain ⟨i0, hi, hz0, hz1, hz2⟩ := info_parts info_str
  obtain ⟨ao, cap, rfl, hca, hcm, _, h4⟩ := hv
  obtain ⟨n, hn⟩ : ∃ n, l.length = n := ⟨_, rfl⟩
  rw [hn] at hl
  rw [hn]
  have HL := Lib.hid hn.symm
  clear hn hca hcm
  obtain ⟨R, hR⟩ : ∃ R, addK key l = R := ⟨_, rfl⟩
  rw [hR]
  have HR := Lib.hid hR
  clear hR
  go_enter Tryz.func43, Tryz.ntmps43
  go_wp2
  go_loopw [5, 6, 7] (fun vo vd vi wr => ∃ (k : Nat) (dn : Bool) (out : List Nm), vi = .int .i64 (k : Int) ∧ vd = .bool dn ∧ k ≤ n ∧ Hid (out ++ toAdd key dn (l.drop k) = R ∧ out.length ≤ k + dn.toNat) ∧ Hid (Below w.heap.size w wr) ∧ Hid (wr.ownsRow w.heap.size 9 1 vo out.length (out.map encStr))) (fun _ _ vi _ => n - (RowKit.intOf vi).toNat)
  case atStart => exact ⟨0, false, [], rfl, rfl, Nat.zero_le _, Lib.hid ⟨HR.out, Nat.zero_le _⟩, Lib.hid (Below.refl _ _), Lib.hid (World.ownsRow_nil _ _ _ _)⟩
  case round =>
    obtain ⟨k, dn, out, rfl, rfl, hk, HX, HB, HO⟩ := hrel
    by_cases hlt : k < n
    · have hk' : k < l.length := by rw [← HL.out]; exact hlt
      obtain ⟨b, o, rfl, _, hb, hc⟩ := h4.resolve_left (fun e => by rw [e] at hk'; exact absurd hk' (Nat.not_lt_zero _))
      have c0 := ((hc k hk').below HB.out hb) 0 _ rfl
      rw [Nat.mul_one, Nat.add_zero] at c0
      have hx : out ++ toAdd key dn (l[k] :: l.drop (k + 1)) = R := by rw [← List.drop_eq_getElem_cons hk']; exact HX.out.1
      have hlen := HX.out.2
      have hdn : dn.toNat ≤ 1 := by cases dn <;> decide
      have hb1 : b < wr.heap.size := Nat.lt_of_lt_of_le hb HB.out.size
      clear h4 hc HX HR
      generalize l[k] = x at *
      by_cases hk0 : x = key
      · subst hk0
        have HX2 : Hid ((out ++ [x]) ++ toAdd x true (l.drop (k + 1)) = R ∧ (out ++ [x]).length ≤ k + 1 + 1) := Lib.hid ⟨by rw [← hx, toAdd_same]; simp, by simp; omega⟩
        clear hx hlen hdn
        have hl9 : out.length ≤ k + 1 := by have := HX2.out.2; simp at this; omega
        go_wp2_with (at_builtin; refine wpList_append_own _ rfl (.tmp 34) (.tmp 39) 26 rfl w.heap.size 9 i0 (.string ⟨#[]⟩) 1 16 under_strs hi hz0 hz1 hz2 rfl (by decide) _ _ _ rfl (HO.out.alloc _) ⟨wr.heap.size, 0, none⟩ 1 1 [.string ⟨x.toArray⟩] rfl rfl (cell_nm_at _ _ _ rfl) (one_nm _) (by unfold maxLen; omega) (by omega) (by have := HB.out.size; simp at this ⊢; omega) ?_; intro v2 w2 hown' hgrow _; have HO2 := Lib.hid hown'; have HB2 := Lib.hid ((HB.out.alloc HB.out.size _).grown hgrow (HB.out.alloc HB.out.size _).size fun q hq => (HO.out.lt q hq).1); clear hown' hgrow)
        go_roundw
        case rel => exact ⟨k + 1, true, out ++ [x], by go_num, rfl, by omega, HX2, HB2, by rw [List.length_append, List.map_append]; exact HO2⟩
        case measure => simp [RowKit.intOf]; omega
      · have hne : (x == key) = false := beq_eq_false_iff_ne.2 hk0
        have hnd : decide (x = key) = false := decide_eq_false hk0
        cases dn
        · by_cases hgt : key < x
          · have hbl : Op.bytesLess x key = false := by rw [less_eq]; exact decide_eq_false fun e => nm_irrefl _ (nm_trans e hgt)
            have HX2 : Hid ((out ++ [key] ++ [x]) ++ toAdd key true (l.drop (k + 1)) = R ∧ (out ++ [key] ++ [x]).length ≤ k + 1 + 1) := Lib.hid ⟨by rw [← hx, toAdd_over hgt]; simp, by have hlen : out.length ≤ k + 0 := hlen; simp; omega⟩
            clear hx hk0 hgt
            have hlo : (out ++ [key]).length = out.length + 1 := by simp
            have HLO := Lib.hid hlo
            clear hlo
            have hl9 : out.length ≤ k + 1 := Nat.le_succ_of_le hlen
            go_wp2_with (first
              | (at_builtin; refine wpList_append_own _ rfl (.tmp 30) (.tmp 32) 26 rfl w.heap.size 9 i0 (.string ⟨#[]⟩) 1 16 under_strs hi hz0 hz1 hz2 rfl (by decide) _ _ _ rfl (HO.out.alloc _) ⟨wr.heap.size, 0, none⟩ 1 1 [.string ⟨key.toArray⟩] rfl rfl (cell_nm_at _ _ _ rfl) (one_nm _) (by unfold maxLen; omega) (by omega) (by have := HB.out.size; simp at this ⊢; omega) ?_; intro v2 w2 hown' hgrow _; have HO2 := Lib.hid hown'; have HB2 := Lib.hid ((HB.out.alloc HB.out.size _).grown hgrow (HB.out.alloc HB.out.size _).size fun q hq => (HO.out.lt q hq).1); have c2 := (HB2.out.cell (p := ⟨b, o + k, none⟩) hb).trans ((HB.out.cell (p := ⟨b, o + k, none⟩) hb).symm.trans c0); clear hown' hgrow)
              | (at_builtin; refine wpList_append_own _ rfl (.tmp 34) (.tmp 39) 26 rfl w.heap.size 9 i0 (.string ⟨#[]⟩) 1 16 under_strs hi hz0 hz1 hz2 rfl (by decide) _ (out.length + 1) ((out ++ [key]).map encStr) rfl (by rw [List.map_append]; exact HO2.out.alloc _) ⟨w2.heap.size, 0, none⟩ 1 1 [.string ⟨x.toArray⟩] rfl rfl (cell_nm_at _ _ _ rfl) (one_nm _) (by have := HLO.out; unfold maxLen; omega) (by have := HLO.out; omega) (by have := HB2.out.size; simp at this ⊢; omega) ?_; intro v3 w3 hown' hgrow _; have HO3 := Lib.hid hown'; have HB3 := Lib.hid ((HB2.out.alloc HB2.out.size _).grown hgrow (HB2.out.alloc HB2.out.size _).size fun q hq => (HO2.out.lt q hq).1); clear hown' hgrow))
            go_roundw
            case rel => exact ⟨k + 1, true, out ++ [key] ++ [x], by go_num, rfl, by omega, HX2, HB3, by rw [List.length_append, List.length_append, List.map_append]; exact HO3⟩
            case measure => simp [RowKit.intOf]; omega
          · have hlt2 : x < key := by
              rcases nm_cases x key with e | e | e
              · exact e
              · exact absurd e hk0
              · exact absurd e hgt
            have hbl : Op.bytesLess x key = true := by rw [less_eq]; exact decide_eq_true hlt2
            have HX2 : Hid ((out ++ [x]) ++ toAdd key false (l.drop (k + 1)) = R ∧ (out ++ [x]).length ≤ k + 1 + 0) := Lib.hid ⟨by rw [← hx, toAdd_below hlt2]; simp, by simp; exact hlen⟩
            clear hx hk0 hgt hlt2
            have hl9 : out.length ≤ k + 1 := Nat.le_succ_of_le hlen
            go_wp2_with (at_builtin; refine wpList_append_own _ rfl (.tmp 34) (.tmp 39) 26 rfl w.heap.size 9 i0 (.string ⟨#[]⟩) 1 16 under_strs hi hz0 hz1 hz2 rfl (by decide) _ _ _ rfl (HO.out.alloc _) ⟨wr.heap.size, 0, none⟩ 1 1 [.string ⟨x.toArray⟩] rfl rfl (cell_nm_at _ _ _ rfl) (one_nm _) (by unfold maxLen; omega) (by omega) (by have := HB.out.size; simp at this ⊢; omega) ?_; intro v2 w2 hown' hgrow _; have HO2 := Lib.hid hown'; have HB2 := Lib.hid ((HB.out.alloc HB.out.size _).grown hgrow (HB.out.alloc HB.out.size _).size fun q hq => (HO.out.lt q hq).1); clear hown' hgrow)
            go_roundw
            case rel => exact ⟨k + 1, false, out ++ [x], by go_num, rfl, by omega, HX2, HB2, by rw [List.length_append, List.map_append]; exact HO2⟩
            case measure => simp [RowKit.intOf]; omega
        · have HX2 : Hid ((out ++ [x]) ++ toAdd key true (l.drop (k + 1)) = R ∧ (out ++ [x]).length ≤ k + 1 + 1) := Lib.hid ⟨by rw [← hx, toAdd_done]; simp, by simp; omega⟩
          clear hx hk0
          have hl9 : out.length ≤ k + 1 := hlen
          go_wp2_with (at_builtin; refine wpList_append_own _ rfl (.tmp 34) (.tmp 39) 26 rfl w.heap.size 9 i0 (.string ⟨#[]⟩) 1 16 under_strs hi hz0 hz1 hz2 rfl (by decide) _ _ _ rfl (HO.out.alloc _) ⟨wr.heap.size, 0, none⟩ 1 1 [.string ⟨x.toArray⟩] rfl rfl (cell_nm_at _ _ _ rfl) (one_nm _) (by unfold maxLen; omega) (by omega) (by have := HB.out.size; simp at this ⊢; omega) ?_; intro v2 w2 hown' hgrow _; have HO2 := Lib.hid hown'; have HB2 := Lib.hid ((HB.out.alloc HB.out.size _).grown hgrow (HB.out.alloc HB.out.size _).size fun q hq => (HO.out.lt q hq).1); clear hown' hgrow)
          go_roundw
          case rel => exact ⟨k + 1, true, out ++ [x], by go_num, rfl, by omega, HX2, HB2, by rw [List.length_append, List.map_append]; exact HO2⟩
          case measure => simp [RowKit.intOf]; omega
    · obtain rfl : k = n := by omega
      have hx := HX.out.1
      have hlen := HX.out.2
      rw [List.drop_of_length_le (by rw [← HL.out]; exact Nat.le_refl _)] at hx
      clear HX HR h4
      have hdn : dn.toNat ≤ 1 := by cases dn <;> decide
      have hl9 : out.length ≤ k + 1 := by omega
      clear hlen hdn
      cases dn
      · have hx : out ++ [key] = R := hx
        have HX2 := Lib.hid hx
        clear hx
        go_wp2_with (at_builtin; refine wpList_append_own _ rfl (.tmp 43) (.tmp 45) 26 rfl w.heap.size 9 i0 (.string ⟨#[]⟩) 1 16 under_strs hi hz0 hz1 hz2 rfl (by decide) _ _ _ rfl (HO.out.alloc _) ⟨wr.heap.size, 0, none⟩ 1 1 [.string ⟨key.toArray⟩] rfl rfl (cell_nm_at _ _ _ rfl) (one_nm _) (by unfold maxLen; omega) (by omega) (by have := HB.out.size; simp at this ⊢; omega) ?_; intro v2 w2 hown' hgrow _; have HO2 := Lib.hid hown'; have HB2 := Lib.hid ((HB.out.alloc HB.out.size _).grown hgrow (HB.out.alloc HB.out.size _).size fun q hq => (HO.out.lt q hq).1); clear hown' hgrow)
        go_ret
        exact ⟨_, rfl, HB2.out, by rw [← HX2.out, List.length_append, List.map_append]; exact HO2.out⟩
      · have hx : out ++ [] = R := hx
        rw [List.append_nil] at hx
        have HX2 := Lib.hid hx
        clear hx
        go_wp2
        go_ret
        exact ⟨_, rfl, HB.out, by rw [← HX2.out]; exact HO.out⟩
end Go.Proofs.YtbgccaconhmbaaaGreatDoor
namespace Go.Proofs.YtbgccaconhmbaaaGreatDoor
open Go.ChangeShapes Go.WideShapes Go.ChangeAt Go.RowKit Go.Deep
theorem own_low {w : World} {B C : Nat} {e : TypeId} {size : Nat} {v : Value} {n : Nat} {xs : List Value} (h : w.ownsRow C e size v n xs) (hb : B ≤ C) : w.ownsRow B e size v n xs := by
  refine ⟨h.1, ?_⟩
  rcases h.2 with h | ⟨g, cap, cur, h1, h2, h3⟩
  · exact .inl h
  · exact .inr ⟨g, cap, cur, h1, Nat.le_trans hb h2, h3⟩
set_option maxRecDepth 100000 in
set_option maxHeartbeats 4000000 in
theorem rreads_any {P : Nat → Prop} {w : World} {v : Value} {l : List OpV} (hv : HasO P w v l) (hm : l.length ≤ 1000000) :
    Calls Tryz.prog 19 #[v] w fun e w' => ∃ u, e = .returned u ∧ Below w.heap.size w w' ∧ w'.ownsRow w.heap.size 9 1 u (readsV l).length ((readsV l).map encStr) := by
  obtain ⟨ao, cap, rfl, _, _, _, h4⟩ := hv
  obtain ⟨n, hn⟩ : ∃ n, l.length = n := ⟨_, rfl⟩
  rw [hn] at hm
  rw [hn]
  have HL := Lib.hid hn.symm
  clear hn
  have HK := fun s w => Lib.hid (rkey_any s w)
  go_enter Tryz.func19, Tryz.ntmps19
  go_wp2
  go_loopw [3, 4] (fun vo vi wr => ∃ (k : Nat), vi = .int .i64 (k : Int) ∧ k ≤ n ∧ Hid (Below w.heap.size w wr) ∧ Hid (wr.ownsRow w.heap.size 9 1 vo (setV (keysV isRd (l.take k))).length ((setV (keysV isRd (l.take k))).map encStr))) (fun _ vi _ => n - (RowKit.intOf vi).toNat)
  case atStart => exact ⟨0, rfl, Nat.zero_le _, Lib.hid (Below.refl _ _), Lib.hid (World.ownsRow_nil _ _ _ _)⟩
  case round =>
    obtain ⟨k, rfl, hk, HB, HO⟩ := hrel
    by_cases hlt : k < n
    · have hk' : k < l.length := by rw [← HL.out]; exact hlt
      obtain ⟨b, o, rfl, _, hb, hc⟩ := h4.resolve_left (fun e => by rw [e] at hk'; exact absurd hk' (Nat.not_lt_zero _))
      have HQ := Lib.hid (((hc k hk').below HB.out hb).op)
      have HS := Lib.hid (keysV_snoc isRd (l.take k) l[k])
      have HT := Lib.hid (take_snocO hk')
      have HLn := Lib.hid (Nat.le_trans (keysV_le isRd (l.take k)) (by rw [List.length_take]; omega : (l.take k).length ≤ k))
      have HLs := Lib.hid (length_setV (keysV isRd (l.take k)))
      have HSn := Lib.hid (setV_snoc (keysV isRd (l.take k)))
      generalize l[k] = r at *
      generalize keysV isRd (l.take k) = ks at *
      clear h4 hc
      have r0 := HQ.out.c0; have r1 := HQ.out.c1
      have HK := fun w => Lib.hid (HK r.key w).out
      obtain ⟨c, key, vk, vx, vs⟩ := r
      simp only at HK HS
      have hSS : Hid ((isRd c && keyV key) = true → setV (keysV isRd (l.take (k + 1))) = addK key (setV ks)) := Lib.hid fun h => by rw [HT.out, HS.out, if_pos h, HSn.out]
      have hSN : Hid ((isRd c && keyV key) = false → setV (keysV isRd (l.take (k + 1))) = setV ks) := Lib.hid fun h => by rw [HT.out, HS.out, if_neg (by rw [h]; exact Bool.noConfusion), List.append_nil]
      have hRA : Hid (∀ {w : World} {v : Value} {B : Nat}, w.ownsRow B 9 1 v (setV ks).length ((setV ks).map encStr) → Calls Tryz.prog 43 #[v, .string ⟨key.toArray⟩] w fun e w' => ∃ u, e = .returned u ∧ Below w.heap.size w w' ∧ w'.ownsRow w.heap.size 9 1 u (addK key (setV ks)).length ((addK key (setV ks)).map encStr)) := Lib.hid fun h => radd_any (own_hasG nmC_len (by rw [cells_nm]; exact h)) (Nat.le_trans HLs.out (Nat.le_trans HLn.out (by omega))) key
      clear HS HSn HT HLn HLs
      generalize hkc : keyV key = kc at *
      have add : Hid (∀ X : Nat, X = X) := Lib.hid (fun _ => rfl)
      clear add hkc
      by_cases h1 : c = 1
      · subst h1
        cases kc
        · have HE := Lib.hid (hSN.out (rfl))
          clear hSS hSN hRA
          go_wp2_with (first
                    | (go_at_call 41; ((with_reducible refine (HK _).out.mono ?_); rintro e w2 ⟨rfl, rfl⟩)))
          go_roundw
          case rel => exact ⟨k + 1, by go_num, by omega, HB, by rw [HE.out]; exact HO⟩
          case measure => simp [RowKit.intOf]; omega
        · have HE := Lib.hid (hSS.out (rfl))
          clear hSS hSN
          go_wp2_with (first
            | (go_at_call 41; ((with_reducible refine (HK _).out.mono ?_); rintro e w2 ⟨rfl, rfl⟩))
            | (go_at_call 43; refine (hRA.out HO.out).mono ?_; rintro e w2 ⟨u, rfl, h2, h3⟩; have HB2 := Lib.hid (HB.out.trans (h2.mono HB.out.size)); have HO2 := Lib.hid h3; have HO2 := Lib.hid (own_low HO2.out HB.out.size); clear h2 h3))
          go_roundw
          case rel => exact ⟨k + 1, by go_num, by omega, HB2, by rw [HE.out]; exact HO2⟩
          case measure => simp [RowKit.intOf]; omega
      · have g1 : (c == 1) = false := beq_eq_false_iff_ne.2 h1
        have HE := Lib.hid (hSN.out (by unfold isRd; rw [g1]; rfl))
        clear hSS hSN hRA
        go_wp2_with (fail)
        go_roundw
        case rel => exact ⟨k + 1, by go_num, by omega, HB, by rw [HE.out]; exact HO⟩
        case measure => simp [RowKit.intOf]; omega
    · obtain rfl : k = n := by omega
      rw [List.take_of_length_le (by rw [← HL.out]; exact Nat.le_refl _)] at HO
      clear h4
      go_wp2
      go_ret
      exact ⟨_, rfl, HB.out, HO.out⟩
set_option maxRecDepth 100000 in
set_option maxHeartbeats 4000000 in
theorem rnames_any {P : Nat → Prop} {w : World} {v : Value} {l : List OpV} (hv : HasO P w v l) (hm : l.length ≤ 1000000) :
    Calls Tryz.prog 20 #[v] w fun e w' => ∃ u, e = .returned u ∧ Below w.heap.size w w' ∧ w'.ownsRow w.heap.size 9 1 u (namesV l).length ((namesV l).map encStr) := by
  obtain ⟨ao, cap, rfl, _, _, _, h4⟩ := hv
  obtain ⟨n, hn⟩ : ∃ n, l.length = n := ⟨_, rfl⟩
  rw [hn] at hm
  rw [hn]
  have HL := Lib.hid hn.symm
  clear hn
  have HK := fun s w => Lib.hid (rkey_any s w)
  go_enter Tryz.func20, Tryz.ntmps20
  go_wp2
  go_loopw [3, 4] (fun vo vi wr => ∃ (k : Nat), vi = .int .i64 (k : Int) ∧ k ≤ n ∧ Hid (Below w.heap.size w wr) ∧ Hid (wr.ownsRow w.heap.size 9 1 vo (setV (keysV isWr (l.take k))).length ((setV (keysV isWr (l.take k))).map encStr))) (fun _ vi _ => n - (RowKit.intOf vi).toNat)
  case atStart => exact ⟨0, rfl, Nat.zero_le _, Lib.hid (Below.refl _ _), Lib.hid (World.ownsRow_nil _ _ _ _)⟩
  case round =>
    obtain ⟨k, rfl, hk, HB, HO⟩ := hrel
    by_cases hlt : k < n
    · have hk' : k < l.length := by rw [← HL.out]; exact hlt
      obtain ⟨b, o, rfl, _, hb, hc⟩ := h4.resolve_left (fun e => by rw [e] at hk'; exact absurd hk' (Nat.not_lt_zero _))
      have HQ := Lib.hid (((hc k hk').below HB.out hb).op)
      have HS := Lib.hid (keysV_snoc isWr (l.take k) l[k])
      have HT := Lib.hid (take_snocO hk')
      have HLn := Lib.hid (Nat.le_trans (keysV_le isWr (l.take k)) (by rw [List.length_take]; omega : (l.take k).length ≤ k))
      have HLs := Lib.hid (length_setV (keysV isWr (l.take k)))
      have HSn := Lib.hid (setV_snoc (keysV isWr (l.take k)))
      generalize l[k] = r at *
      generalize keysV isWr (l.take k) = ks at *
      clear h4 hc
      have r0 := HQ.out.c0; have r1 := HQ.out.c1
      have HK := fun w => Lib.hid (HK r.key w).out
      obtain ⟨c, key, vk, vx, vs⟩ := r
      simp only at HK HS
      have hSS : Hid ((isWr c && keyV key) = true → setV (keysV isWr (l.take (k + 1))) = addK key (setV ks)) := Lib.hid fun h => by rw [HT.out, HS.out, if_pos h, HSn.out]
      have hSN : Hid ((isWr c && keyV key) = false → setV (keysV isWr (l.take (k + 1))) = setV ks) := Lib.hid fun h => by rw [HT.out, HS.out, if_neg (by rw [h]; exact Bool.noConfusion), List.append_nil]
      have hRA : Hid (∀ {w : World} {v : Value} {B : Nat}, w.ownsRow B 9 1 v (setV ks).length ((setV ks).map encStr) → Calls Tryz.prog 43 #[v, .string ⟨key.toArray⟩] w fun e w' => ∃ u, e = .returned u ∧ Below w.heap.size w w' ∧ w'.ownsRow w.heap.size 9 1 u (addK key (setV ks)).length ((addK key (setV ks)).map encStr)) := Lib.hid fun h => radd_any (own_hasG nmC_len (by rw [cells_nm]; exact h)) (Nat.le_trans HLs.out (Nat.le_trans HLn.out (by omega))) key
      clear HS HSn HT HLn HLs
      generalize hkc : keyV key = kc at *
      have add : Hid (∀ X : Nat, X = X) := Lib.hid (fun _ => rfl)
      clear add hkc
      by_cases h2 : c = 2
      · subst h2
        cases kc
        · have HE := Lib.hid (hSN.out (rfl))
          clear hSS hSN hRA
          go_wp2_with (first
                    | (go_at_call 41; ((with_reducible refine (HK _).out.mono ?_); rintro e w2 ⟨rfl, rfl⟩)))
          go_roundw
          case rel => exact ⟨k + 1, by go_num, by omega, HB, by rw [HE.out]; exact HO⟩
          case measure => simp [RowKit.intOf]; omega
        · have HE := Lib.hid (hSS.out (rfl))
          clear hSS hSN
          go_wp2_with (first
            | (go_at_call 41; ((with_reducible refine (HK _).out.mono ?_); rintro e w2 ⟨rfl, rfl⟩))
            | (go_at_call 43; refine (hRA.out HO.out).mono ?_; rintro e w2 ⟨u, rfl, h2, h3⟩; have HB2 := Lib.hid (HB.out.trans (h2.mono HB.out.size)); have HO2 := Lib.hid h3; have HO2 := Lib.hid (own_low HO2.out HB.out.size); clear h2 h3))
          go_roundw
          case rel => exact ⟨k + 1, by go_num, by omega, HB2, by rw [HE.out]; exact HO2⟩
          case measure => simp [RowKit.intOf]; omega
      · have g2 : (c == 2) = false := beq_eq_false_iff_ne.2 h2
        by_cases h3 : c = 3
        · subst h3
          cases kc
          · have HE := Lib.hid (hSN.out (rfl))
            clear hSS hSN hRA
            go_wp2_with (first
                      | (go_at_call 41; ((with_reducible refine (HK _).out.mono ?_); rintro e w2 ⟨rfl, rfl⟩)))
            go_roundw
            case rel => exact ⟨k + 1, by go_num, by omega, HB, by rw [HE.out]; exact HO⟩
            case measure => simp [RowKit.intOf]; omega
          · have HE := Lib.hid (hSS.out (rfl))
            clear hSS hSN
            go_wp2_with (first
              | (go_at_call 41; ((with_reducible refine (HK _).out.mono ?_); rintro e w2 ⟨rfl, rfl⟩))
              | (go_at_call 43; refine (hRA.out HO.out).mono ?_; rintro e w2 ⟨u, rfl, h2, h3⟩; have HB2 := Lib.hid (HB.out.trans (h2.mono HB.out.size)); have HO2 := Lib.hid h3; have HO2 := Lib.hid (own_low HO2.out HB.out.size); clear h2 h3))
            go_roundw
            case rel => exact ⟨k + 1, by go_num, by omega, HB2, by rw [HE.out]; exact HO2⟩
            case measure => simp [RowKit.intOf]; omega
        · have g3 : (c == 3) = false := beq_eq_false_iff_ne.2 h3
          have HE := Lib.hid (hSN.out (by unfold isWr; rw [g2, g3]; rfl))
          clear hSS hSN hRA
          go_wp2_with (fail)
          go_roundw
          case rel => exact ⟨k + 1, by go_num, by omega, HB, by rw [HE.out]; exact HO⟩
          case measure => simp [RowKit.intOf]; omega
    · obtain rfl : k = n := by omega
      rw [List.take_of_length_le (by rw [← HL.out]; exact Nat.le_refl _)] at HO
      clear h4
      go_wp2
      go_ret
      exact ⟨_, rfl, HB.out, HO.out⟩
end Go.Proofs.YtbgccaconhmbaaaGreatDoor
namespace Go.Proofs.YtbgccaconhmbaaaGreatDoor
open Go.ChangeShapes Go.WideShapes Go.ChangeAt Go.RowKit Go.Deep
set_option maxRecDepth 100000 in
theorem named_any (c : Int) (w : World) : Calls Tryz.prog 40 #[.int .i64 c] w fun e w' => e = .returned (.int .i64 (nmsC c)) ∧ w = w' := by
  by_cases h1 : c = 1
  · subst h1
    go_enter Tryz.func40, Tryz.ntmps40
    go_wp2
    go_ret
    exact ⟨rfl, rfl⟩
  have g1 : (c == 1) = false := beq_eq_false_iff_ne.2 h1
  by_cases h2 : c = 2
  · subst h2
    go_enter Tryz.func40, Tryz.ntmps40
    go_wp2
    go_ret
    exact ⟨rfl, rfl⟩
  have g2 : (c == 2) = false := beq_eq_false_iff_ne.2 h2
  by_cases h3 : c = 3
  · subst h3
    go_enter Tryz.func40, Tryz.ntmps40
    go_wp2
    go_ret
    exact ⟨rfl, rfl⟩
  have g3 : (c == 3) = false := beq_eq_false_iff_ne.2 h3
  by_cases h4 : c = 4
  · subst h4
    go_enter Tryz.func40, Tryz.ntmps40
    go_wp2
    go_ret
    exact ⟨rfl, rfl⟩
  have g4 : (c == 4) = false := beq_eq_false_iff_ne.2 h4
  have e : nmsC c = 0 := by unfold nmsC; rw [if_neg (by omega), if_neg h4]
  rw [e]
  clear e h1 h2 h3 h4
  go_enter Tryz.func40, Tryz.ntmps40
  go_wp2
  go_ret
  exact ⟨rfl, rfl⟩
set_option maxRecDepth 100000 in
theorem takes_any (c : Int) (w : World) : Calls Tryz.prog 42 #[.int .i64 c] w fun e w' => e = .returned (.tuple #[.int .i64 (popC c : Nat), .int .i64 (pushC c : Nat)]) ∧ w = w' := by
  by_cases h1 : c = 1
  · subst h1
    go_enter Tryz.func42, Tryz.ntmps42
    go_wp2
    go_ret2
    exact ⟨rfl, rfl⟩
  have g1 : (c == 1) = false := beq_eq_false_iff_ne.2 h1
  by_cases h4 : c = 4
  · subst h4
    go_enter Tryz.func42, Tryz.ntmps42
    go_wp2
    go_ret2
    exact ⟨rfl, rfl⟩
  have g4 : (c == 4) = false := beq_eq_false_iff_ne.2 h4
  by_cases h2 : c = 2
  · subst h2
    go_enter Tryz.func42, Tryz.ntmps42
    go_wp2
    go_ret2
    exact ⟨rfl, rfl⟩
  have g2 : (c == 2) = false := beq_eq_false_iff_ne.2 h2
  by_cases h13 : c = 13
  · subst h13
    go_enter Tryz.func42, Tryz.ntmps42
    go_wp2
    go_ret2
    exact ⟨rfl, rfl⟩
  have g13 : (c == 13) = false := beq_eq_false_iff_ne.2 h13
  by_cases h3 : c = 3
  · subst h3
    go_enter Tryz.func42, Tryz.ntmps42
    go_wp2
    go_ret2
    exact ⟨rfl, rfl⟩
  have g3 : (c == 3) = false := beq_eq_false_iff_ne.2 h3
  by_cases h14 : c = 14
  · subst h14
    go_enter Tryz.func42, Tryz.ntmps42
    go_wp2
    go_ret2
    exact ⟨rfl, rfl⟩
  have g14 : (c == 14) = false := beq_eq_false_iff_ne.2 h14
  by_cases h15 : c = 15
  · subst h15
    go_enter Tryz.func42, Tryz.ntmps42
    go_wp2
    go_ret2
    exact ⟨rfl, rfl⟩
  have g15 : (c == 15) = false := beq_eq_false_iff_ne.2 h15
  have e1 : popC c = 2 := by unfold popC; rw [if_neg (by omega), if_neg (by omega)]
  have e2 : pushC c = 1 := by unfold pushC; rw [if_neg (by omega), if_neg (by omega)]
  rw [e1, e2]
  clear e1 e2 h1 h2 h3 h4 h13 h14 h15
  go_enter Tryz.func42, Tryz.ntmps42
  go_wp2
  go_ret2
  exact ⟨rfl, rfl⟩
set_option maxRecDepth 100000 in
set_option maxHeartbeats 16000000 in
theorem rcheck_any {P : Nat → Prop} {w : World} {v : Value} {l : List OpV} (hv : HasO P w v l) :
    Calls Tryz.prog 17 #[v] w fun e w' => e = .returned (.int .i64 (chkV l)) ∧ Below w.heap.size w w' := by
  have hst := run_stf
  have hv0 := hv
  obtain ⟨ao, cap, rfl, hca, hcm, _, h4v⟩ := hv
  obtain ⟨n, hn⟩ : ∃ n, l.length = n := ⟨_, rfl⟩
  rw [hn] at hv0 hca
  rw [hn]
  have HN := Lib.hid hn
  have hlim := Nat.le_trans hca hcm
  unfold maxLen at hlim
  by_cases h40 : 40 < n
  · have e : chkV l = 3 := by unfold chkV; rw [if_pos (by omega)]
    rw [e]
    have h40' : (n : Int) > 40 := by omega
    clear e hn h40 hca hcm h4v hv0
    go_enter Tryz.func17, Tryz.ntmps17
    go_wp2
    go_ret
    exact ⟨rfl, Below.refl _ _⟩
  have h40' : ¬ (n : Int) > 40 := by omega
  have HX : Hid (chkV l = if chkL 0 l = 0 then (if 16 < (readsV l).length ∨ 16 < (namesV l).length then 3 else 0) else chkL 0 l) := Lib.hid (by unfold chkV; rw [if_neg (by omega)])
  obtain ⟨R, hR⟩ : ∃ R, chkL 0 l = R := ⟨_, rfl⟩
  rw [hR] at HX
  have HR := Lib.hid hR
  have HV := Lib.hid hv0
  have HN1 := fun c => Lib.hid (named_any c)
  clear hn hR hv0 hca hcm
  go_enter Tryz.func17, Tryz.ntmps17
  go_wp2
  go_loopw [3, 4] (fun vd vi wr => ∃ (k d : Nat), vi = .int .i64 (k : Int) ∧ vd = .int .i64 (d : Int) ∧ k ≤ n ∧ d ≤ 16 ∧ Hid (chkL d (l.drop k) = R) ∧ Hid (Below w.heap.size w wr)) (fun _ vi _ => n - (RowKit.intOf vi).toNat)
  case atStart => exact ⟨0, 0, rfl, rfl, Nat.zero_le _, Nat.zero_le _, HR, Lib.hid (Below.refl _ _)⟩
  case round =>
    obtain ⟨k, d, rfl, rfl, hk, hd, HT, HW1⟩ := hrel
    by_cases hlt : k < n
    · have hk' : k < l.length := by rw [HN.out]; exact hlt
      obtain ⟨b, o, rfl, _, hb, hc⟩ := h4v.resolve_left (fun e => by rw [e] at hk'; exact absurd hk' (Nat.not_lt_zero _))
      have HG := Lib.hid ((hc k hk').below HW1.out hb).op
      have HBad := fun e => Lib.hid (fun hb he => chk_bad (e := e) hk' HT.out hb he)
      have HGood := Lib.hid (fun hb => chk_good hk' HT.out hb)
      clear h4v hc hb HR
      generalize l[k] = r at *
      have r0 := HG.out.c0; have r1 := HG.out.c1; have r2 := HG.out.c2; have r3 := HG.out.c3; have r4 := HG.out.c4
      have HQ := Lib.hid (obox_new wr r)
      have q0 := HQ.out.c0; have q1 := HQ.out.c1; have q2 := HQ.out.c2; have q3 := HQ.out.c3; have q4 := HQ.out.c4
      have HW2 := Lib.hid (HW1.out.alloc HW1.out.size (oobj r))
      cases hok : okC r.c
      · have HE := Lib.hid ((HBad 7).out (bad_kind hok) (by decide))
        have hcc : r.c < 1 ∨ (¬ r.c < 1 ∧ 15 < r.c) := by
          unfold okC at hok
          by_cases h : r.c < 1
          · exact .inl h
          · refine .inr ⟨h, ?_⟩
            rw [Bool.and_eq_false_iff] at hok
            rcases hok with e | e
            · exact absurd (of_decide_eq_false e) (by omega)
            · have := of_decide_eq_false e; omega
        clear HBad HGood hok
        obtain ⟨c, key, vk, vx, vs⟩ := r
        simp only at hcc
        rcases hcc with h | ⟨h, h'⟩
        · go_wp2_with fail
          go_ret
          exact ⟨by rw [HX.out, HE.out]; rfl, HW2.out⟩
        · have h' : c > 15 := h'
          go_wp2_with fail
          go_ret
          exact ⟨by rw [HX.out, HE.out]; rfl, HW2.out⟩
      have hcc : ¬ r.c < 1 ∧ ¬ r.c > 15 := by
        unfold okC at hok
        rw [Bool.and_eq_true] at hok
        have h1 := of_decide_eq_true hok.1
        have h2 := of_decide_eq_true hok.2
        omega
      obtain ⟨hc1, hc2⟩ := hcc
      have hp2 := pop_le r.c
      have hq2 := push_le r.c
      have HTk := fun w => Lib.hid (takes_any r.c w)
      have HM := fun w => Lib.hid (rmay_any r.v w)
      have HKy := fun w => Lib.hid (rkey_any r.key w)
      have HN1 := fun w => Lib.hid ((HN1 r.c).out w)
      have H4 := Lib.hid fun h => (HBad 4).out (bad_form hok h) (by decide)
      have H5 := Lib.hid fun h h3 => (HBad 5).out (bad_short hok h h3) (by decide)
      have H2 := Lib.hid fun h h3 h4 => (HBad 2).out (bad_long hok h h3 h4) (by decide)
      have H0 := Lib.hid fun h h3 h4 => HGood.out (bad_none hok h h3 h4)
      have hfo : ∃ fo, formV r = fo := ⟨_, rfl⟩
      clear HBad HGood hok hfo
      have hn3 := nmsC r.c
      clear hn3
      have hsn : nmsC r.c = 0 ∨ nmsC r.c = 1 ∨ nmsC r.c = 2 := by
        unfold nmsC
        split
        · exact .inr (.inl rfl)
        · split
          · exact .inr (.inr rfl)
          · exact .inl rfl
      have hfm : formV r = if nmsC r.c = 1 then keyV r.key && (r.v.k == 0 && mayV r.v) else if nmsC r.c = 2 then r.key == [] && mayV r.v else r.key == [] && (r.v.k == 0 && mayV r.v) := rfl
      generalize nmsC r.c = sn at *
      generalize popC r.c = p at *
      generalize pushC r.c = q at *
      generalize formV r = fo at *
      generalize hkv : keyV r.key = kv at *
      generalize hmv : mayV r.v = mv at *
      generalize hzk : (r.v.k == 0) = zk at *
      generalize hke : (r.key == []) = ke at *
      clear hkv hmv
      obtain ⟨c, key, vk, vx, vs⟩ := r
      simp only at *
      rcases hsn with rfl | rfl | rfl
      · rw [if_neg (by decide), if_neg (by decide)] at hfm
        cases ke
        · have gke : (key != []) = true := by simpa using hke
          have gk2 : decide (key = []) = false := decide_eq_false (by simpa using hke)
          cases mv
          · cases zk
            · obtain rfl : fo = false := by rw [hfm]; first | rfl | (cases zk <;> rfl) | (cases mv <;> rfl) | (cases zk <;> cases mv <;> rfl)
              have HE := Lib.hid (H4.out rfl)
              clear H4 H5 H2 H0 hfm
              go_wp2_with (first
                | (go_at_call 40; ((with_reducible refine (HN1 _).out.mono ?_); rintro e w2 ⟨rfl, rfl⟩))
                | (go_at_call 41; ((with_reducible refine (HKy _).out.mono ?_); rintro e w2 ⟨rfl, rfl⟩))
                | (go_at_call 42; ((with_reducible refine (HTk _).out.mono ?_); rintro e w2 ⟨rfl, rfl⟩))
                | (go_at_call 33; first
                  | ((with_reducible refine (HM (wr.alloc (oobj ⟨c, key, ⟨vk, vx, vs⟩⟩))).out.mono ?_); rintro e w3 ⟨rfl, h2⟩; have HW3 := Lib.hid (HW2.out.trans (h2.mono HW2.out.size)); have HQ3 := Lib.hid (HQ.out.below h2 HQ.out.lt); have a0 := HQ3.out.c0; have a1 := HQ3.out.c1; have a2 := HQ3.out.c2; have a3 := HQ3.out.c3; have a4 := HQ3.out.c4; clear h2)
                  | ((with_reducible refine (HM w3).out.mono ?_); rintro e w4 ⟨rfl, h2⟩; have HW4 := Lib.hid (HW3.out.trans (h2.mono HW3.out.size)); have HQ4 := Lib.hid (HQ3.out.below h2 HQ3.out.lt); have b0 := HQ4.out.c0; have b1 := HQ4.out.c1; have b2 := HQ4.out.c2; have b3 := HQ4.out.c3; have b4 := HQ4.out.c4; clear h2)))
              go_ret
              exact ⟨by rw [HX.out, HE.out]; rfl, HW3.out⟩
            · obtain rfl : fo = false := by rw [hfm]; first | rfl | (cases zk <;> rfl) | (cases mv <;> rfl) | (cases zk <;> cases mv <;> rfl)
              have HE := Lib.hid (H4.out rfl)
              clear H4 H5 H2 H0 hfm
              go_wp2_with (first
                | (go_at_call 40; ((with_reducible refine (HN1 _).out.mono ?_); rintro e w2 ⟨rfl, rfl⟩))
                | (go_at_call 41; ((with_reducible refine (HKy _).out.mono ?_); rintro e w2 ⟨rfl, rfl⟩))
                | (go_at_call 42; ((with_reducible refine (HTk _).out.mono ?_); rintro e w2 ⟨rfl, rfl⟩))
                | (go_at_call 33; first
                  | ((with_reducible refine (HM (wr.alloc (oobj ⟨c, key, ⟨vk, vx, vs⟩⟩))).out.mono ?_); rintro e w3 ⟨rfl, h2⟩; have HW3 := Lib.hid (HW2.out.trans (h2.mono HW2.out.size)); have HQ3 := Lib.hid (HQ.out.below h2 HQ.out.lt); have a0 := HQ3.out.c0; have a1 := HQ3.out.c1; have a2 := HQ3.out.c2; have a3 := HQ3.out.c3; have a4 := HQ3.out.c4; clear h2)
                  | ((with_reducible refine (HM w3).out.mono ?_); rintro e w4 ⟨rfl, h2⟩; have HW4 := Lib.hid (HW3.out.trans (h2.mono HW3.out.size)); have HQ4 := Lib.hid (HQ3.out.below h2 HQ3.out.lt); have b0 := HQ4.out.c0; have b1 := HQ4.out.c1; have b2 := HQ4.out.c2; have b3 := HQ4.out.c3; have b4 := HQ4.out.c4; clear h2)))
              go_ret
              exact ⟨by rw [HX.out, HE.out]; rfl, HW3.out⟩
          · cases zk
            · obtain rfl : fo = false := by rw [hfm]; first | rfl | (cases zk <;> rfl) | (cases mv <;> rfl) | (cases zk <;> cases mv <;> rfl)
              have HE := Lib.hid (H4.out rfl)
              clear H4 H5 H2 H0 hfm
              go_wp2_with (first
                | (go_at_call 40; ((with_reducible refine (HN1 _).out.mono ?_); rintro e w2 ⟨rfl, rfl⟩))
                | (go_at_call 41; ((with_reducible refine (HKy _).out.mono ?_); rintro e w2 ⟨rfl, rfl⟩))
                | (go_at_call 42; ((with_reducible refine (HTk _).out.mono ?_); rintro e w2 ⟨rfl, rfl⟩))
                | (go_at_call 33; first
                  | ((with_reducible refine (HM (wr.alloc (oobj ⟨c, key, ⟨vk, vx, vs⟩⟩))).out.mono ?_); rintro e w3 ⟨rfl, h2⟩; have HW3 := Lib.hid (HW2.out.trans (h2.mono HW2.out.size)); have HQ3 := Lib.hid (HQ.out.below h2 HQ.out.lt); have a0 := HQ3.out.c0; have a1 := HQ3.out.c1; have a2 := HQ3.out.c2; have a3 := HQ3.out.c3; have a4 := HQ3.out.c4; clear h2)
                  | ((with_reducible refine (HM w3).out.mono ?_); rintro e w4 ⟨rfl, h2⟩; have HW4 := Lib.hid (HW3.out.trans (h2.mono HW3.out.size)); have HQ4 := Lib.hid (HQ3.out.below h2 HQ3.out.lt); have b0 := HQ4.out.c0; have b1 := HQ4.out.c1; have b2 := HQ4.out.c2; have b3 := HQ4.out.c3; have b4 := HQ4.out.c4; clear h2)))
              go_ret
              exact ⟨by rw [HX.out, HE.out]; rfl, HW3.out⟩
            · obtain rfl : fo = false := by rw [hfm]; first | rfl | (cases zk <;> rfl) | (cases mv <;> rfl) | (cases zk <;> cases mv <;> rfl)
              have HE := Lib.hid (H4.out rfl)
              clear H4 H5 H2 H0 hfm
              go_wp2_with (first
                | (go_at_call 40; ((with_reducible refine (HN1 _).out.mono ?_); rintro e w2 ⟨rfl, rfl⟩))
                | (go_at_call 41; ((with_reducible refine (HKy _).out.mono ?_); rintro e w2 ⟨rfl, rfl⟩))
                | (go_at_call 42; ((with_reducible refine (HTk _).out.mono ?_); rintro e w2 ⟨rfl, rfl⟩))
                | (go_at_call 33; first
                  | ((with_reducible refine (HM (wr.alloc (oobj ⟨c, key, ⟨vk, vx, vs⟩⟩))).out.mono ?_); rintro e w3 ⟨rfl, h2⟩; have HW3 := Lib.hid (HW2.out.trans (h2.mono HW2.out.size)); have HQ3 := Lib.hid (HQ.out.below h2 HQ.out.lt); have a0 := HQ3.out.c0; have a1 := HQ3.out.c1; have a2 := HQ3.out.c2; have a3 := HQ3.out.c3; have a4 := HQ3.out.c4; clear h2)
                  | ((with_reducible refine (HM w3).out.mono ?_); rintro e w4 ⟨rfl, h2⟩; have HW4 := Lib.hid (HW3.out.trans (h2.mono HW3.out.size)); have HQ4 := Lib.hid (HQ3.out.below h2 HQ3.out.lt); have b0 := HQ4.out.c0; have b1 := HQ4.out.c1; have b2 := HQ4.out.c2; have b3 := HQ4.out.c3; have b4 := HQ4.out.c4; clear h2)))
              go_ret
              exact ⟨by rw [HX.out, HE.out]; rfl, HW3.out⟩
        · have gke : (key != []) = false := by simpa using hke
          have gk2 : decide (key = []) = true := decide_eq_true (by simpa using hke)
          cases mv
          · cases zk
            · obtain rfl : fo = false := by rw [hfm]; first | rfl | (cases zk <;> rfl) | (cases mv <;> rfl) | (cases zk <;> cases mv <;> rfl)
              have HE := Lib.hid (H4.out rfl)
              clear H4 H5 H2 H0 hfm
              go_wp2_with (first
                | (go_at_call 40; ((with_reducible refine (HN1 _).out.mono ?_); rintro e w2 ⟨rfl, rfl⟩))
                | (go_at_call 41; ((with_reducible refine (HKy _).out.mono ?_); rintro e w2 ⟨rfl, rfl⟩))
                | (go_at_call 42; ((with_reducible refine (HTk _).out.mono ?_); rintro e w2 ⟨rfl, rfl⟩))
                | (go_at_call 33; first
                  | ((with_reducible refine (HM (wr.alloc (oobj ⟨c, key, ⟨vk, vx, vs⟩⟩))).out.mono ?_); rintro e w3 ⟨rfl, h2⟩; have HW3 := Lib.hid (HW2.out.trans (h2.mono HW2.out.size)); have HQ3 := Lib.hid (HQ.out.below h2 HQ.out.lt); have a0 := HQ3.out.c0; have a1 := HQ3.out.c1; have a2 := HQ3.out.c2; have a3 := HQ3.out.c3; have a4 := HQ3.out.c4; clear h2)
                  | ((with_reducible refine (HM w3).out.mono ?_); rintro e w4 ⟨rfl, h2⟩; have HW4 := Lib.hid (HW3.out.trans (h2.mono HW3.out.size)); have HQ4 := Lib.hid (HQ3.out.below h2 HQ3.out.lt); have b0 := HQ4.out.c0; have b1 := HQ4.out.c1; have b2 := HQ4.out.c2; have b3 := HQ4.out.c3; have b4 := HQ4.out.c4; clear h2)))
              go_ret
              exact ⟨by rw [HX.out, HE.out]; rfl, HW3.out⟩
            · obtain rfl : fo = false := by rw [hfm]; first | rfl | (cases zk <;> rfl) | (cases mv <;> rfl) | (cases zk <;> cases mv <;> rfl)
              have HE := Lib.hid (H4.out rfl)
              clear H4 H5 H2 H0 hfm
              go_wp2_with (first
                | (go_at_call 40; ((with_reducible refine (HN1 _).out.mono ?_); rintro e w2 ⟨rfl, rfl⟩))
                | (go_at_call 41; ((with_reducible refine (HKy _).out.mono ?_); rintro e w2 ⟨rfl, rfl⟩))
                | (go_at_call 42; ((with_reducible refine (HTk _).out.mono ?_); rintro e w2 ⟨rfl, rfl⟩))
                | (go_at_call 33; first
                  | ((with_reducible refine (HM (wr.alloc (oobj ⟨c, key, ⟨vk, vx, vs⟩⟩))).out.mono ?_); rintro e w3 ⟨rfl, h2⟩; have HW3 := Lib.hid (HW2.out.trans (h2.mono HW2.out.size)); have HQ3 := Lib.hid (HQ.out.below h2 HQ.out.lt); have a0 := HQ3.out.c0; have a1 := HQ3.out.c1; have a2 := HQ3.out.c2; have a3 := HQ3.out.c3; have a4 := HQ3.out.c4; clear h2)
                  | ((with_reducible refine (HM w3).out.mono ?_); rintro e w4 ⟨rfl, h2⟩; have HW4 := Lib.hid (HW3.out.trans (h2.mono HW3.out.size)); have HQ4 := Lib.hid (HQ3.out.below h2 HQ3.out.lt); have b0 := HQ4.out.c0; have b1 := HQ4.out.c1; have b2 := HQ4.out.c2; have b3 := HQ4.out.c3; have b4 := HQ4.out.c4; clear h2)))
              go_ret
              exact ⟨by rw [HX.out, HE.out]; rfl, HW3.out⟩
          · cases zk
            · obtain rfl : fo = false := by rw [hfm]; first | rfl | (cases zk <;> rfl) | (cases mv <;> rfl) | (cases zk <;> cases mv <;> rfl)
              have HE := Lib.hid (H4.out rfl)
              clear H4 H5 H2 H0 hfm
              go_wp2_with (first
                | (go_at_call 40; ((with_reducible refine (HN1 _).out.mono ?_); rintro e w2 ⟨rfl, rfl⟩))
                | (go_at_call 41; ((with_reducible refine (HKy _).out.mono ?_); rintro e w2 ⟨rfl, rfl⟩))
                | (go_at_call 42; ((with_reducible refine (HTk _).out.mono ?_); rintro e w2 ⟨rfl, rfl⟩))
                | (go_at_call 33; first
                  | ((with_reducible refine (HM (wr.alloc (oobj ⟨c, key, ⟨vk, vx, vs⟩⟩))).out.mono ?_); rintro e w3 ⟨rfl, h2⟩; have HW3 := Lib.hid (HW2.out.trans (h2.mono HW2.out.size)); have HQ3 := Lib.hid (HQ.out.below h2 HQ.out.lt); have a0 := HQ3.out.c0; have a1 := HQ3.out.c1; have a2 := HQ3.out.c2; have a3 := HQ3.out.c3; have a4 := HQ3.out.c4; clear h2)
                  | ((with_reducible refine (HM w3).out.mono ?_); rintro e w4 ⟨rfl, h2⟩; have HW4 := Lib.hid (HW3.out.trans (h2.mono HW3.out.size)); have HQ4 := Lib.hid (HQ3.out.below h2 HQ3.out.lt); have b0 := HQ4.out.c0; have b1 := HQ4.out.c1; have b2 := HQ4.out.c2; have b3 := HQ4.out.c3; have b4 := HQ4.out.c4; clear h2)))
              go_ret
              exact ⟨by rw [HX.out, HE.out]; rfl, HW3.out⟩
            · obtain rfl : fo = true := by rw [hfm]; first | rfl | (cases zk <;> rfl) | (cases mv <;> rfl) | (cases zk <;> cases mv <;> rfl)
              replace H5 := Lib.hid (H5.out rfl)
              replace H2 := Lib.hid (H2.out rfl)
              replace H0 := Lib.hid (H0.out rfl)
              clear H4 hfm
              by_cases h3 : d < p
              · have HE := Lib.hid (H5.out h3)
                have h3' : (d : Int) < (p : Int) := by omega
                clear H5 H2 H0
                go_wp2_with (first
                  | (go_at_call 40; ((with_reducible refine (HN1 _).out.mono ?_); rintro e w2 ⟨rfl, rfl⟩))
                  | (go_at_call 41; ((with_reducible refine (HKy _).out.mono ?_); rintro e w2 ⟨rfl, rfl⟩))
                  | (go_at_call 42; ((with_reducible refine (HTk _).out.mono ?_); rintro e w2 ⟨rfl, rfl⟩))
                  | (go_at_call 33; first
                    | ((with_reducible refine (HM (wr.alloc (oobj ⟨c, key, ⟨vk, vx, vs⟩⟩))).out.mono ?_); rintro e w3 ⟨rfl, h2⟩; have HW3 := Lib.hid (HW2.out.trans (h2.mono HW2.out.size)); have HQ3 := Lib.hid (HQ.out.below h2 HQ.out.lt); have a0 := HQ3.out.c0; have a1 := HQ3.out.c1; have a2 := HQ3.out.c2; have a3 := HQ3.out.c3; have a4 := HQ3.out.c4; clear h2)
                    | ((with_reducible refine (HM w3).out.mono ?_); rintro e w4 ⟨rfl, h2⟩; have HW4 := Lib.hid (HW3.out.trans (h2.mono HW3.out.size)); have HQ4 := Lib.hid (HQ3.out.below h2 HQ3.out.lt); have b0 := HQ4.out.c0; have b1 := HQ4.out.c1; have b2 := HQ4.out.c2; have b3 := HQ4.out.c3; have b4 := HQ4.out.c4; clear h2)))
                go_ret
                exact ⟨by rw [HX.out, HE.out]; rfl, HW3.out⟩
              have h3' : ¬ (d : Int) < (p : Int) := by omega
              by_cases h4 : 16 < d - p + q
              · have HE := Lib.hid (H2.out h3 h4)
                have h4' : (d : Int) - (p : Int) + (q : Int) > 16 := by omega
                clear H5 H2 H0
                go_wp2_with (first
                  | (go_at_call 40; ((with_reducible refine (HN1 _).out.mono ?_); rintro e w2 ⟨rfl, rfl⟩))
                  | (go_at_call 41; ((with_reducible refine (HKy _).out.mono ?_); rintro e w2 ⟨rfl, rfl⟩))
                  | (go_at_call 42; ((with_reducible refine (HTk _).out.mono ?_); rintro e w2 ⟨rfl, rfl⟩))
                  | (go_at_call 33; first
                    | ((with_reducible refine (HM (wr.alloc (oobj ⟨c, key, ⟨vk, vx, vs⟩⟩))).out.mono ?_); rintro e w3 ⟨rfl, h2⟩; have HW3 := Lib.hid (HW2.out.trans (h2.mono HW2.out.size)); have HQ3 := Lib.hid (HQ.out.below h2 HQ.out.lt); have a0 := HQ3.out.c0; have a1 := HQ3.out.c1; have a2 := HQ3.out.c2; have a3 := HQ3.out.c3; have a4 := HQ3.out.c4; clear h2)
                    | ((with_reducible refine (HM w3).out.mono ?_); rintro e w4 ⟨rfl, h2⟩; have HW4 := Lib.hid (HW3.out.trans (h2.mono HW3.out.size)); have HQ4 := Lib.hid (HQ3.out.below h2 HQ3.out.lt); have b0 := HQ4.out.c0; have b1 := HQ4.out.c1; have b2 := HQ4.out.c2; have b3 := HQ4.out.c3; have b4 := HQ4.out.c4; clear h2)))
                go_ret
                exact ⟨by rw [HX.out, HE.out]; rfl, HW3.out⟩
              have h4' : ¬ (d : Int) - (p : Int) + (q : Int) > 16 := by omega
              have HE := Lib.hid (H0.out h3 h4)
              have HD : Hid ((d : Int) - (p : Int) + (q : Int) = ((d - p + q : Nat) : Int)) := Lib.hid (by omega)
              clear H5 H2 H0
              go_wp2_with (first
                | (go_at_call 40; ((with_reducible refine (HN1 _).out.mono ?_); rintro e w2 ⟨rfl, rfl⟩))
                | (go_at_call 41; ((with_reducible refine (HKy _).out.mono ?_); rintro e w2 ⟨rfl, rfl⟩))
                | (go_at_call 42; ((with_reducible refine (HTk _).out.mono ?_); rintro e w2 ⟨rfl, rfl⟩))
                | (go_at_call 33; first
                  | ((with_reducible refine (HM (wr.alloc (oobj ⟨c, key, ⟨vk, vx, vs⟩⟩))).out.mono ?_); rintro e w3 ⟨rfl, h2⟩; have HW3 := Lib.hid (HW2.out.trans (h2.mono HW2.out.size)); have HQ3 := Lib.hid (HQ.out.below h2 HQ.out.lt); have a0 := HQ3.out.c0; have a1 := HQ3.out.c1; have a2 := HQ3.out.c2; have a3 := HQ3.out.c3; have a4 := HQ3.out.c4; clear h2)
                  | ((with_reducible refine (HM w3).out.mono ?_); rintro e w4 ⟨rfl, h2⟩; have HW4 := Lib.hid (HW3.out.trans (h2.mono HW3.out.size)); have HQ4 := Lib.hid (HQ3.out.below h2 HQ3.out.lt); have b0 := HQ4.out.c0; have b1 := HQ4.out.c1; have b2 := HQ4.out.c2; have b3 := HQ4.out.c3; have b4 := HQ4.out.c4; clear h2)))
              go_roundw
              case rel => exact ⟨k + 1, d - p + q, by go_num, by rw [HD.out], by omega, by omega, HE, HW3⟩
              case measure => simp [RowKit.intOf]; omega
      · rw [if_pos rfl] at hfm
        cases kv
        · skip
          cases mv
          · cases zk
            · obtain rfl : fo = false := by rw [hfm]; first | rfl | (cases zk <;> rfl) | (cases mv <;> rfl) | (cases zk <;> cases mv <;> rfl)
              have HE := Lib.hid (H4.out rfl)
              clear H4 H5 H2 H0 hfm
              go_wp2_with (first
                | (go_at_call 40; ((with_reducible refine (HN1 _).out.mono ?_); rintro e w2 ⟨rfl, rfl⟩))
                | (go_at_call 41; ((with_reducible refine (HKy _).out.mono ?_); rintro e w2 ⟨rfl, rfl⟩))
                | (go_at_call 42; ((with_reducible refine (HTk _).out.mono ?_); rintro e w2 ⟨rfl, rfl⟩))
                | (go_at_call 33; first
                  | ((with_reducible refine (HM (wr.alloc (oobj ⟨c, key, ⟨vk, vx, vs⟩⟩))).out.mono ?_); rintro e w3 ⟨rfl, h2⟩; have HW3 := Lib.hid (HW2.out.trans (h2.mono HW2.out.size)); have HQ3 := Lib.hid (HQ.out.below h2 HQ.out.lt); have a0 := HQ3.out.c0; have a1 := HQ3.out.c1; have a2 := HQ3.out.c2; have a3 := HQ3.out.c3; have a4 := HQ3.out.c4; clear h2)
                  | ((with_reducible refine (HM w3).out.mono ?_); rintro e w4 ⟨rfl, h2⟩; have HW4 := Lib.hid (HW3.out.trans (h2.mono HW3.out.size)); have HQ4 := Lib.hid (HQ3.out.below h2 HQ3.out.lt); have b0 := HQ4.out.c0; have b1 := HQ4.out.c1; have b2 := HQ4.out.c2; have b3 := HQ4.out.c3; have b4 := HQ4.out.c4; clear h2)))
              go_ret
              exact ⟨by rw [HX.out, HE.out]; rfl, HW3.out⟩
            · obtain rfl : fo = false := by rw [hfm]; first | rfl | (cases zk <;> rfl) | (cases mv <;> rfl) | (cases zk <;> cases mv <;> rfl)
              have HE := Lib.hid (H4.out rfl)
              clear H4 H5 H2 H0 hfm
              go_wp2_with (first
                | (go_at_call 40; ((with_reducible refine (HN1 _).out.mono ?_); rintro e w2 ⟨rfl, rfl⟩))
                | (go_at_call 41; ((with_reducible refine (HKy _).out.mono ?_); rintro e w2 ⟨rfl, rfl⟩))
                | (go_at_call 42; ((with_reducible refine (HTk _).out.mono ?_); rintro e w2 ⟨rfl, rfl⟩))
                | (go_at_call 33; first
                  | ((with_reducible refine (HM (wr.alloc (oobj ⟨c, key, ⟨vk, vx, vs⟩⟩))).out.mono ?_); rintro e w3 ⟨rfl, h2⟩; have HW3 := Lib.hid (HW2.out.trans (h2.mono HW2.out.size)); have HQ3 := Lib.hid (HQ.out.below h2 HQ.out.lt); have a0 := HQ3.out.c0; have a1 := HQ3.out.c1; have a2 := HQ3.out.c2; have a3 := HQ3.out.c3; have a4 := HQ3.out.c4; clear h2)
                  | ((with_reducible refine (HM w3).out.mono ?_); rintro e w4 ⟨rfl, h2⟩; have HW4 := Lib.hid (HW3.out.trans (h2.mono HW3.out.size)); have HQ4 := Lib.hid (HQ3.out.below h2 HQ3.out.lt); have b0 := HQ4.out.c0; have b1 := HQ4.out.c1; have b2 := HQ4.out.c2; have b3 := HQ4.out.c3; have b4 := HQ4.out.c4; clear h2)))
              go_ret
              exact ⟨by rw [HX.out, HE.out]; rfl, HW3.out⟩
          · cases zk
            · obtain rfl : fo = false := by rw [hfm]; first | rfl | (cases zk <;> rfl) | (cases mv <;> rfl) | (cases zk <;> cases mv <;> rfl)
              have HE := Lib.hid (H4.out rfl)
              clear H4 H5 H2 H0 hfm
              go_wp2_with (first
                | (go_at_call 40; ((with_reducible refine (HN1 _).out.mono ?_); rintro e w2 ⟨rfl, rfl⟩))
                | (go_at_call 41; ((with_reducible refine (HKy _).out.mono ?_); rintro e w2 ⟨rfl, rfl⟩))
                | (go_at_call 42; ((with_reducible refine (HTk _).out.mono ?_); rintro e w2 ⟨rfl, rfl⟩))
                | (go_at_call 33; first
                  | ((with_reducible refine (HM (wr.alloc (oobj ⟨c, key, ⟨vk, vx, vs⟩⟩))).out.mono ?_); rintro e w3 ⟨rfl, h2⟩; have HW3 := Lib.hid (HW2.out.trans (h2.mono HW2.out.size)); have HQ3 := Lib.hid (HQ.out.below h2 HQ.out.lt); have a0 := HQ3.out.c0; have a1 := HQ3.out.c1; have a2 := HQ3.out.c2; have a3 := HQ3.out.c3; have a4 := HQ3.out.c4; clear h2)
                  | ((with_reducible refine (HM w3).out.mono ?_); rintro e w4 ⟨rfl, h2⟩; have HW4 := Lib.hid (HW3.out.trans (h2.mono HW3.out.size)); have HQ4 := Lib.hid (HQ3.out.below h2 HQ3.out.lt); have b0 := HQ4.out.c0; have b1 := HQ4.out.c1; have b2 := HQ4.out.c2; have b3 := HQ4.out.c3; have b4 := HQ4.out.c4; clear h2)))
              go_ret
              exact ⟨by rw [HX.out, HE.out]; rfl, HW3.out⟩
            · obtain rfl : fo = false := by rw [hfm]; first | rfl | (cases zk <;> rfl) | (cases mv <;> rfl) | (cases zk <;> cases mv <;> rfl)
              have HE := Lib.hid (H4.out rfl)
              clear H4 H5 H2 H0 hfm
              go_wp2_with (first
                | (go_at_call 40; ((with_reducible refine (HN1 _).out.mono ?_); rintro e w2 ⟨rfl, rfl⟩))
                | (go_at_call 41; ((with_reducible refine (HKy _).out.mono ?_); rintro e w2 ⟨rfl, rfl⟩))
                | (go_at_call 42; ((with_reducible refine (HTk _).out.mono ?_); rintro e w2 ⟨rfl, rfl⟩))
                | (go_at_call 33; first
                  | ((with_reducible refine (HM (wr.alloc (oobj ⟨c, key, ⟨vk, vx, vs⟩⟩))).out.mono ?_); rintro e w3 ⟨rfl, h2⟩; have HW3 := Lib.hid (HW2.out.trans (h2.mono HW2.out.size)); have HQ3 := Lib.hid (HQ.out.below h2 HQ.out.lt); have a0 := HQ3.out.c0; have a1 := HQ3.out.c1; have a2 := HQ3.out.c2; have a3 := HQ3.out.c3; have a4 := HQ3.out.c4; clear h2)
                  | ((with_reducible refine (HM w3).out.mono ?_); rintro e w4 ⟨rfl, h2⟩; have HW4 := Lib.hid (HW3.out.trans (h2.mono HW3.out.size)); have HQ4 := Lib.hid (HQ3.out.below h2 HQ3.out.lt); have b0 := HQ4.out.c0; have b1 := HQ4.out.c1; have b2 := HQ4.out.c2; have b3 := HQ4.out.c3; have b4 := HQ4.out.c4; clear h2)))
              go_ret
              exact ⟨by rw [HX.out, HE.out]; rfl, HW3.out⟩
        · skip
          cases mv
          · cases zk
            · obtain rfl : fo = false := by rw [hfm]; first | rfl | (cases zk <;> rfl) | (cases mv <;> rfl) | (cases zk <;> cases mv <;> rfl)
              have HE := Lib.hid (H4.out rfl)
              clear H4 H5 H2 H0 hfm
              go_wp2_with (first
                | (go_at_call 40; ((with_reducible refine (HN1 _).out.mono ?_); rintro e w2 ⟨rfl, rfl⟩))
                | (go_at_call 41; ((with_reducible refine (HKy _).out.mono ?_); rintro e w2 ⟨rfl, rfl⟩))
                | (go_at_call 42; ((with_reducible refine (HTk _).out.mono ?_); rintro e w2 ⟨rfl, rfl⟩))
                | (go_at_call 33; first
                  | ((with_reducible refine (HM (wr.alloc (oobj ⟨c, key, ⟨vk, vx, vs⟩⟩))).out.mono ?_); rintro e w3 ⟨rfl, h2⟩; have HW3 := Lib.hid (HW2.out.trans (h2.mono HW2.out.size)); have HQ3 := Lib.hid (HQ.out.below h2 HQ.out.lt); have a0 := HQ3.out.c0; have a1 := HQ3.out.c1; have a2 := HQ3.out.c2; have a3 := HQ3.out.c3; have a4 := HQ3.out.c4; clear h2)
                  | ((with_reducible refine (HM w3).out.mono ?_); rintro e w4 ⟨rfl, h2⟩; have HW4 := Lib.hid (HW3.out.trans (h2.mono HW3.out.size)); have HQ4 := Lib.hid (HQ3.out.below h2 HQ3.out.lt); have b0 := HQ4.out.c0; have b1 := HQ4.out.c1; have b2 := HQ4.out.c2; have b3 := HQ4.out.c3; have b4 := HQ4.out.c4; clear h2)))
              go_ret
              exact ⟨by rw [HX.out, HE.out]; rfl, HW3.out⟩
            · obtain rfl : fo = false := by rw [hfm]; first | rfl | (cases zk <;> rfl) | (cases mv <;> rfl) | (cases zk <;> cases mv <;> rfl)
              have HE := Lib.hid (H4.out rfl)
              clear H4 H5 H2 H0 hfm
              go_wp2_with (first
                | (go_at_call 40; ((with_reducible refine (HN1 _).out.mono ?_); rintro e w2 ⟨rfl, rfl⟩))
                | (go_at_call 41; ((with_reducible refine (HKy _).out.mono ?_); rintro e w2 ⟨rfl, rfl⟩))
                | (go_at_call 42; ((with_reducible refine (HTk _).out.mono ?_); rintro e w2 ⟨rfl, rfl⟩))
                | (go_at_call 33; first
                  | ((with_reducible refine (HM (wr.alloc (oobj ⟨c, key, ⟨vk, vx, vs⟩⟩))).out.mono ?_); rintro e w3 ⟨rfl, h2⟩; have HW3 := Lib.hid (HW2.out.trans (h2.mono HW2.out.size)); have HQ3 := Lib.hid (HQ.out.below h2 HQ.out.lt); have a0 := HQ3.out.c0; have a1 := HQ3.out.c1; have a2 := HQ3.out.c2; have a3 := HQ3.out.c3; have a4 := HQ3.out.c4; clear h2)
                  | ((with_reducible refine (HM w3).out.mono ?_); rintro e w4 ⟨rfl, h2⟩; have HW4 := Lib.hid (HW3.out.trans (h2.mono HW3.out.size)); have HQ4 := Lib.hid (HQ3.out.below h2 HQ3.out.lt); have b0 := HQ4.out.c0; have b1 := HQ4.out.c1; have b2 := HQ4.out.c2; have b3 := HQ4.out.c3; have b4 := HQ4.out.c4; clear h2)))
              go_ret
              exact ⟨by rw [HX.out, HE.out]; rfl, HW3.out⟩
          · cases zk
            · obtain rfl : fo = false := by rw [hfm]; first | rfl | (cases zk <;> rfl) | (cases mv <;> rfl) | (cases zk <;> cases mv <;> rfl)
              have HE := Lib.hid (H4.out rfl)
              clear H4 H5 H2 H0 hfm
              go_wp2_with (first
                | (go_at_call 40; ((with_reducible refine (HN1 _).out.mono ?_); rintro e w2 ⟨rfl, rfl⟩))
                | (go_at_call 41; ((with_reducible refine (HKy _).out.mono ?_); rintro e w2 ⟨rfl, rfl⟩))
                | (go_at_call 42; ((with_reducible refine (HTk _).out.mono ?_); rintro e w2 ⟨rfl, rfl⟩))
                | (go_at_call 33; first
                  | ((with_reducible refine (HM (wr.alloc (oobj ⟨c, key, ⟨vk, vx, vs⟩⟩))).out.mono ?_); rintro e w3 ⟨rfl, h2⟩; have HW3 := Lib.hid (HW2.out.trans (h2.mono HW2.out.size)); have HQ3 := Lib.hid (HQ.out.below h2 HQ.out.lt); have a0 := HQ3.out.c0; have a1 := HQ3.out.c1; have a2 := HQ3.out.c2; have a3 := HQ3.out.c3; have a4 := HQ3.out.c4; clear h2)
                  | ((with_reducible refine (HM w3).out.mono ?_); rintro e w4 ⟨rfl, h2⟩; have HW4 := Lib.hid (HW3.out.trans (h2.mono HW3.out.size)); have HQ4 := Lib.hid (HQ3.out.below h2 HQ3.out.lt); have b0 := HQ4.out.c0; have b1 := HQ4.out.c1; have b2 := HQ4.out.c2; have b3 := HQ4.out.c3; have b4 := HQ4.out.c4; clear h2)))
              go_ret
              exact ⟨by rw [HX.out, HE.out]; rfl, HW3.out⟩
            · obtain rfl : fo = true := by rw [hfm]; first | rfl | (cases zk <;> rfl) | (cases mv <;> rfl) | (cases zk <;> cases mv <;> rfl)
              replace H5 := Lib.hid (H5.out rfl)
              replace H2 := Lib.hid (H2.out rfl)
              replace H0 := Lib.hid (H0.out rfl)
              clear H4 hfm
              by_cases h3 : d < p
              · have HE := Lib.hid (H5.out h3)
                have h3' : (d : Int) < (p : Int) := by omega
                clear H5 H2 H0
                go_wp2_with (first
                  | (go_at_call 40; ((with_reducible refine (HN1 _).out.mono ?_); rintro e w2 ⟨rfl, rfl⟩))
                  | (go_at_call 41; ((with_reducible refine (HKy _).out.mono ?_); rintro e w2 ⟨rfl, rfl⟩))
                  | (go_at_call 42; ((with_reducible refine (HTk _).out.mono ?_); rintro e w2 ⟨rfl, rfl⟩))
                  | (go_at_call 33; first
                    | ((with_reducible refine (HM (wr.alloc (oobj ⟨c, key, ⟨vk, vx, vs⟩⟩))).out.mono ?_); rintro e w3 ⟨rfl, h2⟩; have HW3 := Lib.hid (HW2.out.trans (h2.mono HW2.out.size)); have HQ3 := Lib.hid (HQ.out.below h2 HQ.out.lt); have a0 := HQ3.out.c0; have a1 := HQ3.out.c1; have a2 := HQ3.out.c2; have a3 := HQ3.out.c3; have a4 := HQ3.out.c4; clear h2)
                    | ((with_reducible refine (HM w3).out.mono ?_); rintro e w4 ⟨rfl, h2⟩; have HW4 := Lib.hid (HW3.out.trans (h2.mono HW3.out.size)); have HQ4 := Lib.hid (HQ3.out.below h2 HQ3.out.lt); have b0 := HQ4.out.c0; have b1 := HQ4.out.c1; have b2 := HQ4.out.c2; have b3 := HQ4.out.c3; have b4 := HQ4.out.c4; clear h2)))
                go_ret
                exact ⟨by rw [HX.out, HE.out]; rfl, HW3.out⟩
              have h3' : ¬ (d : Int) < (p : Int) := by omega
              by_cases h4 : 16 < d - p + q
              · have HE := Lib.hid (H2.out h3 h4)
                have h4' : (d : Int) - (p : Int) + (q : Int) > 16 := by omega
                clear H5 H2 H0
                go_wp2_with (first
                  | (go_at_call 40; ((with_reducible refine (HN1 _).out.mono ?_); rintro e w2 ⟨rfl, rfl⟩))
                  | (go_at_call 41; ((with_reducible refine (HKy _).out.mono ?_); rintro e w2 ⟨rfl, rfl⟩))
                  | (go_at_call 42; ((with_reducible refine (HTk _).out.mono ?_); rintro e w2 ⟨rfl, rfl⟩))
                  | (go_at_call 33; first
                    | ((with_reducible refine (HM (wr.alloc (oobj ⟨c, key, ⟨vk, vx, vs⟩⟩))).out.mono ?_); rintro e w3 ⟨rfl, h2⟩; have HW3 := Lib.hid (HW2.out.trans (h2.mono HW2.out.size)); have HQ3 := Lib.hid (HQ.out.below h2 HQ.out.lt); have a0 := HQ3.out.c0; have a1 := HQ3.out.c1; have a2 := HQ3.out.c2; have a3 := HQ3.out.c3; have a4 := HQ3.out.c4; clear h2)
                    | ((with_reducible refine (HM w3).out.mono ?_); rintro e w4 ⟨rfl, h2⟩; have HW4 := Lib.hid (HW3.out.trans (h2.mono HW3.out.size)); have HQ4 := Lib.hid (HQ3.out.below h2 HQ3.out.lt); have b0 := HQ4.out.c0; have b1 := HQ4.out.c1; have b2 := HQ4.out.c2; have b3 := HQ4.out.c3; have b4 := HQ4.out.c4; clear h2)))
                go_ret
                exact ⟨by rw [HX.out, HE.out]; rfl, HW3.out⟩
              have h4' : ¬ (d : Int) - (p : Int) + (q : Int) > 16 := by omega
              have HE := Lib.hid (H0.out h3 h4)
              have HD : Hid ((d : Int) - (p : Int) + (q : Int) = ((d - p + q : Nat) : Int)) := Lib.hid (by omega)
              clear H5 H2 H0
              go_wp2_with (first
                | (go_at_call 40; ((with_reducible refine (HN1 _).out.mono ?_); rintro e w2 ⟨rfl, rfl⟩))
                | (go_at_call 41; ((with_reducible refine (HKy _).out.mono ?_); rintro e w2 ⟨rfl, rfl⟩))
                | (go_at_call 42; ((with_reducible refine (HTk _).out.mono ?_); rintro e w2 ⟨rfl, rfl⟩))
                | (go_at_call 33; first
                  | ((with_reducible refine (HM (wr.alloc (oobj ⟨c, key, ⟨vk, vx, vs⟩⟩))).out.mono ?_); rintro e w3 ⟨rfl, h2⟩; have HW3 := Lib.hid (HW2.out.trans (h2.mono HW2.out.size)); have HQ3 := Lib.hid (HQ.out.below h2 HQ.out.lt); have a0 := HQ3.out.c0; have a1 := HQ3.out.c1; have a2 := HQ3.out.c2; have a3 := HQ3.out.c3; have a4 := HQ3.out.c4; clear h2)
                  | ((with_reducible refine (HM w3).out.mono ?_); rintro e w4 ⟨rfl, h2⟩; have HW4 := Lib.hid (HW3.out.trans (h2.mono HW3.out.size)); have HQ4 := Lib.hid (HQ3.out.below h2 HQ3.out.lt); have b0 := HQ4.out.c0; have b1 := HQ4.out.c1; have b2 := HQ4.out.c2; have b3 := HQ4.out.c3; have b4 := HQ4.out.c4; clear h2)))
              go_roundw
              case rel => exact ⟨k + 1, d - p + q, by go_num, by rw [HD.out], by omega, by omega, HE, HW3⟩
              case measure => simp [RowKit.intOf]; omega
      · rw [if_neg (by decide), if_pos rfl] at hfm
        cases ke
        · have gke : (key != []) = true := by simpa using hke
          have gk2 : decide (key = []) = false := decide_eq_false (by simpa using hke)
          cases mv
          · cases zk
            · obtain rfl : fo = false := by rw [hfm]; first | rfl | (cases zk <;> rfl) | (cases mv <;> rfl) | (cases zk <;> cases mv <;> rfl)
              have HE := Lib.hid (H4.out rfl)
              clear H4 H5 H2 H0 hfm
              go_wp2_with (first
                | (go_at_call 40; ((with_reducible refine (HN1 _).out.mono ?_); rintro e w2 ⟨rfl, rfl⟩))
                | (go_at_call 41; ((with_reducible refine (HKy _).out.mono ?_); rintro e w2 ⟨rfl, rfl⟩))
                | (go_at_call 42; ((with_reducible refine (HTk _).out.mono ?_); rintro e w2 ⟨rfl, rfl⟩))
                | (go_at_call 33; first
                  | ((with_reducible refine (HM (wr.alloc (oobj ⟨c, key, ⟨vk, vx, vs⟩⟩))).out.mono ?_); rintro e w3 ⟨rfl, h2⟩; have HW3 := Lib.hid (HW2.out.trans (h2.mono HW2.out.size)); have HQ3 := Lib.hid (HQ.out.below h2 HQ.out.lt); have a0 := HQ3.out.c0; have a1 := HQ3.out.c1; have a2 := HQ3.out.c2; have a3 := HQ3.out.c3; have a4 := HQ3.out.c4; clear h2)
                  | ((with_reducible refine (HM w3).out.mono ?_); rintro e w4 ⟨rfl, h2⟩; have HW4 := Lib.hid (HW3.out.trans (h2.mono HW3.out.size)); have HQ4 := Lib.hid (HQ3.out.below h2 HQ3.out.lt); have b0 := HQ4.out.c0; have b1 := HQ4.out.c1; have b2 := HQ4.out.c2; have b3 := HQ4.out.c3; have b4 := HQ4.out.c4; clear h2)))
              go_ret
              exact ⟨by rw [HX.out, HE.out]; rfl, HW3.out⟩
            · obtain rfl : fo = false := by rw [hfm]; first | rfl | (cases zk <;> rfl) | (cases mv <;> rfl) | (cases zk <;> cases mv <;> rfl)
              have HE := Lib.hid (H4.out rfl)
              clear H4 H5 H2 H0 hfm
              go_wp2_with (first
                | (go_at_call 40; ((with_reducible refine (HN1 _).out.mono ?_); rintro e w2 ⟨rfl, rfl⟩))
                | (go_at_call 41; ((with_reducible refine (HKy _).out.mono ?_); rintro e w2 ⟨rfl, rfl⟩))
                | (go_at_call 42; ((with_reducible refine (HTk _).out.mono ?_); rintro e w2 ⟨rfl, rfl⟩))
                | (go_at_call 33; first
                  | ((with_reducible refine (HM (wr.alloc (oobj ⟨c, key, ⟨vk, vx, vs⟩⟩))).out.mono ?_); rintro e w3 ⟨rfl, h2⟩; have HW3 := Lib.hid (HW2.out.trans (h2.mono HW2.out.size)); have HQ3 := Lib.hid (HQ.out.below h2 HQ.out.lt); have a0 := HQ3.out.c0; have a1 := HQ3.out.c1; have a2 := HQ3.out.c2; have a3 := HQ3.out.c3; have a4 := HQ3.out.c4; clear h2)
                  | ((with_reducible refine (HM w3).out.mono ?_); rintro e w4 ⟨rfl, h2⟩; have HW4 := Lib.hid (HW3.out.trans (h2.mono HW3.out.size)); have HQ4 := Lib.hid (HQ3.out.below h2 HQ3.out.lt); have b0 := HQ4.out.c0; have b1 := HQ4.out.c1; have b2 := HQ4.out.c2; have b3 := HQ4.out.c3; have b4 := HQ4.out.c4; clear h2)))
              go_ret
              exact ⟨by rw [HX.out, HE.out]; rfl, HW3.out⟩
          · cases zk
            · obtain rfl : fo = false := by rw [hfm]; first | rfl | (cases zk <;> rfl) | (cases mv <;> rfl) | (cases zk <;> cases mv <;> rfl)
              have HE := Lib.hid (H4.out rfl)
              clear H4 H5 H2 H0 hfm
              go_wp2_with (first
                | (go_at_call 40; ((with_reducible refine (HN1 _).out.mono ?_); rintro e w2 ⟨rfl, rfl⟩))
                | (go_at_call 41; ((with_reducible refine (HKy _).out.mono ?_); rintro e w2 ⟨rfl, rfl⟩))
                | (go_at_call 42; ((with_reducible refine (HTk _).out.mono ?_); rintro e w2 ⟨rfl, rfl⟩))
                | (go_at_call 33; first
                  | ((with_reducible refine (HM (wr.alloc (oobj ⟨c, key, ⟨vk, vx, vs⟩⟩))).out.mono ?_); rintro e w3 ⟨rfl, h2⟩; have HW3 := Lib.hid (HW2.out.trans (h2.mono HW2.out.size)); have HQ3 := Lib.hid (HQ.out.below h2 HQ.out.lt); have a0 := HQ3.out.c0; have a1 := HQ3.out.c1; have a2 := HQ3.out.c2; have a3 := HQ3.out.c3; have a4 := HQ3.out.c4; clear h2)
                  | ((with_reducible refine (HM w3).out.mono ?_); rintro e w4 ⟨rfl, h2⟩; have HW4 := Lib.hid (HW3.out.trans (h2.mono HW3.out.size)); have HQ4 := Lib.hid (HQ3.out.below h2 HQ3.out.lt); have b0 := HQ4.out.c0; have b1 := HQ4.out.c1; have b2 := HQ4.out.c2; have b3 := HQ4.out.c3; have b4 := HQ4.out.c4; clear h2)))
              go_ret
              exact ⟨by rw [HX.out, HE.out]; rfl, HW3.out⟩
            · obtain rfl : fo = false := by rw [hfm]; first | rfl | (cases zk <;> rfl) | (cases mv <;> rfl) | (cases zk <;> cases mv <;> rfl)
              have HE := Lib.hid (H4.out rfl)
              clear H4 H5 H2 H0 hfm
              go_wp2_with (first
                | (go_at_call 40; ((with_reducible refine (HN1 _).out.mono ?_); rintro e w2 ⟨rfl, rfl⟩))
                | (go_at_call 41; ((with_reducible refine (HKy _).out.mono ?_); rintro e w2 ⟨rfl, rfl⟩))
                | (go_at_call 42; ((with_reducible refine (HTk _).out.mono ?_); rintro e w2 ⟨rfl, rfl⟩))
                | (go_at_call 33; first
                  | ((with_reducible refine (HM (wr.alloc (oobj ⟨c, key, ⟨vk, vx, vs⟩⟩))).out.mono ?_); rintro e w3 ⟨rfl, h2⟩; have HW3 := Lib.hid (HW2.out.trans (h2.mono HW2.out.size)); have HQ3 := Lib.hid (HQ.out.below h2 HQ.out.lt); have a0 := HQ3.out.c0; have a1 := HQ3.out.c1; have a2 := HQ3.out.c2; have a3 := HQ3.out.c3; have a4 := HQ3.out.c4; clear h2)
                  | ((with_reducible refine (HM w3).out.mono ?_); rintro e w4 ⟨rfl, h2⟩; have HW4 := Lib.hid (HW3.out.trans (h2.mono HW3.out.size)); have HQ4 := Lib.hid (HQ3.out.below h2 HQ3.out.lt); have b0 := HQ4.out.c0; have b1 := HQ4.out.c1; have b2 := HQ4.out.c2; have b3 := HQ4.out.c3; have b4 := HQ4.out.c4; clear h2)))
              go_ret
              exact ⟨by rw [HX.out, HE.out]; rfl, HW3.out⟩
        · have gke : (key != []) = false := by simpa using hke
          have gk2 : decide (key = []) = true := decide_eq_true (by simpa using hke)
          cases mv
          · cases zk
            · obtain rfl : fo = false := by rw [hfm]; first | rfl | (cases zk <;> rfl) | (cases mv <;> rfl) | (cases zk <;> cases mv <;> rfl)
              have HE := Lib.hid (H4.out rfl)
              clear H4 H5 H2 H0 hfm
              go_wp2_with (first
                | (go_at_call 40; ((with_reducible refine (HN1 _).out.mono ?_); rintro e w2 ⟨rfl, rfl⟩))
                | (go_at_call 41; ((with_reducible refine (HKy _).out.mono ?_); rintro e w2 ⟨rfl, rfl⟩))
                | (go_at_call 42; ((with_reducible refine (HTk _).out.mono ?_); rintro e w2 ⟨rfl, rfl⟩))
                | (go_at_call 33; first
                  | ((with_reducible refine (HM (wr.alloc (oobj ⟨c, key, ⟨vk, vx, vs⟩⟩))).out.mono ?_); rintro e w3 ⟨rfl, h2⟩; have HW3 := Lib.hid (HW2.out.trans (h2.mono HW2.out.size)); have HQ3 := Lib.hid (HQ.out.below h2 HQ.out.lt); have a0 := HQ3.out.c0; have a1 := HQ3.out.c1; have a2 := HQ3.out.c2; have a3 := HQ3.out.c3; have a4 := HQ3.out.c4; clear h2)
                  | ((with_reducible refine (HM w3).out.mono ?_); rintro e w4 ⟨rfl, h2⟩; have HW4 := Lib.hid (HW3.out.trans (h2.mono HW3.out.size)); have HQ4 := Lib.hid (HQ3.out.below h2 HQ3.out.lt); have b0 := HQ4.out.c0; have b1 := HQ4.out.c1; have b2 := HQ4.out.c2; have b3 := HQ4.out.c3; have b4 := HQ4.out.c4; clear h2)))
              go_ret
              exact ⟨by rw [HX.out, HE.out]; rfl, HW4.out⟩
            · obtain rfl : fo = false := by rw [hfm]; first | rfl | (cases zk <;> rfl) | (cases mv <;> rfl) | (cases zk <;> cases mv <;> rfl)
              have HE := Lib.hid (H4.out rfl)
              clear H4 H5 H2 H0 hfm
              go_wp2_with (first
                | (go_at_call 40; ((with_reducible refine (HN1 _).out.mono ?_); rintro e w2 ⟨rfl, rfl⟩))
                | (go_at_call 41; ((with_reducible refine (HKy _).out.mono ?_); rintro e w2 ⟨rfl, rfl⟩))
                | (go_at_call 42; ((with_reducible refine (HTk _).out.mono ?_); rintro e w2 ⟨rfl, rfl⟩))
                | (go_at_call 33; first
                  | ((with_reducible refine (HM (wr.alloc (oobj ⟨c, key, ⟨vk, vx, vs⟩⟩))).out.mono ?_); rintro e w3 ⟨rfl, h2⟩; have HW3 := Lib.hid (HW2.out.trans (h2.mono HW2.out.size)); have HQ3 := Lib.hid (HQ.out.below h2 HQ.out.lt); have a0 := HQ3.out.c0; have a1 := HQ3.out.c1; have a2 := HQ3.out.c2; have a3 := HQ3.out.c3; have a4 := HQ3.out.c4; clear h2)
                  | ((with_reducible refine (HM w3).out.mono ?_); rintro e w4 ⟨rfl, h2⟩; have HW4 := Lib.hid (HW3.out.trans (h2.mono HW3.out.size)); have HQ4 := Lib.hid (HQ3.out.below h2 HQ3.out.lt); have b0 := HQ4.out.c0; have b1 := HQ4.out.c1; have b2 := HQ4.out.c2; have b3 := HQ4.out.c3; have b4 := HQ4.out.c4; clear h2)))
              go_ret
              exact ⟨by rw [HX.out, HE.out]; rfl, HW4.out⟩
          · cases zk
            · obtain rfl : fo = true := by rw [hfm]; first | rfl | (cases zk <;> rfl) | (cases mv <;> rfl) | (cases zk <;> cases mv <;> rfl)
              replace H5 := Lib.hid (H5.out rfl)
              replace H2 := Lib.hid (H2.out rfl)
              replace H0 := Lib.hid (H0.out rfl)
              clear H4 hfm
              by_cases h3 : d < p
              · have HE := Lib.hid (H5.out h3)
                have h3' : (d : Int) < (p : Int) := by omega
                clear H5 H2 H0
                go_wp2_with (first
                  | (go_at_call 40; ((with_reducible refine (HN1 _).out.mono ?_); rintro e w2 ⟨rfl, rfl⟩))
                  | (go_at_call 41; ((with_reducible refine (HKy _).out.mono ?_); rintro e w2 ⟨rfl, rfl⟩))
                  | (go_at_call 42; ((with_reducible refine (HTk _).out.mono ?_); rintro e w2 ⟨rfl, rfl⟩))
                  | (go_at_call 33; first
                    | ((with_reducible refine (HM (wr.alloc (oobj ⟨c, key, ⟨vk, vx, vs⟩⟩))).out.mono ?_); rintro e w3 ⟨rfl, h2⟩; have HW3 := Lib.hid (HW2.out.trans (h2.mono HW2.out.size)); have HQ3 := Lib.hid (HQ.out.below h2 HQ.out.lt); have a0 := HQ3.out.c0; have a1 := HQ3.out.c1; have a2 := HQ3.out.c2; have a3 := HQ3.out.c3; have a4 := HQ3.out.c4; clear h2)
                    | ((with_reducible refine (HM w3).out.mono ?_); rintro e w4 ⟨rfl, h2⟩; have HW4 := Lib.hid (HW3.out.trans (h2.mono HW3.out.size)); have HQ4 := Lib.hid (HQ3.out.below h2 HQ3.out.lt); have b0 := HQ4.out.c0; have b1 := HQ4.out.c1; have b2 := HQ4.out.c2; have b3 := HQ4.out.c3; have b4 := HQ4.out.c4; clear h2)))
                go_ret
                exact ⟨by rw [HX.out, HE.out]; rfl, HW4.out⟩
              have h3' : ¬ (d : Int) < (p : Int) := by omega
              by_cases h4 : 16 < d - p + q
              · have HE := Lib.hid (H2.out h3 h4)
                have h4' : (d : Int) - (p : Int) + (q : Int) > 16 := by omega
                clear H5 H2 H0
                go_wp2_with (first
                  | (go_at_call 40; ((with_reducible refine (HN1 _).out.mono ?_); rintro e w2 ⟨rfl, rfl⟩))
                  | (go_at_call 41; ((with_reducible refine (HKy _).out.mono ?_); rintro e w2 ⟨rfl, rfl⟩))
                  | (go_at_call 42; ((with_reducible refine (HTk _).out.mono ?_); rintro e w2 ⟨rfl, rfl⟩))
                  | (go_at_call 33; first
                    | ((with_reducible refine (HM (wr.alloc (oobj ⟨c, key, ⟨vk, vx, vs⟩⟩))).out.mono ?_); rintro e w3 ⟨rfl, h2⟩; have HW3 := Lib.hid (HW2.out.trans (h2.mono HW2.out.size)); have HQ3 := Lib.hid (HQ.out.below h2 HQ.out.lt); have a0 := HQ3.out.c0; have a1 := HQ3.out.c1; have a2 := HQ3.out.c2; have a3 := HQ3.out.c3; have a4 := HQ3.out.c4; clear h2)
                    | ((with_reducible refine (HM w3).out.mono ?_); rintro e w4 ⟨rfl, h2⟩; have HW4 := Lib.hid (HW3.out.trans (h2.mono HW3.out.size)); have HQ4 := Lib.hid (HQ3.out.below h2 HQ3.out.lt); have b0 := HQ4.out.c0; have b1 := HQ4.out.c1; have b2 := HQ4.out.c2; have b3 := HQ4.out.c3; have b4 := HQ4.out.c4; clear h2)))
                go_ret
                exact ⟨by rw [HX.out, HE.out]; rfl, HW4.out⟩
              have h4' : ¬ (d : Int) - (p : Int) + (q : Int) > 16 := by omega
              have HE := Lib.hid (H0.out h3 h4)
              have HD : Hid ((d : Int) - (p : Int) + (q : Int) = ((d - p + q : Nat) : Int)) := Lib.hid (by omega)
              clear H5 H2 H0
              go_wp2_with (first
                | (go_at_call 40; ((with_reducible refine (HN1 _).out.mono ?_); rintro e w2 ⟨rfl, rfl⟩))
                | (go_at_call 41; ((with_reducible refine (HKy _).out.mono ?_); rintro e w2 ⟨rfl, rfl⟩))
                | (go_at_call 42; ((with_reducible refine (HTk _).out.mono ?_); rintro e w2 ⟨rfl, rfl⟩))
                | (go_at_call 33; first
                  | ((with_reducible refine (HM (wr.alloc (oobj ⟨c, key, ⟨vk, vx, vs⟩⟩))).out.mono ?_); rintro e w3 ⟨rfl, h2⟩; have HW3 := Lib.hid (HW2.out.trans (h2.mono HW2.out.size)); have HQ3 := Lib.hid (HQ.out.below h2 HQ.out.lt); have a0 := HQ3.out.c0; have a1 := HQ3.out.c1; have a2 := HQ3.out.c2; have a3 := HQ3.out.c3; have a4 := HQ3.out.c4; clear h2)
                  | ((with_reducible refine (HM w3).out.mono ?_); rintro e w4 ⟨rfl, h2⟩; have HW4 := Lib.hid (HW3.out.trans (h2.mono HW3.out.size)); have HQ4 := Lib.hid (HQ3.out.below h2 HQ3.out.lt); have b0 := HQ4.out.c0; have b1 := HQ4.out.c1; have b2 := HQ4.out.c2; have b3 := HQ4.out.c3; have b4 := HQ4.out.c4; clear h2)))
              go_roundw
              case rel => exact ⟨k + 1, d - p + q, by go_num, by rw [HD.out], by omega, by omega, HE, HW4⟩
              case measure => simp [RowKit.intOf]; omega
            · obtain rfl : fo = true := by rw [hfm]; first | rfl | (cases zk <;> rfl) | (cases mv <;> rfl) | (cases zk <;> cases mv <;> rfl)
              replace H5 := Lib.hid (H5.out rfl)
              replace H2 := Lib.hid (H2.out rfl)
              replace H0 := Lib.hid (H0.out rfl)
              clear H4 hfm
              by_cases h3 : d < p
              · have HE := Lib.hid (H5.out h3)
                have h3' : (d : Int) < (p : Int) := by omega
                clear H5 H2 H0
                go_wp2_with (first
                  | (go_at_call 40; ((with_reducible refine (HN1 _).out.mono ?_); rintro e w2 ⟨rfl, rfl⟩))
                  | (go_at_call 41; ((with_reducible refine (HKy _).out.mono ?_); rintro e w2 ⟨rfl, rfl⟩))
                  | (go_at_call 42; ((with_reducible refine (HTk _).out.mono ?_); rintro e w2 ⟨rfl, rfl⟩))
                  | (go_at_call 33; first
                    | ((with_reducible refine (HM (wr.alloc (oobj ⟨c, key, ⟨vk, vx, vs⟩⟩))).out.mono ?_); rintro e w3 ⟨rfl, h2⟩; have HW3 := Lib.hid (HW2.out.trans (h2.mono HW2.out.size)); have HQ3 := Lib.hid (HQ.out.below h2 HQ.out.lt); have a0 := HQ3.out.c0; have a1 := HQ3.out.c1; have a2 := HQ3.out.c2; have a3 := HQ3.out.c3; have a4 := HQ3.out.c4; clear h2)
                    | ((with_reducible refine (HM w3).out.mono ?_); rintro e w4 ⟨rfl, h2⟩; have HW4 := Lib.hid (HW3.out.trans (h2.mono HW3.out.size)); have HQ4 := Lib.hid (HQ3.out.below h2 HQ3.out.lt); have b0 := HQ4.out.c0; have b1 := HQ4.out.c1; have b2 := HQ4.out.c2; have b3 := HQ4.out.c3; have b4 := HQ4.out.c4; clear h2)))
                go_ret
                exact ⟨by rw [HX.out, HE.out]; rfl, HW4.out⟩
              have h3' : ¬ (d : Int) < (p : Int) := by omega
              by_cases h4 : 16 < d - p + q
              · have HE := Lib.hid (H2.out h3 h4)
                have h4' : (d : Int) - (p : Int) + (q : Int) > 16 := by omega
                clear H5 H2 H0
                go_wp2_with (first
                  | (go_at_call 40; ((with_reducible refine (HN1 _).out.mono ?_); rintro e w2 ⟨rfl, rfl⟩))
                  | (go_at_call 41; ((with_reducible refine (HKy _).out.mono ?_); rintro e w2 ⟨rfl, rfl⟩))
                  | (go_at_call 42; ((with_reducible refine (HTk _).out.mono ?_); rintro e w2 ⟨rfl, rfl⟩))
                  | (go_at_call 33; first
                    | ((with_reducible refine (HM (wr.alloc (oobj ⟨c, key, ⟨vk, vx, vs⟩⟩))).out.mono ?_); rintro e w3 ⟨rfl, h2⟩; have HW3 := Lib.hid (HW2.out.trans (h2.mono HW2.out.size)); have HQ3 := Lib.hid (HQ.out.below h2 HQ.out.lt); have a0 := HQ3.out.c0; have a1 := HQ3.out.c1; have a2 := HQ3.out.c2; have a3 := HQ3.out.c3; have a4 := HQ3.out.c4; clear h2)
                    | ((with_reducible refine (HM w3).out.mono ?_); rintro e w4 ⟨rfl, h2⟩; have HW4 := Lib.hid (HW3.out.trans (h2.mono HW3.out.size)); have HQ4 := Lib.hid (HQ3.out.below h2 HQ3.out.lt); have b0 := HQ4.out.c0; have b1 := HQ4.out.c1; have b2 := HQ4.out.c2; have b3 := HQ4.out.c3; have b4 := HQ4.out.c4; clear h2)))
                go_ret
                exact ⟨by rw [HX.out, HE.out]; rfl, HW4.out⟩
              have h4' : ¬ (d : Int) - (p : Int) + (q : Int) > 16 := by omega
              have HE := Lib.hid (H0.out h3 h4)
              have HD : Hid ((d : Int) - (p : Int) + (q : Int) = ((d - p + q : Nat) : Int)) := Lib.hid (by omega)
              clear H5 H2 H0
              go_wp2_with (first
                | (go_at_call 40; ((with_reducible refine (HN1 _).out.mono ?_); rintro e w2 ⟨rfl, rfl⟩))
                | (go_at_call 41; ((with_reducible refine (HKy _).out.mono ?_); rintro e w2 ⟨rfl, rfl⟩))
                | (go_at_call 42; ((with_reducible refine (HTk _).out.mono ?_); rintro e w2 ⟨rfl, rfl⟩))
                | (go_at_call 33; first
                  | ((with_reducible refine (HM (wr.alloc (oobj ⟨c, key, ⟨vk, vx, vs⟩⟩))).out.mono ?_); rintro e w3 ⟨rfl, h2⟩; have HW3 := Lib.hid (HW2.out.trans (h2.mono HW2.out.size)); have HQ3 := Lib.hid (HQ.out.below h2 HQ.out.lt); have a0 := HQ3.out.c0; have a1 := HQ3.out.c1; have a2 := HQ3.out.c2; have a3 := HQ3.out.c3; have a4 := HQ3.out.c4; clear h2)
                  | ((with_reducible refine (HM w3).out.mono ?_); rintro e w4 ⟨rfl, h2⟩; have HW4 := Lib.hid (HW3.out.trans (h2.mono HW3.out.size)); have HQ4 := Lib.hid (HQ3.out.below h2 HQ3.out.lt); have b0 := HQ4.out.c0; have b1 := HQ4.out.c1; have b2 := HQ4.out.c2; have b3 := HQ4.out.c3; have b4 := HQ4.out.c4; clear h2)))
              go_roundw
              case rel => exact ⟨k + 1, d - p + q, by go_num, by rw [HD.out], by omega, by omega, HE, HW4⟩
              case measure => simp [RowKit.intOf]; omega
    · obtain rfl : k = n := by omega
      have HE : Hid (R = 0) := Lib.hid (by have := HT.out; rw [List.drop_of_length_le (by rw [HN.out]; exact Nat.le_refl _)] at this; exact this.symm)
      have HRd := Lib.hid (rreads_any (HV.out.below HW1.out) (by rw [HN.out]; omega))
      have HY : Hid (chkV l = if 16 < (readsV l).length ∨ 16 < (namesV l).length then 3 else 0) := Lib.hid (by rw [HX.out, if_pos HE.out])
      have HNm := fun w2 h => Lib.hid (rnames_any (w := w2) ((HV.out.below HW1.out).below h) (by rw [HN.out]; omega))
      clear HT HE HX
      obtain ⟨z, hz⟩ : ∃ z, chkV l = z := ⟨_, rfl⟩
      rw [hz] at HY
      have HZ := Lib.hid hz
      clear hz
      have hlr : (readsV l).length ≤ 40 := Nat.le_trans (length_setV (keysV isRd l)) (Nat.le_trans (keysV_le isRd l) (by rw [HN.out]; omega))
      have hln : (namesV l).length ≤ 40 := Nat.le_trans (length_setV (keysV isWr l)) (Nat.le_trans (keysV_le isWr l) (by rw [HN.out]; omega))
      generalize readsV l = rs at *
      generalize namesV l = ns at *
      obtain ⟨x, hx⟩ : ∃ x, rs.length = x := ⟨_, rfl⟩
      obtain ⟨y, hy⟩ : ∃ y, ns.length = y := ⟨_, rfl⟩
      rw [hx] at HRd HY hlr
      rw [hy] at HY hln
      simp only [hy] at HNm
      clear hx hy h4v
      by_cases h1 : 16 < x
      · have hz : z = 3 := by rw [HY.out, if_pos (.inl h1)]
        subst hz
        have h1' : (x : Int) > 16 := by omega
        clear HY h1
        go_wp2_with (go_at_call 19; (refine HRd.out.mono ?_); rintro e w2 ⟨u, rfl, h2, h3⟩; obtain ⟨a2, c2, rfl⟩ := own_sl h3; have HW2 := Lib.hid (HW1.out.trans (h2.mono HW1.out.size)); clear h2 h3)
        go_ret
        exact ⟨by rw [HZ.out]; rfl, HW2.out⟩
      · have h1' : ¬ (x : Int) > 16 := by omega
        by_cases h2 : 16 < y
        · have hz : z = 3 := by rw [HY.out, if_pos (.inr h2)]
          subst hz
          have h2' : (y : Int) > 16 := by omega
          clear HY h1 h2
          go_wp2_with (first
            | (go_at_call 19; (refine HRd.out.mono ?_); rintro e w2 ⟨u, rfl, h2, h3⟩; obtain ⟨a2, c2, rfl⟩ := own_sl h3; have HW2 := Lib.hid (HW1.out.trans (h2.mono HW1.out.size)); replace HNm := Lib.hid (HNm w2 h2).out; clear h2 h3)
            | (go_at_call 20; (refine HNm.out.mono ?_); rintro e w3 ⟨u, rfl, h2, h3⟩; obtain ⟨a3, c3, rfl⟩ := own_sl h3; have HW3 := Lib.hid (HW2.out.trans (h2.mono HW2.out.size)); clear h2 h3))
          go_ret
          exact ⟨by rw [HZ.out]; rfl, HW3.out⟩
        · have hz : z = 0 := by rw [HY.out, if_neg (by omega)]
          subst hz
          have h2' : ¬ (y : Int) > 16 := by omega
          clear HY h1 h2
          go_wp2_with (first
            | (go_at_call 19; (refine HRd.out.mono ?_); rintro e w2 ⟨u, rfl, h2, h3⟩; obtain ⟨a2, c2, rfl⟩ := own_sl h3; have HW2 := Lib.hid (HW1.out.trans (h2.mono HW1.out.size)); replace HNm := Lib.hid (HNm w2 h2).out; clear h2 h3)
            | (go_at_call 20; (refine HNm.out.mono ?_); rintro e w3 ⟨u, rfl, h2, h3⟩; obtain ⟨a3, c3, rfl⟩ := own_sl h3; have HW3 := Lib.hid (HW2.out.trans (h2.mono HW2.out.size)); clear h2 h3))
          go_ret
          exact ⟨by rw [HZ.out]; rfl, HW3.out⟩
end Go.Proofs.YtbgccaconhmbaaaGreatDoor
