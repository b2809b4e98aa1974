/- A crash, file by file, in plain terms. Conditions: none of its own. -/
import Derived.Test.YtkilkhnoldfhcaaGreatDoorA
namespace Go.Proofs.YtkilkhnoldfhcaaGreatDoor
/-- How many files have bytes that are not safe. -/
def lc (f : Ent Fi) : Nat := (f.filter fun p => !(p.2.data.length == p.2.safe)).length
theorem lc_cons (p : Nm × Fi) (f : Ent Fi) : lc (p :: f) = (if p.2.data.length = p.2.safe then 0 else 1) + lc f := by
  unfold lc
  rw [List.filter_cons]
  by_cases h : p.2.data.length = p.2.safe <;> simp [h]; omega
theorem lc_le (f : Ent Fi) : lc f ≤ f.length := List.length_filter_le _ _
theorem lc_append : ∀ (l r : Ent Fi), lc (l ++ r) = lc l + lc r
  | [], r => by simp [lc]
  | p :: l, r => by rw [List.cons_append, lc_cons, lc_cons, lc_append l r]; omega
theorem tear_append (picks : List Int) : ∀ (l r : Ent Fi) (i : Nat), tear picks i (l ++ r) = tear picks i l ++ tear picks (i + lc l) r
  | [], r, i => by simp [tear, lc]
  | (s, x) :: l, r, i => by
    rw [List.cons_append, lc_cons]
    unfold tear
    split
    · rename_i e
      rw [tear_append picks l r i]
      simp
      rw [tear.eq_def]
    · rename_i e
      rw [tear_append picks l r (i + 1)]
      simp
      rw [show i + 1 + lc l = i + (1 + lc l) by omega, tear.eq_def]
/-- A file that a crash has torn, as the i-th one. -/
def torn (picks : List Int) (i : Nat) (x : Fi) : Fi := ⟨x.data.take (x.safe + kept picks i (x.data.length - x.safe)), x.safe + kept picks i (x.data.length - x.safe)⟩
/-- The first files torn. -/
def tearN (picks : List Int) (f : Ent Fi) (k : Nat) : Ent Fi := tear picks 0 (f.take k) ++ f.drop k
theorem tearN_zero (picks : List Int) (f : Ent Fi) : tearN picks f 0 = f := rfl
theorem tearN_all (picks : List Int) (f : Ent Fi) : tearN picks f f.length = tear picks 0 f := by unfold tearN; rw [List.take_length, List.drop_length, List.append_nil]
theorem names_append (l r : Ent Fi) : names (l ++ r) = names l ++ names r := List.map_append
theorem names_tearN (picks : List Int) (f : Ent Fi) (k : Nat) : names (tearN picks f k) = names f := by
  unfold tearN
  rw [names_append, names_tear, ← names_append, List.take_append_drop]
theorem upd_none {f : Ent Fi} {s : Nm} (g : Fi → Fi) (h : get f s = none) : upd f s g = f := by
  unfold upd
  conv => rhs; rw [← List.map_id f]
  refine List.map_congr_left fun p hp => ?_
  have := get_none h p hp
  simp [this]
theorem upd_append (l r : Ent Fi) (s : Nm) (g : Fi → Fi) : upd (l ++ r) s g = upd l s g ++ upd r s g := List.map_append
theorem upd_cons (p : Nm × Fi) (f : Ent Fi) (s : Nm) (g : Fi → Fi) : upd (p :: f) s g = (if p.1 == s then (p.1, g p.2) else p) :: upd f s g := rfl
theorem split_at {f : Ent Fi} {k : Nat} (hk : k < f.length) : f = f.take k ++ f[k] :: f.drop (k + 1) := by simp
section
variable {picks : List Int} {f : Ent Fi} {k : Nat} {s : Nm} {x : Fi}
theorem take_snoc (hk : k < f.length) : f.take (k + 1) = f.take k ++ [f[k]] := by rw [List.take_succ_eq_append_getElem hk]
theorem lc_step (hk : k < f.length) (hs : f[k] = (s, x)) : lc (f.take (k + 1)) = lc (f.take k) + (if x.data.length = x.safe then 0 else 1) := by
  rw [take_snoc hk, lc_append, hs, lc_cons]
  simp [lc]
theorem get_tearN (h : Rising f) (hk : k < f.length) (hs : f[k] = (s, x)) : get (tearN picks f k) s = some x := by
  refine mem_get (h.of_names (names_tearN picks f k)) ?_
  unfold tearN
  rw [List.drop_eq_getElem_cons hk, hs]
  simp
theorem tearN_same (hk : k < f.length) (hs : f[k] = (s, x)) (he : x.data.length = x.safe) : tearN picks f (k + 1) = tearN picks f k := by
  unfold tearN
  rw [take_snoc hk, tear_append, List.append_assoc, hs]
  conv => rhs; rw [List.drop_eq_getElem_cons hk, hs]
  unfold tear
  rw [if_pos he]
  simp [tear]
theorem tearN_step (h : Rising f) (hk : k < f.length) (hs : f[k] = (s, x)) (he : x.data.length ≠ x.safe) : tearN picks f (k + 1) = upd (tearN picks f k) s fun _ => torn picks (lc (f.take k)) x := by
  have hn : names (f.take k) ++ s :: names (f.drop (k + 1)) = names f := by
    conv => rhs; rw [split_at hk]
    rw [names_append, hs]
    rfl
  have hr := rising_names.1 h
  rw [← hn] at hr
  obtain ⟨_, h2, h3⟩ := List.pairwise_append.1 hr
  have e1 : get (tear picks 0 (f.take k)) s = none := by
    cases e : get (tear picks 0 (f.take k)) s with
    | none => rfl
    | some y =>
      have : s ∈ names (tear picks 0 (f.take k)) := List.mem_map.2 ⟨_, get_mem e, rfl⟩
      rw [names_tear] at this
      exact absurd (h3 s this s (by simp)) (nm_irrefl s)
  have e2 : get (f.drop (k + 1)) s = none := by
    cases e : get (f.drop (k + 1)) s with
    | none => rfl
    | some y => exact absurd ((List.pairwise_cons.1 h2).1 s (List.mem_map.2 ⟨_, get_mem e, rfl⟩)) (nm_irrefl s)
  unfold tearN
  rw [take_snoc hk, tear_append, List.append_assoc, hs]
  conv => rhs; rw [List.drop_eq_getElem_cons hk, hs, upd_append, upd_none _ e1]
  have e3 : upd ((s, x) :: f.drop (k + 1)) s (fun _ => torn picks (lc (f.take k)) x) = (s, torn picks (lc (f.take k)) x) :: f.drop (k + 1) := by
    rw [upd_cons, upd_none _ e2]
    simp
  rw [e3]
  congr 1
  unfold tear
  rw [if_neg he]
  simp [tear, torn]
theorem tot_append (l r : Ent Fi) : tot (l ++ r) = tot l + tot r := by unfold tot; simp
theorem ok_tearN {d : Dk} {n : Nat} (h : Okn n d) : Okn n { d with f := tearN picks d.f k } := by
  have hn := names_tearN picks d.f k
  have hl : (tearN picks d.f k).length = d.f.length := by rw [← length_names, hn, length_names]
  refine ⟨h.rising.of_names hn, fun p hp => ?_, fun p hp => ?_, by rw [hl]; exact h.few, ?_⟩
  · have : p.1 ∈ names d.f := by rw [← hn]; exact List.mem_map_of_mem hp
    obtain ⟨q, hq, e⟩ := List.mem_map.1 this
    rw [← e]
    exact h.nm q hq
  · have hp' : p ∈ tear picks 0 (d.f.take k) ++ d.f.drop k := hp
    rcases List.mem_append.1 hp' with k1 | k1
    · exact Nat.le_of_eq (tear_mem picks (fun q hq => h.safe q (List.mem_of_mem_take hq)) k1)
    · exact h.safe p (List.mem_of_mem_drop k1)
  · have h1 := tot_tear picks (d.f.take k) 0
    have h2 : tot (d.f.take k) + tot (d.f.drop k) = tot d.f := by rw [← tot_append, List.take_append_drop]
    have := h.room
    show tot (tear picks 0 (d.f.take k) ++ d.f.drop k) ≤ 4194304
    rw [tot_append]
    omega
end
end Go.Proofs.YtkilkhnoldfhcaaGreatDoor
