/- slices.Delete of a log's first segment; a row of segments that has lost its first. Conditions: none of its own. -/
import Derived.Test.YtkilkhnoldfhcaaGreatDoorLyd
import Derived.Deep.RegionLaw
import Derived.Lib.SliceRun
namespace Go.Proofs.YtkilkhnoldfhcaaGreatDoor
open Go.RowKit
/-- A list of which cells have been laid anew from a place on. -/
def over (xs : List Value) : Nat → List Value → List Value
  | _, [] => xs
  | o, v :: r => over (xs.set o v) (o + 1) r
theorem over_length : ∀ (vs xs : List Value) (o : Nat), (over xs o vs).length = xs.length
  | [], _, _ => rfl
  | v :: r, xs, o => by rw [over, over_length r]; simp
theorem over_eq : ∀ (vs xs : List Value) (o : Nat), o + vs.length ≤ xs.length → over xs o vs = xs.take o ++ (vs ++ xs.drop (o + vs.length))
  | [], xs, o, _ => by simp [over]
  | v :: r, xs, o, h => by
    have h' : o + 1 + r.length ≤ (xs.set o v).length := by simp at h ⊢; omega
    have ho : o < xs.length := by simp at h; omega
    rw [over, over_eq r _ _ h']
    have e1 : (xs.set o v).take (o + 1) = xs.take o ++ [v] := by
      rw [List.take_succ_eq_append_getElem (by simpa using ho), List.getElem_set_self, List.take_set_of_le (Nat.le_refl _)]
    have e2 : (xs.set o v).drop (o + 1 + r.length) = xs.drop (o + (v :: r).length) := by
      rw [List.drop_set_of_lt (by omega)]
      congr 1
      simp
      omega
    rw [e1, e2]
    simp
section
variable {B : Nat} {w w' w1 w2 : World} {a dp : Nat} {C S : Nat → Prop} {lg lg' : Lg} {d d' : Dk}
theorem own_setCells {base : Nat} {e : TypeId} {size g n cap : Nat} : ∀ (vs : List Value) (o : Nat) {w : World} {xs : List Value}, w.ownsRow base e size (.slice (some ⟨g, 0, none⟩) n cap) n xs → (w.setCells g o vs).ownsRow base e size (.slice (some ⟨g, 0, none⟩) n cap) n (over xs o vs)
  | [], _, _, _, h => h
  | v :: r, o, _, _, h => own_setCells r (o + 1) (h.stored o v).1
theorem tn_setCells {g : Nat} : ∀ (vs : List Value) (o : Nat) {w w1 : World}, Tn (· = g) w w1 → Tn (· = g) w (w1.setCells g o vs)
  | [], _, _, _, h => h
  | v :: r, o, _, _, h => tn_setCells r (o + 1) (tn_set h v)
/-- The head of a row is a row. -/
theorem own_head {base : Nat} {e : TypeId} {size g n m cap : Nat} {xs : List Value} (h : w.ownsRow base e size (.slice (some ⟨g, 0, none⟩) n cap) n xs) (hm : m ≤ n) : w.ownsRow base e size (.slice (some ⟨g, 0, none⟩) m cap) m (xs.take (m * size)) := by
  obtain ⟨hl, h2⟩ := h
  have hms : m * size ≤ n * size := Nat.mul_le_mul_right _ hm
  refine ⟨by rw [List.length_take]; omega, ?_⟩
  rcases h2 with ⟨h3, _⟩ | ⟨g', cap', cur, h3, hb, hg, hn, hc, hs, ht⟩
  · cases h3
  · injection h3 with e1 e2 e3
    injection e1 with e1
    injection e1 with e1
    subst e1 e3
    exact .inr ⟨g, cap, cur, rfl, hb, hg, by omega, hc, hs, by rw [← ht, List.take_take, Nat.min_eq_left hms]⟩
def zcG : List Value := [.string ⟨#[]⟩, .int .i64 0, .slice none 0 0, .int .i64 0]
/-- clear of one segment. -/
theorem run_clear_seg (w : World) (ty : TypeId) (b o c : Nat) (hc : ∀ j, j < 4 → (w.cell? ⟨b, o + j, none⟩).isSome = true) (hf : ∀ j, j < 4 → w.frozen? ⟨b, o + j, none⟩ = false) :
    (Builtin.clear_ #[102] ty #[.slice (some ⟨b, o, none⟩) 1 c]).run Tryz.prog w = .ok (.tuple #[]) (w.setCells b o zcG) := by
  have hzc : (Builtin.zeroCells (Value.agg #[.string ⟨#[]⟩, .int .i64 0, .slice none 0 0, .int .i64 0]).cells 1).toList = zcG := by kernel_rfl
  have hst := run_storeCells_cells (P := Tryz.prog) b o zcG 0 w hc hf (by intro v hv; simp [zcG] at hv; rcases hv with rfl | rfl | rfl | rfl <;> rfl)
  simp only [Nat.add_zero] at hst
  simp [Builtin.clear_, run_underlying under102, hzc, hst]
theorem own_cells {base : Nat} {e : TypeId} {size g n cap : Nat} {xs : List Value} (h : w.ownsRow base e size (.slice (some ⟨g, 0, none⟩) n cap) n xs) {j : Nat} (hj : j < n * size) : (w.cell? ⟨g, j, none⟩) = xs[j]? ∧ w.frozen? ⟨g, j, none⟩ = false ∧ xs.length = n * size := by
  obtain ⟨hl, h2⟩ := h
  rcases h2 with ⟨h3, _⟩ | ⟨g', cap', cur, h3, hb, hg, hn, hc, hs, ht⟩
  · cases h3
  · injection h3 with e1 e2 e3
    injection e1 with e1
    injection e1 with e1
    subst e1 e3
    refine ⟨?_, frozen_zero hg, hl⟩
    rw [← ht, List.getElem?_take_of_lt hj]
    simp [World.cell?, hg]
set_option maxRecDepth 100000 in
set_option maxHeartbeats 4000000 in
/-- slices.Delete(l, 0, 1) of two or more segments. -/
theorem delete_any {g M cap : Nat} {xs : List Value} (h : w.ownsRow 0 110 4 (.slice (some ⟨g, 0, none⟩) (M + 1) cap) (M + 1) xs) (hM : 1 ≤ M) (hcap : M + 1 ≤ cap) (_hmax : cap ≤ 9223372036854775807) (h1 : ∀ u ∈ xs, u.oneCell' = true) :
    Calls Tryz.prog 74 #[.slice (some ⟨g, 0, none⟩) (M + 1) cap, .int .i64 0, .int .i64 1] w fun e w' => e = .returned (.slice (some ⟨g, 0, none⟩) M cap) ∧ w'.ownsRow 0 110 4 (.slice (some ⟨g, 0, none⟩) M cap) M (xs.drop 4) ∧ Tn (· = g) w w' := by
  obtain ⟨i0, hi0, hz0, hz1, hz2⟩ := info_parts info110
  have hlen : xs.length = (M + 1) * 4 := h.1
  obtain ⟨news, hnews⟩ : ∃ news, news = xs.drop 4 := ⟨_, rfl⟩
  have hnl : news.length = M * 4 := by rw [hnews, List.length_drop]; omega
  have hd : w.drew.ownsRow 0 110 4 (.slice (some ⟨g, 0, none⟩) (M + 1) cap) (M + 1) xs := h
  have hsrc : Hid (∀ t u, news[t]? = some u → w.drew.cell? ((⟨g, 4, none⟩ : Addr).add t) = some u) := Lib.hid (fun t u hu => by
    have ht : t < M * 4 := by rw [← hnl]; exact (List.getElem?_eq_some_iff.1 hu).1
    rw [Addr.add_lit, (own_cells hd (j := 4 + t) (by omega)).1, ← hu, hnews, List.getElem?_drop])
  have s2 : Hid (∀ u ∈ news, u.oneCell' = true) := Lib.hid (fun u hu => h1 u (by rw [hnews] at hu; exact List.mem_of_mem_drop hu))
  have s3 : Hid (∀ t, t < news.length → (w.drew.cell? ⟨g, 0 + 0 * 4 + t, none⟩).isSome = true ∧ w.drew.frozen? ⟨g, 0 + 0 * 4 + t, none⟩ = false) := Lib.hid (fun t ht => by
    obtain ⟨e1, e2, e3⟩ := own_cells hd (j := t) (by omega)
    rw [show 0 + 0 * 4 + t = t by omega]
    refine ⟨?_, e2⟩
    rw [e1, List.getElem?_eq_getElem (by omega)]
    rfl)
  have s1 : Hid (news.length = M * 4) := Lib.hid hnl
  obtain ⟨W1, hW1⟩ : ∃ W1, W1 = w.drew.setCells g (0 + 0 * 4) news := ⟨_, rfl⟩
  have ho1 : W1.ownsRow 0 110 4 (.slice (some ⟨g, 0, none⟩) (M + 1) cap) (M + 1) (over xs 0 news) := by rw [hW1]; exact own_setCells news 0 hd
  have hcl : ∀ ty, (Builtin.clear_ #[102] ty #[.slice (some ⟨g, M * 4, none⟩) 1 (cap - M)]).run Tryz.prog W1 = .ok (.tuple #[]) (W1.setCells g (M * 4) zcG) := fun ty => run_clear_seg W1 ty g (M * 4) _ (fun j hj => by
      rw [(own_cells ho1 (j := M * 4 + j) (by omega)).1, List.getElem?_eq_getElem (by rw [over_length]; omega)]; rfl) (fun j hj => (own_cells ho1 (j := M * 4 + j) (by omega)).2.1)
  have HO : Hid ((W1.setCells g (M * 4) zcG).ownsRow 0 110 4 (.slice (some ⟨g, 0, none⟩) M cap) M (xs.drop 4)) := Lib.hid (by
    have h2 := own_head (own_setCells zcG (M * 4) ho1) (m := M) (Nat.le_succ _)
    have e1 : over xs 0 news = news ++ xs.drop (M * 4) := by rw [over_eq news xs 0 (by omega), hnl]; simp
    have e2 : (over (over xs 0 news) (M * 4) zcG).take (M * 4) = xs.drop 4 := by
      rw [over_eq zcG _ (M * 4) (by rw [over_length]; simp [zcG]; omega), List.take_append_of_le_length (by rw [List.length_take, over_length]; omega), List.take_take, Nat.min_self, e1, List.take_append_of_le_length (by omega), List.take_of_length_le (by omega), hnews]
    rw [e2] at h2
    exact h2)
  have HT : Hid (Tn (· = g) w (W1.setCells g (M * 4) zcG)) := Lib.hid (by rw [hW1]; exact tn_setCells _ _ (tn_setCells _ _ (Tn.refl _ w).drew))
  have hW : Hid (W1 = w.drew.setCells g (0 + 0 * 4) news) := Lib.hid hW1
  have hb1 : (1 : Int) ≤ (M : Int) + 1 := by omega
  have hc1 : ¬ cap = 1 := by omega
  have hc2 : ¬ 1 = cap := by omega
  have hc3 : ¬ cap = M := by omega
  have hc4 : ¬ M = cap := by omega
  clear h hd hnews hnl hlen ho1 hW1 h1
  go_enter Tryz.func74, Tryz.ntmps74
  go_wp2
  go_region_law (refine step_append_room rfl (.tmp 22) (.tmp 25) 102 rfl 110 i0 4 under102 hi0 hz1 g 0 0 cap (by simp [Act.eval, Act.put]) ⟨g, 4, none⟩ M (cap - 1) news (by simp [Act.eval, Act.put]) s1.out hsrc.out s2.out (by omega) s3.out ?_; rw [← hW.out])
  go_wp2
  go_ret
  exact ⟨rfl, HO.out, HT.out⟩
theorem own_max {base : Nat} {e : TypeId} {size g n cap : Nat} {xs : List Value} (h : w.ownsRow base e size (.slice (some ⟨g, 0, none⟩) n cap) n xs) : n ≤ cap ∧ cap ≤ 9223372036854775807 := by
  rcases h.2 with ⟨h3, _⟩ | ⟨g', cap', cur, h3, hb, hg, hn, hc, hs, ht⟩
  · cases h3
  · injection h3 with e1 e2 e3
    subst e3
    exact ⟨hn, Nat.le_trans hc (by decide)⟩
theorem cellsG_one (dir : Nm) : ∀ (gs : List Sg) (us : List Value), (∀ u ∈ us, u.oneCell' = true) → ∀ y ∈ cellsG dir gs us, y.oneCell' = true
  | [], _, _, _, h => by cases h
  | _ :: _, [], _, _, h => by cases h
  | g :: gs, u :: us, hu, y, h => by
    rcases List.mem_append.1 (show y ∈ cellG dir g u ++ cellsG dir gs us from h) with h | h
    · exact cellG_one dir g (hu u List.mem_cons_self) y h
    · exact cellsG_one dir gs us (fun x hx => hu x (List.mem_cons_of_mem _ hx)) y h
theorem go_one {v : Value} {dir : Nm} {gs : List Sg} {us : List Value} (h : GO C w v dir gs us) : ∀ u ∈ us, u.oneCell' = true := by
  intro u hu
  obtain ⟨i, hi, rfl⟩ := List.getElem_of_mem hu
  obtain ⟨xs, hr⟩ := h.recs i hi (by rw [← h.len]; exact hi)
  obtain ⟨ao, c, e⟩ := own_slice hr.own
  rw [e]
  rfl
/-- slices.Delete(l, 0, 1) of a log's segments. -/
theorem ldelete_any {g n cap : Nat} {us : List Value} (h : LAt C w a dp lg (.slice (some ⟨g, 0, none⟩) n cap) us) (hn : n = lg.segs.length) (h2 : 2 ≤ n) :
    Calls Tryz.prog 74 #[.slice (some ⟨g, 0, none⟩) n cap, .int .i64 0, .int .i64 1] w fun e w' => e = .returned (.slice (some ⟨g, 0, none⟩) (n - 1) cap) ∧ w'.ownsRow 0 110 4 (.slice (some ⟨g, 0, none⟩) (n - 1) cap) (n - 1) ((cellsG lg.dir lg.segs us).drop 4) ∧ Tn (· = g) w w' := by
  obtain ⟨M, rfl⟩ : ∃ M, n = M + 1 := ⟨n - 1, by omega⟩
  have ho := h.go.own
  rw [← hn] at ho
  obtain ⟨h3, h4⟩ := own_max ho
  exact delete_any ho (by omega) h3 h4 (cellsG_one _ _ _ (go_one h.go))
/-- The first segment is gone. -/
theorem LAt.tail {g n cap : Nat} {us : List Value} (h : LAt C w a dp lg (.slice (some ⟨g, 0, none⟩) n cap) us) {s : Sg} {gs : List Sg} (hs : lg.segs = s :: gs) (hn : n = lg.segs.length)
    (ho : w1.ownsRow 0 110 4 (.slice (some ⟨g, 0, none⟩) (n - 1) cap) (n - 1) ((cellsG lg.dir lg.segs us).drop 4)) (ht : Tn (· = g) w w1) :
    LAt C (w1.setCell ⟨a, 3, none⟩ (.slice (some ⟨g, 0, none⟩) (n - 1) cap)) a dp { lg with segs := gs } (.slice (some ⟨g, 0, none⟩) (n - 1) cap) us.tail ∧ w1.cell? ⟨a, 3, none⟩ = some (.slice (some ⟨g, 0, none⟩) n cap) ∧ w1.frozen? ⟨a, 3, none⟩ = false ∧ Tn C w (w1.setCell ⟨a, 3, none⟩ (.slice (some ⟨g, 0, none⟩) (n - 1) cap)) := by
  have hg : C g := h.go.row g rfl
  obtain ⟨cur, hcur⟩ := own_at h.go.own (k := g) rfl
  have hga : ¬ a = g := fun e => by rw [← e] at hcur; exact ne_of_type h.box hcur (by decide) rfl
  have hbx := ht.at_ h.box hga
  have hul := h.go.len
  rw [hs] at hul
  obtain ⟨u, ur, hu⟩ : ∃ u ur, us = u :: ur := by
    cases us with
    | nil => cases hul
    | cons u ur => exact ⟨u, ur, rfl⟩
  have hgo : GO C w1 (.slice (some ⟨g, 0, none⟩) (n - 1) cap) lg.dir gs us.tail := by
    subst hu
    have hn1 : n - 1 = gs.length := by rw [hn, hs]; rfl
    have ec : (cellsG lg.dir lg.segs (u :: ur)).drop 4 = cellsG lg.dir gs ur := by
      rw [hs]
      show (cellG lg.dir s u ++ cellsG lg.dir gs ur).drop 4 = _
      rfl
    rw [ec] at ho
    rw [hn1] at ho ⊢
    refine ⟨ho, by simpa using hul, fun i h1 h2 => ?_, fun k hk => by rw [← Option.some.inj (show some g = some k from hk)]; exact hg, fun i j h1 h2 hij k hk => ?_⟩
    · obtain ⟨xs, hr⟩ := h.go.recs (i + 1) (by simpa using h1) (by rw [hs]; simpa using h2)
      have e : lg.segs[i + 1]'(by rw [hs]; simpa using h2) = gs[i] := by simp [hs]
      rw [e] at hr
      exact ⟨xs, hr.away hcur (by decide) (by decide) ht⟩
    · exact h.go.dis (i + 1) (j + 1) (by simpa using h1) (by simpa using h2) (by omega) k hk
  refine ⟨lat_rows (lg := lg) (v := .slice (some ⟨g, 0, none⟩) n cap) hbx hgo h.ca (fun k hk => Nat.lt_of_lt_of_le (h.lt k hk) ht.size), by simp [World.cell?, hbx], frozen_zero hbx, ?_⟩
  exact (ht.mono (fun k _ e => by rw [e]; exact hg)).setCell (fun _ => h.ca) _
end
end Go.Proofs.YtkilkhnoldfhcaaGreatDoor
