/- The document's net (raceref13): New, Has, Count, drop. Conditions: no more than a million mails. -/
import Derived.Test.YtcgbjpmmbbldpaaMa
namespace Go.Proofs.Ytcgbjpmmbbldpaa
open Go.ChangeShapes Go.WideShapes Go.ChangeAt Go.RowKit Go.Deep
theorem info_rm : (Try.prog.info? 62).map (fun i => (i.zero, i.size, i.bytes)) = some (some (.agg #[.int .i64 0, .int .i64 0, .slice none 0 0]), 3, 40) := by kernel_rfl
theorem under_rms : Try.prog.underlying 58 = some (.slice 62) := by kernel_rfl
theorem DA.one {C : Nat → Prop} {w : World} {x : MH} (h : DA C w x) : ∀ u ∈ mC x, u.oneCell' = true := by
  obtain ⟨ao, c, e⟩ := own_slice h.own
  intro u hu
  simp [mC] at hu
  rcases hu with rfl | rfl | rfl
  · rfl
  · rfl
  · rw [e]; rfl
theorem cells_ml (w : World) (x : MH) (T n : Nat) (hn : n = w.heap.size) : ∀ j u, (mC x)[j]? = some u → (w.alloc (.cells #[.int .i64 x.1.f, .int .i64 x.1.t, x.2] T)).cell? ((⟨n, 0, none⟩ : Addr).add j) = some u := by
  subst hn
  intro j u hu
  rw [Addr.add_lit]
  match j, hu with
  | 0, hu => obtain rfl := Option.some.inj hu; simp [World.cell?_alloc_new]
  | 1, hu => obtain rfl := Option.some.inj hu; simp [World.cell?_alloc_new]
  | 2, hu => obtain rfl := Option.some.inj hu; simp [World.cell?_alloc_new]
  | j + 3, hu => cases hu
def hasB (l : List MV) (i : Int) : Bool := decide (0 ≤ i) && decide (i < l.length)
theorem hasB_nat {l : List MV} {i : Int} (h : hasB l i = true) : ∃ k : Nat, i = k ∧ k < l.length := by
  unfold hasB at h
  rw [Bool.and_eq_true, decide_eq_true_iff, decide_eq_true_iff] at h
  exact ⟨i.toNat, by omega, by omega⟩
theorem hasB_of {l : List MV} {k : Nat} (h : k < l.length) : hasB l (k : Int) = true := by
  unfold hasB; simp; omega
section
variable {C : Nat → Prop} {w : World} {a : Nat} {room : Int} {l : List MV}
set_option maxRecDepth 100000 in
theorem rhas_any (h : RN C w a room l) (i : Int) : Calls Try.prog 31 #[ptr a, .int .i64 i] w fun e w' => e = .returned (.bool (hasB l i)) ∧ w = w' := by
  obtain ⟨v, L, h⟩ := h
  have c1 := h.c1
  obtain ⟨ao, cap, e⟩ := own_slice h.ml.own
  subst e
  rw [h.len] at c1
  have e : hasB l i = (decide (0 ≤ i) && decide (i < l.length)) := rfl
  rw [e]
  generalize l.length = n at *
  clear h e
  by_cases h0 : 0 ≤ i
  · have h1 : i ≥ 0 := h0
    by_cases h2 : i < (n : Int)
    · go_enter Try.func31, Try.ntmps31
      go_wp2
      go_ret
      exact ⟨by simp [h0, h2], rfl⟩
    · go_enter Try.func31, Try.ntmps31
      go_wp2
      go_ret
      exact ⟨by simp [h2], rfl⟩
  · have h1 : ¬ i ≥ 0 := h0
    go_enter Try.func31, Try.ntmps31
    go_wp2
    go_ret
    exact ⟨by simp; omega, rfl⟩
def cntV (l : List MV) (t : Int) : Nat := (l.filter fun m => m.t == t).length
theorem cnt_snoc {l : List MV} {k : Nat} (h : k < l.length) (t : Int) : cntV (l.take (k + 1)) t = cntV (l.take k) t + if l[k].t = t then 1 else 0 := by
  unfold cntV
  rw [List.take_add_one, List.getElem?_eq_getElem h, Option.toList_some, List.filter_append, List.length_append]
  by_cases he : l[k].t = t <;> simp [he]
theorem cnt_le (l : List MV) (t : Int) : cntV l t ≤ l.length := List.length_filter_le _ _
set_option maxRecDepth 100000 in
theorem rcount_any (h : RN C w a room l) (t : Int) (hl : l.length ≤ 1000000) : Calls Try.prog 30 #[ptr a, .int .i64 t] w fun e w' => e = .returned (.int .i64 (cntV l t)) ∧ w = w' := by
  obtain ⟨v, L, h⟩ := h
  have c1 := h.c1
  obtain ⟨ao, cap, e⟩ := own_slice h.ml.own
  subst e
  have hln := h.len
  rw [hln] at c1
  have HM := Lib.hid h.ml
  have HE := Lib.hid h.eq
  obtain ⟨n, hn⟩ : ∃ n, l.length = n := ⟨_, rfl⟩
  rw [hn] at c1 hl hln
  have HN := Lib.hid hn
  have HLN := Lib.hid hln
  clear h hn hln
  go_enter Try.func30, Try.ntmps30
  go_wp2
  go_loopw [5, 6] (fun vk vi wr => ∃ k : Nat, vi = .int .i64 k ∧ vk = .int .i64 (cntV (l.take k) t) ∧ k ≤ n ∧ Hid (wr = w)) (fun _ vi _ => n - (intOf vi).toNat)
  case atStart => exact ⟨0, rfl, rfl, Nat.zero_le _, Lib.hid rfl⟩
  case round =>
    obtain ⟨k, rfl, rfl, hk, hww⟩ := hrel
    obtain rfl := hww.out.symm
    have hcl : cntV (l.take k) t ≤ k := Nat.le_trans (cnt_le _ _) (List.length_take_le _ _)
    by_cases hlt : k < n
    · have hk' : k < L.length := by rw [HLN.out]; exact hlt
      have hk2 : k < l.length := by rw [HN.out]; exact hlt
      obtain ⟨g, rfl, hgl, _, hm, _⟩ := HM.out.at_ hk'
      have d1 := hm.c1
      have he : L[k].1 = l[k] := by
        have := HE.out; subst this; simp
      rw [he] at d1
      have hs := cnt_snoc hk2 t
      clear hm he
      generalize l[k] = x at *
      obtain ⟨x1, x2, x3⟩ := x
      simp only at d1 hs
      by_cases ht : x2 = t
      · subst ht
        rw [if_pos rfl] at hs
        have HS := Lib.hid hs
        clear hs
        generalize cntV (l.take k) x2 = q at *
        go_wp2
        go_roundw
        case rel => exact ⟨k + 1, by go_num, by rw [HS.out]; go_num, by omega, trivial⟩
        case measure => simp [intOf]; omega
      · rw [if_neg ht] at hs
        have HS := Lib.hid hs
        have hne : (x2 == t) = false := beq_eq_false_iff_ne.2 ht
        clear hs ht
        go_wp2
        go_roundw
        case rel => exact ⟨k + 1, by go_num, by rw [HS.out]; rfl, by omega, trivial⟩
        case measure => simp [intOf]; omega
    · obtain rfl : k = n := by omega
      have e : l.take k = l := List.take_of_length_le (by rw [HN.out]; exact Nat.le_refl _)
      rw [e]
      clear e
      go_wp2
      go_ret
      exact ⟨rfl, rfl⟩
end
theorem rnew_no (room : Int) (h : ¬ (1 ≤ room ∧ room ≤ 4096)) (w : World) : Calls Try.prog 9 #[.int .i64 room] w fun e w' => e = .returned (.tuple #[.pointer none, .int .i64 1]) ∧ w = w' := by
  by_cases h1 : room < 1
  · clear h
    go_enter Try.func9, Try.ntmps9
    go_wp2
    go_ret2
    exact ⟨rfl, rfl⟩
  · have h2 : room > 4096 := by omega
    clear h
    go_enter Try.func9, Try.ntmps9
    go_wp2
    go_ret2
    exact ⟨rfl, rfl⟩
theorem rn_new (w : World) (room : Int) : RN (· = w.heap.size) (w.alloc (.cells #[.int .i64 room, .slice none 0 0] 60)) w.heap.size room [] :=
  ⟨_, [], by show (Array.push w.heap _)[w.heap.size]? = some _; exact Array.getElem?_push_size, ⟨World.ownsRow_nil _ _ _ _, (fun k hk => by cases hk), fun x hx => by cases hx⟩, rfl, rfl, fun k hk => by subst hk; simp⟩
theorem rnew_yes (room : Int) (h1 : 1 ≤ room) (h2 : room ≤ 4096) (w : World) : Calls Try.prog 9 #[.int .i64 room] w fun e w' => e = .returned (.tuple #[ptr w.heap.size, .int .i64 0]) ∧ RN (· = w.heap.size) w' w.heap.size room [] ∧ Below w.heap.size w w' := by
  have h3 : ¬ room < 1 := by omega
  have h4 : ¬ room > 4096 := by omega
  have HR := Lib.hid (rn_new w room)
  clear h1 h2
  go_enter Try.func9, Try.ntmps9
  go_wp2
  go_ret2
  exact ⟨rfl, HR.out, below1 _ _⟩
end Go.Proofs.Ytcgbjpmmbbldpaa
