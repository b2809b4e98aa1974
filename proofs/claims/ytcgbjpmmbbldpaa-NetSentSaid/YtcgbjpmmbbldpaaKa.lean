/- The net in memory: its struct; New, has, Len, Count. Conditions: no more than a million mails. -/
import Derived.Test.YtcgbjpmmbbldpaaMd
namespace Go.Proofs.Ytcgbjpmmbbldpaa
open Go.ChangeShapes Go.WideShapes Go.ChangeAt Go.RowKit Go.Deep
theorem info_nm : (Try.prog.info? 40).map (fun i => (i.zero, i.size, i.bytes)) = some (some (.agg #[.int .i64 0, .int .i64 0, .slice none 0 0]), 3, 40) := by kernel_rfl
theorem under_nms : Try.prog.underlying 38 = some (.slice 40) := by kernel_rfl
/-- The net: its struct in block a, its list, all in blocks of C. -/
structure NKt (C : Nat → Prop) (w : World) (a : Nat) (room : Int) (l : List MV) (v : Value) (L : List MH) : Prop where
  box : w.heap[a]? = some (.cells #[.int .i64 room, v] 57 (0, 0))
  ml : ML 40 C w v L
  eq : L.map (·.1) = l
  ca : C a
  lt : ∀ k, C k → k < w.heap.size
def NK (C : Nat → Prop) (w : World) (a : Nat) (room : Int) (l : List MV) : Prop := ∃ v L, NKt C w a room l v L
section
variable {C S : Nat → Prop} {w w' : World} {a : Nat} {room : Int} {l : List MV} {v : Value} {L : List MH}
theorem NKt.tn (h : NKt C w a room l v L) (ht : Tn S w w') (hd : ∀ k, C k → ¬ S k) : NKt C w' a room l v L :=
  ⟨ht.at_ h.box (hd a h.ca), h.ml.tn ht hd, h.eq, h.ca, fun k hk => Nat.lt_of_lt_of_le (h.lt k hk) ht.size⟩
theorem NKt.below (h : NKt C w a room l v L) (hb : Below w.heap.size w w') : NKt C w' a room l v L := h.tn (Tn.of_below (S := fun _ => False) hb) (fun _ _ e => e)
theorem NK.tn (h : NK C w a room l) (ht : Tn S w w') (hd : ∀ k, C k → ¬ S k) : NK C w' a room l := let ⟨_, _, h⟩ := h; ⟨_, _, h.tn ht hd⟩
theorem NK.below (h : NK C w a room l) (hb : Below w.heap.size w w') : NK C w' a room l := let ⟨_, _, h⟩ := h; ⟨_, _, h.below hb⟩
theorem NK.lt (h : NK C w a room l) : ∀ k, C k → k < w.heap.size := let ⟨_, _, h⟩ := h; h.lt
theorem NK.ca (h : NK C w a room l) : C a := let ⟨_, _, h⟩ := h; h.ca
theorem NKt.c0 (h : NKt C w a room l v L) : w.cell? ⟨a, 0, none⟩ = some (.int .i64 room) := by simp [World.cell?, h.box]
theorem NKt.c1 (h : NKt C w a room l v L) : w.cell? ⟨a, 1, none⟩ = some v := by simp [World.cell?, h.box]
theorem NKt.fz (h : NKt C w a room l v L) (o : Nat) : w.frozen? ⟨a, o, none⟩ = false := by simp [World.frozen?, h.box]
theorem NKt.len (h : NKt C w a room l v L) : L.length = l.length := by rw [← h.eq, List.length_map]
theorem NKt.alt (h : NKt C w a room l v L) : a < w.heap.size := h.lt a h.ca
end
section
variable {C : Nat → Prop} {w : World} {a : Nat} {room : Int} {l : List MV}
set_option maxRecDepth 100000 in
theorem nhas_any (h : NK C w a room l) (i : Int) : Calls Try.prog 32 #[ptr a, .int .i64 i] w fun e w' => e = .returned (.bool (hasB l i)) ∧ w = w' := by
  obtain ⟨v, L, h⟩ := h
  have c1 := h.c1
  obtain ⟨ao, cap, e⟩ := own_slice h.ml.own
  subst e
  rw [h.len] at c1
  have e : hasB l i = (decide (0 ≤ i) && decide (i < l.length)) := rfl
  rw [e]
  generalize l.length = n at *
  clear h e
  by_cases h0 : 0 ≤ i
  · have h1 : i ≥ 0 := h0
    by_cases h2 : i < (n : Int)
    · go_enter Try.func32, Try.ntmps32
      go_wp2
      go_ret
      exact ⟨by simp [h0, h2], rfl⟩
    · go_enter Try.func32, Try.ntmps32
      go_wp2
      go_ret
      exact ⟨by simp [h2], rfl⟩
  · have h1 : ¬ i ≥ 0 := h0
    go_enter Try.func32, Try.ntmps32
    go_wp2
    go_ret
    exact ⟨by simp; omega, rfl⟩
set_option maxRecDepth 100000 in
theorem nlen_any (h : NK C w a room l) : Calls Try.prog 21 #[ptr a] w fun e w' => e = .returned (.int .i64 l.length) ∧ Below w.heap.size w w' := by
  obtain ⟨v, L, h⟩ := h
  have c1 := h.c1
  obtain ⟨ao, cap, e⟩ := own_slice h.ml.own
  subst e
  rw [h.len] at c1
  clear h
  generalize l.length = n at *
  go_enter Try.func21, Try.ntmps21
  go_wp2
  go_ret
  exact ⟨rfl, Below.refl _ _⟩
set_option maxRecDepth 100000 in
theorem ncount_any (h : NK C w a room l) (t : Int) (hl : l.length ≤ 1000000) : Calls Try.prog 23 #[ptr a, .int .i64 t] w fun e w' => e = .returned (.int .i64 (cntV l t)) ∧ Below w.heap.size w w' := by
  obtain ⟨v, L, h⟩ := h
  have c1 := h.c1
  obtain ⟨ao, cap, e⟩ := own_slice h.ml.own
  subst e
  have hln := h.len
  rw [hln] at c1
  have HM := Lib.hid h.ml
  have HE := Lib.hid h.eq
  obtain ⟨n, hn⟩ : ∃ n, l.length = n := ⟨_, rfl⟩
  rw [hn] at c1 hl hln
  have HN := Lib.hid hn
  have HLN := Lib.hid hln
  clear h hn hln
  go_enter Try.func23, Try.ntmps23
  go_wp2
  go_loopw [5, 13] (fun vk vi wr => ∃ k : Nat, vi = .int .i64 k ∧ vk = .int .i64 (cntV (l.take k) t) ∧ k ≤ n ∧ Hid (Below w.heap.size w wr)) (fun _ vi _ => n - (intOf vi).toNat)
  case atStart => exact ⟨0, rfl, rfl, Nat.zero_le _, Lib.hid (Below.refl _ _)⟩
  case round =>
    obtain ⟨k, rfl, rfl, hk, HB⟩ := hrel
    have hcl : cntV (l.take k) t ≤ k := Nat.le_trans (cnt_le _ _) (List.length_take_le _ _)
    by_cases hlt : k < n
    · have hk' : k < L.length := by rw [HLN.out]; exact hlt
      have hk2 : k < l.length := by rw [HN.out]; exact hlt
      obtain ⟨g, rfl, hgl, _, hm, hda⟩ := HM.out.at_ hk'
      obtain ⟨uo, uc, hu⟩ := own_slice hda.own
      have HMA := Lib.hid (hm.below HB.out hgl)
      have d0 := HMA.out.c0; have d1 := HMA.out.c1; have d2 := HMA.out.c2
      have he : L[k].1 = l[k] := by
        have := HE.out; subst this; simp
      rw [he] at d0 d1
      have hs := cnt_snoc hk2 t
      rw [hu] at d2
      rw [he] at d2
      clear hm he hu hda HMA
      generalize l[k] = x at *
      obtain ⟨x1, x2, x3⟩ := x
      simp only at d0 d1 d2 hs
      by_cases ht : x2 = t
      · subst ht
        rw [if_pos rfl] at hs
        have HS := Lib.hid hs
        clear hs
        generalize cntV (l.take k) x2 = q at *
        have HB2 := Lib.hid (HB.out.alloc HB.out.size (mobj 40 (⟨x1, x2, x3⟩, .slice uo x3.length uc)))
        go_wp2
        go_roundw
        case rel => exact ⟨k + 1, by go_num, by rw [HS.out]; go_num, by omega, HB2⟩
        case measure => simp [intOf]; omega
      · rw [if_neg ht] at hs
        have HS := Lib.hid hs
        have hne : (x2 == t) = false := beq_eq_false_iff_ne.2 ht
        clear hs ht
        have HB2 := Lib.hid (HB.out.alloc HB.out.size (mobj 40 (⟨x1, x2, x3⟩, .slice uo x3.length uc)))
        go_wp2
        go_roundw
        case rel => exact ⟨k + 1, by go_num, by rw [HS.out]; rfl, by omega, HB2⟩
        case measure => simp [intOf]; omega
    · obtain rfl : k = n := by omega
      have e : l.take k = l := List.take_of_length_le (by rw [HN.out]; exact Nat.le_refl _)
      rw [e]
      clear e
      go_wp2
      go_ret
      exact ⟨rfl, HB.out⟩
end
theorem nnew_no (room : Int) (h : ¬ (1 ≤ room ∧ room ≤ 4096)) (w : World) : Calls Try.prog 8 #[.int .i64 room] w fun e w' => e = .returned (.tuple #[.pointer none, .int .i64 1]) ∧ Below w.heap.size w w' := by
  by_cases h1 : room < 1
  · clear h
    go_enter Try.func8, Try.ntmps8
    go_wp2
    go_ret2
    exact ⟨rfl, Below.refl _ _⟩
  · have h2 : room > 4096 := by omega
    clear h
    go_enter Try.func8, Try.ntmps8
    go_wp2
    go_ret2
    exact ⟨rfl, Below.refl _ _⟩
theorem nk_new (w : World) (room : Int) : NK (· = w.heap.size) (w.alloc (.cells #[.int .i64 room, .slice none 0 0] 57)) w.heap.size room [] :=
  ⟨_, [], by show (Array.push w.heap _)[w.heap.size]? = some _; exact Array.getElem?_push_size, ⟨World.ownsRow_nil _ _ _ _, (fun k hk => by cases hk), fun x hx => by cases hx⟩, rfl, rfl, fun k hk => by subst hk; simp⟩
theorem nnew_yes (room : Int) (h1 : 1 ≤ room) (h2 : room ≤ 4096) (w : World) : Calls Try.prog 8 #[.int .i64 room] w fun e w' => ∃ a C, e = .returned (.tuple #[ptr a, .int .i64 0]) ∧ NK C w' a room [] ∧ (∀ k, C k → w.heap.size ≤ k) ∧ Below w.heap.size w w' := by
  have h3 : ¬ room < 1 := by omega
  have h4 : ¬ room > 4096 := by omega
  have HR := Lib.hid (nk_new w room)
  clear h1 h2
  go_enter Try.func8, Try.ntmps8
  go_wp2
  go_ret2
  exact ⟨w.heap.size, rfl, (· = w.heap.size), HR.out, fun k hk => by subst hk; exact Nat.le_refl _, below1 _ _⟩
end Go.Proofs.Ytcgbjpmmbbldpaa
