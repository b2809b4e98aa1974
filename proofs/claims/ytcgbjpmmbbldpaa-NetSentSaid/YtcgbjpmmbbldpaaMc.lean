/- The document's net (raceref13): drop, Take. Conditions: no more than a million mails. -/
import Derived.Test.YtcgbjpmmbbldpaaMb
namespace Go.Proofs.Ytcgbjpmmbbldpaa
open Go.ChangeShapes Go.WideShapes Go.ChangeAt Go.RowKit Go.Deep
theorem erase_snoc {α : Type} {L : List α} {k : Nat} (h : k < L.length) (i : Nat) : (L.take (k + 1)).eraseIdx i = (L.take k).eraseIdx i ++ (if k = i then [] else [L[k]]) := by
  have hl : (L.take k).length = k := by rw [List.length_take]; omega
  rw [List.take_add_one, List.getElem?_eq_getElem h, Option.toList_some]
  by_cases e : k = i
  · subst e
    have e2 := List.eraseIdx_append_of_length_le (l := L.take k) (k := k) (by omega) [L[k]]
    rw [if_pos rfl, List.append_nil, e2, hl, Nat.sub_self]
    rw [List.eraseIdx_of_length_le (l := L.take k) (by omega)]
    simp
  · rw [if_neg e]
    by_cases h2 : i < k
    · exact List.eraseIdx_append_of_lt_length (l := L.take k) (k := i) (by omega) [L[k]]
    · have e2 := List.eraseIdx_append_of_length_le (l := L.take k) (k := i) (by omega) [L[k]]
      rw [e2, hl, List.eraseIdx_of_length_le (l := L.take k) (by omega)]
      rw [List.eraseIdx_of_length_le (by simp; omega)]
theorem erase_len {α : Type} (L : List α) (i : Nat) : (L.eraseIdx i).length ≤ L.length := by
  rw [List.length_eraseIdx]; split <;> omega
theorem map_erase {α β : Type} (f : α → β) (L : List α) (i : Nat) : (L.eraseIdx i).map f = (L.map f).eraseIdx i := by
  induction L generalizing i with
  | nil => rfl
  | cons x L ih =>
    cases i with
    | zero => rfl
    | succ i => simp [List.eraseIdx_cons_succ, ih]
theorem heap_set {w : World} {b o : Nat} {cs cs' : Array Value} {t : TypeId} (h : w.heap[b]? = some (.cells cs t (0, 0))) (v : Value) (hc : cs.setIfInBounds o v = cs') : (w.setCell ⟨b, o, none⟩ v).heap[b]? = some (.cells cs' t (0, 0)) := by
  rw [heap_setCell_same w b o cs t v h, hc]
theorem tn_set {b i : Nat} {w w' : World} (h : Tn (· = b) w w') (v : Value) : Tn (· = b) w (w'.setCell ⟨b, i, none⟩ v) := h.setCell (fun _ => rfl) v
section
variable {C : Nat → Prop} {w w' : World} {a : Nat} {room : Int} {l l' : List MV} {v u : Value} {L L' : List MH}
/-- The list is another one, in a row of its own: the net's struct alone was turned. -/
theorem RNt.relist (h : RNt C w a room l v L) (hb : Below w.heap.size w w') {base : Nat} (ho : w'.ownsRow base 62 3 u L'.length (cellsG mC L')) (hbase : w.heap.size ≤ base) (hd : ∀ x ∈ L', DA C w x) (he : L'.map (·.1) = l') :
    (∃ C', RNt C' (w'.setCell ⟨a, 1, none⟩ u) a room l' u L' ∧ (∀ k, C k → C' k) ∧ Way C w C' (w'.setCell ⟨a, 1, none⟩ u)) ∧ Tn (· = a) w (w'.setCell ⟨a, 1, none⟩ u) := by
  have ha := h.alt
  have hbx := (Tn.of_below (S := fun _ => False) hb).at_ h.box (fun e => e)
  have ht : Tn (· = a) w (w'.setCell ⟨a, 1, none⟩ u) := tn_set (Tn.of_below hb) _
  have ht2 : Tn (· = a) w' (w'.setCell ⟨a, 1, none⟩ u) := tn_set (Tn.refl _ _) _
  have hun : ∀ k, u.ownBlock = some k → ¬ k = a := fun k hk e => by have := (ho.lt k hk).1; omega
  refine ⟨⟨fun k => C k ∨ u.ownBlock = some k, ⟨?_, ⟨own_mono (own_tn ho ht2 hun) (Nat.zero_le _), fun k hk => .inr hk, fun x hx => ?_⟩, he, .inl h.ca, ?_⟩, fun k hk => .inl hk, ⟨ht.mono (fun k _ e => by rw [e]; exact h.ca), ?_⟩⟩, ht⟩
  · exact heap_set hbx u rfl
  · have := hd x hx
    exact (this.tn ht (this.ne h.box (by decide))).mono fun k hk => .inl hk
  · intro k hk
    rcases hk with hk | hk
    · have := h.lt k hk; have := hb.size; simp; omega
    · have := (ho.lt k hk).2; simpa using this
  · intro k hk
    rcases hk with hk | hk
    · exact .inl hk
    · have := ho.lt k hk; exact .inr (by simp; omega)
/-- What drop leaves. -/
def Dropt (C : Nat → Prop) (w : World) (a : Nat) (room : Int) (l' : List MV) (e : Ending) (w' : World) : Prop :=
  e = .returned (.tuple #[]) ∧ (∃ C', RN C' w' a room l' ∧ (∀ k, C k → C' k) ∧ Way C w C' w') ∧ Tn (· = a) w w'
set_option maxRecDepth 100000 in
set_option maxHeartbeats 4000000 in
theorem rdrop_any (h : RN C w a room l) (i : Nat) (hl : l.length ≤ 1000000) : Calls Try.prog 34 #[ptr a, .int .i64 i] w (Dropt C w a room (l.eraseIdx i)) := by
  obtain ⟨i0, hi, hz0, hz1, hz2⟩ := info_parts info_rm
  obtain ⟨v, L, h⟩ := h
  have hc1 := h.c1
  obtain ⟨ao, cap, e⟩ := own_slice h.ml.own
  subst e
  have hln := h.len
  rw [hln] at hc1
  have HM := Lib.hid h
  have HLT := Lib.hid h.alt
  obtain ⟨n, hn⟩ : ∃ n, l.length = n := ⟨_, rfl⟩
  rw [hn] at hc1 hl hln
  have HN := Lib.hid hn
  have HLN := Lib.hid hln
  have HC1 := Lib.hid hc1
  have hf := h.fz 1
  have HFZ := Lib.hid hf
  clear h hn hln hc1 hf
  go_enter Try.func34, Try.ntmps34
  go_wp2
  go_loopw [4, 5] (fun vo vi wr => ∃ k : Nat, vi = .int .i64 k ∧ k ≤ n ∧ Hid (Below w.heap.size w wr) ∧ Hid (wr.ownsRow w.heap.size 62 3 vo ((L.take k).eraseIdx i).length (cellsG mC ((L.take k).eraseIdx i)))) (fun _ vi _ => n - (intOf vi).toNat)
  case atStart => exact ⟨0, rfl, Nat.zero_le _, Lib.hid (Below.refl _ _), Lib.hid (World.ownsRow_nil _ _ _ _)⟩
  case round =>
    obtain ⟨k, rfl, hk, HB, HO⟩ := hrel
    have c1 := (HB.out.cell (p := ⟨a, 1, none⟩) HLT.out).trans HC1.out
    by_cases hlt : k < n
    · have hk' : k < L.length := by rw [HLN.out]; exact hlt
      obtain ⟨g, rfl, hgl, _, hm, hda⟩ := HM.out.ml.at_ hk'
      have HMA := Lib.hid (hm.below HB.out hgl)
      have HS := Lib.hid (erase_snoc hk' i)
      have hle := Nat.le_trans (erase_len (L.take k) i) (List.length_take_le k L)
      have HDA := Lib.hid hda
      clear hm hda
      generalize L[k] = x at *
      generalize hE : (L.take k).eraseIdx i = E at *
      have HE := Lib.hid hE
      clear hE
      have d0 := HMA.out.c0; have d1 := HMA.out.c1; have d2 := HMA.out.c2
      by_cases hki : k = i
      · subst hki
        have hs := HS.out
        rw [if_pos rfl, List.append_nil] at hs
        have HS := Lib.hid hs
        clear hs
        go_wp2
        go_roundw
        case rel => exact ⟨k + 1, by go_num, by omega, HB, by rw [HS.out]; exact HO⟩
        case measure => simp [intOf]; omega
      · have hs := HS.out
        rw [if_neg hki] at hs
        have HS := Lib.hid hs
        have hne : ((k : Int) != (i : Int)) = true := by simp; omega
        have hnn : (k != i) = true := by simp [hki]
        clear hs
        have hEl : E.length ≤ k := hle
        have HO1 := HO.out
        go_wp2_with (at_builtin; refine wpList_append_own _ rfl (.tmp 18) (.tmp 26) 58 rfl w.heap.size 62 i0 (.agg #[.int .i64 0, .int .i64 0, .slice none 0 0]) 3 40 under_rms hi hz0 hz1 hz2 rfl (by decide) _ _ _ rfl (HO.out.alloc _) ⟨wr.heap.size, 0, none⟩ 1 1 (mC x) rfl rfl (cells_ml _ x _ _ (by simp)) HDA.out.one (by unfold maxLen; omega) (by omega) (by have := HB.out.size; simp; omega) ?_; intro v2 w9 hown' hgrow _; have HO9 := Lib.hid hown'; have HG9 := Lib.hid hgrow; clear hown' hgrow)
        go_roundw
        case rel => exact ⟨k + 1, by go_num, by omega, Lib.hid ((HB.out.alloc HB.out.size _).grown HG9.out (HB.out.alloc HB.out.size _).size (fun q hq => (HO.out.lt q hq).1)), by rw [HS.out, List.length_append, cellsG_append, cellsG_one]; exact HO9⟩
        case measure => simp [intOf]; omega
    · obtain rfl : k = n := by omega
      have e : L.take k = L := List.take_of_length_le (by rw [HLN.out]; exact Nat.le_refl _)
      rw [e] at HO
      clear e
      have f0 := (HB.out.frozen (p := ⟨a, 1, none⟩) HLT.out).trans HFZ.out
      obtain ⟨ao2, cap2, e⟩ := own_slice HO.out
      subst e
      go_wp2
      go_end0
      obtain ⟨⟨C', h1, h2⟩, h3⟩ := HM.out.relist HB.out HO.out (Nat.le_refl _) (l' := l.eraseIdx i) (fun x hx => HM.out.ml.dat x (List.mem_of_mem_eraseIdx hx)) (by rw [map_erase, HM.out.eq])
      exact ⟨rfl, ⟨C', ⟨_, _, h1⟩, h2⟩, h3⟩
end
end Go.Proofs.Ytcgbjpmmbbldpaa
