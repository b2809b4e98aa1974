/- The contracts of wire.Writer's methods. Conditions: numbers in their range, no more than 2^47 bytes in all. -/
import Derived.Test.YtioopibmpcbcjaaR5
import Derived.OwnWalk
import Derived.Lib.AppendStr
import Derived.Laws.AppendOwnNone
namespace Go.Proofs.Ytioopibmpcbcjaa
open Go.RowKit
theorem info5 : (Try.prog.info? 5).map (fun i => (i.zero, i.size, i.bytes)) = some (some (.int .u8 0), 1, 1) := by kernel_rfl
theorem under31 : Try.prog.underlying 31 = some (.slice 5) := by kernel_rfl
theorem own_shape {w : World} {base : Nat} {e : TypeId} {size : Nat} {v : Value} {n : Nat} {xs : List Value} (h : w.ownsRow base e size v n xs) (hn : 0 < n) : ∃ g cap, v = .slice (some ⟨g, 0, none⟩) n cap := by
  rcases h.2 with ⟨_, h0⟩ | ⟨g, cap, cur, hv, _⟩
  · omega
  · exact ⟨g, cap, hv⟩
section
variable {w w1 : World} {p : Nat} {v v' : Value} {l : List UInt8}
/-- An append and a store: the Writer has written more. -/
theorem Wr.step (h : Wr w p v l) {a : World} {m : List UInt8} (ha : Fr (fun _ => False) w a) (hown : w1.ownsRow 0 5 1 v' (l.length + m.length) (bys l ++ bys m)) (hg : a.grownBy w1 v.ownBlock)
    (hat : v'.ownBlock = v.ownBlock ∨ v'.ownBlock = some a.heap.size) :
    w1.heap[p]? = some (.cells #[v] 65 (0, 0)) ∧ Wr (w1.setCell ⟨p, 0, none⟩ v') p v' (l ++ m) ∧ Fr (foot p v) w (w1.setCell ⟨p, 0, none⟩ v') ∧ Moved w v v' := by
  have hf1 : Fr (foot p v) w w1 := (ha.mono (fun _ _ h => h.elim)).grown hg (fun k _ hk => .inr hk)
  have hap := h.apart
  have hcell : w1.heap[p]? = some (.cells #[v] 65 (0, 0)) := by
    rw [hg.block p (Nat.lt_of_lt_of_le h.lt ha.size) (fun e => hap e.symm)]
    exact ha.heap h.cell id
  have hne : ∀ k, v'.ownBlock = some k → ¬ k = p := by
    intro k hk e
    subst e
    rcases hown.2 with ⟨rfl, _⟩ | ⟨g, cap, cur, rfl, _, hh, _⟩
    · simp [Value.ownBlock] at hk
    · simp [Value.ownBlock] at hk
      subst hk
      have := hcell.symm.trans hh
      simp at this
  refine ⟨hcell, ⟨heap_setCell_self hcell v', ?_⟩, hf1.setCell (fun _ => .inl rfl) v', ?_⟩
  · have := (fr_set1 (p := p) w1 0 v').own hown hne
    rw [List.length_append, bys_append]
    exact this
  · rcases hat with hat | hat
    · exact .inl hat
    · refine .inr fun k hk => ?_
      rw [hat] at hk
      simp at hk
      have := ha.size
      omega
theorem fr_alloc (w : World) (o : Obj) : Fr (fun _ => False) w (w.alloc o) := (Fr.refl _ w).alloc o
end
set_option maxRecDepth 100000 in
theorem wint_any {w : World} {p : Nat} {v : Value} {l : List UInt8} (h : Wr w p v l) (n : Int) (h1 : -9223372036854775808 ≤ n) (h2 : n < 9223372036854775808) (hroom : l.length + 10 ≤ 140737488355328) :
    Calls Try.prog 35 #[.pointer (some ⟨p, 0, none⟩), .int .i64 n] w fun e w' => e = .returned (.tuple #[]) ∧ ∃ v', Wr w' p v' (l ++ vb (foldN n)) ∧ Fr (foot p v) w w' ∧ Moved w v v' := by
  obtain ⟨i0, hi, hz0, hz1, hz2⟩ := info_parts info5
  have hvl := vb_len_le _ (foldN_lt h1 h2)
  have hu64 := foldN_lt h1 h2
  have H := Lib.hid h; clear h
  generalize hU : foldN n = U0 at *
  have HU := Lib.hid hU; clear hU
  go_enter Try.func35, Try.ntmps35
  go_wp2_with (go_at_call 60; refine (fold_any n h1 h2 _).mono ?_; rw [HU.out]; rintro x w ⟨rfl, rfl⟩)
  go_loopw [4] (fun u wr => ∃ (U : Nat) (l' : List UInt8) (v' : Value), u = .int .u64 U ∧ U < 18446744073709551616 ∧ Hid (Wr wr p v' l') ∧ Hid (l' ++ vb U = l ++ vb U0 ∧ (vb U).length + l'.length ≤ 140737488355328) ∧ Hid (Fr (foot p v) w wr) ∧ Hid (Moved w v v')) (fun u _ => (intOf u).toNat)
  case atStart => exact ⟨U0, l, v, rfl, hu64, H.out, ⟨rfl, by omega⟩, Fr.refl _ _, .inl rfl⟩
  case round =>
    obtain ⟨U, l', v', rfl, hU64, HW, HE, HF, HM⟩ := hrel
    have c0 := cell_in (o := 0) HW.out.cell rfl
    have f0 := free_in HW.out.cell 0
    have ho := HW.out.own
    have hvp := vb_pos U
    have hlen := HE.out.2
    by_cases hbig : 127 < U
    · have hb := band_127 hU64
      have HVB := Lib.hid (vb_hi (u := U) (by omega))
      have hvl2 : (vb U).length = (vb (U / 128)).length + 1 := by rw [HVB.out]; simp
      obtain ⟨g, hg, hgl⟩ : ∃ g : Nat, U % 128 = g ∧ g < 128 := ⟨_, rfl, by omega⟩
      rw [hg] at hb HVB
      have hb2 := bor8_128 hgl
      have hby : ((g + 128 : Nat) : Int) = ((UInt8.ofNat (g + 128)).toNat : Int) := by rw [ofNat_toNat (by omega)]
      rw [hby] at hb2
      have HD : Hid (((U : Int) / 128) = ((U / 128 : Nat) : Int)) := (Int.natCast_ediv _ _).symm
      clear hg hby
      generalize UInt8.ofNat (g + 128) = y at *
      go_wp2_with (first
        | (at_builtin; refine wpList_append_own_at _ rfl (.tmp 13) (.tmp 18) 31 rfl 0 5 i0 (.int .u8 0) 1 1 under31 hi hz0 hz1 hz2 rfl (by decide) _ _ _ rfl (ho.alloc _) ⟨wr.heap.size, 0, none⟩ 1 1 (bys [y]) rfl rfl (cell_one_new _ _ _) (by intro u hu; simp [bys] at hu; subst hu; rfl) (by unfold maxLen; omega) (by omega) (Nat.zero_le _) ?_; intro v2 w2 hown' hgrow _ hat; obtain ⟨g2, cap2, rfl⟩ := own_shape hown' (by omega); have hs := HW.out.step (m := [y]) (fr_alloc _ _) hown' hgrow hat; have HS := Lib.hid hs; have e0 := cell_in (o := 0) hs.1 rfl; have ff0 := free_in hs.1 0; clear hs hown' hgrow hat))
      refine ⟨⟨U / 128, l' ++ [y], _, by rw [← HD.out], by omega, HS.out.2.1, ⟨?_, ?_⟩, HF.out.again HS.out.2.2.1 HM.out, HM.out.trans HS.out.2.2.2 HF.out.size⟩, ?_⟩
      · rw [List.append_assoc, List.singleton_append, ← HVB.out]; exact HE.out.1
      · rw [List.length_append]; simp; omega
      · simp [intOf]; omega
    · obtain ⟨y, rfl⟩ : ∃ y : UInt8, U = y.toNat := ⟨UInt8.ofNat U, (ofNat_toNat (by omega)).symm⟩
      have hVB : vb y.toNat = [y] := by rw [vb_lo (by omega), ofNat_self]
      have hl1 : (vb y.toNat).length = 1 := by rw [hVB]; rfl
      have HVB := Lib.hid hVB
      clear hVB
      go_wp2_with (first
        | (at_builtin; refine wpList_append_own_at _ rfl (.tmp 28) (.tmp 31) 31 rfl 0 5 i0 (.int .u8 0) 1 1 under31 hi hz0 hz1 hz2 rfl (by decide) _ _ _ rfl (ho.alloc _) ⟨wr.heap.size, 0, none⟩ 1 1 (bys [y]) rfl rfl (cell_one_new _ _ _) (by intro u hu; simp [bys] at hu; subst hu; rfl) (by unfold maxLen; omega) (by omega) (Nat.zero_le _) ?_; intro v2 w2 hown' hgrow _ hat; obtain ⟨g2, cap2, rfl⟩ := own_shape hown' (by omega); have hs := HW.out.step (m := [y]) (fr_alloc _ _) hown' hgrow hat; have HS := Lib.hid hs; have e0 := cell_in (o := 0) hs.1 rfl; have ff0 := free_in hs.1 0; clear hs hown' hgrow hat))
      go_returns
      refine ⟨rfl, _, ?_, HF.out.again HS.out.2.2.1 HM.out, HM.out.trans HS.out.2.2.2 HF.out.size⟩
      have := HE.out.1
      rw [HVB.out] at this
      rw [← this]
      exact HS.out.2.1
end Go.Proofs.Ytioopibmpcbcjaa
