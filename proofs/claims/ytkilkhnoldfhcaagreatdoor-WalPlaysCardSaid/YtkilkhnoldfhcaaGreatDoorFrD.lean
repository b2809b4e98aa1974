/- frame.number, appendNumber, appendSummed, Frame; raceref5.four, Frame; raceref.CopyBytes, Bytes. Conditions: no more than 2^47 bytes in all. -/
import Derived.Test.YtkilkhnoldfhcaaGreatDoorFrB
import Derived.Test.YtkilkhnoldfhcaaGreatDoorFrA
import Derived.Deep.Upon
import Derived.Outline
namespace Go.Proofs.YtkilkhnoldfhcaaGreatDoor.Fr
open Go.RowKit
theorem wrapu8 {n : Nat} : IntKind.u8.wrap (n : Int) = ((n % 256 : Nat) : Int) := by
  rw [IntKind.wrap_u8]; omega
theorem four_get {N j : Nat} (h : j < 4) : (four N)[j]? = some (UInt8.ofNat (N / 256 ^ j % 256)) := by
  match j, h with
  | 0, _ => simp [four]
  | 1, _ => simp [four]
  | 2, _ => simp [four]
  | 3, _ => simp [four]
theorem four_take {N j : Nat} (h : j < 4) : (four N).take (j + 1) = (four N).take j ++ [UInt8.ofNat (N / 256 ^ j % 256)] := by
  rw [List.take_add_one, four_get h]; rfl
set_option maxRecDepth 100000 in
theorem appendNumber_any {B : Nat} {w : World} {v : Value} {l : List UInt8} (h : w.ownsRow B 5 1 v l.length (bys l)) (hB : B ≤ w.heap.size) (N : Nat) (hN : N < 4294967296) (hroom : l.length + 4 ≤ 140737488355328) :
    Calls Tryz.prog 106 #[v, .int .u32 (N : Nat)] w fun e w' => ∃ v', e = .returned v' ∧ w'.ownsRow B 5 1 v' (l ++ four N).length (bys (l ++ four N)) ∧ Below B w w' := by
  obtain ⟨i0, hi, hz0, hz1, hz2⟩ := info_parts info5
  have H := Lib.hid h
  clear h
  go_enter Tryz.func106, Tryz.ntmps106
  go_wp2
  go_loopw [0, 1, 5] (fun b n i wr => ∃ j : Nat, j ≤ 4 ∧ i = .int .i64 j ∧ n = .int .u32 (N / 256 ^ j : Nat) ∧ Hid (wr.ownsRow B 5 1 b (l ++ (four N).take j).length (bys (l ++ (four N).take j))) ∧ Hid (Below B w wr)) (fun _ _ i _ => 4 - (intOf i).toNat)
  case atStart => exact ⟨0, by omega, rfl, by simp, by simpa using H, Below.refl _ _⟩
  case round =>
    obtain ⟨j, hj, rfl, rfl, HO, HW⟩ := hrel
    by_cases hj4 : j < 4
    · have HT := Lib.hid (four_take (N := N) hj4)
      have HL : (l ++ (four N).take j).length ≤ l.length + j := by rw [List.length_append, List.length_take]; omega
      have hq : N / 256 ^ j < 4294967296 := Nat.lt_of_le_of_lt (Nat.div_le_self _ _) hN
      have HP : Hid (N / 256 ^ (j + 1) = N / 256 ^ j / 256) := by rw [Nat.pow_succ, Nat.div_div_eq_div_mul]; exact rfl
      generalize N / 256 ^ j = q at *
      generalize hM : l ++ (four N).take j = M at *
      have HM := Lib.hid hM
      clear hM
      have e1 : IntKind.u8.wrap (q : Int) = ((UInt8.ofNat (q % 256)).toNat : Int) := by rw [ofNat_toNat (by omega)]; exact wrapu8
      have HX : Hid (M ++ [UInt8.ofNat (q % 256)] = l ++ (four N).take (j + 1)) := by rw [HT.out, ← HM.out, List.append_assoc]; exact rfl
      generalize UInt8.ofNat (q % 256) = y at *
      have hs := HW.out.size
      have ho := HO.out
      go_wp2_with (first
        | (at_builtin; refine wpList_append_own_at _ rfl (.tmp 7) (.tmp 10) 36 rfl B 5 i0 (.int .u8 0) 1 1 under22 hi hz0 hz1 hz2 rfl (by decide) _ _ _ rfl (ho.alloc _) ⟨wr.heap.size, 0, none⟩ 1 1 (bys [y]) rfl rfl (cell_one_new _ _ _) (bys_one _) (by unfold maxLen; omega) (by omega) (by simp; omega) ?_; intro v2 w2 hown' hgrow _ hat; have HO2 := Lib.hid hown'; have HW2 := Lib.hid ((HW.out.alloc (Nat.le_trans hB hs) _).grown hgrow (by simp; omega) (fun k hk => (ho.lt k hk).1)); clear hown' hgrow hat))
      go_roundw
      case rel => exact ⟨j + 1, by omega, by go_num, by rw [HP.out]; go_num, by rw [← HX.out, List.length_append, bys_append]; exact HO2, HW2⟩
      case measure => simp [intOf]; omega
    · obtain rfl : j = 4 := by omega
      have HT : Hid ((four N).take 4 = four N) := List.take_of_length_le (by rw [four_length]; omega)
      rw [HT.out] at HO
      go_wp2
      go_ret
      exact ⟨_, rfl, HO.out, HW.out⟩
/-- append of a slice of bytes, whatever it is, onto a row of the call's own. -/
theorem run_append_sb {w : World} {B C : Nat} {v : Value} {l m : List UInt8} (ty : TypeId) (h : w.ownsRow B 5 1 v l.length (bys l)) (hB : B ≤ w.heap.size) {ao : Option Addr} {n cap : Nat} (hm : SB C w ao n cap m) (hroom : l.length + n ≤ 140737488355328) :
    ∃ v' w', (Builtin.append_ #[36, 36] ty #[v, .slice ao n cap]).run Tryz.prog w = .ok v' w' ∧ w'.ownsRow B 5 1 v' (l ++ m).length (bys (l ++ m)) ∧ w.grownBy w' v.ownBlock := by
  obtain ⟨i0, hi, hz0, hz1, hz2⟩ := info_parts info5
  cases ao with
  | none =>
    have h0 := hm.nil rfl
    have h1 := hm.le
    have h2 := hm.len
    obtain rfl : cap = 0 := h0
    obtain rfl : n = 0 := by omega
    obtain rfl : m = [] := List.eq_nil_of_length_eq_zero h2.symm
    obtain ⟨ao2, cap2, rfl⟩ := own_slice h
    have hle : l.length ≤ cap2 := by
      rcases h.2 with ⟨e, _⟩ | ⟨g, cap, cur, e, _, _, hn, _⟩
      · simp at e; omega
      · simp at e; omega
    refine ⟨_, w, run_append_nothing (P := Tryz.prog) w 36 36 ty 5 i0 under22 hi ao2 l.length cap2 hle _ (Src.ofNil w under22 0), ?_, ⟨rfl, rfl, rfl, Nat.le_refl _, fun _ _ _ => rfl⟩⟩
    rw [List.append_nil]; exact h
  | some ad =>
    have hn := hm.len
    obtain ⟨v', w', h1, h2, h3, _⟩ := run_append_own (P := Tryz.prog) w B 36 ty 5 i0 (.int .u8 0) 1 1 under22 hi hz0 hz1 hz2 rfl (by decide) v l.length (bys l) h ad n cap (bys m) (by rw [bys_length, hn, Nat.mul_one]) hm.news (bys_one m) (by unfold maxLen; omega) (by omega) hB
    exact ⟨v', w', h1, by rw [List.length_append, bys_append, ← hn]; exact h2, h3⟩
theorem wpList_append_sb {ops : Array Oper} {rest : List Oper} {o : Oper} {a : Act} {w : World} {Q : Exit → Act → World → Prop} (hw : Region.wanted o (yielded ops a.tmps) = true) (s x : Operand)
    (ho : o.op = .call { callee := .builtin .append, args := #[s, x], argTypes := #[36, 36] })
    {B C : Nat} {v : Value} {l m : List UInt8} (hs : a.eval s = v) (hown : w.ownsRow B 5 1 v l.length (bys l)) (hB : B ≤ w.heap.size) {ao : Option Addr} {n cap : Nat} (hx : a.eval x = .slice ao n cap) (hm : SB C w ao n cap m)
    (hroom : l.length + n ≤ 140737488355328)
    (h : ∀ v' w', w'.ownsRow B 5 1 v' (l ++ m).length (bys (l ++ m)) → w.grownBy w' v.ownBlock → wpList Tryz.prog ops Q rest (a.put o.dst v') w') : wpList Tryz.prog ops Q (o :: rest) a w := by
  obtain ⟨v', w', hr, h2, h3⟩ := run_append_sb o.type hown hB hm hroom
  refine wpList_step fun K hK => ?_
  rw [if_pos hw]
  unfold Oper.wp execOp
  simp only [ho, resolve, invoke, builtin, Sem.run_bind, Sem.run_pure, Result.andThen_ok, List.map_toArray, List.map_cons, List.map_nil, hs, hx, hr]
  exact hK _ _ (h v' w' h2 h3)
theorem wanted_none {o : Oper} (h : o.guard = none) (y : Nat → Option Bool) : Region.wanted o y = true := by simp [Region.wanted, h]
theorem own_below_grown {B : Nat} {w w' : World} {v : Value} {n : Nat} {xs : List Value} (h : w.ownsRow B 5 1 v n xs) (hB : B ≤ w.heap.size) (hg : w.grownBy w' v.ownBlock) : Below B w w' :=
  (Below.refl B w).grown hg hB (fun k hk => (h.lt k hk).1)
set_option maxRecDepth 100000 in
theorem appendSummed_any {B : Nat} {w : World} {v : Value} {l : List UInt8} (h : w.ownsRow B 5 1 v l.length (bys l)) (hB : B ≤ w.heap.size) {ao : Option Addr} {n cap : Nat} {m : List UInt8} (hm : SB B w ao n cap m) (hroom : l.length + n + 4 ≤ 140737488355328) :
    Calls Tryz.prog 107 #[v, .slice ao n cap] w fun e w' => ∃ v', e = .returned v' ∧ w'.ownsRow B 5 1 v' (l ++ (m ++ four (crc m))).length (bys (l ++ (m ++ four (crc m)))) ∧ Below B w w' := by
  have HO := Lib.hid h
  have HM := Lib.hid hm
  have hn := hm.len
  have HN := Lib.hid hn
  clear h hm hn
  go_enter Tryz.func107, Tryz.ntmps107
  go_wp2_with (first
    | (at_builtin; refine wpList_append_sb (wanted_none rfl _) (.tmp 5) (.tmp 6) rfl rfl HO.out hB rfl HM.out (by omega) ?_; intro v1 w1 ho1 hg1; have hb1 := own_below_grown HO.out hB hg1; have HB1 := Lib.hid hb1; have HM1 := Lib.hid ((HM.out.below hb1).mono (Nat.le_trans hB hb1.size)); have HO1 := Lib.hid ho1; clear hb1 ho1 hg1)
    | (go_at_call 125; refine (sum_any HM1.out).mono ?_; rintro e w2 ⟨rfl, hb2⟩; have HO2 := Lib.hid (own_below HO1.out hb2); have HB2 := Lib.hid (HB1.out.trans (hb2.mono (Nat.le_trans hB HB1.out.size))); clear hb2)
    | (go_at_call 106; refine (appendNumber_any HO2.out (Nat.le_trans hB HB2.out.size) (crc m) (crc_lt m) (by rw [List.length_append, ← HN.out]; omega)).mono ?_; rintro e w3 ⟨v3, rfl, ho3, hb3⟩; rw [List.append_assoc] at ho3; have HO3 := Lib.hid ho3; have HB3 := Lib.hid (HB2.out.trans hb3); clear ho3 hb3))
  go_ret
  exact ⟨_, rfl, HO3.out, HB3.out⟩
theorem frame_long {B : Nat} {w : World} {ao : Option Addr} {n cap : Nat} {l : List UInt8} (h : SB B w ao n cap l) (hl : 262144 < l.length) :
    Calls Tryz.prog 67 #[.slice ao n cap] w fun e w' => e = .returned (.tuple #[.slice none 0 0, .int .i64 2]) ∧ w = w' := by
  rw [← h.len] at hl
  clear h
  go_enter Tryz.func67, Tryz.ntmps67
  go_wp2
  go_ret2
  exact ⟨rfl, rfl⟩
set_option maxRecDepth 100000 in
theorem frame_any {w : World} {ao : Option Addr} {n cap : Nat} {l : List UInt8} (h : SB w.heap.size w ao n cap l) (hl : l.length ≤ 262144) :
    Calls Tryz.prog 67 #[.slice ao n cap] w fun e w' => ∃ v', e = .returned (.tuple #[v', .int .i64 0]) ∧ w'.ownsRow w.heap.size 5 1 v' (frameV l).length (bys (frameV l)) ∧ Below w.heap.size w w' := by
  obtain ⟨i0, hi, hz0, hz1, hz2⟩ := info_parts info5
  have hn := h.len
  have hl2 : n ≤ 262144 := by omega
  have HN := Lib.hid hn
  have H := Lib.hid h
  have hw : IntKind.u32.wrap (n : Int) = n := wrapu32 (by omega)
  clear h hl hn
  go_enter Tryz.func67, Tryz.ntmps67
  go_wp2_with (first
    | (go_at_call 106; refine (appendNumber_any (l := []) (World.ownsRow_nil _ w.heap.size 5 1) (Nat.le_refl _) n (by omega) (by simp)).mono ?_; rintro e w1 ⟨v1, rfl, ho1, hb1⟩; rw [List.nil_append] at ho1; obtain ⟨lo, lc, rfl⟩ := own_slice ho1; have HL := Lib.hid (own_sb ho1); have HB1 := Lib.hid hb1; clear ho1 hb1)
    | (refine wpList_make_own _ rfl (.const (.int .i64 0)) (.tmp 15) 36 rfl w1.heap.size 5 i0 (.int .u8 0) 1 under22 hi hz0 hz1 .i64 .i64 ((n : Int) + 12) (n + 12) rfl rfl (by omega) (by rw [hz2]; omega) (by unfold maxLen; omega) (Nat.le_refl _) ?_; intro w2 ho2 hg2; have hb2 := (Below.refl w1.heap.size w1).grown hg2 (Nat.le_refl _) (fun k hk => by cases hk); have HL2 := Lib.hid (HL.out.below hb2); have H2 := Lib.hid (((H.out.below HB1.out).mono HB1.out.size).below hb2); have HS2 := Lib.hid hb2.size; have HB2 := Lib.hid (HB1.out.trans (hb2.mono HB1.out.size)); have HO2 := Lib.hid ho2; clear ho2 hg2 hb2)
    | (go_at_call 107; ((with_reducible refine (appendSummed_any HO3.out HS3.out H3.out (by simp [four_length]; omega)).mono ?_)); rintro e w4 ⟨v4, rfl, ho4, hb4⟩; have HB4 := Lib.hid (HB3.out.trans (hb4.mono HB1.out.size)); have HO4 := Lib.hid ho4; clear ho4 hb4)
    | (go_at_call 107; ((with_reducible refine (appendSummed_any (l := []) (B := w1.heap.size) HO2.out HS2.out HL2.out (by simp [four_length])).mono ?_)); rintro e w3 ⟨v3, rfl, ho3, hb3⟩; rw [List.nil_append] at ho3; have H3 := Lib.hid (H2.out.below hb3); have HS3 := Lib.hid (Nat.le_trans HS2.out hb3.size); have HB3 := Lib.hid (HB2.out.trans (hb3.mono HB1.out.size)); have HO3 := Lib.hid ho3; clear ho3 hb3))
  go_ret2
  refine ⟨_, rfl, own_mono ?_ HB1.out.size, HB4.out⟩
  have e : frameV l = four n ++ four (crc (four n)) ++ (l ++ four (crc l)) := by
    unfold frameV; rw [HN.out, List.append_assoc]
  rw [e]
  exact HO4.out
end Go.Proofs.YtkilkhnoldfhcaaGreatDoor.Fr
