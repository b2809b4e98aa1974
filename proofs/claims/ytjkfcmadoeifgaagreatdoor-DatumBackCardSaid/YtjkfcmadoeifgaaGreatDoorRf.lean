/- A row of bytes that is the call's own, or full: what is appended to it. Conditions: no more than 2^47 bytes. -/
import Derived.Test.YtjkfcmadoeifgaaGreatDoorRo
namespace Go.Proofs.YtjkfcmadoeifgaaGreatDoor
open Go.RowKit
def RowF (B : Nat) (w : World) (v : Value) (l : List UInt8) : Prop :=
  w.ownsRow B 5 1 v l.length (bys l) ∨ ∃ g, v = .slice (some ⟨g, 0, none⟩) l.length l.length ∧ B ≤ g ∧ g < w.heap.size ∧ ∀ j u, (bys l)[j]? = some u → w.cell? ⟨g, j, none⟩ = some u
section
variable {B : Nat} {w w' : World} {v : Value} {l : List UInt8}
theorem RowF.below (h : RowF B w v l) (hb : Below w.heap.size w w') : RowF B w' v l := by
  rcases h with h | ⟨g, hv, h1, h2, h3⟩
  · exact .inl (own_below h hb)
  · exact .inr ⟨g, hv, h1, Nat.lt_of_lt_of_le h2 hb.size, fun j u hu => (hb.cell (p := ⟨g, j, none⟩) h2).trans (h3 j u hu)⟩
theorem RowF.lt (h : RowF B w v l) : ∀ k, v.ownBlock = some k → B ≤ k := by
  rcases h with h | ⟨g, rfl, h1, _⟩
  · exact fun k hk => (h.lt k hk).1
  · intro k hk
    simp [Value.ownBlock] at hk
    omega
/-- append of cells that lie somewhere. -/
theorem run_append_rowF (h : RowF B w v l) (hB : B ≤ w.heap.size) (ty : TypeId) (a : Addr) (c : Nat) (m : List UInt8) (hm : m ≠ []) (hnews : ∀ j u, (bys m)[j]? = some u → w.cell? (a.add j) = some u) (hfit : l.length + m.length ≤ 140737488355328) :
    ∃ v' w', (Builtin.append_ #[32, 32] ty #[v, .slice (some a) m.length c]).run Tryz.prog w = .ok v' w' ∧ w'.ownsRow B 5 1 v' (l.length + m.length) (bys l ++ bys m) ∧ w.grownBy w' v.ownBlock ∧ (v'.ownBlock = v.ownBlock ∨ v'.ownBlock = some w.heap.size) := by
  obtain ⟨i0, hi, hz0, hz1, hz2⟩ := info_parts info5
  rcases h with h | ⟨g, rfl, h1, h2, h3⟩
  · obtain ⟨v', w', r1, r2, r3, _, r4⟩ := run_append_own_at (P := Tryz.prog) w B 32 ty 5 i0 (.int .u8 0) 1 1 under50 hi hz0 hz1 hz2 rfl (by decide) v l.length (bys l) h a m.length c (bys m) (by rw [bys_length, Nat.mul_one]) hnews (bys_one m) (by unfold maxLen; omega) (by omega) hB
    exact ⟨v', w', r1, r2, r3, r4⟩
  · have hml : 0 < m.length := List.length_pos_iff.2 hm
    have hr := run_append_grow (P := Tryz.prog) w 32 ty 5 i0 (.int .u8 0) under50 hi hz0 ⟨g, 0, none⟩ l.length l.length (bys l) (by rw [bys_length, hz1, Nat.mul_one]) (fun j u hu => by rw [Addr.add_lit, Nat.zero_add]; exact h3 j u hu) a m.length c (bys m) (by rw [bys_length, hz1, Nat.mul_one]) hnews (by omega) (by omega)
      (by rw [hz2]; exact growslice_fits (by omega) (by omega))
    have hge := grownCap_ge w (l.length + m.length) l.length 5
    have hcm2 : grownCap w (l.length + m.length) l.length 5 ≤ maxLen := grownCap_le_maxLen w (l.length + m.length) l.length 5 (by unfold maxLen; omega)
    have hz : (Value.int IntKind.u8 0).cells.size = 1 := rfl
    refine ⟨_, _, hr, ⟨by rw [List.length_append, bys_length, bys_length, Nat.mul_one], .inr ⟨w.heap.size, _, _, rfl, hB, heap_alloc_new w.drew _, hge, hcm2, ?_, ?_⟩⟩, ⟨rfl, rfl, rfl, by simp, fun k hk _ => Below.heap_alloc w.drew _ k hk⟩, .inr rfl⟩
    · simp only [Array.size_append, List.size_toArray, size_zeroCells, hz, bys_length]
      omega
    · simp only [Array.toList_append, List.append_assoc]
      rw [← List.append_assoc]
      have e : (l.length + m.length) * 1 = (bys l ++ bys m).length := by rw [List.length_append, bys_length, bys_length, Nat.mul_one]
      rw [e]
      exact List.take_left
/-- append of a string that is not empty. -/
theorem run_append_strF (h : RowF B w v l) (hB : B ≤ w.heap.size) (ty : TypeId) (m : List UInt8) (hm : m ≠ []) (hfit : l.length + m.length ≤ 140737488355328) :
    ∃ v' w', (Builtin.append_ #[32, 9] ty #[v, .string ⟨m.toArray⟩]).run Tryz.prog w = .ok v' w' ∧ w'.ownsRow B 5 1 v' (l.length + m.length) (bys l ++ bys m) ∧ w.grownBy w' v.ownBlock := by
  obtain ⟨i0, hi, hz0, hz1, hz2⟩ := info_parts info5
  have hsz : (⟨m.toArray⟩ : ByteArray).size = m.length := rfl
  rcases h with h | ⟨g, rfl, h1, h2, h3⟩
  · obtain ⟨v', w', r1, r2, r3, _⟩ := run_append_string_at (P := Tryz.prog) w B 32 9 ty 5 i0 under50 (by kernel_rfl) hi hz0 hz1 hz2 v l.length (bys l) h ⟨m.toArray⟩ (by rw [hsz]; unfold maxLen; omega) (by rw [hsz]; omega) hB
    exact ⟨v', w', r1, r2, r3⟩
  · have hml : 0 < m.length := List.length_pos_iff.2 hm
    have hr := Lib.run_append_grow_string (P := Tryz.prog) w 32 9 ty 5 i0 (.int .u8 0) under50 (by kernel_rfl) hi hz0 ⟨g, 0, none⟩ l.length l.length (bys l) (by rw [bys_length, hz1, Nat.mul_one]) (fun j u hu => by rw [Addr.add_lit, Nat.zero_add]; exact h3 j u hu) ⟨m.toArray⟩ (by rw [hsz]; omega) (by rw [hsz]; omega)
      (by rw [hz2, hsz]; exact growslice_fits (by omega) (by omega))
    rw [strCells_bys, hsz] at hr
    have hge := grownCap_ge w (l.length + m.length) l.length 5
    have hcm2 : grownCap w (l.length + m.length) l.length 5 ≤ maxLen := grownCap_le_maxLen w (l.length + m.length) l.length 5 (by unfold maxLen; omega)
    have hz : (Value.int IntKind.u8 0).cells.size = 1 := rfl
    refine ⟨_, _, hr, ⟨by rw [List.length_append, bys_length, bys_length, Nat.mul_one], .inr ⟨w.heap.size, _, _, rfl, hB, heap_alloc_new w.drew _, hge, hcm2, ?_, ?_⟩⟩, ⟨rfl, rfl, rfl, by simp, fun k hk _ => Below.heap_alloc w.drew _ k hk⟩⟩
    · simp only [Array.size_append, List.size_toArray, size_zeroCells, hz, bys_length]
      omega
    · simp only [Array.toList_append, List.append_assoc]
      rw [← List.append_assoc]
      have e : (l.length + m.length) * 1 = (bys l ++ bys m).length := by rw [List.length_append, bys_length, bys_length, Nat.mul_one]
      rw [e]
      exact List.take_left
theorem wpList_append_F {ops : Array Oper} {rest : List Oper} {o : Oper} {a : Act} {Q : Exit → Act → World → Prop} (hgd : o.guard = none) (s x : Operand)
    (ho : o.op = .call { callee := .builtin .append, args := #[s, x], argTypes := #[32, 32] }) (hs : a.eval s = v) (h : RowF B w v l) (hB : B ≤ w.heap.size) (ad : Addr) (c : Nat) (m : List UInt8) (hx : a.eval x = .slice (some ad) m.length c) (hm : m ≠ [])
    (hnews : ∀ j u, (bys m)[j]? = some u → w.cell? (ad.add j) = some u) (hfit : l.length + m.length ≤ 140737488355328)
    (hk : ∀ v' w', w'.ownsRow B 5 1 v' (l.length + m.length) (bys l ++ bys m) → w.grownBy w' v.ownBlock → (v'.ownBlock = v.ownBlock ∨ v'.ownBlock = some w.heap.size) → wpList Tryz.prog ops Q rest (a.put o.dst v') w') : wpList Tryz.prog ops Q (o :: rest) a w := by
  refine wpList_plain hgd fun K hK => ?_
  obtain ⟨v', w', hr, h2, h3, h4⟩ := run_append_rowF h hB o.type ad c m hm hnews hfit
  unfold Oper.wp execOp
  simp only [ho, resolve, invoke, builtin, Sem.run_bind, Sem.run_pure, Result.andThen_ok, List.map_toArray, List.map_cons, List.map_nil, hs, hx, hr]
  exact hK _ _ (hk v' w' h2 h3 h4)
theorem wpList_append_strF {ops : Array Oper} {rest : List Oper} {o : Oper} {a : Act} {Q : Exit → Act → World → Prop} (hgd : o.guard = none) (s x : Operand)
    (ho : o.op = .call { callee := .builtin .append, args := #[s, x], argTypes := #[32, 9] }) (hs : a.eval s = v) (h : RowF B w v l) (hB : B ≤ w.heap.size) (m : List UInt8) (hx : a.eval x = .string ⟨m.toArray⟩) (hm : m ≠ [])
    (hfit : l.length + m.length ≤ 140737488355328)
    (hk : ∀ v' w', w'.ownsRow B 5 1 v' (l.length + m.length) (bys l ++ bys m) → w.grownBy w' v.ownBlock → wpList Tryz.prog ops Q rest (a.put o.dst v') w') : wpList Tryz.prog ops Q (o :: rest) a w := by
  refine wpList_plain hgd fun K hK => ?_
  obtain ⟨v', w', hr, h2, h3⟩ := run_append_strF h hB o.type m hm hfit
  unfold Oper.wp execOp
  simp only [ho, resolve, invoke, builtin, Sem.run_bind, Sem.run_pure, Result.andThen_ok, List.map_toArray, List.map_cons, List.map_nil, hs, hx, hr]
  exact hK _ _ (hk v' w' h2 h3)
theorem step_append_F {ops : Array Oper} {o : Oper} {a : Act} {K : Act → World → Prop} {Q : Exit → Act → World → Prop} {E : Prop} (hgd : o.guard = none) (s x : Operand)
    (ho : o.op = .call { callee := .builtin .append, args := #[s, x], argTypes := #[32, 32] }) (hs : a.eval s = v) (h : RowF B w v l) (hB : B ≤ w.heap.size) (ad : Addr) (c : Nat) (m : List UInt8) (hx : a.eval x = .slice (some ad) m.length c) (hm : m ≠ [])
    (hnews : ∀ j u, (bys m)[j]? = some u → w.cell? (ad.add j) = some u) (hfit : l.length + m.length ≤ 140737488355328)
    (hk : ∀ v' w', w'.ownsRow B 5 1 v' (l.length + m.length) (bys l ++ bys m) → w.grownBy w' v.ownBlock → (v'.ownBlock = v.ownBlock ∨ v'.ownBlock = some w.heap.size) → K (a.put o.dst v') w') :
    if Region.wanted o (yielded ops a.tmps) = true then Oper.wp Tryz.prog o a w K Q else E := by
  have hw : Region.wanted o (yielded ops a.tmps) = true := by simp [Region.wanted, hgd]
  rw [if_pos hw]
  obtain ⟨v', w', hr, h2, h3, h4⟩ := run_append_rowF h hB o.type ad c m hm hnews hfit
  unfold Oper.wp
  simp [execOp, ho, resolve, invoke, builtin, hs, hx, hr, Result.andThen]
  exact hk v' w' h2 h3 h4
theorem keep_cells {w w1 w2 : World} {g : Nat} {row : Option Nat} (hlt : g < w.heap.size) (hb : Below w.heap.size w w1) (hg : w1.grownBy w2 row) (hne : row ≠ some g) (j : Nat) : w2.cell? ⟨g, j, none⟩ = w.cell? ⟨g, j, none⟩ :=
  (World.cell?_of_block (a := ⟨g, j, none⟩) (hg.block g (Nat.lt_of_lt_of_le hlt hb.size) (fun e => hne e.symm))).trans (hb.cell (p := ⟨g, j, none⟩) hlt)
end
end Go.Proofs.YtjkfcmadoeifgaaGreatDoor
