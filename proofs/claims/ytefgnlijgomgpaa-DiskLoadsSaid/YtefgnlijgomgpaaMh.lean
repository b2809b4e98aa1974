/- Rows of files behind one another; a file at its place. Conditions: none of its own. -/
import Derived.Test.YtefgnlijgomgpaaMg
namespace Go.Proofs.Ytefgnlijgomgpaa
open Go.RowKit
theorem ins_at {α : Type} {s : Nm} {x : α} : ∀ {f : Ent α} {j : Nat}, j ≤ f.length → (∀ i (h : i < f.length), i < j → f[i].1 < s) → (∀ h : j < f.length, ¬ f[j].1 < s) → ins s x f = f.take j ++ (s, x) :: f.drop j
  | [], 0, _, _, _ => rfl
  | p :: r, 0, _, _, hhi => by
    have h0 : ¬ p.1 < s := hhi (by simp)
    show (if p.1 < s then p :: ins s x r else (s, x) :: p :: r) = _
    rw [if_neg h0]
    rfl
  | p :: r, j + 1, hj, hlo, hhi => by
    have h0 : p.1 < s := hlo 0 (by simp) (by omega)
    have ih := ins_at (f := r) (j := j) (s := s) (x := x) (by simpa using hj) (fun i h hij => by have := hlo (i + 1) (by simpa using h) (by omega); simpa using this) (fun h => by have := hhi (by simpa using h); simpa using this)
    show (if p.1 < s then p :: ins s x r else (s, x) :: p :: r) = _
    rw [if_pos h0, ih]
    rfl
theorem cellsF_drop : ∀ (us : List (Nm × Value × Int)) (j : Nat), cellsF (us.drop j) = (cellsF us).drop (j * 3)
  | [], j => by simp [cellsF]
  | p :: us, 0 => rfl
  | p :: us, j + 1 => by
    rw [List.drop_succ_cons, cellsF_drop us j, show (j + 1) * 3 = j * 3 + 3 by omega]
    rfl
theorem cellsF_mem {us : List (Nm × Value × Int)} (h : ∀ u ∈ us, u.2.1.oneCell' = true) : ∀ y ∈ cellsF us, y.oneCell' = true := by
  intro y hy
  unfold cellsF at hy
  rw [List.mem_flatMap] at hy
  obtain ⟨u, hu, hy⟩ := hy
  simp at hy
  rcases hy with rfl | rfl | rfl
  · rfl
  · exact h u hu
  · rfl
theorem run_append_files {w : World} {v : Value} {n : Nat} {us q : List (Nm × Value × Int)} (ty : TypeId) (hown : w.ownsRow 0 43 3 v n (cellsF us)) {xv : Value}
    (hx : (∃ b o cap, xv = .slice (some ⟨b, o, none⟩) q.length cap ∧ ∀ j y, (cellsF q)[j]? = some y → w.cell? ⟨b, o + j, none⟩ = some y) ∨ (xv = .slice none 0 0 ∧ q = [])) (h1 : ∀ u ∈ q, u.2.1.oneCell' = true) (hroom : n + q.length ≤ 1000000) :
    ∃ v' w', (Builtin.append_ #[28, 28] ty #[v, xv]).run Try.prog w = .ok v' w' ∧ w'.ownsRow 0 43 3 v' (n + q.length) (cellsF (us ++ q)) ∧ w.grownBy w' v.ownBlock ∧ (v'.ownBlock = v.ownBlock ∨ v'.ownBlock = some w.heap.size) := by
  obtain ⟨i0, hi, hz0, hz1, hz2⟩ := info_parts info43
  rcases hx with ⟨b, o, cap, rfl, hm⟩ | ⟨rfl, rfl⟩
  · obtain ⟨v', w', hr, h2, h3, _, h5⟩ := run_append_own_at (P := Try.prog) w 0 28 ty 43 i0 (.agg #[.string ⟨#[]⟩, .slice none 0 0, .int .i64 0]) 3 48 under28 hi hz0 hz1 hz2 rfl (by decide) v n (cellsF us) hown ⟨b, o, none⟩ q.length cap (cellsF q) (cellsF_length q) (fun j y hy => by
      rw [Addr.add_lit]
      exact hm j y hy) (cellsF_mem h1) (by unfold maxLen; omega) (by omega) (Nat.zero_le _)
    exact ⟨v', w', hr, by rw [cellsF_append]; exact h2, h3, h5⟩
  · obtain ⟨ao2, cap2, rfl⟩ := own_slice hown
    refine ⟨_, w, run_append_nothing (P := Try.prog) w 28 28 ty 43 i0 under28 hi ao2 n cap2 (own_cap hown) _ (Src.ofNil w under28 0), ?_, ⟨rfl, rfl, rfl, Nat.le_refl _, fun _ _ _ => rfl⟩, .inl rfl⟩
    rw [List.append_nil]; exact hown
theorem wpList_append_files {ops : Array Oper} {rest : List Oper} {o : Oper} {a : Act} {w : World} {Q : Exit → Act → World → Prop} (hw : Region.wanted o (yielded ops a.tmps) = true) (s x : Operand)
    (ho : o.op = .call { callee := .builtin .append, args := #[s, x], argTypes := #[28, 28] })
    {v xv : Value} {n : Nat} {us q : List (Nm × Value × Int)} (hs : a.eval s = v) (hown : w.ownsRow 0 43 3 v n (cellsF us)) (hxv : a.eval x = xv)
    (hx : (∃ b o cap, xv = .slice (some ⟨b, o, none⟩) q.length cap ∧ ∀ j y, (cellsF q)[j]? = some y → w.cell? ⟨b, o + j, none⟩ = some y) ∨ (xv = .slice none 0 0 ∧ q = [])) (h1 : ∀ u ∈ q, u.2.1.oneCell' = true) (hroom : n + q.length ≤ 1000000)
    (h : ∀ v' w', w'.ownsRow 0 43 3 v' (n + q.length) (cellsF (us ++ q)) → w.grownBy w' v.ownBlock → (v'.ownBlock = v.ownBlock ∨ v'.ownBlock = some w.heap.size) → wpList Try.prog ops Q rest (a.put o.dst v') w') : wpList Try.prog ops Q (o :: rest) a w := by
  obtain ⟨v', w', hr, h2, h3, h4⟩ := run_append_files o.type hown hx h1 hroom
  refine wpList_step fun K hK => ?_
  rw [if_pos hw]
  unfold Oper.wp execOp
  simp only [ho, resolve, invoke, builtin, Sem.run_bind, Sem.run_pure, Result.andThen_ok, List.map_toArray, List.map_cons, List.map_nil, hs, hxv, hr]
  exact hK _ _ (h v' w' h2 h3 h4)
theorem FO.concat {C : Nat → Prop} {w2 w3 : World} {v v3 : Value} {us q : List (Nm × Value × Int)} {l m : List FV} (h : FO C w2 v us l) (hg : w2.grownBy w3 v.ownBlock) (ho : w3.ownsRow 0 43 3 v3 (l.length + m.length) (cellsF (us ++ q)))
    (hl : v3.ownBlock = v.ownBlock ∨ v3.ownBlock = some w2.heap.size) (hlen : q.length = m.length) (hC : C w2.heap.size)
    (hq : ∀ i (h1 : i < q.length) (h2 : i < m.length), q[i].1 = m[i].name ∧ q[i].2.2 = m[i].safe ∧ w2.ownsRow 0 5 1 q[i].2.1 m[i].data.length (bys m[i].data) ∧ ∀ k, q[i].2.1.ownBlock = some k → C k) : FO C w3 v3 (us ++ q) (l ++ m) := by
  have hk : ∀ {n : Nat} {t : Value} {xs : List Value}, w2.ownsRow 0 5 1 t n xs → w3.ownsRow 0 5 1 t n xs := fun {n t xs} ht => ht.kept hg (by
    cases e : t.ownBlock with
    | none => exact .inl rfl
    | some j => exact .inr (fun e2 => own_apart ht h.own (by decide) j e e2.symm))
  have hll := h.len
  refine ⟨by rw [List.length_append]; exact ho, by rw [List.length_append, List.length_append, h.len, hlen], fun i h1 h2 => ?_, fun k hk => ?_, fun i h1 k hk => ?_⟩
  · by_cases hi : i < us.length
    · rw [List.getElem_append_left hi, List.getElem_append_left (by rw [← h.len]; exact hi)]
      obtain ⟨e1, e2, e3⟩ := h.at_ i hi (by rw [← h.len]; exact hi)
      exact ⟨e1, e2, hk e3⟩
    · rw [List.length_append] at h1 h2
      rw [List.getElem_append_right (by omega), List.getElem_append_right (by omega)]
      obtain ⟨e1, e2, e3, _⟩ := hq (i - us.length) (by omega) (by omega)
      simp only [← hll]
      exact ⟨e1, e2, hk e3⟩
  · rcases hl with e | e
    · exact h.row k (e ▸ hk)
    · rw [e] at hk; cases hk; exact hC
  · by_cases hi : i < us.length
    · rw [List.getElem_append_left hi] at hk
      exact h.rows i hi k hk
    · rw [List.length_append] at h1
      rw [List.getElem_append_right (by omega)] at hk
      exact (hq (i - us.length) (by omega) (by omega)).2.2.2 k hk
end Go.Proofs.Ytefgnlijgomgpaa
