/- Two clocks that hear of one another: at each the stamps rise above all that it heard, none is told twice, each is near what moved it: racelaw8.HlcRises answers true and leaves its arguments as they were. Conditions: the library's table holds what its initialiser lays. -/
import Derived.Test.YtmpokhjchbaleaaDoorR
import Derived.Deep.Grids
namespace Go.Proofs.YtmpokhjchbaleaaDoor
open Go.ChangeShapes Go.WideShapes Go.ChangeAt Go.RowKit
/-- A row of numbers or of bools that came in. -/
structure XR {α : Type} (fv : α → Value) (B : Nat) (w : World) (ao : Option Addr) (n cap : Nat) (l : List α) : Prop where
  len : n = l.length
  le : n ≤ cap
  max : cap ≤ maxLen
  cells : n = 0 ∨ ∃ b off, ao = some ⟨b, off, none⟩ ∧ b < B ∧ ∀ i (h : i < l.length), w.cell? ⟨b, off + i, none⟩ = some (fv l[i])
theorem XR.at_ {α : Type} {fv : α → Value} {B : Nat} {w : World} {ao : Option Addr} {n cap : Nat} {l : List α} (h : XR fv B w ao n cap l) {i : Nat} (hi : i < l.length) : ∃ b off, ao = some ⟨b, off, none⟩ ∧ b < B ∧ w.cell? ⟨b, off + i, none⟩ = some (fv l[i]) := by
  have hn := h.len
  rcases h.cells with h0 | ⟨b, off, rfl, hB, hc⟩
  · omega
  · exact ⟨b, off, rfl, hB, hc i hi⟩
theorem XR.lt {α : Type} {fv : α → Value} {B : Nat} {w : World} {ao : Option Addr} {n cap : Nat} {l : List α} (h : XR fv B w ao n cap l) : l.length ≤ 9223372036854775807 := by have := h.len; have := h.le; have := h.max; unfold maxLen at this; omega
abbrev iv (n : Int) : Value := .int .i64 n
abbrev bv (b : Bool) : Value := .bool b
theorem open_introw {H : Type} {enc : TypeId × Value → H} {w : World} {base : Nat} {held : Bool} {fuel : Nat} {v : Value} {x : DataW H × List MemPlace} (h : DataW.trod enc Tryd.prog w base (fun _ => true) held fuel 51 [v] = some x) : ∃ l, ∃ ao cap, v = .slice ao l.length cap ∧ XR iv w.heap.size w ao l.length cap l := by
  rcases Go.Deep.open_slice1 Tryd.underlying51 (by kernel_rfl) h with ⟨h0, _⟩ | ⟨a, len, cap, m, n, V, D, Pl, h0, hb, hl, hm, hmm, rfl, hx⟩
  · simp at h0
    subst h0
    exact ⟨[], none, 0, rfl, rfl, Nat.le_refl _, by decide, .inl rfl⟩
  simp only [if_true] at hmm
  subst hmm
  simp at h0
  subst h0
  obtain ⟨B, hB⟩ := Go.Deep.choose_lt (α := Int) (p := fun i b => V i = .int .i64 b) (fun i hi => by
    obtain ⟨b, h1, _, h3⟩ := DataW.trod_int Tryd.underlying3 (hx i hi).2
    simp at h1
    exact ⟨b, h1⟩)
  have hlen : ((List.range len).map B).length = len := by simp
  refine ⟨(List.range len).map B, some a, m, by rw [hlen], by rw [hlen], by rw [hlen]; exact hl, hm, ?_⟩
  by_cases h1 : len = 0
  · exact .inl (hlen.trans h1)
  refine .inr ?_
  obtain ⟨b, off, spot⟩ := a
  have h00 := (hx 0 (by omega)).1
  have hspot : spot = none := by simpa [Addr.add] using World.cell?_spot h00
  subst hspot
  refine ⟨b, off, rfl, World.block_lt_of_cell? _ _ h00, fun i hi => ?_⟩
  have hi' : i < len := by simpa using hi
  have h2 := (hx i (by omega)).1
  rw [Addr.add_lit] at h2
  rw [h2, hB i (by omega)]
  simp
theorem open_boolrow {H : Type} {enc : TypeId × Value → H} {w : World} {base : Nat} {held : Bool} {fuel : Nat} {v : Value} {x : DataW H × List MemPlace} (h : DataW.trod enc Tryd.prog w base (fun _ => true) held fuel 52 [v] = some x) : ∃ l, ∃ ao cap, v = .slice ao l.length cap ∧ XR bv w.heap.size w ao l.length cap l := by
  rcases Go.Deep.open_bools Tryd.underlying52 Tryd.underlying4 (by kernel_rfl) h with ⟨h0, _⟩ | ⟨a, len, cap, B, h0, _, hl, hm, _, hc⟩
  · simp at h0
    exact ⟨[], none, 0, by simpa using h0, rfl, Nat.le_refl _, by decide, .inl rfl⟩
  have hlen : ((List.range len).map B).length = len := by simp
  refine ⟨(List.range len).map B, some a, cap, by rw [hlen]; simpa using h0, by rw [hlen], by rw [hlen]; exact hl, hm, ?_⟩
  by_cases h1 : len = 0
  · exact .inl (hlen.trans h1)
  refine .inr ?_
  obtain ⟨b, off, spot⟩ := a
  have h00 := hc 0 (by omega)
  have hspot : spot = none := by simpa [Addr.add] using World.cell?_spot h00
  subst hspot
  refine ⟨b, off, rfl, World.block_lt_of_cell? _ _ h00, fun i hi => ?_⟩
  have hi' : i < len := by simpa using hi
  have h2 := hc i (by omega)
  rw [Addr.add_lit] at h2
  rw [h2]
  simp
theorem upd_self {α : Type} (f : Nat → α) (k : Nat) : upd f k (f k) = f := by
  funext i
  unfold upd
  split
  · rename_i h; rw [h]
  · rfl
/-- The loop's world, at its beginning. -/
theorem ri_init {w w3 : World} {k j : Nat} {sa sb f : St} (hb : Below w.heap.size w w3) (h1 : At w3 k sa) (h2 : At w3 j sb) (hk : w.heap.size ≤ k) (hj : w.heap.size ≤ j) (hkj : k ≠ j) :
    RI w.heap.size (w3.heap.size + 2) w ((w3.alloc (.cells #[ptr k, ptr j] 37)).alloc (.cells #[.int .i64 f.w, .int .i64 f.l, .int .i64 f.n, .int .i64 f.w, .int .i64 f.l, .int .i64 f.n] 23)) w3.heap.size (w3.heap.size + 1) (fun i => if i = 0 then k else j) (fun i => if i = 0 then sa else sb) (fun _ => f) (.slice none 0 0) [] := by
  have hB := below2 w3 (.cells #[ptr k, ptr j] 37) (.cells #[.int .i64 f.w, .int .i64 f.l, .int .i64 f.n, .int .i64 f.w, .int .i64 f.l, .int .i64 f.n] 23)
  have c0 (u : Nat) (hu : u < 2) : (w3.alloc (.cells #[ptr k, ptr j] 37)).cell? ⟨w3.heap.size, u, none⟩ = some (ptr (if u = 0 then k else j)) := by
    rcases (show u = 0 ∨ u = 1 by omega) with rfl | rfl <;> simp [World.cell?_alloc_new]
  have hs : (w3.alloc (.cells #[ptr k, ptr j] 37)).heap.size = w3.heap.size + 1 := by simp
  refine ⟨hb.trans (hB.mono hb.size), fun i hi => ?_, fun i hi => ?_, fun i hi => ?_, ⟨rfl, .inl ⟨rfl, rfl⟩⟩, by simp, fun i hi => ?_, by simpa using hkj, ⟨hb.size, by omega⟩, ⟨by have := hb.size; omega, by omega⟩, fun i hi => ?_, by omega⟩
  · exact ((below1 _ _).cell (p := ⟨w3.heap.size, i, none⟩) (by rw [hs]; exact Nat.lt_succ_self _)).trans (c0 i hi)
  · rcases (show i = 0 ∨ i = 1 by omega) with rfl | rfl
    · exact h1.below hB h1.lt
    · exact h2.below hB h2.lt
  · have e : w3.heap.size + 1 = (w3.alloc (.cells #[ptr k, ptr j] 37)).heap.size := hs.symm
    rcases (show i = 0 ∨ i = 1 by omega) with rfl | rfl
    · rw [e]; exact ⟨by simp, by simp, by simp, World.frozen?_alloc_new _ _ _ _, World.frozen?_alloc_new _ _ _ _, World.frozen?_alloc_new _ _ _ _⟩
    · rw [e]; exact ⟨by simp, by simp, by simp, World.frozen?_alloc_new _ _ _ _, World.frozen?_alloc_new _ _ _ _, World.frozen?_alloc_new _ _ _ _⟩
  · have := h1.lt; have := h2.lt
    rcases (show i = 0 ∨ i = 1 by omega) with rfl | rfl
    · exact ⟨hk, by simp only [if_true]; omega⟩
    · exact ⟨hj, by simp only [if_neg (show ¬ (1 : Nat) = 0 by decide)]; omega⟩
  · have := h1.lt; have := h2.lt
    rcases (show i = 0 ∨ i = 1 by omega) with rfl | rfl
    · exact ⟨by simp only [if_true]; omega, by simp only [if_true]; omega⟩
    · exact ⟨by simp only [if_neg (show ¬ (1 : Nat) = 0 by decide)]; omega, by simp only [if_neg (show ¬ (1 : Nat) = 0 by decide)]; omega⟩
theorem less_63 {l s : St} (h : lt2 l s) : lessS ⟨l.w, l.l, 63⟩ s = true := by
  unfold lessS cmpS
  unfold lt2 at h
  rw [decide_eq_true_iff]
  simp only
  rcases h with h | ⟨h1, h2⟩
  · rw [if_pos (by omega)]; unfold cmpI; rw [if_pos h]; decide
  · rw [if_neg (by simpa using h1), if_pos (by omega)]; unfold cmpI; rw [if_pos h2]; decide
theorem ri_at {B M : Nat} {w wr : World} {CL LW : Nat} {K : Nat → Nat} {S L : Nat → St} {tv : Value} {T : List St} (h : RI B M w wr CL LW K S L tv T) {k : Nat} (hk : k < 2) {s : St} (e : s = S k) : At wr (K k) s := e ▸ h.at_ k hk
theorem ri_box {B M : Nat} {w wr : World} {CL LW : Nat} {K : Nat → Nat} {S L : Nat → St} {tv : Value} {T : List St} (h : RI B M w wr CL LW K S L tv T) {xb : Nat} (hM : M ≤ xb) (ht : ∀ j : Nat, tv.ownBlock = some j → j < xb) (u : St) : RI B M w (setS wr xb u) CL LW K S L tv T :=
  h.tn ((Tn.refl (fun j => j = xb) wr).set3 (fun _ => rfl) u) (fun _ e => e ▸ hM) (fun j e1 e2 => absurd e2 (Nat.ne_of_lt (ht j e1)))
theorem put_eq {K : Act → World → Prop} {a : Act} {d : Option Nat} {v v' : Value} {w : World} (h : v = v') (hk : K (a.put d v') w) : K (a.put d v) w := h ▸ hk
theorem info23 : (Tryd.prog.info? 23).map (fun i => (i.zero, i.size, i.bytes)) = some (some (.agg #[.int .i64 0, .int .i64 0, .int .i64 0]), 3, 24) := by kernel_rfl
theorem under54 : Tryd.prog.underlying 54 = some (.slice 23) := by kernel_rfl
theorem wpList_append_st {ops : Array Oper} {rest : List Oper} {o : Oper} {a : Act} {w : World} {Q : Exit → Act → World → Prop} (hgd : o.guard = none) (s x : Operand)
    (ho : o.op = .call { callee := .builtin .append, args := #[s, x], argTypes := #[54, 54] })
    {base : Nat} {v : Value} {n : Nat} {xs : List Value} {u : St} {b : Nat} (hs : a.eval s = v) (hown : w.ownsRow base 23 3 v n xs) (hx : a.eval x = .slice (some ⟨b, 0, none⟩) 1 1) (hm : At w b u) (hroom : n ≤ 1000000) (hbase : base ≤ w.heap.size)
    (h : ∀ v' w', w'.ownsRow base 23 3 v' (n + 1) (xs ++ cellsS [u]) → w.grownBy w' v.ownBlock → wpList Tryd.prog ops Q rest (a.put o.dst v') w') : wpList Tryd.prog ops Q (o :: rest) a w := by
  have hi := info23
  cases hinf : Tryd.prog.info? 23 with
  | none => rw [hinf] at hi; cases hi
  | some i0 =>
    rw [hinf] at hi
    simp only [Option.map_some, Option.some.injEq, Prod.mk.injEq] at hi
    obtain ⟨hz0, hz1, hz2⟩ := hi
    refine wpList_append_own w hgd s x 54 ho base 23 i0 (.agg #[.int .i64 0, .int .i64 0, .int .i64 0]) 3 24 under54 hinf hz0 hz1 hz2 rfl (by decide) v n xs hs hown ⟨b, 0, none⟩ 1 1 (cellsS [u]) hx rfl (fun j y hy => ?_) (fun y hy => ?_) (by unfold maxLen; omega) (by omega) hbase (fun v' w' h1 h2 _ => h v' w' h1 h2)
    · rw [Addr.add_lit, Nat.zero_add]
      match j, hy with
      | 0, hy => cases hy; exact hm.c0
      | 1, hy => cases hy; exact hm.c1
      | 2, hy => cases hy; exact hm.c2
    · simp [cellsS] at hy
      rcases hy with rfl | rfl | rfl <;> rfl
theorem lt2_of_le {x y z : St} (h : le2 x y) (h2 : lt2 y z) : lt2 x z := by unfold le2 lt2 at *; omega
theorem ab_cell {w : World} {a b x : Int} {N : Nat → Int} (h : (fun i => if i = 0 then a else b) = N) {k : Nat} (hk : k < 2) (hx : x = N k) : (w.alloc (.cells #[.int .i64 a, .int .i64 b] 3)).cell? ⟨w.heap.size, k, none⟩ = some (.int .i64 x) := by
  subst hx
  subst h
  rcases (show k = 0 ∨ k = 1 by omega) with rfl | rfl <;> simp [World.cell?_alloc_new]
theorem ri_lo {B M : Nat} {w wr : World} {CL LW : Nat} {K : Nat → Nat} {S L : Nat → St} {tv : Value} {T : List St} (h : RI B M w wr CL LW K S L tv T) {k : Nat} (hk : k < 2) {s : St} (e : s = L k) : OL wr LW (k * 3) s := e ▸ h.lo k hk
theorem pi_init {a b : Int} {f : St} (hab : a ≠ b) (hf : mayS f = true) (ha : 1 ≤ a ∧ a ≤ 63) (hb : 1 ≤ b ∧ b ≤ 63) : PI f.w (fun i => if i = 0 then a else b) (fun i => if i = 0 then ⟨f.w, f.l, a⟩ else ⟨f.w, f.l, b⟩) (fun _ => f) [] := by
  have hr := mayS_iff.1 hf
  refine ⟨fun i hi => ?_, fun i hi => ?_, fun i hi => ?_, fun i hi => ?_, fun t ht => (nomatch ht), by simpa using hab⟩ <;> rcases (show i = 0 ∨ i = 1 by omega) with rfl | rfl
  · exact mayS_iff.2 ⟨hr.1, hr.2.1, by simp only [if_true]; omega⟩
  · exact mayS_iff.2 ⟨hr.1, hr.2.1, by simp only [if_neg (show ¬ (1 : Nat) = 0 by decide)]; omega⟩
  · rfl
  · rfl
  · exact Int.le_refl _
  · exact Int.le_refl _
  · exact .inr ⟨rfl, Int.le_refl _⟩
  · exact .inr ⟨rfl, Int.le_refl _⟩
set_option maxRecDepth 100000 in
set_option maxHeartbeats 8000000 in
theorem rises_bad (w : World) (a b : Int) (f : St) (u v z : Value) (hT : Pow w) (hc : (newS a f).2 ≠ 0 ∨ ((newS a f).2 = 0 ∧ (newS b f).2 ≠ 0)) : Calls Tryd.prog 6 #[.int .i64 a, .int .i64 b, sagg f, u, v, z] w fun e w' => e = .returned (.bool true) ∧ Below w.heap.size w w' := by
  have HT := Lib.hid hT
  have HN1 := fun w => Lib.hid (new_any w a f)
  have HN2 := fun w => Lib.hid (new_any w b f)
  have HA := Lib.hid (at_new w f)
  have HW := Lib.hid (below1 w (sobj f))
  clear hT
  generalize newS a f = R1 at *
  generalize newS b f = R2 at *
  obtain ⟨o1, r1⟩ := R1
  obtain ⟨o2, r2⟩ := R2
  simp only at HN1 HN2 hc
  obtain ⟨f1, f2, f3⟩ := f
  rcases hc with h1 | ⟨h1, h2⟩
  · have h1' : (r1 != 0) = true := by simpa using h1
    clear h1
    go_enter Tryd.func6, Tryd.ntmps6
    go_wp2_with (first
      | (go_at_call 10; (with_reducible refine (first_any _ (HT.out.below HW.out)).mono ?_); rintro e w1 ⟨rfl, hb⟩; have HA := Lib.hid (HA.out.below hb HA.out.lt); have HW := Lib.hid (HW.out.trans (hb.mono HW.out.size)); have a0 := HA.out.c0; have a1 := HA.out.c1; have a2 := HA.out.c2; clear hb)
      | (go_at_call 23; (with_reducible refine (HN1 _).out.mono ?_); rintro e w2 ⟨⟨v1, rfl, _⟩, hb⟩; have HA := Lib.hid (HA.out.below hb HA.out.lt); have HW := Lib.hid (HW.out.trans (hb.mono HW.out.size)); have a0 := HA.out.c0; have a1 := HA.out.c1; have a2 := HA.out.c2; have a3 := HA.out.lt; clear hb)
      | (go_at_call 23; (with_reducible refine (HN2 _).out.mono ?_); rintro e w2 ⟨⟨v2, rfl, _⟩, hb⟩; have HA := Lib.hid (HA.out.below hb HA.out.lt); have HW := Lib.hid (HW.out.trans (hb.mono HW.out.size)); have a0 := HA.out.c0; have a1 := HA.out.c1; have a2 := HA.out.c2; have a3 := HA.out.lt; clear hb))
    go_ret
    exact ⟨rfl, HW.out⟩
  · subst h1
    have h2' : (r2 != 0) = true := by simpa using h2
    clear h2
    go_enter Tryd.func6, Tryd.ntmps6
    go_wp2_with (first
      | (go_at_call 10; (with_reducible refine (first_any _ (HT.out.below HW.out)).mono ?_); rintro e w1 ⟨rfl, hb⟩; have HA := Lib.hid (HA.out.below hb HA.out.lt); have HW := Lib.hid (HW.out.trans (hb.mono HW.out.size)); have a0 := HA.out.c0; have a1 := HA.out.c1; have a2 := HA.out.c2; clear hb)
      | (go_at_call 23; (with_reducible refine (HN1 _).out.mono ?_); rintro e w2 ⟨⟨v1, rfl, _⟩, hb⟩; have HA := Lib.hid (HA.out.below hb HA.out.lt); have HW := Lib.hid (HW.out.trans (hb.mono HW.out.size)); have a0 := HA.out.c0; have a1 := HA.out.c1; have a2 := HA.out.c2; have a3 := HA.out.lt; clear hb)
      | (go_at_call 23; (with_reducible refine (HN2 _).out.mono ?_); rintro e w2 ⟨⟨v2, rfl, _⟩, hb⟩; have HA := Lib.hid (HA.out.below hb HA.out.lt); have HW := Lib.hid (HW.out.trans (hb.mono HW.out.size)); have a0 := HA.out.c0; have a1 := HA.out.c1; have a2 := HA.out.c2; have a3 := HA.out.lt; clear hb))
    go_ret
    exact ⟨rfl, HW.out⟩
set_option maxRecDepth 100000 in
set_option maxHeartbeats 8000000 in
theorem rises_same (w : World) (a : Int) (f : St) (u v z : Value) (hT : Pow w) (sa : St) (hna : newS a f = (some sa, 0)) : Calls Tryd.prog 6 #[.int .i64 a, .int .i64 a, sagg f, u, v, z] w fun e w' => e = .returned (.bool true) ∧ Below w.heap.size w w' := by
  have HT := Lib.hid hT
  have HN1 := fun w => Lib.hid (new_any w a f)
  rw [hna] at HN1
  have HA := Lib.hid (at_new w f)
  have HW := Lib.hid (below1 w (sobj f))
  have haa : (a == a) = true := beq_self_eq_true _
  clear hT hna
  obtain ⟨f1, f2, f3⟩ := f
  go_enter Tryd.func6, Tryd.ntmps6
  go_wp2_with (first
    | (go_at_call 10; (with_reducible refine (first_any _ (HT.out.below HW.out)).mono ?_); rintro e w1 ⟨rfl, hb⟩; have HA := Lib.hid (HA.out.below hb HA.out.lt); have HW := Lib.hid (HW.out.trans (hb.mono HW.out.size)); have a0 := HA.out.c0; have a1 := HA.out.c1; have a2 := HA.out.c2; clear hb)
    | (go_at_call 23; (with_reducible refine (HN1 _).out.mono ?_); rintro e w2 ⟨⟨v, rfl, k0, rfl, hk, ha⟩, hb⟩; have HA := Lib.hid (HA.out.below hb HA.out.lt); have HW := Lib.hid (HW.out.trans (hb.mono HW.out.size)); have a0 := HA.out.c0; have a1 := HA.out.c1; have a2 := HA.out.c2; have a3 := HA.out.lt; clear hb ha hk))
  go_ret
  exact ⟨rfl, HW.out⟩
set_option maxRecDepth 100000 in
set_option maxHeartbeats 40000000 in
theorem rises_some (w : World) (a b : Int) (f : St) (pa : Option Addr) (pc : Nat) (P : List Int) (hP : XR iv w.heap.size w pa P.length pc P) (qa : Option Addr) (qc : Nat) (Q : List Bool) (hQ : XR bv w.heap.size w qa Q.length qc Q) (ra : Option Addr) (rc : Nat) (R : List Bool) (hR : XR bv w.heap.size w ra R.length rc R) (hT : Pow w)
    (hna : newS a f = (some ⟨f.w, f.l, a⟩, 0)) (hnb : newS b f = (some ⟨f.w, f.l, b⟩, 0)) (hab : a ≠ b) (hf : mayS f = true) (hra : 1 ≤ a ∧ a ≤ 63) (hrb : 1 ≤ b ∧ b ≤ 63) :
    Calls Tryd.prog 6 #[.int .i64 a, .int .i64 b, sagg f, .slice pa P.length pc, .slice qa Q.length qc, .slice ra R.length rc] w fun e w' => e = .returned (.bool true) ∧ Below w.heap.size w w' := by
  have HT := Lib.hid hT
  have HN1 := fun w => Lib.hid (new_any w a f)
  have HN2 := fun w => Lib.hid (new_any w b f)
  rw [hna] at HN1
  rw [hnb] at HN2
  have HA := Lib.hid (at_new w f)
  have HW := Lib.hid (below1 w (sobj f))
  have HP0 := Lib.hid hP
  have HQ0 := Lib.hid hQ
  have HR0 := Lib.hid hR
  have HPL := Lib.hid hP.lt
  have HPI0 := Lib.hid (pi_init hab hf hra hrb)
  have hab' : (a == b) = false := by simpa using hab
  clear hT hna hnb hab hf hra hrb hP hQ hR
  obtain ⟨f1, f2, f3⟩ := f
  go_enter Tryd.func6, Tryd.ntmps6
  go_upto_region 4 with (first
    | (go_at_call 10; (with_reducible refine (first_any _ (HT.out.below HW.out)).mono ?_); rintro e w1 ⟨rfl, hb⟩; have HA := Lib.hid (HA.out.below hb HA.out.lt); have HW := Lib.hid (HW.out.trans (hb.mono HW.out.size)); have a0 := HA.out.c0; have a1 := HA.out.c1; have a2 := HA.out.c2; clear hb)
    | (go_at_call 23; (with_reducible refine (HN1 _).out.mono ?_); rintro e w2 ⟨⟨v, rfl, k0, rfl, hk, ha⟩, hb⟩; have HA := Lib.hid (HA.out.below hb HA.out.lt); have H1 := Lib.hid ha; have HKk := Lib.hid (Nat.le_trans HW.out.size hk); have HW := Lib.hid (HW.out.trans (hb.mono HW.out.size)); have a0 := HA.out.c0; have a1 := HA.out.c1; have a2 := HA.out.c2; have a3 := HA.out.lt; clear hb ha hk))
  go_upto_region 7 with (go_at_call 23; (with_reducible refine (HN2 _).out.mono ?_); rintro e w3 ⟨⟨v, rfl, j0, rfl, hj, ha⟩, hb⟩; have HA := Lib.hid (HA.out.below hb HA.out.lt); have HKJ := Lib.hid (Nat.lt_of_lt_of_le H1.out.lt hj); have H1 := Lib.hid (H1.out.below hb H1.out.lt); have H2 := Lib.hid ha; have HJk := Lib.hid (Nat.le_trans HW.out.size hj); have HW := Lib.hid (HW.out.trans (hb.mono HW.out.size)); have a0 := HA.out.c0; have a1 := HA.out.c1; have a2 := HA.out.c2; have a3 := HA.out.lt; clear hb ha hj)
  go_wp2
  have HRI0 := Lib.hid (ri_init (f := ⟨f1, f2, f3⟩) HW.out H1.out H2.out HKk.out HJk.out (Nat.ne_of_lt HKJ.out))
  simp only at HRI0 HPI0
  generalize hN : (fun i => if i = 0 then a else b : Nat → Int) = N at HPI0
  have HNE := Lib.hid hN
  clear hN
  generalize (fun i => if i = 0 then k0 else j0 : Nat → Nat) = K at HRI0
  generalize (fun i => if i = 0 then ⟨f1, f2, a⟩ else ⟨f1, f2, b⟩ : Nat → St) = S0 at HRI0 HPI0
  generalize (fun _ => ⟨f1, f2, f3⟩ : Nat → St) = L0 at HRI0 HPI0
  generalize w3.heap.size + 2 = M at HRI0
  clear a0 a1 a2 a3
  go_loopw [19, 20, 21] (fun vw vt vi wr => ∃ (W : Int) (i : Nat) (S L : Nat → St) (T : List St), vw = .int .i64 W ∧ vi = .int .i64 (i : Int) ∧ i ≤ P.length ∧ i ≤ 400 ∧ T.length ≤ i ∧ Hid (RI w.heap.size M w wr w3.heap.size (w3.heap.size + 1) K S L vt T) ∧ Hid (PI W N S L T)) (fun _ _ vi _ => P.length - (RowKit.intOf vi).toNat)
  case atStart => exact ⟨f1, 0, S0, L0, [], rfl, rfl, Nat.zero_le _, by omega, Nat.le_refl _, HRI0, HPI0⟩
  case round =>
    obtain ⟨W, i, S, L, T, rfl, rfl, hi, h400, hTl, HRI, HPI⟩ := hrel
    clear HRI0 HPI0
    by_cases hgo : i < P.length ∧ i < 400
    · obtain ⟨hlt, h4⟩ := hgo
      obtain ⟨pb, po, rfl, hpb, hpc⟩ := HP0.out.at_ hlt
      have hp1 : (i : Int) < (P.length : Int) := by omega
      have hp2 : decide ((i : Int) < (P.length : Int)) = true := decide_eq_true hp1
      have hp3 : decide ((i : Int) < 400) = true := decide_eq_true (by omega)
      have HPC := Lib.hid hpc
      have HLT := Lib.hid hlt
      have H4 := Lib.hid h4
      have HTL := Lib.hid hTl
      have hw3 : IntKind.i64.wrap ((i : Int) + 1) = ((i + 1 : Nat) : Int) := by rw [wrap_in (by omega)]; omega
      generalize P[i] = p at *
      clear hpc hlt h4 hi h400 hTl
      go_upto_region 15 with (fail)
      go_cut [88] from 69 to 239 (fun vc wx => (∃ c : Bool, vc = .bool c) ∧ wx = wr)
      case first =>
        by_cases hq : i < Q.length
        · obtain ⟨qb, qo, rfl, hqb, hqc⟩ := HQ0.out.at_ hq
          have q0 := (HRI.out.hb.cell (p := ⟨qb, qo + i, none⟩) hqb).trans hqc
          have hq1 : (i : Int) < (Q.length : Int) := by omega
          have hq2 : decide ((i : Int) < (Q.length : Int)) = true := decide_eq_true hq1
          clear hqc
          generalize Q[i] = qv at *
          cases qv
          · go_wp2
            go_meet
            exact ⟨⟨_, rfl⟩, rfl⟩
          · go_wp2
            go_meet
            exact ⟨⟨_, rfl⟩, rfl⟩
        · have hq1 : ¬ (i : Int) < (Q.length : Int) := by omega
          have hq2 : decide ((i : Int) < (Q.length : Int)) = false := decide_eq_false hq1
          go_wp2
          go_meet
          exact ⟨⟨_, rfl⟩, rfl⟩
      case rest =>
        obtain ⟨⟨c, hvc⟩, hwc⟩ := hcut
        subst hvc
        obtain rfl := hwc.symm
        clear hwc
        go_upto_if 88 with (fail)
        go_cut [22] from 69 to 239 (fun vk wx => (∃ k : Nat, k < 2 ∧ vk = .int .i64 (k : Int)) ∧ wx = wr)
        case first =>
          cases c
          · go_wp2
            go_meet
            exact ⟨⟨0, by decide, rfl⟩, rfl⟩
          · go_wp2
            go_meet
            exact ⟨⟨1, by decide, rfl⟩, rfl⟩
        case rest =>
        obtain ⟨⟨k, hk, hvk⟩, hwc⟩ := hcut
        subst hvk
        obtain rfl := hwc.symm
        clear hwc
        go_upto_region 17 with (fail)
        go_cut [98] from 69 to 239 (fun vc wx => (∃ c : Bool, vc = .bool c) ∧ wx = wr)
        case first => as_aux_lemma =>
          by_cases hq : i < R.length
          · obtain ⟨qb, qo, rfl, hqb, hqc⟩ := HR0.out.at_ hq
            have q0 := (HRI.out.hb.cell (p := ⟨qb, qo + i, none⟩) hqb).trans hqc
            have hq1 : (i : Int) < (R.length : Int) := by omega
            have hq2 : decide ((i : Int) < (R.length : Int)) = true := decide_eq_true hq1
            clear hqc
            generalize R[i] = qv at *
            cases qv
            · go_wp2
              go_meet
              exact ⟨⟨_, rfl⟩, rfl⟩
            · go_wp2
              go_meet
              exact ⟨⟨_, rfl⟩, rfl⟩
          · have hq1 : ¬ (i : Int) < (R.length : Int) := by omega
            have hq2 : decide ((i : Int) < (R.length : Int)) = false := decide_eq_false hq1
            go_wp2
            go_meet
            exact ⟨⟨_, rfl⟩, rfl⟩
        case rest =>
        obtain ⟨⟨c2, hvc⟩, hwc⟩ := hcut
        subst hvc
        obtain rfl := hwc.symm
        clear hwc
        go_upto_if 98 with (fail)
        go_cut [22] from 69 to 239 (fun vk wx => vk = .int .i64 (k : Int) ∧ ∃ S' L', Hid (RI w.heap.size M w wx w3.heap.size (w3.heap.size + 1) K S' L' u20 T) ∧ Hid (PI W N S' L' T))
        case first =>
          cases c2
          · go_wp2
            go_meet
            exact ⟨rfl, S, L, HRI, HPI⟩
          · as_aux_lemma =>
            obtain ⟨j, hj1⟩ : ∃ j, j = 1 - k := ⟨_, rfl⟩
            have hj2 : j < 2 := by omega
            have hw : IntKind.i64.wrap (1 - (k : Int)) = (j : Int) := by rw [wrap_in (by omega)]; omega
            have hjl : (j : Int) < 2 := by omega
            have hkl : (k : Int) < 2 := by omega
            have cj := HRI.out.cl j hj2
            have ck := HRI.out.cl k hk
            obtain ⟨⟨s1, s2, s3⟩, hsj⟩ : ∃ x, x = S j := ⟨_, rfl⟩
            obtain ⟨⟨l1, l2, l3⟩, hlk⟩ : ∃ x, x = L k := ⟨_, rfl⟩
            have HLK := Lib.hid hlk
            have hsm : mayS ⟨s1, s2, s3⟩ = true := by rw [hsj]; exact HPI.out.may j hj2
            have hge := obs_ge (s := S k) hsm
            have hzm : mayS (obsS (S k) ⟨s1, s2, s3⟩) = true := obs_may (HPI.out.may k hk)
            have hzn : (obsS (S k) ⟨s1, s2, s3⟩).n = N k := (obs_node _ _).trans (HPI.out.node k hk)
            have hzw : (obsS (S k) ⟨s1, s2, s3⟩).w ≤ W := by
              have h1 := HPI.out.wall k hk
              have h2 := HPI.out.wall j hj2
              rw [← hsj] at h2
              simp only at h2
              have h3 := hge.2.2
              simp only at h3
              omega
            have HPN := Lib.hid (HPI.out.up (k := k) (s := obsS (S k) ⟨s1, s2, s3⟩) (l := L k) hzm hzn hzw hge.1 (le2_trans (HPI.out.low k hk) hge.1))
            have HPY := Lib.hid (HPI.out.up (k := k) (s := obsS (S k) ⟨s1, s2, s3⟩) (l := ⟨s1, s2, s3⟩) hzm hzn hzw hge.1 hge.2.1)
            have HO := fun w h => Lib.hid (observe_any w (K k) (S k) h ⟨s1, s2, s3⟩)
            rw [show obsE ⟨s1, s2, s3⟩ = 0 by unfold obsE; rw [if_pos hsm]] at HO
            have HL := fun w h => Lib.hid (last_any w (K j) (S j) h)
            rw [← hsj] at HL
            have HAJ : Hid (At wr (K j) ⟨s1, s2, s3⟩) := by show At _ _ _; rw [hsj]; exact HRI.out.at_ j hj2
            have HLE := fun w => Lib.hid (less_any ⟨l1, l2, l3⟩ ⟨s1, s2, s3⟩ w)
            generalize obsS (S k) ⟨s1, s2, s3⟩ = Z at *
            generalize lessS ⟨l1, l2, l3⟩ ⟨s1, s2, s3⟩ = lb at *
            clear hge hzm hzn hzw hsm hsj hlk hj1
            go_upto_region 19 with (go_at_call 31; (with_reducible refine (HL _ HAJ.out).out.mono ?_); rintro e w4 ⟨rfl, hb⟩; have HKL := Lib.hid (Nat.lt_of_lt_of_le (HRI.out.kb k hk).2 (Nat.le_trans HRI.out.size hb.size)); have HRI := Lib.hid (HRI.out.below (hb.alloc hb.size (sobj ⟨s1, s2, s3⟩))); have HX := Lib.hid (at_new w4 ⟨s1, s2, s3⟩); clear hb)
            have HRI := Lib.hid (HRI.out.below (Below.refl _ _).drew)
            have HX := Lib.hid HX.out.drew
            refine wp_region_held (S := (fun w' => w'.cell? ⟨w3.heap.size, k, none⟩ = some (ptr (K k)) ∧ w'.cell? ⟨w4.heap.size, 0, none⟩ = some (.int .i64 s1) ∧ w'.cell? ⟨w4.heap.size, 1, none⟩ = some (.int .i64 s2) ∧ w'.cell? ⟨w4.heap.size, 2, none⟩ = some (.int .i64 s3))) (by kernel_rfl) ?_
            change wpAnyH _ _ _ _ _ _ _ _ (World.drew _)
            refine wpAnyH_take (i := 0) (v := ?vh19_0) rfl (by kernel_rfl) (by kernel_rfl) (by kernel_rfl) (fun _ _ _ h => h) (Or.inl ⟨by rfl, ?yh19_0⟩) ⟨HRI.out.cl k hk, HX.out.c0, HX.out.c1, HX.out.c2⟩ ?rh19_0
            case yh19_0 => (intro W hSw; (try dsimp only at hSw); obtain ⟨e0, e1, e2, e3⟩ := hSw; first | (go_simp; done) | (go_simp; with_reducible rfl))
            try go_simp
            refine wpAnyH_take (i := 1) (v := ?vh19_1) rfl (by kernel_rfl) (by kernel_rfl) (by kernel_rfl) (fun _ _ _ h => h) (Or.inl ⟨by rfl, ?yh19_1⟩) ⟨HRI.out.cl k hk, HX.out.c0, HX.out.c1, HX.out.c2⟩ ?rh19_1
            case yh19_1 => (intro W hSw; (try dsimp only at hSw); obtain ⟨e0, e1, e2, e3⟩ := hSw; first | (go_simp; done) | (go_simp; with_reducible rfl))
            try go_simp
            refine wpAnyH_take (i := 2) (v := ?vh19_2) rfl (by kernel_rfl) (by kernel_rfl) (by kernel_rfl) (fun _ _ _ h => h) (Or.inl ⟨by rfl, ?yh19_2⟩) ⟨HRI.out.cl k hk, HX.out.c0, HX.out.c1, HX.out.c2⟩ ?rh19_2
            case yh19_2 => (intro W hSw; (try dsimp only at hSw); obtain ⟨e0, e1, e2, e3⟩ := hSw; first | (go_simp; done) | (go_simp; with_reducible rfl))
            try go_simp
            refine wpAnyH_take (i := 3) (v := ?vh19_3) rfl (by kernel_rfl) (by kernel_rfl) (by kernel_rfl) (fun _ _ _ h => h) (Or.inl ⟨by rfl, ?yh19_3⟩) ⟨HRI.out.cl k hk, HX.out.c0, HX.out.c1, HX.out.c2⟩ ?rh19_3
            case yh19_3 => (intro W hSw; (try dsimp only at hSw); obtain ⟨e0, e1, e2, e3⟩ := hSw; first | (go_simp; done) | (go_simp; with_reducible rfl))
            try go_simp
            refine wpAnyH_take (i := 4) (v := ?vh19_4) rfl (by kernel_rfl) (by kernel_rfl) (by kernel_rfl) (fun _ _ _ h => h) (Or.inl ⟨by rfl, ?yh19_4⟩) ⟨HRI.out.cl k hk, HX.out.c0, HX.out.c1, HX.out.c2⟩ ?rh19_4
            case yh19_4 => (intro W hSw; (try dsimp only at hSw); obtain ⟨e0, e1, e2, e3⟩ := hSw; first | (go_simp; done) | (go_simp; with_reducible rfl))
            try go_simp
            refine wpAnyH_ready (rs := [5]) (by kernel_rfl) (by simp) ?_
            refine AllReadyH.cons rfl (fun K hK => ?_) AllReadyH.nil
            go_simp
            (go_wp2_with (first | (go_at_call 29; (with_reducible refine (HO _ (HRI.out.at_ k hk)).out.mono ?_); rintro e w5 ⟨rfl, ht, h1⟩; have HX := Lib.hid (HX.out.tn ht (fun e => absurd (show w4.heap.size = _ from e) (Nat.ne_of_gt HKL.out))); have HRI := Lib.hid (HRI.out.clock hk ht h1); clear ht h1)))
            refine hK.out _ _ ⟨HRI.out.cl k hk, HX.out.c0, HX.out.c1, HX.out.c2⟩ (fun _ => ?_)
            clear hK K
            try go_simp
            refine wpAnyH_take (i := 6) (v := ?vh19_6) rfl (by kernel_rfl) (by kernel_rfl) (by kernel_rfl) (fun _ _ _ h => h) (Or.inl ⟨by rfl, ?yh19_6⟩) ⟨HRI.out.cl k hk, HX.out.c0, HX.out.c1, HX.out.c2⟩ ?rh19_6
            case yh19_6 => (intro W hSw; (try dsimp only at hSw); obtain ⟨e0, e1, e2, e3⟩ := hSw; first | (go_simp; done) | (go_simp; with_reducible rfl))
            try go_simp
            refine wpAnyH_done (by kernel_rfl) ?_ _
            go_upto_region 21 with (fail)
            have HRI := Lib.hid (HRI.out.below (Below.refl _ _).drew)
            have HX := Lib.hid HX.out.drew
            have HOL := Lib.hid (ri_lo HRI.out hk HLK.out)
            refine wp_region_held (S := (fun w' => w'.cell? ⟨w3.heap.size + 1, k * 3, none⟩ = some (.int .i64 l1) ∧ w'.cell? ⟨w3.heap.size + 1, k * 3 + 1, none⟩ = some (.int .i64 l2) ∧ w'.cell? ⟨w3.heap.size + 1, k * 3 + 2, none⟩ = some (.int .i64 l3) ∧ w'.cell? ⟨w4.heap.size, 0, none⟩ = some (.int .i64 s1) ∧ w'.cell? ⟨w4.heap.size, 1, none⟩ = some (.int .i64 s2) ∧ w'.cell? ⟨w4.heap.size, 2, none⟩ = some (.int .i64 s3))) (by kernel_rfl) ?_
            change wpAnyH _ _ _ _ _ _ _ _ (World.drew _)
            refine wpAnyH_take (i := 0) (v := ?vh21_0) rfl (by kernel_rfl) (by kernel_rfl) (by kernel_rfl) (fun _ _ _ h => h) (Or.inl ⟨by rfl, ?yh21_0⟩) ⟨HOL.out.c0, HOL.out.c1, HOL.out.c2, HX.out.c0, HX.out.c1, HX.out.c2⟩ ?rh21_0
            case yh21_0 => (intro W hSw; (try dsimp only at hSw); obtain ⟨e0, e1, e2, e3, e4, e5⟩ := hSw; first | (go_simp; done) | (go_simp; with_reducible rfl))
            try go_simp
            refine wpAnyH_take (i := 1) (v := ?vh21_1) rfl (by kernel_rfl) (by kernel_rfl) (by kernel_rfl) (fun _ _ _ h => h) (Or.inl ⟨by rfl, ?yh21_1⟩) ⟨HOL.out.c0, HOL.out.c1, HOL.out.c2, HX.out.c0, HX.out.c1, HX.out.c2⟩ ?rh21_1
            case yh21_1 => (intro W hSw; (try dsimp only at hSw); obtain ⟨e0, e1, e2, e3, e4, e5⟩ := hSw; first | (go_simp; done) | (go_simp; with_reducible rfl))
            try go_simp
            refine wpAnyH_take (i := 2) (v := ?vh21_2) rfl (by kernel_rfl) (by kernel_rfl) (by kernel_rfl) (fun _ _ _ h => h) (Or.inl ⟨by rfl, ?yh21_2⟩) ⟨HOL.out.c0, HOL.out.c1, HOL.out.c2, HX.out.c0, HX.out.c1, HX.out.c2⟩ ?rh21_2
            case yh21_2 => (intro W hSw; (try dsimp only at hSw); obtain ⟨e0, e1, e2, e3, e4, e5⟩ := hSw; first | (go_simp; done) | (go_simp; with_reducible rfl))
            try go_simp
            refine wpAnyH_take (i := 3) (v := ?vh21_3) rfl (by kernel_rfl) (by kernel_rfl) (by kernel_rfl) (fun _ _ _ h => h) (Or.inl ⟨by rfl, ?yh21_3⟩) ⟨HOL.out.c0, HOL.out.c1, HOL.out.c2, HX.out.c0, HX.out.c1, HX.out.c2⟩ ?rh21_3
            case yh21_3 => (intro W hSw; (try dsimp only at hSw); obtain ⟨e0, e1, e2, e3, e4, e5⟩ := hSw; first | (go_simp; done) | (go_simp; with_reducible rfl))
            try go_simp
            refine wpAnyH_take (i := 4) (v := ?vh21_4) rfl (by kernel_rfl) (by kernel_rfl) (by kernel_rfl) (fun _ _ _ h => h) (Or.inl ⟨by rfl, ?yh21_4⟩) ⟨HOL.out.c0, HOL.out.c1, HOL.out.c2, HX.out.c0, HX.out.c1, HX.out.c2⟩ ?rh21_4
            case yh21_4 => (intro W hSw; (try dsimp only at hSw); obtain ⟨e0, e1, e2, e3, e4, e5⟩ := hSw; first | (go_simp; done) | (go_simp; with_reducible rfl))
            try go_simp
            refine wpAnyH_ready (rs := [5]) (by kernel_rfl) (by simp) ?_
            refine AllReadyH.cons rfl (fun K hK => ?_) AllReadyH.nil
            go_simp
            (go_wp2_with (first | (go_at_call 32; (with_reducible refine (HLE _).out.mono ?_); rintro e w6 ⟨rfl, hb⟩; have HX := Lib.hid (HX.out.below hb HX.out.lt); have HRI := Lib.hid (HRI.out.below hb); have HOL := Lib.hid (ri_lo HRI.out hk HLK.out); clear hb)))
            refine hK.out _ _ ⟨HOL.out.c0, HOL.out.c1, HOL.out.c2, HX.out.c0, HX.out.c1, HX.out.c2⟩ (fun _ => ?_)
            clear hK K
            try go_simp
            refine wpAnyH_done (by kernel_rfl) ?_ _
            cases lb
            · go_wp2
              go_meet
              exact ⟨rfl, upd S k Z, L, HRI, by rw [upd_self] at HPN; exact HPN⟩
            · have x0 := HX.out.c0; have x1 := HX.out.c1; have x2 := HX.out.c2
              have o0 := HOL.out.c0; have o1 := HOL.out.c1; have o2 := HOL.out.c2; have o3 := HOL.out.f0; have o4 := HOL.out.f1; have o5 := HOL.out.f2
              go_wp2
              go_meet
              exact ⟨rfl, upd S k Z, upd L k ⟨s1, s2, s3⟩, Lib.hid (HRI.out.low hk ⟨s1, s2, s3⟩), HPY⟩
        case rest =>
          obtain ⟨hvk, S', L', HRI', HPI'⟩ := hcut
          subst hvk
          clear HRI HPI
          as_aux_lemma =>
            have HRI := HRI'
            clear HRI'
            obtain ⟨Z, hz⟩ : ∃ x, x = S' k := ⟨_, rfl⟩
            have hzm : mayS Z = true := by rw [hz]; exact HPI'.out.may k hk
            have hzn : Z.n = N k := by rw [hz]; exact HPI'.out.node k hk
            have hzw : Z.w ≤ W := by rw [hz]; exact HPI'.out.wall k hk
            have hzl : le2 (L' k) Z := by rw [hz]; exact HPI'.out.low k hk
            have HZ := Lib.hid hz
            have HN := fun w h => Lib.hid (now_any w (K k) Z h hzm p)
            have HY := Lib.hid (show nowS Z p = if (peekS Z p).2 = 0 then (peekS Z p).1 else Z from rfl)
            have HF := Lib.hid (now_facts hzm p)
            have HE := Lib.hid (now_err Z p)
            have hjl : (k : Int) < 2 := by omega
            generalize nowS Z p = Y at *
            generalize peekS Z p = X at *
            obtain ⟨⟨x1, x2, x3⟩, x4⟩ := X
            simp only at HN
            have HZM := Lib.hid hzm
            have HZN := Lib.hid hzn
            have HZW := Lib.hid hzw
            have HZL := Lib.hid hzl
            clear hzm hzn hzw hzl hz
            go_upto_region 23 with (fail)
            go_cut [24, 25] from 69 to 239 (fun va vb wx => ∃ xb, va = ptr xb ∧ vb = .int .i64 x4 ∧ M ≤ xb ∧ (∀ k, u20.ownBlock = some k → k < xb) ∧ Hid (RI w.heap.size M w wx w3.heap.size (w3.heap.size + 1) K (upd S' k Y) L' u20 T) ∧ Hid (At wx xb ⟨x1, x2, x3⟩))
            case first => as_aux_lemma =>
              have HMX : Hid (M ≤ wc.heap.size) := Lib.hid HRI.out.size
              have HTB : Hid (∀ k, u20.ownBlock = some k → k < wc.heap.size) := Lib.hid (fun k e => (HRI.out.lt e).2)
              have HKX : Hid (wc.heap.size ≠ K k) := Lib.hid (fun e => absurd (HRI.out.kb k hk).2 (by have := HRI.out.size; omega))
              have HRIc := HRI
              have HRI := Lib.hid (HRI.out.below (Below.refl _ _).drew)
              have HAK := Lib.hid (ri_at HRI.out hk HZ.out)
              refine wp_region_held (S := (fun w' => w'.cell? ⟨w3.heap.size, k, none⟩ = some (ptr (K k)) ∧ w'.cell? ⟨pb, po + i, none⟩ = some (iv p))) (by kernel_rfl) ?_
              change wpAnyH _ _ _ _ _ _ _ _ (World.drew _)
              refine wpAnyH_take (i := 0) (v := ?vc23_0) rfl (by kernel_rfl) (by kernel_rfl) (by kernel_rfl) (fun _ _ _ h => h) (Or.inl ⟨by rfl, ?yc23_0⟩) ⟨(HRI.out).cl k hk, ((HRI.out).hb.cell (p := ⟨pb, po + i, none⟩) hpb).trans HPC.out⟩ ?rc23_0
              case yc23_0 => (intro W hSw; (try dsimp only at hSw); obtain ⟨e0, e1⟩ := hSw; first | (go_simp; done) | (go_simp; with_reducible rfl))
              try go_simp
              refine wpAnyH_take (i := 1) (v := ?vc23_1) rfl (by kernel_rfl) (by kernel_rfl) (by kernel_rfl) (fun _ _ _ h => h) (Or.inl ⟨by rfl, ?yc23_1⟩) ⟨(HRI.out).cl k hk, ((HRI.out).hb.cell (p := ⟨pb, po + i, none⟩) hpb).trans HPC.out⟩ ?rc23_1
              case yc23_1 => (intro W hSw; (try dsimp only at hSw); obtain ⟨e0, e1⟩ := hSw; first | (go_simp; done) | (go_simp; with_reducible rfl))
              try go_simp
              refine wpAnyH_take (i := 2) (v := ?vc23_2) rfl (by kernel_rfl) (by kernel_rfl) (by kernel_rfl) (fun _ _ _ h => h) (Or.inl ⟨by rfl, ?yc23_2⟩) ⟨(HRI.out).cl k hk, ((HRI.out).hb.cell (p := ⟨pb, po + i, none⟩) hpb).trans HPC.out⟩ ?rc23_2
              case yc23_2 => (intro W hSw; (try dsimp only at hSw); obtain ⟨e0, e1⟩ := hSw; first | (go_simp; done) | (go_simp; with_reducible rfl))
              try go_simp
              refine wpAnyH_take (i := 3) (v := ?vc23_3) rfl (by kernel_rfl) (by kernel_rfl) (by kernel_rfl) (fun _ _ _ h => h) (Or.inl ⟨by rfl, ?yc23_3⟩) ⟨(HRI.out).cl k hk, ((HRI.out).hb.cell (p := ⟨pb, po + i, none⟩) hpb).trans HPC.out⟩ ?rc23_3
              case yc23_3 => (intro W hSw; (try dsimp only at hSw); obtain ⟨e0, e1⟩ := hSw; first | (go_simp; done) | (go_simp; with_reducible rfl))
              try go_simp
              refine wpAnyH_take (i := 4) (v := ?vc23_4) rfl (by kernel_rfl) (by kernel_rfl) (by kernel_rfl) (fun _ _ _ h => h) (Or.inl ⟨by rfl, ?yc23_4⟩) ⟨(HRI.out).cl k hk, ((HRI.out).hb.cell (p := ⟨pb, po + i, none⟩) hpb).trans HPC.out⟩ ?rc23_4
              case yc23_4 => (intro W hSw; (try dsimp only at hSw); obtain ⟨e0, e1⟩ := hSw; first | (go_simp; done) | (go_simp; with_reducible rfl))
              try go_simp
              refine wpAnyH_take (i := 5) (v := ?vc23_5) rfl (by kernel_rfl) (by kernel_rfl) (by kernel_rfl) (fun _ _ _ h => h) (Or.inl ⟨by rfl, ?yc23_5⟩) ⟨(HRI.out).cl k hk, ((HRI.out).hb.cell (p := ⟨pb, po + i, none⟩) hpb).trans HPC.out⟩ ?rc23_5
              case yc23_5 => (intro W hSw; (try dsimp only at hSw); obtain ⟨e0, e1⟩ := hSw; first | (go_simp; done) | (go_simp; with_reducible rfl))
              try go_simp
              refine wpAnyH_take (i := 6) (v := ?vc23_6) rfl (by kernel_rfl) (by kernel_rfl) (by kernel_rfl) (fun _ _ _ h => h) (Or.inl ⟨by rfl, ?yc23_6⟩) ⟨(HRI.out).cl k hk, ((HRI.out).hb.cell (p := ⟨pb, po + i, none⟩) hpb).trans HPC.out⟩ ?rc23_6
              case yc23_6 => (intro W hSw; (try dsimp only at hSw); obtain ⟨e0, e1⟩ := hSw; first | (go_simp; done) | (go_simp; with_reducible rfl))
              try go_simp
              refine wpAnyH_take (i := 7) (v := ?vc23_7) rfl (by kernel_rfl) (by kernel_rfl) (by kernel_rfl) (fun _ _ _ h => h) (Or.inl ⟨by rfl, ?yc23_7⟩) ⟨(HRI.out).cl k hk, ((HRI.out).hb.cell (p := ⟨pb, po + i, none⟩) hpb).trans HPC.out⟩ ?rc23_7
              case yc23_7 => (intro W hSw; (try dsimp only at hSw); obtain ⟨e0, e1⟩ := hSw; first | (go_simp; done) | (go_simp; with_reducible rfl))
              try go_simp
              refine wpAnyH_ready (rs := [8, 12]) (by kernel_rfl) (by simp) ?_
              refine AllReadyH.cons rfl (fun K hK => ?_) (AllReadyH.cons rfl (fun K hK => ?_) AllReadyH.nil)
              · as_aux_lemma =>
                  go_simp
                  (go_wp2_with (first | (go_at_call 25; (with_reducible refine (HN _ HAK.out).out.mono ?_); rintro e w5 ⟨rfl, ht, h1⟩; have HSZ := Lib.hid ht.size; have HRI := Lib.hid (HRI.out.clock hk ht h1); clear ht h1)))
                  refine hK.out _ _ ⟨(HRI.out).cl k hk, ((HRI.out).hb.cell (p := ⟨pb, po + i, none⟩) hpb).trans HPC.out⟩ (fun _ => ?_)
                  clear hK K
                  try go_simp
                  refine wpAnyH_take (i := 9) (v := ?va23_9) rfl (by kernel_rfl) (by kernel_rfl) (by kernel_rfl) (fun _ _ _ h => h) (Or.inl ⟨by rfl, ?ya23_9⟩) ⟨(HRI.out).cl k hk, ((HRI.out).hb.cell (p := ⟨pb, po + i, none⟩) hpb).trans HPC.out⟩ ?ra23_9
                  case ya23_9 => (intro W hSw; (try dsimp only at hSw); obtain ⟨e0, e1⟩ := hSw; first | (go_simp; done) | (go_simp; with_reducible rfl))
                  try go_simp
                  refine wpAnyH_take (i := 10) (v := ?va23_10) rfl (by kernel_rfl) (by kernel_rfl) (by kernel_rfl) (fun _ _ _ h => h) (Or.inl ⟨by rfl, ?ya23_10⟩) ⟨(HRI.out).cl k hk, ((HRI.out).hb.cell (p := ⟨pb, po + i, none⟩) hpb).trans HPC.out⟩ ?ra23_10
                  case ya23_10 => (intro W hSw; (try dsimp only at hSw); obtain ⟨e0, e1⟩ := hSw; first | (go_simp; done) | (go_simp; with_reducible rfl))
                  try go_simp
                  refine wpAnyH_take (i := 11) (v := ?va23_11) rfl (by kernel_rfl) (by kernel_rfl) (by kernel_rfl) (fun _ _ _ h => h) (Or.inl ⟨by rfl, ?ya23_11⟩) ⟨(HRI.out).cl k hk, ((HRI.out).hb.cell (p := ⟨pb, po + i, none⟩) hpb).trans HPC.out⟩ ?ra23_11
                  case ya23_11 => (intro W hSw; (try dsimp only at hSw); obtain ⟨e0, e1⟩ := hSw; first | (go_simp; done) | (go_simp; with_reducible rfl))
                  try go_simp
                  refine wpAnyH_ready (rs := [12]) (by kernel_rfl) (by simp) ?_
                  refine AllReadyH.cons rfl (fun K hK => ?_) AllReadyH.nil
                  go_simp
                  refine hK.out _ _ ⟨(HRI.out.below (below1 _ _)).cl k hk, ((HRI.out.below (below1 _ _)).hb.cell (p := ⟨pb, po + i, none⟩) hpb).trans HPC.out⟩ (fun _ => ?_)
                  clear hK K
                  try go_simp
                  refine wpAnyH_ready (rs := [13]) (by kernel_rfl) (by simp) ?_
                  refine AllReadyH.cons rfl (fun K hK => ?_) AllReadyH.nil
                  go_simp
                  have HM5 : Hid (M ≤ w5.heap.size) := Lib.hid (Nat.le_trans HMX.out HSZ.out)
                  have HT5 : Hid (∀ k, u20.ownBlock = some k → k < w5.heap.size) := Lib.hid (fun k e => Nat.lt_of_lt_of_le (HTB.out k e) HSZ.out)
                  refine hK.out _ _ ⟨(HRI.out.below (below1 w5 (sobj ⟨x1, x2, x3⟩))).cl k hk, ((HRI.out.below (below1 w5 (sobj ⟨x1, x2, x3⟩))).hb.cell (p := ⟨pb, po + i, none⟩) hpb).trans HPC.out⟩ (fun _ => ?_)
                  clear hK K
                  try go_simp
                  refine wpAnyH_take (i := 14) (v := ?va23z_14) rfl (by kernel_rfl) (by kernel_rfl) (by kernel_rfl) (fun _ _ _ h => h) (Or.inl ⟨by rfl, ?ya23z_14⟩) ⟨(HRI.out.below (below1 w5 (sobj ⟨x1, x2, x3⟩))).cl k hk, ((HRI.out.below (below1 w5 (sobj ⟨x1, x2, x3⟩))).hb.cell (p := ⟨pb, po + i, none⟩) hpb).trans HPC.out⟩ ?ra23z_14
                  case ya23z_14 => (intro W hSw; (try dsimp only at hSw); obtain ⟨e0, e1⟩ := hSw; first | (go_simp; done) | (go_simp; with_reducible rfl))
                  try go_simp
                  refine wpAnyH_done (by kernel_rfl) ?_ _
                  go_wp2
                  go_meet
                  exact ⟨w5.heap.size, rfl, rfl, HM5.out, HT5.out, Lib.hid (HRI.out.below (below1 w5 (sobj ⟨x1, x2, x3⟩))), Lib.hid (at_new w5 ⟨x1, x2, x3⟩)⟩
              · as_aux_lemma =>
                  go_simp
                  refine hK.out _ _ ⟨(HRI.out.below (below1 _ _)).cl k hk, ((HRI.out.below (below1 _ _)).hb.cell (p := ⟨pb, po + i, none⟩) hpb).trans HPC.out⟩ (fun _ => ?_)
                  clear hK K
                  try go_simp
                  have HX := Lib.hid (at_new wc St.zero).drew
                  have HRI := Lib.hid ((HRIc.out.below (below1 wc (sobj St.zero))).below (Below.refl _ _).drew)
                  have HAK := Lib.hid (ri_at HRI.out hk HZ.out)
                  refine wpAnyH_ready (rs := [8]) (by kernel_rfl) (by simp) ?_
                  refine AllReadyH.cons rfl (fun K hK => ?_) AllReadyH.nil
                  go_simp
                  (go_wp2_with (first | (go_at_call 25; (with_reducible refine (HN _ HAK.out).out.mono ?_); rintro e w5 ⟨rfl, ht, h1⟩; have HX := Lib.hid (HX.out.tn ht HKX.out); have HRI := Lib.hid (HRI.out.clock hk ht h1); clear ht h1)))
                  refine hK.out _ _ ⟨(HRI.out).cl k hk, ((HRI.out).hb.cell (p := ⟨pb, po + i, none⟩) hpb).trans HPC.out⟩ (fun _ => ?_)
                  clear hK K
                  try go_simp
                  refine wpAnyH_take (i := 9) (v := ?vb23_9) rfl (by kernel_rfl) (by kernel_rfl) (by kernel_rfl) (fun _ _ _ h => h) (Or.inl ⟨by rfl, ?yb23_9⟩) ⟨(HRI.out).cl k hk, ((HRI.out).hb.cell (p := ⟨pb, po + i, none⟩) hpb).trans HPC.out⟩ ?rb23_9
                  case yb23_9 => (intro W hSw; (try dsimp only at hSw); obtain ⟨e0, e1⟩ := hSw; first | (go_simp; done) | (go_simp; with_reducible rfl))
                  try go_simp
                  refine wpAnyH_take (i := 10) (v := ?vb23_10) rfl (by kernel_rfl) (by kernel_rfl) (by kernel_rfl) (fun _ _ _ h => h) (Or.inl ⟨by rfl, ?yb23_10⟩) ⟨(HRI.out).cl k hk, ((HRI.out).hb.cell (p := ⟨pb, po + i, none⟩) hpb).trans HPC.out⟩ ?rb23_10
                  case yb23_10 => (intro W hSw; (try dsimp only at hSw); obtain ⟨e0, e1⟩ := hSw; first | (go_simp; done) | (go_simp; with_reducible rfl))
                  try go_simp
                  refine wpAnyH_take (i := 11) (v := ?vb23_11) rfl (by kernel_rfl) (by kernel_rfl) (by kernel_rfl) (fun _ _ _ h => h) (Or.inl ⟨by rfl, ?yb23_11⟩) ⟨(HRI.out).cl k hk, ((HRI.out).hb.cell (p := ⟨pb, po + i, none⟩) hpb).trans HPC.out⟩ ?rb23_11
                  case yb23_11 => (intro W hSw; (try dsimp only at hSw); obtain ⟨e0, e1⟩ := hSw; first | (go_simp; done) | (go_simp; with_reducible rfl))
                  try go_simp
                  have x0 := HX.out.c0; have x1' := HX.out.c1; have x2' := HX.out.c2; have x3' := HX.out.f0; have x4' := HX.out.f1; have x5' := HX.out.f2
                  refine wpAnyH_ready (rs := [13]) (by kernel_rfl) (by simp) ?_
                  refine AllReadyH.cons rfl (fun K hK => ?_) AllReadyH.nil
                  go_simp
                  refine hK.out _ _ ⟨(ri_box HRI.out (xb := wc.heap.size) HMX.out HTB.out ⟨x1, x2, x3⟩).cl k hk, ((ri_box HRI.out (xb := wc.heap.size) HMX.out HTB.out ⟨x1, x2, x3⟩).hb.cell (p := ⟨pb, po + i, none⟩) hpb).trans HPC.out⟩ (fun _ => ?_)
                  clear hK K
                  try go_simp
                  refine wpAnyH_take (i := 14) (v := ?vb23z_14) rfl (by kernel_rfl) (by kernel_rfl) (by kernel_rfl) (fun _ _ _ h => h) (Or.inl ⟨by rfl, ?yb23z_14⟩) ⟨(ri_box HRI.out (xb := wc.heap.size) HMX.out HTB.out ⟨x1, x2, x3⟩).cl k hk, ((ri_box HRI.out (xb := wc.heap.size) HMX.out HTB.out ⟨x1, x2, x3⟩).hb.cell (p := ⟨pb, po + i, none⟩) hpb).trans HPC.out⟩ ?rb23z_14
                  case yb23z_14 => (intro W hSw; (try dsimp only at hSw); obtain ⟨e0, e1⟩ := hSw; first | (go_simp; done) | (go_simp; with_reducible rfl))
                  try go_simp
                  refine wpAnyH_done (by kernel_rfl) ?_ _
                  go_wp2
                  go_meet
                  exact ⟨wc.heap.size, rfl, rfl, HMX.out, HTB.out, Lib.hid (ri_box HRI.out (xb := wc.heap.size) HMX.out HTB.out ⟨x1, x2, x3⟩), Lib.hid (HX.out.setAll ⟨x1, x2, x3⟩)⟩
            case rest =>
              obtain ⟨xb, hva, hvb, hMx, hTx, HRI, HX⟩ := hcut
              subst hva
              subst hvb
              as_aux_lemma =>
                by_cases he : x4 = 0
                · subst he
                  have hF := HF.out rfl
                  have hY : Y = ⟨x1, x2, x3⟩ := by have := HY.out; rwa [if_pos rfl] at this
                  subst hY
                  simp only at hF
                  obtain ⟨f1', f2', f3', f4', f5'⟩ := hF
                  have HW1 : x1 ≤ max W p := by have := HZW.out; rcases f4' with h | h <;> omega
                  as_aux_lemma =>
                    have hp4 := (HRI.out.hb.cell (p := ⟨pb, po + i, none⟩) hpb).trans HPC.out
                    have hN3 : x3 = N k := f2'.trans HZN.out
                    have hZX : lt2 (S' k) ⟨x1, x2, x3⟩ := by rw [← HZ.out]; exact f3'
                    have HPX := Lib.hid (((HPI'.out.more (W' := max W p) (by omega)).up (k := k) (s := ⟨x1, x2, x3⟩) (l := ⟨x1, x2, x3⟩) f1' hN3 HW1 (by unfold lt2 at hZX; unfold le2; omega) (by unfold le2; omega)).tell hk (by rw [upd_same]; exact hN3))
                    rw [upd_same] at HPX
                    have HFR := Lib.hid (HPI'.out.fresh hk (s := ⟨x1, x2, x3⟩) hN3 hZX)
                    have hless : lessS ⟨(L' k).w, (L' k).l, 63⟩ ⟨x1, x2, x3⟩ = true := less_63 (lt2_of_le HZL.out f3')
                    obtain ⟨⟨l1, l2, l3⟩, hlk⟩ : ∃ x, x = L' k := ⟨_, rfl⟩
                    rw [← hlk] at hless
                    have HLE := fun w => Lib.hid (less_any ⟨l1, l2, 63⟩ ⟨x1, x2, x3⟩ w)
                    rw [hless] at HLE
                    have HLK := Lib.hid hlk
                    have HMAY := fun w => Lib.hid (may_any ⟨x1, x2, x3⟩ w)
                    rw [f1'] at HMAY
                    have HAB := fun w => Lib.hid (ab_cell (w := w) HNE.out hk hN3)
                    have x0 := HX.out.c0; have x1' := HX.out.c1; have x2' := HX.out.c2
                    clear f1' f2' f3' f4' hN3 hZX hless hlk
                    go_upto_region 28 with (fail)
                    generalize max W p = Wn at *
                    have hq1 : (x3 != x3) = false := by simp
                    have hq2 : ¬ Wn < x1 := by omega
                    have hq3 : decide (Wn < x1) = false := decide_eq_false hq2
                    have hq4 : ¬ x1 < p := by omega
                    have hq5 : decide (x1 < p) = false := decide_eq_false hq4
                    clear x0 x1' x2' hp4
                    have HRI := Lib.hid (HRI.out.below (Below.refl _ _).drew)
                    have HX := Lib.hid HX.out.drew
                    refine wp_region_held (S := (fun w' => w'.cell? ⟨xb, 0, none⟩ = some (.int .i64 x1) ∧ w'.cell? ⟨xb, 1, none⟩ = some (.int .i64 x2) ∧ w'.cell? ⟨xb, 2, none⟩ = some (.int .i64 x3) ∧ w'.cell? ⟨pb, po + i, none⟩ = some (iv p))) (by kernel_rfl) ?_
                    change wpAnyH _ _ _ _ _ _ _ _ (World.drew _)
                    refine wpAnyH_take (i := 0) (v := ?vh28_0) rfl (by kernel_rfl) (by kernel_rfl) (by kernel_rfl) (fun _ _ _ h => h) (Or.inl ⟨by rfl, ?yh28_0⟩) ⟨(HX.out).c0, (HX.out).c1, (HX.out).c2, ((HRI.out).hb.cell (p := ⟨pb, po + i, none⟩) hpb).trans HPC.out⟩ ?rh28_0
                    case yh28_0 => (intro W hSw; (try dsimp only at hSw); obtain ⟨e0, e1, e2, e3⟩ := hSw; first | (go_simp; done) | (go_simp; with_reducible rfl))
                    try go_simp
                    refine wpAnyH_ready (rs := [1]) (by kernel_rfl) (by simp) ?_
                    refine AllReadyH.cons rfl (fun K hK => ?_) AllReadyH.nil
                    go_simp
                    (go_wp2_with (first | (go_at_call 13; (with_reducible refine (HMAY _).out.mono ?_); rintro e w6 ⟨rfl, hb⟩; have HX := Lib.hid (HX.out.below hb HX.out.lt); have HRI := Lib.hid (HRI.out.below hb); clear hb)))
                    refine hK.out _ _ ⟨(HX.out).c0, (HX.out).c1, (HX.out).c2, ((HRI.out).hb.cell (p := ⟨pb, po + i, none⟩) hpb).trans HPC.out⟩ (fun _ => ?_)
                    clear hK K
                    try go_simp
                    refine wpAnyH_take (i := 2) (v := ?vh28_2) rfl (by kernel_rfl) (by kernel_rfl) (by kernel_rfl) (fun _ _ _ h => h) (Or.inl ⟨by rfl, ?yh28_2⟩) ⟨(HX.out).c0, (HX.out).c1, (HX.out).c2, ((HRI.out).hb.cell (p := ⟨pb, po + i, none⟩) hpb).trans HPC.out⟩ ?rh28_2
                    case yh28_2 => (intro W hSw; (try dsimp only at hSw); obtain ⟨e0, e1, e2, e3⟩ := hSw; first | (go_simp; done) | (go_simp; with_reducible rfl))
                    try go_simp
                    refine wpAnyH_take (i := 3) (v := ?vh28_3) rfl (by kernel_rfl) (by kernel_rfl) (by kernel_rfl) (fun _ _ _ h => h) (Or.inl ⟨by rfl, ?yh28_3⟩) ⟨(HX.out).c0, (HX.out).c1, (HX.out).c2, ((HRI.out).hb.cell (p := ⟨pb, po + i, none⟩) hpb).trans HPC.out⟩ ?rh28_3
                    case yh28_3 => (intro W hSw; (try dsimp only at hSw); obtain ⟨e0, e1, e2, e3⟩ := hSw; first | (go_simp; done) | (go_simp; with_reducible rfl))
                    try go_simp
                    refine wpAnyH_take (i := 4) (v := ?vh28_4) rfl (by kernel_rfl) (by kernel_rfl) (by kernel_rfl) (fun _ _ _ h => h) (Or.inl ⟨by rfl, ?yh28_4⟩) ⟨(HX.out).c0, (HX.out).c1, (HX.out).c2, ((HRI.out).hb.cell (p := ⟨pb, po + i, none⟩) hpb).trans HPC.out⟩ ?rh28_4
                    case yh28_4 => (intro W hSw; (try dsimp only at hSw); obtain ⟨e0, e1, e2, e3⟩ := hSw; first | (go_simp; done) | (go_simp; with_reducible rfl))
                    try go_simp
                    refine wpAnyH_take (i := 5) (v := ?vh28_5) rfl (by kernel_rfl) (by kernel_rfl) (by kernel_rfl) (fun _ _ _ h => h) (Or.inl ⟨by rfl, ?yh28_5⟩) ⟨(HX.out).c0, (HX.out).c1, (HX.out).c2, ((HRI.out).hb.cell (p := ⟨pb, po + i, none⟩) hpb).trans HPC.out⟩ ?rh28_5
                    case yh28_5 => (intro W hSw; (try dsimp only at hSw); obtain ⟨e0, e1, e2, e3⟩ := hSw; first | (go_simp; done) | (go_simp; with_reducible rfl))
                    try go_simp
                    refine wpAnyH_take (i := 6) (v := ?vh28_6) rfl (by kernel_rfl) (by kernel_rfl) (by kernel_rfl) (fun _ _ _ h => h) (Or.inl ⟨by rfl, ?yh28_6⟩) ⟨(HX.out).c0, (HX.out).c1, (HX.out).c2, ((HRI.out).hb.cell (p := ⟨pb, po + i, none⟩) hpb).trans HPC.out⟩ ?rh28_6
                    case yh28_6 => (intro W hSw; (try dsimp only at hSw); obtain ⟨e0, e1, e2, e3⟩ := hSw; first | (go_simp; done) | (go_simp; with_reducible rfl))
                    try go_simp
                    refine wpAnyH_take (i := 7) (v := ?vh28_7) rfl (by kernel_rfl) (by kernel_rfl) (by kernel_rfl) (fun _ _ _ h => h) (Or.inl ⟨by rfl, ?yh28_7⟩) ⟨(HX.out).c0, (HX.out).c1, (HX.out).c2, ((HRI.out).hb.cell (p := ⟨pb, po + i, none⟩) hpb).trans HPC.out⟩ ?rh28_7
                    case yh28_7 => (intro W hSw; (try dsimp only at hSw); obtain ⟨e0, e1, e2, e3⟩ := hSw; first | (go_simp; done) | (go_simp; with_reducible rfl))
                    try go_simp
                    refine wpAnyH_take (i := 9) (v := ?vh28_9) rfl (by kernel_rfl) (by kernel_rfl) (by kernel_rfl) (fun _ _ _ h => h) (Or.inl ⟨by rfl, ?yh28_9⟩) ⟨(HX.out).c0, (HX.out).c1, (HX.out).c2, ((HRI.out).hb.cell (p := ⟨pb, po + i, none⟩) hpb).trans HPC.out⟩ ?rh28_9
                    case yh28_9 => (intro W hSw; (try dsimp only at hSw); obtain ⟨e0, e1, e2, e3⟩ := hSw; first | (go_simp; done) | (go_simp; with_reducible rfl))
                    try go_simp

                    have hab := (HAB w6).out
                    refine wpAnyH_ready (rs := [8]) (by kernel_rfl) (by simp) ?_
                    refine AllReadyH.cons rfl (fun K hK => ?_) AllReadyH.nil
                    go_simp
                    have HX := Lib.hid (HX.out.alloc (.cells #[.int .i64 a, .int .i64 b] 3))
                    have HRI := Lib.hid (HRI.out.below (below1 w6 (.cells #[.int .i64 a, .int .i64 b] 3)))
                    refine hK.out _ _ ⟨(HX.out).c0, (HX.out).c1, (HX.out).c2, ((HRI.out).hb.cell (p := ⟨pb, po + i, none⟩) hpb).trans HPC.out⟩ (fun _ => ?_)
                    clear hK K
                    try go_simp
                    refine wpAnyH_take (i := 10) (v := ?vi28_10) rfl (by kernel_rfl) (by kernel_rfl) (by kernel_rfl) (fun _ _ _ h => h) (Or.inl ⟨by rfl, ?yi28_10⟩) ⟨(HX.out).c0, (HX.out).c1, (HX.out).c2, ((HRI.out).hb.cell (p := ⟨pb, po + i, none⟩) hpb).trans HPC.out⟩ ?ri28_10
                    case yi28_10 => (intro W hSw; (try dsimp only at hSw); obtain ⟨e0, e1, e2, e3⟩ := hSw; first | (go_simp; done) | (go_simp; with_reducible rfl))
                    try go_simp
                    refine wpAnyH_ready (rs := [11]) (by kernel_rfl) (by simp) ?_
                    refine AllReadyH.cons rfl (fun K hK => ?_) AllReadyH.nil
                    go_simp
                    refine hK.out _ _ ⟨(HX.out).c0, (HX.out).c1, (HX.out).c2, ((HRI.out).hb.cell (p := ⟨pb, po + i, none⟩) hpb).trans HPC.out⟩ (fun _ => ?_)
                    clear hK K
                    try go_simp
                    refine wpAnyH_take (i := 12) (v := ?vi28_12) rfl (by kernel_rfl) (by kernel_rfl) (by kernel_rfl) (fun _ _ _ h => h) (Or.inl ⟨by rfl, ?yi28_12⟩) ⟨(HX.out).c0, (HX.out).c1, (HX.out).c2, ((HRI.out).hb.cell (p := ⟨pb, po + i, none⟩) hpb).trans HPC.out⟩ ?ri28_12
                    case yi28_12 => (intro W hSw; (try dsimp only at hSw); obtain ⟨e0, e1, e2, e3⟩ := hSw; first | (go_simp; done) | (go_simp; with_reducible rfl))
                    try go_simp
                    refine wpAnyH_take (i := 13) (v := ?vi28_13) rfl (by kernel_rfl) (by kernel_rfl) (by kernel_rfl) (fun _ _ _ h => h) (Or.inl ⟨by rfl, ?yi28_13⟩) ⟨(HX.out).c0, (HX.out).c1, (HX.out).c2, ((HRI.out).hb.cell (p := ⟨pb, po + i, none⟩) hpb).trans HPC.out⟩ ?ri28_13
                    case yi28_13 => (intro W hSw; (try dsimp only at hSw); obtain ⟨e0, e1, e2, e3⟩ := hSw; first | (go_simp; done) | (go_simp; with_reducible rfl))
                    try go_simp
                    refine wpAnyH_take (i := 14) (v := ?vi28_14) rfl (by kernel_rfl) (by kernel_rfl) (by kernel_rfl) (fun _ _ _ h => h) (Or.inl ⟨by rfl, ?yi28_14⟩) ⟨(HX.out).c0, (HX.out).c1, (HX.out).c2, ((HRI.out).hb.cell (p := ⟨pb, po + i, none⟩) hpb).trans HPC.out⟩ ?ri28_14
                    case yi28_14 => (intro W hSw; (try dsimp only at hSw); obtain ⟨e0, e1, e2, e3⟩ := hSw; first | (go_simp; done) | (go_simp; with_reducible rfl))
                    try go_simp
                    refine wpAnyH_take (i := 15) (v := ?vi28_15) rfl (by kernel_rfl) (by kernel_rfl) (by kernel_rfl) (fun _ _ _ h => h) (Or.inl ⟨by rfl, ?yi28_15⟩) ⟨(HX.out).c0, (HX.out).c1, (HX.out).c2, ((HRI.out).hb.cell (p := ⟨pb, po + i, none⟩) hpb).trans HPC.out⟩ ?ri28_15
                    case yi28_15 => (intro W hSw; (try dsimp only at hSw); obtain ⟨e0, e1, e2, e3⟩ := hSw; first | (go_simp; done) | (go_simp; with_reducible rfl))
                    try go_simp
                    refine wpAnyH_take (i := 16) (v := ?vi28_16) rfl (by kernel_rfl) (by kernel_rfl) (by kernel_rfl) (fun _ _ _ h => h) (Or.inl ⟨by rfl, ?yi28_16⟩) ⟨(HX.out).c0, (HX.out).c1, (HX.out).c2, ((HRI.out).hb.cell (p := ⟨pb, po + i, none⟩) hpb).trans HPC.out⟩ ?ri28_16
                    case yi28_16 => (intro W hSw; (try dsimp only at hSw); obtain ⟨e0, e1, e2, e3⟩ := hSw; first | (go_simp; done) | (go_simp; with_reducible rfl))
                    try go_simp
                    refine wpAnyH_take (i := 17) (v := ?vi28_17) rfl (by kernel_rfl) (by kernel_rfl) (by kernel_rfl) (fun _ _ _ h => h) (Or.inl ⟨by rfl, ?yi28_17⟩) ⟨(HX.out).c0, (HX.out).c1, (HX.out).c2, ((HRI.out).hb.cell (p := ⟨pb, po + i, none⟩) hpb).trans HPC.out⟩ ?ri28_17
                    case yi28_17 => (intro W hSw; (try dsimp only at hSw); obtain ⟨e0, e1, e2, e3⟩ := hSw; first | (go_simp; done) | (go_simp; with_reducible rfl))
                    try go_simp
                    refine wpAnyH_take (i := 18) (v := ?vi28_18) rfl (by kernel_rfl) (by kernel_rfl) (by kernel_rfl) (fun _ _ _ h => h) (Or.inl ⟨by rfl, ?yi28_18⟩) ⟨(HX.out).c0, (HX.out).c1, (HX.out).c2, ((HRI.out).hb.cell (p := ⟨pb, po + i, none⟩) hpb).trans HPC.out⟩ ?ri28_18
                    case yi28_18 => (intro W hSw; (try dsimp only at hSw); obtain ⟨e0, e1, e2, e3⟩ := hSw; first | (go_simp; done) | (go_simp; with_reducible rfl))
                    try go_simp
                    refine wpAnyH_take (i := 19) (v := ?vi28_19) rfl (by kernel_rfl) (by kernel_rfl) (by kernel_rfl) (fun _ _ _ h => h) (Or.inl ⟨by rfl, ?yi28_19⟩) ⟨(HX.out).c0, (HX.out).c1, (HX.out).c2, ((HRI.out).hb.cell (p := ⟨pb, po + i, none⟩) hpb).trans HPC.out⟩ ?ri28_19
                    case yi28_19 => (intro W hSw; (try dsimp only at hSw); obtain ⟨e0, e1, e2, e3⟩ := hSw; first | (go_simp; done) | (go_simp; with_reducible rfl))
                    try go_simp
                    refine wpAnyH_take (i := 20) (v := ?vi28_20) rfl (by kernel_rfl) (by kernel_rfl) (by kernel_rfl) (fun _ _ _ h => h) (Or.inl ⟨by rfl, ?yi28_20⟩) ⟨(HX.out).c0, (HX.out).c1, (HX.out).c2, ((HRI.out).hb.cell (p := ⟨pb, po + i, none⟩) hpb).trans HPC.out⟩ ?ri28_20
                    case yi28_20 => (intro W hSw; (try dsimp only at hSw); obtain ⟨e0, e1, e2, e3⟩ := hSw; first | (go_simp; done) | (go_simp; with_reducible rfl))
                    try go_simp
                    refine wpAnyH_take (i := 21) (v := ?vi28_21) rfl (by kernel_rfl) (by kernel_rfl) (by kernel_rfl) (fun _ _ _ h => h) (Or.inl ⟨by rfl, ?yi28_21⟩) ⟨(HX.out).c0, (HX.out).c1, (HX.out).c2, ((HRI.out).hb.cell (p := ⟨pb, po + i, none⟩) hpb).trans HPC.out⟩ ?ri28_21
                    case yi28_21 => (intro W hSw; (try dsimp only at hSw); obtain ⟨e0, e1, e2, e3⟩ := hSw; first | (go_simp; done) | (go_simp; with_reducible rfl))
                    try go_simp
                    refine wpAnyH_take (i := 22) (v := ?vi28_22) rfl (by kernel_rfl) (by kernel_rfl) (by kernel_rfl) (fun _ _ _ h => h) (Or.inl ⟨by rfl, ?yi28_22⟩) ⟨(HX.out).c0, (HX.out).c1, (HX.out).c2, ((HRI.out).hb.cell (p := ⟨pb, po + i, none⟩) hpb).trans HPC.out⟩ ?ri28_22
                    case yi28_22 => (intro W hSw; (try dsimp only at hSw); obtain ⟨e0, e1, e2, e3⟩ := hSw; first | (go_simp; done) | (go_simp; with_reducible rfl))
                    try go_simp
                    refine wpAnyH_take (i := 23) (v := ?vi28_23) rfl (by kernel_rfl) (by kernel_rfl) (by kernel_rfl) (fun _ _ _ h => h) (Or.inl ⟨by rfl, ?yi28_23⟩) ⟨(HX.out).c0, (HX.out).c1, (HX.out).c2, ((HRI.out).hb.cell (p := ⟨pb, po + i, none⟩) hpb).trans HPC.out⟩ ?ri28_23
                    case yi28_23 => (intro W hSw; (try dsimp only at hSw); obtain ⟨e0, e1, e2, e3⟩ := hSw; first | (go_simp; done) | (go_simp; with_reducible rfl))
                    try go_simp
                    refine wpAnyH_take (i := 24) (v := ?vi28_24) rfl (by kernel_rfl) (by kernel_rfl) (by kernel_rfl) (fun _ _ _ h => h) (Or.inl ⟨by rfl, ?yi28_24⟩) ⟨(HX.out).c0, (HX.out).c1, (HX.out).c2, ((HRI.out).hb.cell (p := ⟨pb, po + i, none⟩) hpb).trans HPC.out⟩ ?ri28_24
                    case yi28_24 => (intro W hSw; (try dsimp only at hSw); obtain ⟨e0, e1, e2, e3⟩ := hSw; first | (go_simp; done) | (go_simp; with_reducible rfl))
                    try go_simp
                    refine wpAnyH_take (i := 25) (v := ?vi28_25) rfl (by kernel_rfl) (by kernel_rfl) (by kernel_rfl) (fun _ _ _ h => h) (Or.inl ⟨by rfl, ?yi28_25⟩) ⟨(HX.out).c0, (HX.out).c1, (HX.out).c2, ((HRI.out).hb.cell (p := ⟨pb, po + i, none⟩) hpb).trans HPC.out⟩ ?ri28_25
                    case yi28_25 => (intro W hSw; (try dsimp only at hSw); obtain ⟨e0, e1, e2, e3⟩ := hSw; first | (go_simp; done) | (go_simp; with_reducible rfl))
                    try go_simp
                    refine wpAnyH_take (i := 26) (v := ?vi28_26) rfl (by kernel_rfl) (by kernel_rfl) (by kernel_rfl) (fun _ _ _ h => h) (Or.inl ⟨by rfl, ?yi28_26⟩) ⟨(HX.out).c0, (HX.out).c1, (HX.out).c2, ((HRI.out).hb.cell (p := ⟨pb, po + i, none⟩) hpb).trans HPC.out⟩ ?ri28_26
                    case yi28_26 => (intro W hSw; (try dsimp only at hSw); obtain ⟨e0, e1, e2, e3⟩ := hSw; first | (go_simp; done) | (go_simp; with_reducible rfl))
                    try go_simp
                    refine wpAnyH_take (i := 27) (v := ?vi28_27) rfl (by kernel_rfl) (by kernel_rfl) (by kernel_rfl) (fun _ _ _ h => h) (Or.inl ⟨by rfl, ?yi28_27⟩) ⟨(HX.out).c0, (HX.out).c1, (HX.out).c2, ((HRI.out).hb.cell (p := ⟨pb, po + i, none⟩) hpb).trans HPC.out⟩ ?ri28_27
                    case yi28_27 => (intro W hSw; (try dsimp only at hSw); obtain ⟨e0, e1, e2, e3⟩ := hSw; first | (go_simp; done) | (go_simp; with_reducible rfl))
                    try go_simp
                    refine wpAnyH_take (i := 28) (v := ?vi28_28) rfl (by kernel_rfl) (by kernel_rfl) (by kernel_rfl) (fun _ _ _ h => h) (Or.inl ⟨by rfl, ?yi28_28⟩) ⟨(HX.out).c0, (HX.out).c1, (HX.out).c2, ((HRI.out).hb.cell (p := ⟨pb, po + i, none⟩) hpb).trans HPC.out⟩ ?ri28_28
                    case yi28_28 => (intro W hSw; (try dsimp only at hSw); obtain ⟨e0, e1, e2, e3⟩ := hSw; first | (go_simp; done) | (go_simp; with_reducible rfl))
                    try go_simp
                    refine wpAnyH_done (by kernel_rfl) ?_ _
                    clear hab
                    as_aux_lemma =>
                      go_upto_region 30 with (fail)
                      have HRI := Lib.hid (HRI.out.below (Below.refl _ _).drew)
                      have HX := Lib.hid HX.out.drew
                      have HOL := Lib.hid (ri_lo HRI.out hk HLK.out)
                      refine wp_region_held (S := (fun w' => w'.cell? ⟨xb, 0, none⟩ = some (.int .i64 x1) ∧ w'.cell? ⟨xb, 1, none⟩ = some (.int .i64 x2) ∧ w'.cell? ⟨xb, 2, none⟩ = some (.int .i64 x3) ∧ w'.cell? ⟨w3.heap.size + 1, k * 3, none⟩ = some (.int .i64 l1) ∧ w'.cell? ⟨w3.heap.size + 1, k * 3 + 1, none⟩ = some (.int .i64 l2))) (by kernel_rfl) ?_
                      change wpAnyH _ _ _ _ _ _ _ _ (World.drew _)
                      refine wpAnyH_take (i := 0) (v := ?vh30_0) rfl (by kernel_rfl) (by kernel_rfl) (by kernel_rfl) (fun _ _ _ h => h) (Or.inl ⟨by rfl, ?yh30_0⟩) ⟨HX.out.c0, HX.out.c1, HX.out.c2, HOL.out.c0, HOL.out.c1⟩ ?rh30_0
                      case yh30_0 => (intro W hSw; (try dsimp only at hSw); obtain ⟨e0, e1, e2, e3, e4⟩ := hSw; first | (go_simp; done) | (go_simp; with_reducible rfl))
                      try go_simp
                      refine wpAnyH_take (i := 1) (v := ?vh30_1) rfl (by kernel_rfl) (by kernel_rfl) (by kernel_rfl) (fun _ _ _ h => h) (Or.inl ⟨by rfl, ?yh30_1⟩) ⟨HX.out.c0, HX.out.c1, HX.out.c2, HOL.out.c0, HOL.out.c1⟩ ?rh30_1
                      case yh30_1 => (intro W hSw; (try dsimp only at hSw); obtain ⟨e0, e1, e2, e3, e4⟩ := hSw; first | (go_simp; done) | (go_simp; with_reducible rfl))
                      try go_simp
                      refine wpAnyH_take (i := 2) (v := ?vh30_2) rfl (by kernel_rfl) (by kernel_rfl) (by kernel_rfl) (fun _ _ _ h => h) (Or.inl ⟨by rfl, ?yh30_2⟩) ⟨HX.out.c0, HX.out.c1, HX.out.c2, HOL.out.c0, HOL.out.c1⟩ ?rh30_2
                      case yh30_2 => (intro W hSw; (try dsimp only at hSw); obtain ⟨e0, e1, e2, e3, e4⟩ := hSw; first | (go_simp; done) | (go_simp; with_reducible rfl))
                      try go_simp
                      refine wpAnyH_take (i := 3) (v := ?vh30_3) rfl (by kernel_rfl) (by kernel_rfl) (by kernel_rfl) (fun _ _ _ h => h) (Or.inl ⟨by rfl, ?yh30_3⟩) ⟨HX.out.c0, HX.out.c1, HX.out.c2, HOL.out.c0, HOL.out.c1⟩ ?rh30_3
                      case yh30_3 => (intro W hSw; (try dsimp only at hSw); obtain ⟨e0, e1, e2, e3, e4⟩ := hSw; first | (go_simp; done) | (go_simp; with_reducible rfl))
                      try go_simp
                      refine wpAnyH_take (i := 4) (v := ?vh30_4) rfl (by kernel_rfl) (by kernel_rfl) (by kernel_rfl) (fun _ _ _ h => h) (Or.inl ⟨by rfl, ?yh30_4⟩) ⟨HX.out.c0, HX.out.c1, HX.out.c2, HOL.out.c0, HOL.out.c1⟩ ?rh30_4
                      case yh30_4 => (intro W hSw; (try dsimp only at hSw); obtain ⟨e0, e1, e2, e3, e4⟩ := hSw; first | (go_simp; done) | (go_simp; with_reducible rfl))
                      try go_simp
                      refine wpAnyH_take (i := 5) (v := ?vh30_5) rfl (by kernel_rfl) (by kernel_rfl) (by kernel_rfl) (fun _ _ _ h => h) (Or.inl ⟨by rfl, ?yh30_5⟩) ⟨HX.out.c0, HX.out.c1, HX.out.c2, HOL.out.c0, HOL.out.c1⟩ ?rh30_5
                      case yh30_5 => (intro W hSw; (try dsimp only at hSw); obtain ⟨e0, e1, e2, e3, e4⟩ := hSw; first | (go_simp; done) | (go_simp; with_reducible rfl))
                      try go_simp
                      refine wpAnyH_take (i := 6) (v := ?vh30_6) rfl (by kernel_rfl) (by kernel_rfl) (by kernel_rfl) (fun _ _ _ h => h) (Or.inl ⟨by rfl, ?yh30_6⟩) ⟨HX.out.c0, HX.out.c1, HX.out.c2, HOL.out.c0, HOL.out.c1⟩ ?rh30_6
                      case yh30_6 => (intro W hSw; (try dsimp only at hSw); obtain ⟨e0, e1, e2, e3, e4⟩ := hSw; first | (go_simp; done) | (go_simp; with_reducible rfl))
                      try go_simp
                      refine wpAnyH_take (i := 7) (v := ?vh30_7) rfl (by kernel_rfl) (by kernel_rfl) (by kernel_rfl) (fun _ _ _ h => h) (Or.inl ⟨by rfl, ?yh30_7⟩) ⟨HX.out.c0, HX.out.c1, HX.out.c2, HOL.out.c0, HOL.out.c1⟩ ?rh30_7
                      case yh30_7 => (intro W hSw; (try dsimp only at hSw); obtain ⟨e0, e1, e2, e3, e4⟩ := hSw; first | (go_simp; done) | (go_simp; with_reducible rfl))
                      try go_simp
                      refine wpAnyH_take (i := 8) (v := ?vh30_8) rfl (by kernel_rfl) (by kernel_rfl) (by kernel_rfl) (fun _ _ _ h => h) (Or.inl ⟨by rfl, ?yh30_8⟩) ⟨HX.out.c0, HX.out.c1, HX.out.c2, HOL.out.c0, HOL.out.c1⟩ ?rh30_8
                      case yh30_8 => (intro W hSw; (try dsimp only at hSw); obtain ⟨e0, e1, e2, e3, e4⟩ := hSw; first | (go_simp; done) | (go_simp; with_reducible rfl))
                      try go_simp
                      refine wpAnyH_take (i := 9) (v := ?vh30_9) rfl (by kernel_rfl) (by kernel_rfl) (by kernel_rfl) (fun _ _ _ h => h) (Or.inl ⟨by rfl, ?yh30_9⟩) ⟨HX.out.c0, HX.out.c1, HX.out.c2, HOL.out.c0, HOL.out.c1⟩ ?rh30_9
                      case yh30_9 => (intro W hSw; (try dsimp only at hSw); obtain ⟨e0, e1, e2, e3, e4⟩ := hSw; first | (go_simp; done) | (go_simp; with_reducible rfl))
                      try go_simp
                      refine wpAnyH_take (i := 10) (v := ?vh30_10) rfl (by kernel_rfl) (by kernel_rfl) (by kernel_rfl) (fun _ _ _ h => h) (Or.inl ⟨by rfl, ?yh30_10⟩) ⟨HX.out.c0, HX.out.c1, HX.out.c2, HOL.out.c0, HOL.out.c1⟩ ?rh30_10
                      case yh30_10 => (intro W hSw; (try dsimp only at hSw); obtain ⟨e0, e1, e2, e3, e4⟩ := hSw; first | (go_simp; done) | (go_simp; with_reducible rfl))
                      try go_simp
                      refine wpAnyH_take (i := 11) (v := ?vh30_11) rfl (by kernel_rfl) (by kernel_rfl) (by kernel_rfl) (fun _ _ _ h => h) (Or.inl ⟨by rfl, ?yh30_11⟩) ⟨HX.out.c0, HX.out.c1, HX.out.c2, HOL.out.c0, HOL.out.c1⟩ ?rh30_11
                      case yh30_11 => (intro W hSw; (try dsimp only at hSw); obtain ⟨e0, e1, e2, e3, e4⟩ := hSw; first | (go_simp; done) | (go_simp; with_reducible rfl))
                      try go_simp
                      refine wpAnyH_ready (rs := [12]) (by kernel_rfl) (by simp) ?_
                      refine AllReadyH.cons rfl (fun K hK => ?_) AllReadyH.nil
                      go_simp
                      (go_wp2_with (first | (go_at_call 32; (with_reducible refine (HLE _).out.mono ?_); rintro e w7 ⟨rfl, hb⟩; have HX := Lib.hid (HX.out.below hb HX.out.lt); have HRI := Lib.hid (HRI.out.below hb); have HOL := Lib.hid (ri_lo HRI.out hk HLK.out); clear hb)))
                      refine hK.out _ _ ⟨HX.out.c0, HX.out.c1, HX.out.c2, HOL.out.c0, HOL.out.c1⟩ (fun _ => ?_)
                      clear hK K
                      try go_simp
                      refine wpAnyH_take (i := 13) (v := ?vh30_13) rfl (by kernel_rfl) (by kernel_rfl) (by kernel_rfl) (fun _ _ _ h => h) (Or.inl ⟨by rfl, ?yh30_13⟩) ⟨HX.out.c0, HX.out.c1, HX.out.c2, HOL.out.c0, HOL.out.c1⟩ ?rh30_13
                      case yh30_13 => (intro W hSw; (try dsimp only at hSw); obtain ⟨e0, e1, e2, e3, e4⟩ := hSw; first | (go_simp; done) | (go_simp; with_reducible rfl))
                      try go_simp
                      refine wpAnyH_take (i := 14) (v := ?vh30_14) rfl (by kernel_rfl) (by kernel_rfl) (by kernel_rfl) (fun _ _ _ h => h) (Or.inl ⟨by rfl, ?yh30_14⟩) ⟨HX.out.c0, HX.out.c1, HX.out.c2, HOL.out.c0, HOL.out.c1⟩ ?rh30_14
                      case yh30_14 => (intro W hSw; (try dsimp only at hSw); obtain ⟨e0, e1, e2, e3, e4⟩ := hSw; first | (go_simp; done) | (go_simp; with_reducible rfl))
                      try go_simp
                      refine wpAnyH_take (i := 15) (v := undef) rfl (by kernel_rfl) (by kernel_rfl) (by kernel_rfl) (fun _ _ _ h => h) (Or.inr ⟨by rfl, rfl⟩) ⟨HX.out.c0, HX.out.c1, HX.out.c2, HOL.out.c0, HOL.out.c1⟩ ?rh30_15
                      try go_simp
                      refine wpAnyH_take (i := 16) (v := undef) rfl (by kernel_rfl) (by kernel_rfl) (by kernel_rfl) (fun _ _ _ h => h) (Or.inr ⟨by rfl, rfl⟩) ⟨HX.out.c0, HX.out.c1, HX.out.c2, HOL.out.c0, HOL.out.c1⟩ ?rh30_16
                      try go_simp
                      refine wpAnyH_take (i := 17) (v := undef) rfl (by kernel_rfl) (by kernel_rfl) (by kernel_rfl) (fun _ _ _ h => h) (Or.inr ⟨by rfl, rfl⟩) ⟨HX.out.c0, HX.out.c1, HX.out.c2, HOL.out.c0, HOL.out.c1⟩ ?rh30_17
                      try go_simp
                      refine wpAnyH_take (i := 18) (v := undef) rfl (by kernel_rfl) (by kernel_rfl) (by kernel_rfl) (fun _ _ _ h => h) (Or.inr ⟨by rfl, rfl⟩) ⟨HX.out.c0, HX.out.c1, HX.out.c2, HOL.out.c0, HOL.out.c1⟩ ?rh30_18
                      try go_simp
                      refine wpAnyH_take (i := 19) (v := undef) rfl (by kernel_rfl) (by kernel_rfl) (by kernel_rfl) (fun _ _ _ h => h) (Or.inr ⟨by rfl, rfl⟩) ⟨HX.out.c0, HX.out.c1, HX.out.c2, HOL.out.c0, HOL.out.c1⟩ ?rh30_19
                      try go_simp
                      refine wpAnyH_take (i := 20) (v := undef) rfl (by kernel_rfl) (by kernel_rfl) (by kernel_rfl) (fun _ _ _ h => h) (Or.inr ⟨by rfl, rfl⟩) ⟨HX.out.c0, HX.out.c1, HX.out.c2, HOL.out.c0, HOL.out.c1⟩ ?rh30_20
                      try go_simp
                      refine wpAnyH_take (i := 21) (v := undef) rfl (by kernel_rfl) (by kernel_rfl) (by kernel_rfl) (fun _ _ _ h => h) (Or.inr ⟨by rfl, rfl⟩) ⟨HX.out.c0, HX.out.c1, HX.out.c2, HOL.out.c0, HOL.out.c1⟩ ?rh30_21
                      try go_simp
                      refine wpAnyH_take (i := 22) (v := undef) rfl (by kernel_rfl) (by kernel_rfl) (by kernel_rfl) (fun _ _ _ h => h) (Or.inr ⟨by rfl, rfl⟩) ⟨HX.out.c0, HX.out.c1, HX.out.c2, HOL.out.c0, HOL.out.c1⟩ ?rh30_22
                      try go_simp
                      refine wpAnyH_take (i := 23) (v := undef) rfl (by kernel_rfl) (by kernel_rfl) (by kernel_rfl) (fun _ _ _ h => h) (Or.inr ⟨by rfl, rfl⟩) ⟨HX.out.c0, HX.out.c1, HX.out.c2, HOL.out.c0, HOL.out.c1⟩ ?rh30_23
                      try go_simp
                      refine wpAnyH_take (i := 24) (v := undef) rfl (by kernel_rfl) (by kernel_rfl) (by kernel_rfl) (fun _ _ _ h => h) (Or.inr ⟨by rfl, rfl⟩) ⟨HX.out.c0, HX.out.c1, HX.out.c2, HOL.out.c0, HOL.out.c1⟩ ?rh30_24
                      try go_simp
                      refine wpAnyH_take (i := 25) (v := undef) rfl (by kernel_rfl) (by kernel_rfl) (by kernel_rfl) (fun _ _ _ h => h) (Or.inr ⟨by rfl, rfl⟩) ⟨HX.out.c0, HX.out.c1, HX.out.c2, HOL.out.c0, HOL.out.c1⟩ ?rh30_25
                      try go_simp
                      refine wpAnyH_take (i := 26) (v := undef) rfl (by kernel_rfl) (by kernel_rfl) (by kernel_rfl) (fun _ _ _ h => h) (Or.inr ⟨by rfl, rfl⟩) ⟨HX.out.c0, HX.out.c1, HX.out.c2, HOL.out.c0, HOL.out.c1⟩ ?rh30_26
                      try go_simp
                      refine wpAnyH_take (i := 27) (v := undef) rfl (by kernel_rfl) (by kernel_rfl) (by kernel_rfl) (fun _ _ _ h => h) (Or.inr ⟨by rfl, rfl⟩) ⟨HX.out.c0, HX.out.c1, HX.out.c2, HOL.out.c0, HOL.out.c1⟩ ?rh30_27
                      try go_simp
                      refine wpAnyH_take (i := 28) (v := undef) rfl (by kernel_rfl) (by kernel_rfl) (by kernel_rfl) (fun _ _ _ h => h) (Or.inr ⟨by rfl, rfl⟩) ⟨HX.out.c0, HX.out.c1, HX.out.c2, HOL.out.c0, HOL.out.c1⟩ ?rh30_28
                      try go_simp
                      refine wpAnyH_take (i := 29) (v := undef) rfl (by kernel_rfl) (by kernel_rfl) (by kernel_rfl) (fun _ _ _ h => h) (Or.inr ⟨by rfl, rfl⟩) ⟨HX.out.c0, HX.out.c1, HX.out.c2, HOL.out.c0, HOL.out.c1⟩ ?rh30_29
                      try go_simp
                      refine wpAnyH_take (i := 30) (v := undef) rfl (by kernel_rfl) (by kernel_rfl) (by kernel_rfl) (fun _ _ _ h => h) (Or.inr ⟨by rfl, rfl⟩) ⟨HX.out.c0, HX.out.c1, HX.out.c2, HOL.out.c0, HOL.out.c1⟩ ?rh30_30
                      try go_simp
                      refine wpAnyH_take (i := 31) (v := undef) rfl (by kernel_rfl) (by kernel_rfl) (by kernel_rfl) (fun _ _ _ h => h) (Or.inr ⟨by rfl, rfl⟩) ⟨HX.out.c0, HX.out.c1, HX.out.c2, HOL.out.c0, HOL.out.c1⟩ ?rh30_31
                      try go_simp
                      refine wpAnyH_take (i := 32) (v := undef) rfl (by kernel_rfl) (by kernel_rfl) (by kernel_rfl) (fun _ _ _ h => h) (Or.inr ⟨by rfl, rfl⟩) ⟨HX.out.c0, HX.out.c1, HX.out.c2, HOL.out.c0, HOL.out.c1⟩ ?rh30_32
                      try go_simp
                      refine wpAnyH_take (i := 33) (v := undef) rfl (by kernel_rfl) (by kernel_rfl) (by kernel_rfl) (fun _ _ _ h => h) (Or.inr ⟨by rfl, rfl⟩) ⟨HX.out.c0, HX.out.c1, HX.out.c2, HOL.out.c0, HOL.out.c1⟩ ?rh30_33
                      try go_simp
                      refine wpAnyH_take (i := 34) (v := ?vh30_34) rfl (by kernel_rfl) (by kernel_rfl) (by kernel_rfl) (fun _ _ _ h => h) (Or.inl ⟨by rfl, ?yh30_34⟩) ⟨HX.out.c0, HX.out.c1, HX.out.c2, HOL.out.c0, HOL.out.c1⟩ ?rh30_34
                      case yh30_34 => (intro W hSw; (try dsimp only at hSw); obtain ⟨e0, e1, e2, e3, e4⟩ := hSw; first | (go_simp; done) | (go_simp; with_reducible rfl))
                      try go_simp
                      refine wpAnyH_done (by kernel_rfl) ?_ _
                      as_aux_lemma =>
                        have x0 := HX.out.c0; have x1' := HX.out.c1; have x2' := HX.out.c2
                        have o0 := HOL.out.c0; have o1 := HOL.out.c1; have o2 := HOL.out.c2; have o3 := HOL.out.f0; have o4 := HOL.out.f1; have o5 := HOL.out.f2
                        go_upto_region 33 with (fail)
                        have HXL := HX.out.tn ((Tn.refl (fun j => j = w3.heap.size + 1) w7).setL (fun _ => rfl) (k * 3) ⟨x1, x2, x3⟩) (fun e => absurd HRI.out.lwb.2 (by have e : xb = w3.heap.size + 1 := e; omega))
                        have HXL := Lib.hid HXL
                        have HRL := Lib.hid (HRI.out.low hk ⟨x1, x2, x3⟩)
                        have HFR := HFR
                        clear HX HRI HOL x0 x1' x2' o0 o1 o2 o3 o4 o5
                        obtain ⟨ta, tc, htv⟩ := own_slice HRL.out.told
                        subst htv
                        go_wp2
                        go_loopw [26] (fun vm wx => ∃ m : Nat, vm = .int .i64 (m : Int) ∧ m ≤ T.length ∧ Hid (RI w.heap.size M w wx w3.heap.size (w3.heap.size + 1) K (upd S' k ⟨x1, x2, x3⟩) (upd L' k ⟨x1, x2, x3⟩) (.slice ta T.length tc) T) ∧ Hid (At wx xb ⟨x1, x2, x3⟩)) (fun vm _ => T.length - (RowKit.intOf vm).toNat)
                        case atStart => exact ⟨0, rfl, Nat.zero_le _, HRL, HXL⟩
                        case round =>
                          obtain ⟨m, rfl, hm, HRI, HX⟩ := hrel
                          clear HRL HXL
                          have hTl := HTL.out; have hi400 := H4.out
                          by_cases hml : m < T.length
                          · obtain ⟨g, gc, hgv⟩ := own_shape HRI.out.told (by omega)
                            injection hgv with hg1 _ hg2
                            subst hg1
                            subst hg2
                            have hol := own_ol HRI.out.told hml
                            have hne : T[m] ≠ (⟨x1, x2, x3⟩ : St) := fun e => HFR.out (e ▸ List.getElem_mem hml)
                            have HML := Lib.hid hml
                            have hm1 : (m : Int) < (T.length : Int) := by omega
                            have hm2 : decide ((m : Int) < (T.length : Int)) = true := decide_eq_true hm1
                            have hwm : IntKind.i64.wrap ((m : Int) + 1) = ((m + 1 : Nat) : Int) := by rw [wrap_in (by omega)]; omega
                            generalize T[m] = t at *
                            obtain ⟨t1, t2, t3⟩ := t
                            have HOM := Lib.hid hol
                            have hif : ∀ W : World, (if t1 = x1 then if t2 = x2 then if t3 = x3 then (Result.ok (Next.value (Value.bool true)) W : Result Next) else Result.ok (Next.value (Value.bool false)) W else Result.ok (Next.value (Value.bool false)) W else Result.ok (Next.value (Value.bool false)) W) = Result.ok (Next.value (Value.bool false)) W := by
                              intro W
                              split
                              · rename_i q1
                                split
                                · rename_i q2
                                  split
                                  · rename_i q3
                                    exact absurd (by rw [q1, q2, q3]) hne
                                  · rfl
                                · rfl
                              · rfl
                            clear hol hne hm hml hTl hi400
                            go_upto_region 36 with (fail)
                            have HRI := Lib.hid (HRI.out.below (Below.refl _ _).drew)
                            have HX := Lib.hid HX.out.drew
                            have HOM := Lib.hid (HOM.out.tn (S := fun _ => False) (Tn.of_below (Below.refl wr.heap.size wr).drew) (fun e => e))
                            refine wp_region_held (S := (fun w' => w'.cell? ⟨xb, 0, none⟩ = some (.int .i64 x1) ∧ w'.cell? ⟨xb, 1, none⟩ = some (.int .i64 x2) ∧ w'.cell? ⟨xb, 2, none⟩ = some (.int .i64 x3) ∧ w'.cell? ⟨g, m * 3, none⟩ = some (.int .i64 t1) ∧ w'.cell? ⟨g, m * 3 + 1, none⟩ = some (.int .i64 t2) ∧ w'.cell? ⟨g, m * 3 + 2, none⟩ = some (.int .i64 t3))) (by kernel_rfl) ?_
                            change wpAnyH _ _ _ _ _ _ _ _ (World.drew _)
                            refine wpAnyH_take (i := 0) (v := ?vh36_0) rfl (by kernel_rfl) (by kernel_rfl) (by kernel_rfl) (fun _ _ _ h => h) (Or.inl ⟨by rfl, ?yh36_0⟩) ⟨HX.out.c0, HX.out.c1, HX.out.c2, HOM.out.c0, HOM.out.c1, HOM.out.c2⟩ ?rh36_0
                            case yh36_0 => (intro W hSw; (try dsimp only at hSw); obtain ⟨e0, e1, e2, e3, e4, e5⟩ := hSw; first | (go_simp; done) | (go_simp; with_reducible rfl))
                            try go_simp
                            refine wpAnyH_take (i := 1) (v := ?vh36_1) rfl (by kernel_rfl) (by kernel_rfl) (by kernel_rfl) (fun _ _ _ h => h) (Or.inl ⟨by rfl, ?yh36_1⟩) ⟨HX.out.c0, HX.out.c1, HX.out.c2, HOM.out.c0, HOM.out.c1, HOM.out.c2⟩ ?rh36_1
                            case yh36_1 => (intro W hSw; (try dsimp only at hSw); obtain ⟨e0, e1, e2, e3, e4, e5⟩ := hSw; first | (go_simp; done) | (go_simp; with_reducible rfl))
                            try go_simp
                            refine wpAnyH_take (i := 2) (v := ?vh36_2) rfl (by kernel_rfl) (by kernel_rfl) (by kernel_rfl) (fun _ _ _ h => h) (Or.inl ⟨by rfl, ?yh36_2⟩) ⟨HX.out.c0, HX.out.c1, HX.out.c2, HOM.out.c0, HOM.out.c1, HOM.out.c2⟩ ?rh36_2
                            case yh36_2 => (intro W hSw; (try dsimp only at hSw); obtain ⟨e0, e1, e2, e3, e4, e5⟩ := hSw; first | (go_simp; done) | (go_simp; with_reducible rfl))
                            try go_simp
                            refine wpAnyH_take (i := 3) (v := ?vh36_3) rfl (by kernel_rfl) (by kernel_rfl) (by kernel_rfl) (fun _ _ _ h => h) (Or.inl ⟨by rfl, ?yh36_3⟩) ⟨HX.out.c0, HX.out.c1, HX.out.c2, HOM.out.c0, HOM.out.c1, HOM.out.c2⟩ ?rh36_3
                            case yh36_3 => (intro W hSw; (try dsimp only at hSw); obtain ⟨e0, e1, e2, e3, e4, e5⟩ := hSw; first | (go_simp; done) | (go_simp; with_reducible rfl))
                            try go_simp
                            refine wpAnyH_take (i := 4) (v := ?vh36_4) rfl (by kernel_rfl) (by kernel_rfl) (by kernel_rfl) (fun _ _ _ h => h) (Or.inl ⟨by rfl, ?yh36_4⟩) ⟨HX.out.c0, HX.out.c1, HX.out.c2, HOM.out.c0, HOM.out.c1, HOM.out.c2⟩ ?rh36_4
                            case yh36_4 => (intro W hSw; (try dsimp only at hSw); obtain ⟨e0, e1, e2, e3, e4, e5⟩ := hSw; first | (go_simp; done) | (go_simp; with_reducible rfl))
                            try go_simp
                            refine wpAnyH_take (i := 5) (v := ?vh36_5) rfl (by kernel_rfl) (by kernel_rfl) (by kernel_rfl) (fun _ _ _ h => h) (Or.inl ⟨by rfl, ?yh36_5⟩) ⟨HX.out.c0, HX.out.c1, HX.out.c2, HOM.out.c0, HOM.out.c1, HOM.out.c2⟩ ?rh36_5
                            case yh36_5 => (intro W hSw; (try dsimp only at hSw); obtain ⟨e0, e1, e2, e3, e4, e5⟩ := hSw; first | (go_simp; done) | (go_simp; with_reducible rfl))
                            try go_simp
                            refine wpAnyH_done (by kernel_rfl) ?_ _
                            go_wp2
                            have hml := HML.out
                            exact ⟨⟨m + 1, congrArg (Value.int .i64) (by omega), hml, HRI, HX⟩, by simp [RowKit.intOf]; omega⟩
                          · obtain rfl : m = T.length := by omega
                            have hm1 : ¬ ((T.length : Nat) : Int) < ((T.length : Nat) : Int) := by omega
                            have hm2 : decide (((T.length : Nat) : Int) < ((T.length : Nat) : Int)) = false := decide_eq_false hm1
                            have HTR : Hid (T.length ≤ 1000000) := Lib.hid (by omega)
                            have x0 := HX.out.c0; have x1' := HX.out.c1; have x2' := HX.out.c2
                            clear hm hml hTl hi400
                            go_wp2_with (at_builtin; refine wpList_append_st rfl (.tmp 236) (.tmp 238) rfl rfl (HRI.out.below (below1 wr (sobj ⟨x1, x2, x3⟩))).told rfl (at_new wr ⟨x1, x2, x3⟩) HTR.out (HRI.out.below (below1 wr (sobj ⟨x1, x2, x3⟩))).size ?_; intro v8 w8 ho8 hg8; have HP8 := Lib.hid ((HRI.out.below (below1 wr (sobj ⟨x1, x2, x3⟩))).push hg8 ho8); clear ho8 hg8)
                            have hlt := HLT.out; have h4 := H4.out; have hTl := HTL.out
                            exact ⟨⟨Wn, i + 1, _, _, _, rfl, congrArg (Value.int .i64) (by omega), hlt, by omega, by rw [List.length_append]; simp; omega, HP8, HPX⟩, by simp [RowKit.intOf]; omega⟩
                · have hY : Y = Z := by have := HY.out; rwa [if_neg he] at this
                  have hbad := HE.out he
                  have he' : (x4 != 0) = true := by simpa using he
                  have hcl := HRI.out.cl k hk
                  have hp4 := (HRI.out.hb.cell (p := ⟨pb, po + i, none⟩) hpb).trans HPC.out
                  have HAK := Lib.hid (ri_at (s := Y) HRI.out hk (upd_same _ _ _).symm)
                  have HL := fun w h => Lib.hid (last_any w (K k) Y h)
                  subst hY
                  have hYS : upd S' k Y = S' := by rw [HZ.out]; exact upd_self _ _
                  rw [hYS] at HRI
                  clear he HE HY HF hYS
                  as_aux_lemma =>
                    obtain ⟨z1, z2, z3⟩ := Y
                    by_cases hp5 : p ≤ 281474976710656
                    · have hz2 : z2 = 65535 := by rcases hbad with h | h <;> first | omega | exact h
                      subst hz2
                      have hd1 : decide (p ≤ 281474976710656) = true := decide_eq_true hp5
                      go_wp2_with (go_at_call 31; (with_reducible refine (HL _ HAK.out).out.mono ?_); rintro e w6 ⟨he, hb⟩; have he : e = .returned (.agg #[.int .i64 z1, .int .i64 65535, .int .i64 z3]) := he; subst he; have HRI := Lib.hid (HRI.out.below hb); clear hb)
                      try (refine put_eq (v' := .int .i64 65535) rfl ?_; go_wp2)
                      have hlt := HLT.out; have h4 := H4.out; have hTl := HTL.out
                      exact ⟨⟨W, i + 1, S', L', T, rfl, congrArg (Value.int .i64) (by omega), hlt, by omega, by omega, HRI, HPI'⟩, by simp [RowKit.intOf]; omega⟩
                    · have hd1 : decide (p ≤ 281474976710656) = false := decide_eq_false hp5
                      go_wp2_with (go_at_call 31; (with_reducible refine (HL _ HAK.out).out.mono ?_); rintro e w6 ⟨he, hb⟩; have he : e = .returned (.agg #[.int .i64 z1, .int .i64 z2, .int .i64 z3]) := he; subst he; have HRI := Lib.hid (HRI.out.below hb); clear hb)
                      try (refine put_eq (v' := .int .i64 z2) rfl ?_; go_wp2)
                      have hlt := HLT.out; have h4 := H4.out; have hTl := HTL.out
                      exact ⟨⟨W, i + 1, S', L', T, rfl, congrArg (Value.int .i64) (by omega), hlt, by omega, by omega, HRI, HPI'⟩, by simp [RowKit.intOf]; omega⟩
    · have hx : (¬ i < P.length) ∨ (i < P.length ∧ ¬ i < 400) := by omega
      clear hgo
      rcases hx with hc | ⟨hc1, hc2⟩
      · have hi1 : decide ((i : Int) < (P.length : Int)) = false := decide_eq_false (by omega)
        have hp1 : ¬ (i : Int) < (P.length : Int) := by omega
        as_aux_lemma =>
          have HB := Lib.hid HRI.out.hb
          go_wp2_with (go_at_call 10; (with_reducible refine (first_any _ (HT.out.below HB.out)).mono ?_); rintro e w5 ⟨rfl, hb⟩; have HB := Lib.hid (HB.out.trans (hb.mono HB.out.size)); clear hb)
          go_ret
          exact ⟨rfl, HB.out⟩
      · have hi1 : decide ((i : Int) < (P.length : Int)) = true := decide_eq_true (by omega)
        have hi2 : decide ((i : Int) < 400) = false := decide_eq_false (by omega)
        have hp1 : (i : Int) < (P.length : Int) := by omega
        have hp2 : ¬ (i : Int) < 400 := by omega
        as_aux_lemma =>
          have HB := Lib.hid HRI.out.hb
          go_wp2_with (go_at_call 10; (with_reducible refine (first_any _ (HT.out.below HB.out)).mono ?_); rintro e w5 ⟨rfl, hb⟩; have HB := Lib.hid (HB.out.trans (hb.mono HB.out.size)); clear hb)
          go_ret
          exact ⟨rfl, HB.out⟩
theorem hlcRises_walk (W : World) (a : Int) (_ : -9223372036854775808 ≤ a) (_ : a ≤ 9223372036854775807) (b : Int) (_ : -9223372036854775808 ≤ b) (_ : b ≤ 9223372036854775807) (f : St) (_ : f.wf) (pa : Option Addr) (pc : Nat) (P : List Int) (hP : XR iv W.heap.size W pa P.length pc P) (qa : Option Addr) (qc : Nat) (Q : List Bool) (hQ : XR bv W.heap.size W qa Q.length qc Q) (ra : Option Addr) (rc : Nat) (R : List Bool) (hR : XR bv W.heap.size W ra R.length rc R) (hT : Pow W) :
    Calls Tryd.prog 6 #[.int .i64 a, .int .i64 b, sagg f, .slice pa P.length pc, .slice qa Q.length qc, .slice ra R.length rc] W fun e w' => e = .returned (.bool true) ∧ Below W.heap.size W w' := by
  by_cases ha : a < 1 ∨ 63 < a
  · exact rises_bad W a b f _ _ _ hT (.inl (by unfold newS; rw [if_pos ha]; decide))
  by_cases hf : mayS f = false
  · exact rises_bad W a b f _ _ _ hT (.inl (by unfold newS; rw [if_neg ha, if_pos hf]; decide))
  have hna : newS a f = (some ⟨f.w, f.l, a⟩, 0) := by unfold newS; rw [if_neg ha, if_neg hf]
  by_cases hb : b < 1 ∨ 63 < b
  · exact rises_bad W a b f _ _ _ hT (.inr ⟨by rw [hna], by unfold newS; rw [if_pos hb]; decide⟩)
  have hnb : newS b f = (some ⟨f.w, f.l, b⟩, 0) := by unfold newS; rw [if_neg hb, if_neg hf]
  by_cases hab : a = b
  · subst hab; exact rises_same W a f _ _ _ hT _ hna
  · exact rises_some W a b f pa pc P hP qa qc Q hQ ra rc R hR hT hna hnb hab (by simpa using hf) (by omega) (by omega)

set_option maxRecDepth 100000 in
theorem hlcRises_lifted (os : Os) (started : os.Started) (H : Type) (enc : TypeId × Value → H) :
    ReturnsInHanded {} Tryd.checked os 6 .any (fun w args => (Rows.hlcRisesSpec.pre enc Tryd.prog Tryd.f6 [] false w args ∧ laidMetH Tryd.prog laid3 w) ∧ sizedMet enc Tryd.prog Tryd.f6 (OpenSpec.ofChange Rows.hlcRisesSpec) false w args)
      (Rows.hlcRisesSpec.post enc Tryd.prog Tryd.f6 false true false false) := by
  refine returnsInHanded_of_change_and (C := Tryd.checked) (X := fun w _ => laidMetH Tryd.prog laid3 w) (fun _ _ _ hh h => h.of_heap hh) own started (by kernel_rfl) Tryd.func6
    (ChangeSpec.witness_shaped (enc := enc) (C := Tryd.checked) (os := os) (X := fun w _ => laidMetH Tryd.prog laid3 w) false (World.doorLaid Tryd.prog 400 os) #[.int .i64 0, .int .i64 0, .agg #[.int .i64 0, .int .i64 0, .int .i64 0], .slice none 0 0, .slice none 0 0, .slice none 0 0] 8 rfl (World.shaped_of_RefB (by kernel_rfl) (by kernel_rfl)) (by kernel_rfl) (by kernel_rfl) (by kernel_rfl) (door_met3 os _)) ?_
  intro W base args ds gs before hval0 hW _ _ hL _
  have hval : ∀ (j : Nat) t v, Tryd.f6.params[j]? = some t → args[j]? = some v → Value.okWide Tryd.prog W .any base t v := hval0
  have hW' := hW
  obtain ⟨p, q, hA0, hV, rfl, hfz, hnd⟩ := hW
  have hA : DataW.TrodAll enc Tryd.prog W 0 (fun _ => true) true Tryd.f6.params.toList args.toList ds p := hA0
  rw [Tryd.params6] at hA hval
  obtain ⟨v0, v1, v2, v3, v4, v5, d0, d1, d2, d3, d4, d5, p0, p1, p2, p3, p4, p5, rfl, rfl, rfl, h0, h1, h2, h3, h4, h5⟩ := trodAll_six hA
  obtain ⟨rfl, rfl⟩ := trodVars_none hV
  clear hA0 hval0
  simp only [List.append_nil] at hW'
  have hlt : ∀ x ∈ p0 ++ p1 ++ p2 ++ p3 ++ p4 ++ p5, x.block < W.heap.size := fun x hx => hW'.lt x (by simpa using hx)
  have hT := pow_of_laid hL
  have k0 := h0
  obtain ⟨a0, rfl, rfl, rfl, wf0⟩ := open_int Tryd.underlying3 (hval 0 3 v0 rfl rfl) h0
  have hwf0 := wf0
  simp [Lit.wf, IntKind.min, IntKind.max, IntKind.signed, IntKind.bits] at hwf0
  have k1 := h1
  obtain ⟨a1, rfl, rfl, rfl, wf1⟩ := open_int Tryd.underlying3 (hval 1 3 v1 rfl rfl) h1
  have hwf1 := wf1
  simp [Lit.wf, IntKind.min, IntKind.max, IntKind.signed, IntKind.bits] at hwf1
  have k2 := h2
  obtain ⟨x2, rfl, rfl, u2⟩ := open_stamp (hval 2 23 v2 rfl rfl) h2
  have k3 := h3
  obtain ⟨b3, len3, cap3, rfl⟩ := okWide_slice Tryd.underlying51 (hval 3 51 v3 rfl rfl)
  obtain ⟨fuel3, g3⟩ := h3
  obtain ⟨xs3, ao3, c3, hv3, r3⟩ := open_introw g3
  have k4 := h4
  obtain ⟨b4, len4, cap4, rfl⟩ := okWide_slice Tryd.underlying52 (hval 4 52 v4 rfl rfl)
  obtain ⟨fuel4, g4⟩ := h4
  obtain ⟨xs4, ao4, c4, hv4, r4⟩ := open_boolrow g4
  have k5 := h5
  obtain ⟨b5, len5, cap5, rfl⟩ := okWide_slice Tryd.underlying52 (hval 5 52 v5 rfl rfl)
  obtain ⟨fuel5, g5⟩ := h5
  obtain ⟨xs5, ao5, c5, hv5, r5⟩ := open_boolrow g5
  refine Calls.mono (?walk : Calls _ _ _ _ fun e w' => e = .returned (.bool true) ∧ Below W.heap.size W w') fun e W' ⟨he, hw⟩ => ?_
  case walk =>
    rw [hv3]
    rw [hv4]
    rw [hv5]
    exact hlcRises_walk W a0 (by omega) (by omega) a1 (by omega) (by omega) x2 u2 ao3 c3 xs3 r3 ao4 c4 xs4 r4 ao5 c5 xs5 r5 hT
  subst he
  exact ⟨_, rfl, post_of_below (pa := [] ++ ([] ++ ([] ++ (p3 ++ (p4 ++ p5))))) (pv := []) hW' (fun _ _ _ => trodAll_mk1 (shut_bool Tryd.underlying4 _)) (fun sp hsp => trodAll_mk6 (WideElems.Trod_stays laidOutP (by kernel_rfl) (of_decide_eq_true (by kernel_rfl)) k0 (fun x hx => hw.same (hlt x (nomatch hx))) (fun x hx => hsp x (nomatch hx))) (WideElems.Trod_stays laidOutP (by kernel_rfl) (of_decide_eq_true (by kernel_rfl)) k1 (fun x hx => hw.same (hlt x (nomatch hx))) (fun x hx => hsp x (nomatch hx))) (WideElems.Trod_stays laidOutP (by kernel_rfl) (of_decide_eq_true (by kernel_rfl)) k2 (fun x hx => hw.same (hlt x (nomatch hx))) (fun x hx => hsp x (nomatch hx))) (WideElems.Trod_stays laidOutP (by kernel_rfl) (of_decide_eq_true (by kernel_rfl)) k3 (fun x hx => hw.same (hlt x (by simp [hx]))) (fun x hx => hsp x (by simp [hx]))) (WideElems.Trod_stays laidOutP (by kernel_rfl) (of_decide_eq_true (by kernel_rfl)) k4 (fun x hx => hw.same (hlt x (by simp [hx]))) (fun x hx => hsp x (by simp [hx]))) (WideElems.Trod_stays laidOutP (by kernel_rfl) (of_decide_eq_true (by kernel_rfl)) k5 (fun x hx => hw.same (hlt x (by simp [hx]))) (fun x hx => hsp x (by simp [hx])))) (fun _ _ => rfl) (by simp) hw (ok_one (by kernel_rfl) rfl (okWide_bool_mk Tryd.underlying4 _))⟩
theorem hlcRises_holds : Rows.HlcRisesSaid :=
  OpenClaim.holds_of_wide 6 Tryd.f6 rfl rfl rfl rfl rfl rfl rfl ⟨rfl, rfl, rfl, rfl, rfl⟩ rfl rfl rfl rfl rfl (by kernel_rfl) Tryd.func6 (by kernel_rfl)
    (of_decide_eq_true (by kernel_rfl)) (by unfold Func.isWrapper; first | (rw [if_pos (by decide +kernel)]; kernel_rfl) | (rw [if_neg (by decide +kernel)]; exact ⟨rfl, rfl⟩))
    (fun os started H enc _ => hlcRises_lifted os started H enc)
/-- THE TIED CARD. -/
theorem hlcRises_card : Rows.HlcRisesCardSaid :=
  Claim7.holds_tied_plain_at .later [] [.data, .data, .data] true (true, "55d94c96041e578d324afd5bc41b6edf1ded3878fc07ea6770ba733d434b73f6") true
    hlcRises_holds (fun _ h => by cases h) (by kernel_rfl) (fun _ h => by cases h) hlcRises_row_tie rfl ⟨rfl, rfl⟩ (by kernel_rfl) rfl
    (fun f fn hf hfn => by
      obtain rfl : f = 6 := Option.some.inj ((show Tryd.prog.funcNamed "headrace/racelaw8.HlcRises" = some 6 by kernel_rfl).symm.trans hf) |>.symm
      obtain rfl : fn = Tryd.f6 := (Option.some.inj (Tryd.func6.symm.trans hfn)).symm
      exact ⟨by kernel_rfl, fun j t ht => by
        rw [Tryd.params6] at ht
        have hm : t ∈ [3, 3, 23, 51, 52, 52] := by simpa using Array.mem_of_getElem? ht
        have hall : ([3, 3, 23, 51, 52, 52].all fun u => !Tryd.prog.wantsStandIn u) = true := by kernel_rfl
        exact (show Tryd.prog.wantsStandIn t = false by simpa using List.all_eq_true.1 hall t hm)⟩)
    (by kernel_rfl)
#print axioms hlcRises_card
end Go.Proofs.YtmpokhjchbaleaaDoor
