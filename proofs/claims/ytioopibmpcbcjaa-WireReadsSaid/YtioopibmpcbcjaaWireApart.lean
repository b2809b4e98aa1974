/- What two writers wrote, one behind the other, is what one writes of all: racelaw2.WireApart answers true and leaves its arguments as they were. Conditions: none. -/
import Derived.Test.YtioopibmpcbcjaaZ
import Derived.Test.YtioopibmpcbcjaaU
import Derived.Deep.Upon
namespace Go.Proofs.Ytioopibmpcbcjaa
open Go.ChangeShapes Go.WideShapes Go.ChangeAt Go.RowKit
/-- The block of a Writer is no Writer's row. -/
theorem Wr.cross {w : World} {p q : Nat} {u v : Value} {l m : List UInt8} (h : Wr w p u l) (k : Wr w q v m) : u.ownBlock ≠ some q := by
  intro e
  rcases h.own.2 with ⟨rfl, _⟩ | ⟨g, cap, cur, rfl, _, hg, _⟩
  · simp [Value.ownBlock] at e
  · simp [Value.ownBlock] at e
    subst e
    have := k.cell.symm.trans hg
    simp at this
def Sep (u v : Value) : Prop := ∀ k, u.ownBlock = some k → v.ownBlock ≠ some k
theorem Sep.symm {u v : Value} (h : Sep u v) : Sep v u := fun k hk e => h k e hk
def Lo (B : Nat) (v : Value) : Prop := ∀ k, v.ownBlock = some k → B ≤ k
/-- Three Writers from block B on, none of which shares a block with another. -/
def Tri (B : Nat) (w : World) (a b c : Nat) (la lb lc : List UInt8) : Prop :=
  ∃ v1 v2 v3, Wr w a v1 la ∧ Wr w b v2 lb ∧ Wr w c v3 lc ∧ (a ≠ b ∧ b ≠ c ∧ c ≠ a) ∧ (Sep v1 v2 ∧ Sep v2 v3 ∧ Sep v3 v1) ∧ (B ≤ a ∧ B ≤ b ∧ B ≤ c) ∧ (Lo B v1 ∧ Lo B v2 ∧ Lo B v3) ∧ B ≤ w.heap.size
section
variable {B : Nat} {w w' : World} {a b c : Nat} {la lb lc : List UInt8}
theorem Tri.rot (h : Tri B w a b c la lb lc) : Tri B w b c a lb lc la := by
  obtain ⟨v1, v2, v3, h1, h2, h3, ⟨n1, n2, n3⟩, ⟨s1, s2, s3⟩, ⟨b1, b2, b3⟩, ⟨l1, l2, l3⟩, hB⟩ := h
  exact ⟨v2, v3, v1, h2, h3, h1, ⟨n2, n3, n1⟩, ⟨s2, s3, s1⟩, ⟨b2, b3, b1⟩, ⟨l2, l3, l1⟩, hB⟩
theorem Tri.put (h : Tri B w a b c la lb lc) (t : It) (ht : t.wf) (hroom : la.length + 10 + t.s.length ≤ 140737488355328) :
    Calls Try.prog 14 #[.pointer (some ⟨a, 0, none⟩), .agg #[.int .i64 t.k, .int .i64 t.n, .bool t.b, .float .f64 t.x, .string ⟨t.s.toArray⟩]] w fun e w' => e = .returned (.tuple #[]) ∧ Tri B w' a b c (la ++ itB t) lb lc ∧ Below B w w' := by
  obtain ⟨v1, v2, v3, h1, h2, h3, ⟨n1, n2, n3⟩, ⟨s1, s2, s3⟩, ⟨b1, b2, b3⟩, ⟨l1, l2, l3⟩, hB⟩ := h
  refine (put_any h1 t ht hroom).mono fun e w' ⟨he, v', hw', hf, hm⟩ => ⟨he, ⟨v', v2, v3, hw', ?_, ?_, ⟨n1, n2, n3⟩, ⟨?_, s2, ?_⟩, ⟨b1, b2, b3⟩, ⟨?_, l2, l3⟩, Nat.le_trans hB hf.size⟩, ?_⟩
  · refine h2.fr hf (fun h => ?_) (fun k hk h => ?_)
    · rcases h with h | h
      · exact n1 h.symm
      · exact h1.cross h2 h
    · rcases h with h | h
      · subst h; exact h2.cross h1 hk
      · exact s1 k h hk
  · refine h3.fr hf (fun h => ?_) (fun k hk h => ?_)
    · rcases h with h | h
      · exact n3 h
      · exact h1.cross h3 h
    · rcases h with h | h
      · subst h; exact h3.cross h1 hk
      · exact s3 k hk h
  · intro k hk e
    rcases hm with hm | hm
    · exact s1 k (by rw [← hm]; exact hk) e
    · have := hm k hk
      have := (h2.own.lt k e).2
      omega
  · intro k hk e
    rcases hm with hm | hm
    · exact s3 k hk (by rw [← hm]; exact e)
    · have := hm k e
      have := (h3.own.lt k hk).2
      omega
  · intro k hk
    rcases hm with hm | hm
    · exact l1 k (by rw [← hm]; exact hk)
    · have := hm k hk; omega
  · exact hf.below (fun i hi => by rcases hi with hi | hi; · omega
                                   · exact l1 i hi) hB
theorem Tri.keep (h : Tri B w a b c la lb lc) (hb : Below w.heap.size w w') : Tri B w' a b c la lb lc := by
  obtain ⟨v1, v2, v3, h1, h2, h3, n, s, b, l, hB⟩ := h
  have hf := Fr.of_below hb (S := fun k => w.heap.size ≤ k) (fun _ _ h => h)
  have go : ∀ {p v l}, Wr w p v l → Wr w' p v l := fun {p v l} hw => hw.fr hf (by have := hw.lt; omega) (fun k hk => by have := (hw.own.lt k hk).2; omega)
  exact ⟨v1, v2, v3, go h1, go h2, go h3, n, s, b, l, Nat.le_trans hB hb.size⟩
theorem Tri.bytes (h : Tri B w a b c la lb lc) (hroom : la.length ≤ 140737488355328) :
    Calls Try.prog 16 #[.pointer (some ⟨a, 0, none⟩)] w fun e w' => ∃ v', e = .returned v' ∧ w'.ownsRow w.heap.size 5 1 v' la.length (bys la) ∧ Below w.heap.size w w' := by
  obtain ⟨v1, v2, v3, h1, _⟩ := h
  exact (wbytes_any h1 hroom).mono fun e w' ⟨v', he, ho, hf⟩ => ⟨v', he, ho, hf.below (fun _ h => h.elim) (Nat.le_refl _)⟩
theorem Tri.new {w1 w2 w3 : World} (ha : Wr w1 a (.slice none 0 0) []) (hb : Wr w2 b (.slice none 0 0) []) (hc : Wr w3 c (.slice none 0 0) []) (f1 : Below w1.heap.size w1 w2) (f2 : Below w2.heap.size w2 w3) (h1 : B ≤ a) (h2 : w1.heap.size ≤ b) (h3 : w2.heap.size ≤ c) : Tri B w3 a b c [] [] [] := by
  have la := ha.lt
  have lb := hb.lt
  have no : ∀ k, (Value.slice none 0 0).ownBlock ≠ some k := fun k e => by simp [Value.ownBlock] at e
  have s1 := f1.size
  have s2 := f2.size
  refine ⟨_, _, _, ha.fr (S := fun k => w1.heap.size ≤ k) (Fr.of_below (f1.trans (f2.mono s1)) (fun _ _ h => h)) (by omega) (fun k hk => absurd hk (no k)), hb.fr (S := fun k => w2.heap.size ≤ k) (Fr.of_below f2 (fun _ _ h => h)) (by omega) (fun k hk => absurd hk (no k)), hc,
    ⟨by omega, by omega, by omega⟩, ⟨fun k hk => absurd hk (no k), fun k hk => absurd hk (no k), fun k hk => absurd hk (no k)⟩, ⟨h1, by omega, by omega⟩, ⟨fun k hk => absurd hk (no k), fun k hk => absurd hk (no k), fun k hk => absurd hk (no k)⟩, by omega⟩
end
/-- append of a slice of bytes, whatever it is, onto a row of the call's own; the operation is wanted. -/
theorem wpList_append_has {ops : Array Oper} {rest : List Oper} {o : Oper} {a : Act} {w : World} {Q : Exit → Act → World → Prop} (hw : Region.wanted o (yielded ops a.tmps) = true) (s x : Operand)
    (ho : o.op = .call { callee := .builtin .append, args := #[s, x], argTypes := #[31, 31] })
    (i : TypeInfo) (hi : Try.prog.info? 5 = some i) (hz : i.zero = some (.int .u8 0)) (hs1 : i.size = 1) (hb1 : i.bytes = 1)
    (v : Value) (xs ys : List UInt8) (hs : a.eval s = v) (base : Nat) (hbase : base ≤ w.heap.size) (hown : w.ownsRow base 5 1 v xs.length (bys xs)) (ao : Option Addr) (c : Nat) (hx : a.eval x = .slice ao ys.length c) (K : Nat → Prop) (hh : HasB K w (.slice ao ys.length c) ys)
    (hroom : xs.length + ys.length ≤ 140737488355328)
    (h : ∀ v' w', w'.ownsRow base 5 1 v' (xs ++ ys).length (bys (xs ++ ys)) → w.grownBy w' v.ownBlock → wpList Try.prog ops Q rest (a.put o.dst v') w') : wpList Try.prog ops Q (o :: rest) a w := by
  have key : ∃ v' w', (Builtin.append_ #[31, 31] o.type #[v, .slice ao ys.length c]).run Try.prog w = .ok v' w' ∧ w'.ownsRow base 5 1 v' (xs ++ ys).length (bys (xs ++ ys)) ∧ w.grownBy w' v.ownBlock := by
    cases ao with
    | none =>
      obtain ⟨a1, c1, e1, _, _, h4, _⟩ := hh
      simp at e1
      obtain ⟨rfl, rfl⟩ := e1
      obtain ⟨rfl, rfl⟩ := h4 rfl
      obtain ⟨ao2, cap2, rfl⟩ := own_slice hown
      have hle : xs.length ≤ cap2 := by
        rcases hown.2 with ⟨e, _⟩ | ⟨g, cap, cur, e, _, _, hn, _⟩
        · simp at e; omega
        · simp at e; omega
      refine ⟨_, w, run_append_nothing (P := Try.prog) w 31 31 o.type 5 i under31 hi ao2 xs.length cap2 hle _ (Src.ofNil w under31 0), ?_, ⟨rfl, rfl, rfl, Nat.le_refl _, fun _ _ _ => rfl⟩⟩
      rw [List.append_nil]; exact hown
    | some ad =>
      obtain ⟨v', w', h1, h2, h3, _⟩ := run_append_own (P := Try.prog) w base 31 o.type 5 i (.int .u8 0) 1 1 under31 hi hz hs1 hb1 rfl (by decide) v xs.length (bys xs) hown ad ys.length c (bys ys) (by rw [bys_length, Nat.mul_one]) hh.news (bys_one ys) (by unfold maxLen; omega) (by omega) hbase
      exact ⟨v', w', h1, by rw [List.length_append, bys_append]; exact h2, h3⟩
  obtain ⟨v', w', hr, h2, h3⟩ := key
  refine wpList_step fun K hK => ?_
  rw [if_pos hw]
  unfold Oper.wp execOp
  simp only [ho, resolve, invoke, builtin, Sem.run_bind, Sem.run_pure, Result.andThen_ok, List.map_toArray, List.map_cons, List.map_nil, hs, hx, hr]
  exact hK _ _ (h v' w' h2 h3)
set_option maxRecDepth 100000 in
theorem wireApart_few (w : World) (ao : Option Addr) (cap : Nat) (l : List It) (hI : HasI w ao l) (hm : l.length ≤ 9223372036854775807) (hwf : ∀ t ∈ l, t.wf) (bo : Option Addr) (bcap : Nat) (m : List It) (hJ : HasI w bo m) (hm2 : m.length ≤ 9223372036854775807) (hwf2 : ∀ t ∈ m, t.wf)
    (hf : fewB l = false ∨ fewB l = true ∧ fewB m = false) :
    Calls Try.prog 9 #[.slice ao l.length cap, .slice bo m.length bcap] w fun e w' => e = .returned (.bool true) ∧ Below w.heap.size w w' := by
  have HB := Lib.hid (Below.refl w.heap.size w)
  have HI := Lib.hid hI
  have HJ := Lib.hid hJ
  have HWF := Lib.hid hwf
  have HWF2 := Lib.hid hwf2
  clear hI hJ hwf hwf2
  rcases hf with hf | ⟨hf, hf2⟩
  · go_enter Try.func9, Try.ntmps9
    go_wp2_with (first
      | (go_at_call 11; refine (first_any _).mono ?_; rintro e w1 ⟨rfl, hb1⟩; have HB := Lib.hid (HB.out.trans (hb1.mono HB.out.size)); clear hb1)
      | (go_at_call 12; refine (few_any ao cap l hm _ (HI.out.below HB.out) HWF.out).mono ?_; rw [hf]; rintro e w1 ⟨rfl, rfl⟩))
    go_ret
    exact ⟨rfl, HB.out⟩
  · go_enter Try.func9, Try.ntmps9
    go_wp2_with (first
      | (go_at_call 11; refine (first_any _).mono ?_; rintro e w1 ⟨rfl, hb1⟩; have HB := Lib.hid (HB.out.trans (hb1.mono HB.out.size)); clear hb1)
      | (go_at_call 12; ((with_reducible refine (few_any ao cap l hm _ (HI.out.below HB.out) HWF.out).mono ?_); rw [hf]; rintro e w1 ⟨rfl, rfl⟩))
      | (go_at_call 12; ((with_reducible refine (few_any bo bcap m hm2 _ (HJ.out.below HB.out) HWF2.out).mono ?_); rw [hf2]; rintro e w1 ⟨rfl, rfl⟩)))
    go_ret
    exact ⟨rfl, HB.out⟩
set_option maxHeartbeats 1600000 in
set_option maxRecDepth 100000 in
theorem wireApart_some (w : World) (ao : Option Addr) (cap : Nat) (l : List It) (hI : HasI w ao l) (hm : l.length ≤ 9223372036854775807) (hwf : ∀ t ∈ l, t.wf) (bo : Option Addr) (bcap : Nat) (m : List It) (hJ : HasI w bo m) (hm2 : m.length ≤ 9223372036854775807) (hwf2 : ∀ t ∈ m, t.wf)
    (hf : fewB l = true) (hf2 : fewB m = true) :
    Calls Try.prog 9 #[.slice ao l.length cap, .slice bo m.length bcap] w fun e w' => e = .returned (.bool true) ∧ Below w.heap.size w w' := by
  obtain ⟨i0, hi, hz0, hz1, hz2⟩ := info_parts info5
  have HB := Lib.hid (Below.refl w.heap.size w)
  have HI := Lib.hid hI
  have HJ := Lib.hid hJ
  have HWF := Lib.hid hwf
  have HWF2 := Lib.hid hwf2
  have hfl := few_flat hf hwf
  have hfm := few_flat hf2 hwf2
  have HWS : Hid (∀ t ∈ l, t.wf ∧ t.s.length ≤ 20000) := fun t ht => ⟨hwf t ht, few_text hf ht⟩
  have HWT : Hid (∀ t ∈ m, t.wf ∧ t.s.length ≤ 20000) := fun t ht => ⟨hwf2 t ht, few_text hf2 ht⟩
  clear hI hJ hwf hwf2
  go_enter Try.func9, Try.ntmps9
  go_wp2_with (first
    | (go_at_call 11; refine (first_any _).mono ?_; rintro e w1 ⟨rfl, hb1⟩; have HB := Lib.hid (HB.out.trans (hb1.mono HB.out.size)); clear hb1)
    | (go_at_call 12; ((with_reducible refine (few_any ao cap l hm _ (HI.out.below HB.out) HWF.out).mono ?_); rw [hf]; rintro e w1 ⟨rfl, rfl⟩))
    | (go_at_call 12; ((with_reducible refine (few_any bo bcap m hm2 _ (HJ.out.below HB.out) HWF2.out).mono ?_); rw [hf2]; rintro e w1 ⟨rfl, rfl⟩))
    | (go_at_call 13; have H2 := H2; refine (newWriter_any _).mono ?_; rintro e w3 ⟨pc, rfl, hp, h3, f3⟩; have HT := Lib.hid (Tri.new (B := w.heap.size) H1.out H2.out h3 F2.out (f3.below (fun _ h => h.elim) (Nat.le_refl _)) P1.out P2.out hp); have HB := Lib.hid (HB.out.trans (f3.below (B := w.heap.size) (fun _ h => h.elim) HB.out.size)); clear h3 f3 hp H1 H2)
    | (go_at_call 13; have H1 := H1; refine (newWriter_any _).mono ?_; rintro e w3 ⟨pb, rfl, hp, h3, f3⟩; have H2 := Lib.hid h3; have F2 := Lib.hid (f3.below (fun _ h => h.elim) (Nat.le_refl _)); have P2 := Lib.hid hp; have HB := Lib.hid (HB.out.trans (f3.below (B := w.heap.size) (fun _ h => h.elim) HB.out.size)); clear h3 f3 hp)
    | (go_at_call 13; refine (newWriter_any _).mono ?_; rintro e w3 ⟨pa, rfl, hp, h3, f3⟩; have H1 := Lib.hid h3; have P1 := Lib.hid (Nat.le_trans HB.out.size hp); have HB := Lib.hid (HB.out.trans (f3.below (B := w.heap.size) (fun _ h => h.elim) HB.out.size)); clear h3 f3 hp))
  go_loopw [8] (fun i wr => ∃ k : Nat, i = .int .i64 k ∧ k ≤ l.length ∧ Hid (Tri w.heap.size wr pa pb pc (flat (l.take k)) [] (flat (l.take k))) ∧ Hid (Below w.heap.size w wr)) (fun i _ => l.length - (intOf i).toNat)
  case atStart => exact ⟨0, rfl, Nat.zero_le _, HT, HB⟩
  case round =>
    obtain ⟨k, rfl, hk, HT, HB⟩ := hrel
    by_cases hlt : k < l.length
    · rcases HI.out with h0 | ⟨b, off, rfl, hbl, hcell⟩
      · rw [h0] at hlt; simp at hlt
      obtain ⟨i0, i1, i2, i3, i4⟩ := (hcell k hlt).block (HB.out.block b hbl)
      have HC := Lib.hid (fun w' (hb : Below w.heap.size w w') => (hcell k hlt).block (hb.block b hbl))
      have HFT := Lib.hid (flat_take hlt)
      have hle := flat_take_le l k
      obtain ⟨ht1, ht2⟩ := HWS.out (l.getD k default) (by rw [List.getD_eq_getElem?_getD, List.getElem?_eq_getElem hlt]; exact List.getElem_mem hlt)
      generalize l.getD k default = t at *
      generalize flat (l.take k) = A at *
      have HW := Lib.hid ht1
      clear hcell ht1
      go_wp2_with (first
        | (go_at_call 14; ((with_reducible refine (HT.out.put t HW.out (by omega)).mono ?_); rintro e w2 ⟨rfl, hx1, hb1⟩; have HT1 := Lib.hid hx1.rot.rot; have HB1 := Lib.hid (HB.out.trans hb1); have j := HC.out _ HB1.out; have j0 := j.c0; have j1 := j.c1; have j2 := j.c2; have j3 := j.c3; have j4 := j.c4; clear hx1 hb1 j))
        | (go_at_call 14; ((with_reducible refine (HT1.out.put t HW.out (by omega)).mono ?_); rintro e w3 ⟨rfl, hx1, hb1⟩; have HT2 := Lib.hid hx1.rot; have HB2 := Lib.hid (HB1.out.trans hb1); clear hx1 hb1)))
      exact ⟨⟨k + 1, by simp, by omega, by rw [HFT.out]; exact HT2, HB2⟩, by simp [intOf]; omega⟩
    · obtain rfl : k = l.length := by omega
      rw [List.take_length] at HT
      obtain ⟨F, hF⟩ : ∃ F, F = flat l := ⟨_, rfl⟩
      rw [← hF] at HT hfl
      clear hF
      go_wp2
      go_loopw [9] (fun i wr => ∃ k : Nat, i = .int .i64 k ∧ k ≤ m.length ∧ Hid (Tri w.heap.size wr pa pb pc F (flat (m.take k)) (F ++ flat (m.take k))) ∧ Hid (Below w.heap.size w wr)) (fun i _ => m.length - (intOf i).toNat)
      case atStart => exact ⟨0, rfl, Nat.zero_le _, by simpa [flat] using HT, HB⟩
      case round =>
        obtain ⟨k, rfl, hk, HT, HB⟩ := hrel
        by_cases hlt : k < m.length
        · rcases HJ.out with h0 | ⟨b, off, rfl, hbl, hcell⟩
          · rw [h0] at hlt; simp at hlt
          obtain ⟨i0, i1, i2, i3, i4⟩ := (hcell k hlt).block (HB.out.block b hbl)
          have HC := Lib.hid (fun w' (hb : Below w.heap.size w w') => (hcell k hlt).block (hb.block b hbl))
          have HFT := Lib.hid (flat_take hlt)
          have hle := flat_take_le m k
          obtain ⟨ht1, ht2⟩ := HWT.out (m.getD k default) (by rw [List.getD_eq_getElem?_getD, List.getElem?_eq_getElem hlt]; exact List.getElem_mem hlt)
          generalize m.getD k default = t at *
          generalize flat (m.take k) = A at *
          have HW := Lib.hid ht1
          have HT0 := Lib.hid HT.out.rot
          clear hcell ht1
          go_wp2_with (first
            | (go_at_call 14; ((with_reducible refine (HT0.out.put t HW.out (by omega)).mono ?_); rintro e w2 ⟨rfl, hx1, hb1⟩; have HT1 := Lib.hid hx1.rot; have HB1 := Lib.hid (HB.out.trans hb1); have j := HC.out _ HB1.out; have j0 := j.c0; have j1 := j.c1; have j2 := j.c2; have j3 := j.c3; have j4 := j.c4; clear hx1 hb1 j))
            | (go_at_call 14; ((with_reducible refine (HT1.out.put t HW.out (by rw [List.length_append]; omega)).mono ?_); rintro e w3 ⟨rfl, hx1, hb1⟩; have HT2 := Lib.hid hx1.rot; have HB2 := Lib.hid (HB1.out.trans hb1); clear hx1 hb1)))
          exact ⟨⟨k + 1, by simp, by omega, by rw [HFT.out, ← List.append_assoc]; exact HT2, HB2⟩, by simp [intOf]; omega⟩
        · obtain rfl : k = m.length := by omega
          rw [List.take_length] at HT
          obtain ⟨G, hG⟩ : ∃ G, G = flat m := ⟨_, rfl⟩
          rw [← hG] at HT hfm
          clear hG
          obtain ⟨C, hC⟩ : ∃ C, C = F ++ G := ⟨_, rfl⟩
          rw [← hC] at HT
          have hcl : C.length ≤ 48000 := by rw [hC, List.length_append]; omega
          have HCE := Lib.hid hC
          clear hC
          go_wp2_with (first
            | (go_at_call 11; refine (first_any _).mono ?_; rintro e w5 ⟨rfl, hb5⟩; have HT5 := Lib.hid (HT.out.keep hb5); have HBX := Lib.hid (Below.refl w5.heap.size w5); have HB := Lib.hid (HB.out.trans (hb5.mono HB.out.size)); clear hb5)
            | (go_at_call 16; ((with_reducible refine ((HT5.out.keep HBX.out).bytes (by omega)).mono ?_); rintro e w6 ⟨v6, rfl, ho, hb6⟩; obtain ⟨ao6, cap6, rfl⟩ := own_slice ho; have HOA := Lib.hid ho; have HBX := Lib.hid (HBX.out.trans (hb6.mono HBX.out.size)); clear ho hb6))
            | (go_at_call 16; ((with_reducible refine ((HT5.out.keep HBX.out).rot.bytes (by omega)).mono ?_); rintro e w7 ⟨v7, rfl, ho, hb7⟩; obtain ⟨ao7, cap7, rfl⟩ := own_slice ho; have HOB := Lib.hid (own_has ho); have HOA := Lib.hid ((Fr.of_below hb7 (S := fun k => w6.heap.size ≤ k) (fun _ _ h => h)).own HOA.out (fun k hk => by have := (HOA.out.lt k hk).2; omega)); have HBX := Lib.hid (HBX.out.trans (hb7.mono HBX.out.size)); clear ho hb7))
            | (at_builtin; refine wpList_append_has (by simp [Region.wanted, yielded]) (.tmp 73) (.tmp 75) rfl i0 hi hz0 hz1 hz2 (.slice ao6 F.length cap6) F G rfl w5.heap.size HBX.out.size HOA.out ao7 cap7 rfl _ HOB.out (by omega) ?_; intro v8 w8 hown hgrow; rw [← HCE.out] at hown; obtain ⟨ao8, cap8, rfl⟩ := own_slice hown; have HOD := Lib.hid hown; have HBX := Lib.hid (HBX.out.grown hgrow HBX.out.size (fun k hk => (HOA.out.lt k hk).1)); clear hown hgrow)
            | (go_at_call 16; ((with_reducible refine ((HT5.out.keep HBX.out).rot.rot.bytes (by omega)).mono ?_); rintro e w9 ⟨v9, rfl, ho, hb9⟩; obtain ⟨ao9, cap9, rfl⟩ := own_slice ho; have HOC := Lib.hid (own_has ho); have HOD := Lib.hid ((Fr.of_below hb9 (S := fun k => w8.heap.size ≤ k) (fun _ _ h => h)).own HOD.out (fun k hk => by have := (HOD.out.lt k hk).2; omega)); have HBX := Lib.hid (HBX.out.trans (hb9.mono HBX.out.size)); clear ho hb9))
            | (go_at_call 17; refine (same_any (own_has HOD.out) HOC.out).mono ?_; rintro e w10 ⟨rfl, hww⟩; obtain rfl := hww.symm))
          go_ret
          exact ⟨rfl, HB.out.trans (HBX.out.mono HB.out.size)⟩
theorem wireApart_walk (w : World) (ao : Option Addr) (cap : Nat) (l : List It) (hm : l.length ≤ cap) (hc : cap ≤ maxLen) (hI : HasI w ao l) (hwf : ∀ t ∈ l, t.wf) (bo : Option Addr) (bcap : Nat) (m : List It) (hm2 : m.length ≤ bcap) (hc2 : bcap ≤ maxLen) (hJ : HasI w bo m) (hwf2 : ∀ t ∈ m, t.wf) :
    Calls Try.prog 9 #[.slice ao l.length cap, .slice bo m.length bcap] w fun e w' => e = .returned (.bool true) ∧ Below w.heap.size w w' := by
  have hm' : l.length ≤ 9223372036854775807 := by unfold maxLen at hc; omega
  have hm2' : m.length ≤ 9223372036854775807 := by unfold maxLen at hc2; omega
  cases h2 : fewB l
  · exact wireApart_few w ao cap l hI hm' hwf bo bcap m hJ hm2' hwf2 (.inl h2)
  · cases h3 : fewB m
    · exact wireApart_few w ao cap l hI hm' hwf bo bcap m hJ hm2' hwf2 (.inr ⟨h2, h3⟩)
    · exact wireApart_some w ao cap l hI hm' hwf bo bcap m hJ hm2' hwf2 h2 h3

set_option maxRecDepth 100000 in
theorem wireApart_lifted (os : Os) (started : os.Started) (H : Type) (enc : TypeId × Value → H) :
    ReturnsInHanded {} Try.checked os 9 .any (Rows.wireApartSpec.pre6 enc Try.prog Try.f9 [] false) (Rows.wireApartSpec.post enc Try.prog Try.f9 false true false false) := by
  refine returnsInHanded_of_change (C := Try.checked) own started (by kernel_rfl) Try.func9
    (ChangeSpec.witness6 (enc := enc) (C := Try.checked) false ⟨#[], #[.slice none 0 0, .slice none 0 0], []⟩ 8 (by kernel_rfl) (by kernel_rfl) (by kernel_rfl) (by kernel_rfl)) ?_
  intro W base args ds gs before hval0 hW _ _
  have hval : ∀ (j : Nat) t v, Try.f9.params[j]? = some t → args[j]? = some v → Value.okWide Try.prog W .any base t v := hval0
  have hW' := hW
  obtain ⟨p, q, hA0, hV, rfl, hfz, hnd⟩ := hW
  have hA : DataW.TrodAll enc Try.prog W 0 (fun _ => true) true Try.f9.params.toList args.toList ds p := hA0
  rw [Try.params9] at hA hval
  obtain ⟨v0, v1, d0, d1, p0, p1, rfl, rfl, rfl, h0, h1⟩ := trodAll_two hA
  obtain ⟨b0, len0, cap0, rfl⟩ := okWide_slice Try.underlying22 (hval 0 22 v0 rfl rfl)
  have k0 := h0
  obtain ⟨fuel0, g0⟩ := h0
  obtain ⟨b1, len1, cap1, rfl⟩ := okWide_slice Try.underlying22 (hval 1 22 v1 rfl rfl)
  have k1 := h1
  obtain ⟨fuel1, g1⟩ := h1
  obtain ⟨rfl, rfl⟩ := trodVars_none hV
  clear hA0 hval0
  simp only [List.append_nil] at hW'
  have hlt : ∀ x ∈ p0 ++ p1, x.block < W.heap.size := fun x hx => hW'.lt x (by simpa using hx)
  obtain ⟨ao0, cp0, xs0, e0, m0, c0, r0, u0⟩ := open_items g0
  rw [e0] at k0 hW' ⊢
  obtain ⟨ao1, cp1, xs1, e1, m1, c1, r1, u1⟩ := open_items g1
  rw [e1] at k1 hW' ⊢
  refine Calls.mono (?walk : Calls _ _ _ _ fun e w' => e = .returned (.bool true) ∧ Below W.heap.size W w') fun e W' ⟨he, hw⟩ => ?_
  case walk =>
    exact wireApart_walk W ao0 cp0 xs0 m0 c0 r0 u0 ao1 cp1 xs1 m1 c1 r1 u1
  subst he
  exact ⟨_, rfl, post_of_below (pa := p0 ++ p1) (pv := []) hW' (fun _ _ _ => trodAll_mk1 (shut_bool Try.underlying4 _)) (fun sp hsp => trodAll_mk2 (WideElems.Trod_stays laidOut (by kernel_rfl) (of_decide_eq_true (by kernel_rfl)) k0 (fun x hx => hw.same (hlt x (by simp [hx]))) (fun x hx => hsp x (by simp [hx]))) (WideElems.Trod_stays laidOut (by kernel_rfl) (of_decide_eq_true (by kernel_rfl)) k1 (fun x hx => hw.same (hlt x (by simp [hx]))) (fun x hx => hsp x (by simp [hx])))) (fun _ _ => rfl) (by simp) hw (ok_one (by kernel_rfl) rfl (okWide_bool_mk Try.underlying4 _))⟩
/-- THE ROW. -/
theorem wireApart_holds : Rows.WireApartSaid :=
  OpenClaim.holds_of_wide 9 Try.f9 rfl rfl rfl rfl rfl rfl rfl ⟨rfl, rfl, rfl, rfl, rfl⟩ rfl rfl rfl rfl rfl (by kernel_rfl) Try.func9 (by kernel_rfl)
    (of_decide_eq_true (by kernel_rfl)) (by unfold Func.isWrapper; first | (rw [if_pos (by decide +kernel)]; kernel_rfl) | (rw [if_neg (by decide +kernel)]; exact ⟨rfl, rfl⟩))
    (fun os started H enc _ => wireApart_lifted os started H enc)
#print axioms wireApart_holds
end Go.Proofs.Ytioopibmpcbcjaa
