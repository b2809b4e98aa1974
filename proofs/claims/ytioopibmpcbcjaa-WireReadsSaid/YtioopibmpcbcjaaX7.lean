/- racelaw2.asks: one read of both readers, the answer the same; what they tell of it. Conditions: each reader's own bytes. -/
import Derived.Test.YtioopibmpcbcjaaX6
import Derived.Test.YtioopibmpcbcjaaV
namespace Go.Proofs.Ytioopibmpcbcjaa
open Go.RowKit
/-- wire's reader and the document's, each with bytes of its own. -/
structure Two (K L : Nat → Prop) (w : World) (p q : Nat) (v u : Value) (s x : Rst) : Prop where
  a : Rd 71 K w p v s
  b : Rd 41 L w q u x
  ne : p ≠ q
  ka : ∀ k, K k → k ≠ q
  kb : ∀ k, L k → k ≠ p
def foot2 (p q : Nat) : Nat → Prop := fun k => k = p ∨ k = q
section
variable {K L : Nat → Prop} {w w' w0 : World} {p q : Nat} {v u : Value} {s s' x x' : Rst}
theorem Two.ga (h : Two K L w p q v u s x) (ha : Rd 71 K w' p v s') (hf : Fr (fun k => k = p) w w') : Two K L w' p q v u s' x :=
  ⟨ha, h.b.fr hf (fun e => h.ne e.symm) (fun k hk e => h.kb k hk e), h.ne, h.ka, h.kb⟩
theorem Two.gb (h : Two K L w p q v u s x) (hb : Rd 41 L w' q u x') (hf : Fr (fun k => k = q) w w') : Two K L w' p q v u s x' :=
  ⟨h.a.fr hf h.ne (fun k hk e => h.ka k hk e), hb, h.ne, h.ka, h.kb⟩
theorem Two.fr {S : Nat → Prop} (h : Two K L w p q v u s x) (hf : Fr S w w') (hp : ¬ S p) (hq : ¬ S q) (hK : ∀ k, K k → ¬ S k) (hL : ∀ k, L k → ¬ S k) : Two K L w' p q v u s x :=
  ⟨h.a.fr hf hp hK, h.b.fr hf hq hL, h.ne, h.ka, h.kb⟩
theorem Two.drew (h : Two K L w p q v u s x) : Two K L w.drew p q v u s x := ⟨h.a.drew, h.b.drew, h.ne, h.ka, h.kb⟩
theorem Two.drewN (h : Two K L w p q v u s x) (n : Nat) : Two K L (w.drewN n) p q v u s x := ⟨h.a.drewN n, h.b.drewN n, h.ne, h.ka, h.kb⟩
theorem Two.alloc (h : Two K L w p q v u s x) (o : Obj) : Two K L (w.alloc o) p q v u s x := h.fr (fr_alloc w o) id id (fun _ _ => id) (fun _ _ => id)
theorem f2a (h : Fr (foot2 p q) w0 w) (hf : Fr (fun k => k = p) w w') : Fr (foot2 p q) w0 w' := h.trans hf (fun _ _ e => .inl e)
theorem f2b (h : Fr (foot2 p q) w0 w) (hf : Fr (fun k => k = q) w w') : Fr (foot2 p q) w0 w' := h.trans hf (fun _ _ e => .inr e)
end
def errOf (n : Int) : Int := n
/-- The states behind a read. -/
def askA (t : It) (s : Rst) : Rst :=
  if t.k = 0 then (rInt s).2 else if t.k = 1 then (rFlag s).2 else if t.k = 2 then (rFloat s).2 else if t.k = 3 then (rText t.n s).2 else if t.k = 4 then (rSz t.n 3 s).2 else if t.k = 5 then (rSz t.n 4 s).2 else if t.k = 6 then failR t.n s else s
def askB (t : It) (x : Rst) : Rst :=
  if t.k = 0 then (rInt x).2 else if t.k = 1 then (rFlag x).2 else if t.k = 2 then (rFloat x).2 else if t.k = 3 then (rText t.n x).2 else if t.k = 4 then (rSz t.n 3 x).2 else if t.k = 5 then (rSz t.n 4 x).2 else if t.k = 6 then stopR t.n x.pl x else x
theorem Like.ask {s x : Rst} (h : Like s x) (t : It) : Like (askA t s) (askB t x) := by
  unfold askA askB
  split
  · exact h.int.2
  · split
    · exact h.flag.2
    · split
      · exact h.float.2
      · split
        · exact (h.text _).2
        · split
          · exact (h.size _ (by decide)).2
          · split
            · exact (h.size _ (by decide)).2
            · split
              · exact h.fail _
              · exact h
def AskDone (K L : Nat → Prop) (w : World) (p q : Nat) (v u : Value) (s x : Rst) (t : It) : Prop :=
  Calls Try.prog 20 #[.pointer (some ⟨p, 0, none⟩), .pointer (some ⟨q, 0, none⟩), .agg #[.int .i64 t.k, .int .i64 t.n, .bool t.b, .float .f64 t.x, .string ⟨t.s.toArray⟩]] w fun e w' => e = .returned (.bool true) ∧ Two K L w' p q v u (askA t s) (askB t x) ∧ Fr (foot2 p q) w w'
section
variable {K L : Nat → Prop} {w : World} {p q : Nat} {v u : Value} {s x : Rst}
theorem ask0 (h : Two K L w p q v u s x) (hl : Like s x) (t : It) (hk : t.k = 0) : AskDone K L w p q v u s x t := by
  have ha : askA t s = (rInt s).2 := by unfold askA; rw [if_pos hk]
  have hb : askB t x = (rInt x).2 := by unfold askB; rw [if_pos hk]
  unfold AskDone
  rw [ha, hb]
  obtain ⟨k, n, b, y, ss⟩ := t
  simp only at hk ha hb
  subst hk
  simp only
  have HE := Lib.hid hl.int.1
  have hlt := h.a.lt
  have hlq := h.b.lt
  have HT := fun o => Lib.hid (h.alloc o)
  have HF := fun o => Lib.hid (fr_alloc w o)
  clear h hl ha hb
  have HX : Hid (((rInt x).1 == (rInt s).1) = true ∧ ((rInt s).1 == (rInt x).1) = true) := by rw [HE.out]; exact ⟨by simp, by simp⟩
  go_enter Try.func20, Try.ntmps20
  go_wp2_with (first
    | (go_at_call 26; refine (int_any (HT _).out.a).mono ?_; rintro e w1 ⟨rfl, h1, f1⟩; have HT1 := Lib.hid ((HT _).out.ga h1 f1); have HF1 := Lib.hid (f2a (q := q) ((HF _).out.mono (fun _ _ h => h.elim)) f1); clear h1 f1)
    | (go_at_call 44; refine (rint_any HT1.out.b).mono ?_; rintro e w2 ⟨rfl, h1, f1⟩; have HT2 := Lib.hid (HT1.out.gb h1 f1); have HF2 := Lib.hid (f2b HF1.out f1); clear h1 f1))
  go_ret
  exact ⟨congrArg (fun b => Ending.returned (.bool b)) HX.out.2, HT2.out, HF2.out⟩
theorem ask1 (h : Two K L w p q v u s x) (hl : Like s x) (t : It) (hk : t.k = 1) : AskDone K L w p q v u s x t := by
  have ha : askA t s = (rFlag s).2 := by unfold askA; rw [if_neg (by omega)]; rw [if_pos hk]
  have hb : askB t x = (rFlag x).2 := by unfold askB; rw [if_neg (by omega)]; rw [if_pos hk]
  unfold AskDone
  rw [ha, hb]
  obtain ⟨k, n, b, y, ss⟩ := t
  simp only at hk ha hb
  subst hk
  simp only
  have HE := Lib.hid hl.flag.1
  have hlt := h.a.lt
  have hlq := h.b.lt
  have HT := fun o => Lib.hid (h.alloc o)
  have HF := fun o => Lib.hid (fr_alloc w o)
  clear h hl ha hb
  have HX : Hid (((rFlag x).1 == (rFlag s).1) = true ∧ ((rFlag s).1 == (rFlag x).1) = true) := by rw [HE.out]; exact ⟨by simp, by simp⟩
  go_enter Try.func20, Try.ntmps20
  go_wp2_with (first
    | (go_at_call 27; refine (flag_any (HT _).out.a).mono ?_; rintro e w1 ⟨rfl, h1, f1⟩; have HT1 := Lib.hid ((HT _).out.ga h1 f1); have HF1 := Lib.hid (f2a (q := q) ((HF _).out.mono (fun _ _ h => h.elim)) f1); clear h1 f1)
    | (go_at_call 45; refine (rflag_any HT1.out.b).mono ?_; rintro e w2 ⟨rfl, h1, f1⟩; have HT2 := Lib.hid (HT1.out.gb h1 f1); have HF2 := Lib.hid (f2b HF1.out f1); clear h1 f1))
  go_ret
  exact ⟨congrArg (fun b => Ending.returned (.bool b)) HX.out.2, HT2.out, HF2.out⟩
theorem ask2 (h : Two K L w p q v u s x) (hl : Like s x) (t : It) (hk : t.k = 2) : AskDone K L w p q v u s x t := by
  have ha : askA t s = (rFloat s).2 := by unfold askA; rw [if_neg (by omega)]; rw [if_neg (by omega)]; rw [if_pos hk]
  have hb : askB t x = (rFloat x).2 := by unfold askB; rw [if_neg (by omega)]; rw [if_neg (by omega)]; rw [if_pos hk]
  unfold AskDone
  rw [ha, hb]
  obtain ⟨k, n, b, y, ss⟩ := t
  simp only at hk ha hb
  subst hk
  simp only
  have HE := Lib.hid hl.float.1
  have hlt := h.a.lt
  have hlq := h.b.lt
  have HT := fun o => Lib.hid (h.alloc o)
  have HF := fun o => Lib.hid (fr_alloc w o)
  clear h hl ha hb
  have HX : Hid (((rFloat x).1 == (rFloat s).1) = true ∧ ((rFloat s).1 == (rFloat x).1) = true) := by rw [HE.out]; exact ⟨by simp, by simp⟩
  go_enter Try.func20, Try.ntmps20
  go_wp2_with (first
    | (go_at_call 28; refine (float_any (HT _).out.a).mono ?_; rintro e w1 ⟨rfl, h1, f1⟩; have HT1 := Lib.hid ((HT _).out.ga h1 f1); have HF1 := Lib.hid (f2a (q := q) ((HF _).out.mono (fun _ _ h => h.elim)) f1); clear h1 f1)
    | (go_at_call 46; refine (rfloat_any HT1.out.b).mono ?_; rintro e w2 ⟨rfl, h1, f1⟩; have HT2 := Lib.hid (HT1.out.gb h1 f1); have HF2 := Lib.hid (f2b HF1.out f1); clear h1 f1)
    | (go_at_call 34; refine (bitsame_any _ _ _).mono ?_; rintro e w3 ⟨rfl, rfl⟩))
  go_ret
  exact ⟨congrArg (fun b => Ending.returned (.bool b)) HX.out.2, HT2.out, HF2.out⟩
set_option maxHeartbeats 4000000 in
theorem ask3 (h : Two K L w p q v u s x) (hl : Like s x) (t : It) (hk : t.k = 3) : AskDone K L w p q v u s x t := by
  have ha : askA t s = (rText t.n s).2 := by unfold askA; rw [if_neg (by omega)]; rw [if_neg (by omega)]; rw [if_neg (by omega)]; rw [if_pos hk]
  have hb : askB t x = (rText t.n x).2 := by unfold askB; rw [if_neg (by omega)]; rw [if_neg (by omega)]; rw [if_neg (by omega)]; rw [if_pos hk]
  unfold AskDone
  rw [ha, hb]
  obtain ⟨k, n, b, y, ss⟩ := t
  simp only at hk ha hb
  subst hk
  simp only
  have HE := Lib.hid (hl.text n).1
  have hlt := h.a.lt
  have hlq := h.b.lt
  have HT := fun o => Lib.hid (h.alloc o)
  have HF := fun o => Lib.hid (fr_alloc w o)
  clear h hl ha hb
  have HX : Hid (((rText n x).1 == (rText n s).1) = true ∧ ((rText n s).1 == (rText n x).1) = true) := by rw [HE.out]; exact ⟨by simp, by simp⟩
  go_enter Try.func20, Try.ntmps20
  go_wp2
  go_region_with (first
    | (go_at_call 29; refine (text_any (Two.drewN (HT _).out _).a n).mono ?_; rintro e w1 ⟨rfl, h1, f1⟩; have HT1 := Lib.hid ((Two.drewN (HT _).out _).ga h1 f1); have HF1 := Lib.hid (f2a (q := q) (((HF _).out.drewN _).mono (fun _ _ h => h.elim)) f1); have d1 := cell_in (o := 1) ((((Fr.refl (fun k => k = p) _).drewN _).same f1).heap (heap_alloc_new w _) (by omega)) rfl; clear h1 f1)
    | (go_at_call 47; refine (rtext_any HT1.out.b n).mono ?_; rintro e w2 ⟨rfl, h1, f1⟩; have HT2 := Lib.hid (HT1.out.gb h1 f1); have HF2 := Lib.hid (f2b HF1.out f1); clear h1 f1))
  all_goals go_wp2
  all_goals go_ret
  all_goals exact ⟨congrArg (fun b => Ending.returned (.bool b)) HX.out.2, HT2.out, HF2.out⟩
set_option maxHeartbeats 4000000 in
theorem ask4 (h : Two K L w p q v u s x) (hl : Like s x) (t : It) (hk : t.k = 4) : AskDone K L w p q v u s x t := by
  have ha : askA t s = (rSz t.n 3 s).2 := by unfold askA; rw [if_neg (by omega)]; rw [if_neg (by omega)]; rw [if_neg (by omega)]; rw [if_neg (by omega)]; rw [if_pos hk]
  have hb : askB t x = (rSz t.n 3 x).2 := by unfold askB; rw [if_neg (by omega)]; rw [if_neg (by omega)]; rw [if_neg (by omega)]; rw [if_neg (by omega)]; rw [if_pos hk]
  unfold AskDone
  rw [ha, hb]
  obtain ⟨k, n, b, y, ss⟩ := t
  simp only at hk ha hb
  subst hk
  simp only
  have HE := Lib.hid (hl.size n (e := 3) (by decide)).1
  have hlt := h.a.lt
  have hlq := h.b.lt
  have HT := fun o => Lib.hid (h.alloc o)
  have HF := fun o => Lib.hid (fr_alloc w o)
  clear h hl ha hb
  have HX : Hid (((rSz n 3 x).1 == (rSz n 3 s).1) = true ∧ ((rSz n 3 s).1 == (rSz n 3 x).1) = true) := by rw [HE.out]; exact ⟨by simp, by simp⟩
  go_enter Try.func20, Try.ntmps20
  go_wp2
  go_region_with (first
    | (go_at_call 31; refine (count_any (Two.drewN (HT _).out _).a n).mono ?_; rintro e w1 ⟨rfl, h1, f1⟩; have HT1 := Lib.hid ((Two.drewN (HT _).out _).ga h1 f1); have HF1 := Lib.hid (f2a (q := q) (((HF _).out.drewN _).mono (fun _ _ h => h.elim)) f1); have d1 := cell_in (o := 1) ((((Fr.refl (fun k => k = p) _).drewN _).same f1).heap (heap_alloc_new w _) (by omega)) rfl; clear h1 f1)
    | (go_at_call 48; refine (rcount_any HT1.out.b n).mono ?_; rintro e w2 ⟨rfl, h1, f1⟩; have HT2 := Lib.hid (HT1.out.gb h1 f1); have HF2 := Lib.hid (f2b HF1.out f1); clear h1 f1))
  all_goals go_wp2
  all_goals go_ret
  all_goals exact ⟨congrArg (fun b => Ending.returned (.bool b)) HX.out.2, HT2.out, HF2.out⟩
set_option maxHeartbeats 4000000 in
theorem ask5 (h : Two K L w p q v u s x) (hl : Like s x) (t : It) (hk : t.k = 5) : AskDone K L w p q v u s x t := by
  have ha : askA t s = (rSz t.n 4 s).2 := by unfold askA; rw [if_neg (by omega)]; rw [if_neg (by omega)]; rw [if_neg (by omega)]; rw [if_neg (by omega)]; rw [if_neg (by omega)]; rw [if_pos hk]
  have hb : askB t x = (rSz t.n 4 x).2 := by unfold askB; rw [if_neg (by omega)]; rw [if_neg (by omega)]; rw [if_neg (by omega)]; rw [if_neg (by omega)]; rw [if_neg (by omega)]; rw [if_pos hk]
  unfold AskDone
  rw [ha, hb]
  obtain ⟨k, n, b, y, ss⟩ := t
  simp only at hk ha hb
  subst hk
  simp only
  have HE := Lib.hid (hl.size n (e := 4) (by decide)).1
  have hlt := h.a.lt
  have hlq := h.b.lt
  have HT := fun o => Lib.hid (h.alloc o)
  have HF := fun o => Lib.hid (fr_alloc w o)
  clear h hl ha hb
  have HX : Hid (((rSz n 4 x).1 == (rSz n 4 s).1) = true ∧ ((rSz n 4 s).1 == (rSz n 4 x).1) = true) := by rw [HE.out]; exact ⟨by simp, by simp⟩
  go_enter Try.func20, Try.ntmps20
  go_wp2
  go_region_with (first
    | (go_at_call 32; refine (choice_any (Two.drewN (HT _).out _).a n).mono ?_; rintro e w1 ⟨rfl, h1, f1⟩; have HT1 := Lib.hid ((Two.drewN (HT _).out _).ga h1 f1); have HF1 := Lib.hid (f2a (q := q) (((HF _).out.drewN _).mono (fun _ _ h => h.elim)) f1); have d1 := cell_in (o := 1) ((((Fr.refl (fun k => k = p) _).drewN _).same f1).heap (heap_alloc_new w _) (by omega)) rfl; clear h1 f1)
    | (go_at_call 49; refine (rchoice_any HT1.out.b n).mono ?_; rintro e w2 ⟨rfl, h1, f1⟩; have HT2 := Lib.hid (HT1.out.gb h1 f1); have HF2 := Lib.hid (f2b HF1.out f1); clear h1 f1))
  all_goals go_wp2
  all_goals go_ret
  all_goals exact ⟨congrArg (fun b => Ending.returned (.bool b)) HX.out.2, HT2.out, HF2.out⟩
theorem ask6 (h : Two K L w p q v u s x) (hl : Like s x) (t : It) (hk : t.k = 6) : AskDone K L w p q v u s x t := by
  have ha : askA t s = failR t.n s := by unfold askA; rw [if_neg (by omega)]; rw [if_neg (by omega)]; rw [if_neg (by omega)]; rw [if_neg (by omega)]; rw [if_neg (by omega)]; rw [if_neg (by omega)]; rw [if_pos hk]
  have hb : askB t x = stopR t.n x.pl x := by unfold askB; rw [if_neg (by omega)]; rw [if_neg (by omega)]; rw [if_neg (by omega)]; rw [if_neg (by omega)]; rw [if_neg (by omega)]; rw [if_neg (by omega)]; rw [if_pos hk]
  unfold AskDone
  rw [ha, hb]
  obtain ⟨k, n, b, y, ss⟩ := t
  simp only at hk ha hb
  subst hk
  simp only
  have HE := Lib.hid hl
  have hlt := h.a.lt
  have hlq := h.b.lt
  have HT := fun o => Lib.hid (h.alloc o)
  have HF := fun o => Lib.hid (fr_alloc w o)
  clear h hl ha hb
  go_enter Try.func20, Try.ntmps20
  go_wp2_with (first
    | (go_at_call 30; refine (fail_any (HT _).out.a n).mono ?_; rintro e w1 ⟨rfl, h1, f1⟩; have HT1 := Lib.hid ((HT _).out.ga h1 f1); have HF1 := Lib.hid (f2a (q := q) ((HF _).out.mono (fun _ _ h => h.elim)) f1); clear h1 f1)
    | (go_at_call 50; refine (rfail_any HT1.out.b n).mono ?_; rintro e w2 ⟨rfl, h1, f1⟩; have HT2 := Lib.hid (HT1.out.gb h1 f1); have HF2 := Lib.hid (f2b HF1.out f1); clear h1 f1))
  go_ret
  exact ⟨rfl, HT2.out, HF2.out⟩
theorem ask_no (h : Two K L w p q v u s x) (t : It) (hk : t.k ≠ 0 ∧ t.k ≠ 1 ∧ t.k ≠ 2 ∧ t.k ≠ 3 ∧ t.k ≠ 4 ∧ t.k ≠ 5 ∧ t.k ≠ 6) : AskDone K L w p q v u s x t := by
  obtain ⟨h0, h1, h2, h3, h4, h5, h6⟩ := hk
  have ha : askA t s = s := by unfold askA; rw [if_neg h0, if_neg h1, if_neg h2, if_neg h3, if_neg h4, if_neg h5, if_neg h6]
  have hb : askB t x = x := by unfold askB; rw [if_neg h0, if_neg h1, if_neg h2, if_neg h3, if_neg h4, if_neg h5, if_neg h6]
  unfold AskDone
  rw [ha, hb]
  obtain ⟨k, n, b, y, ss⟩ := t
  simp only at h0 h1 h2 h3 h4 h5 h6
  have b0 : (k == 0) = false := by rw [beq_eq_false_iff_ne]; exact h0
  have b1 : (k == 1) = false := by rw [beq_eq_false_iff_ne]; exact h1
  have b2 : (k == 2) = false := by rw [beq_eq_false_iff_ne]; exact h2
  have b3 : (k == 3) = false := by rw [beq_eq_false_iff_ne]; exact h3
  have b4 : (k == 4) = false := by rw [beq_eq_false_iff_ne]; exact h4
  have b5 : (k == 5) = false := by rw [beq_eq_false_iff_ne]; exact h5
  have b6 : (k == 6) = false := by rw [beq_eq_false_iff_ne]; exact h6
  have H := Lib.hid h
  clear h ha hb h0 h1 h2 h3 h4 h5 h6
  go_enter Try.func20, Try.ntmps20
  go_wp2
  go_ret
  exact ⟨rfl, H.out.alloc _, (fr_alloc w _).mono (fun _ _ h => h.elim)⟩
theorem ask_any (h : Two K L w p q v u s x) (hl : Like s x) (t : It) : AskDone K L w p q v u s x t := by
  by_cases h0 : t.k = 0
  · exact ask0 h hl t h0
  by_cases h1 : t.k = 1
  · exact ask1 h hl t h1
  by_cases h2 : t.k = 2
  · exact ask2 h hl t h2
  by_cases h3 : t.k = 3
  · exact ask3 h hl t h3
  by_cases h4 : t.k = 4
  · exact ask4 h hl t h4
  by_cases h5 : t.k = 5
  · exact ask5 h hl t h5
  by_cases h6 : t.k = 6
  · exact ask6 h hl t h6
  exact ask_no h t ⟨h0, h1, h2, h3, h4, h5, h6⟩
end
end Go.Proofs.Ytioopibmpcbcjaa
