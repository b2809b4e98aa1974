/- raceref8.Parse: any text as a stamp. Conditions: texts of at most a million bytes. -/
import Derived.Test.YtmpokhjchbaleaaDoorP
import Derived.Test.YtmpokhjchbaleaaDoorG
namespace Go.Proofs.YtmpokhjchbaleaaDoor
open Go.RowKit
/-- Where the document's reading stands: three numbers, which of them, how many digits. -/
structure Rs where
  n0 : Nat
  n1 : Nat
  n2 : Nat
  k : Nat
  d : Nat
def Rs.get (r : Rs) : Nat := if r.k = 0 then r.n0 else if r.k = 1 then r.n1 else r.n2
def Rs.put (r : Rs) (v : Nat) : Rs := if r.k = 0 then { r with n0 := v, d := r.d + 1 } else if r.k = 1 then { r with n1 := v, d := r.d + 1 } else { r with n2 := v, d := r.d + 1 }
def stepR (r : Rs) (c : UInt8) : Option Rs :=
  if c = 46 ∧ 0 < r.d ∧ r.k < 2 then some { r with k := r.k + 1, d := 0 }
  else if isDig c = true ∧ r.d < 16 then some (r.put (10 * r.get + (c.toNat - 48))) else none
def scanF (o : Option Rs) (l : Nm) : Option Rs := l.foldl (fun o c => o.bind (stepR · c)) o
def scanR (l : Nm) : Option Rs := scanF (some ⟨0, 0, 0, 0, 0⟩) l
theorem scanF_none (l : Nm) : scanF none l = none := by
  induction l with
  | nil => rfl
  | cons c r ih => exact ih
theorem scanF_append (o : Option Rs) (a b : Nm) : scanF o (a ++ b) = scanF (scanF o a) b := by unfold scanF; rw [List.foldl_append]
theorem scan_take {l : Nm} {i : Nat} (h : i < l.length) : scanR (l.take (i + 1)) = (scanR (l.take i)).bind (stepR · l[i]) := by
  unfold scanR
  rw [List.take_succ_eq_append_getElem h, scanF_append]
  rfl
theorem scan_stop {l : Nm} {i : Nat} (h : scanR (l.take i) = none) : scanR l = none := by
  rw [← List.take_append_drop i l]
  unfold scanR at *
  rw [scanF_append, h, scanF_none]
/-- What the reading keeps to. -/
structure Inv (r : Rs) : Prop where
  k : r.k ≤ 2
  d : r.d ≤ 16
  get : r.get < 10 ^ r.d
  n0 : r.n0 < 10000000000000000
  n1 : r.n1 < 10000000000000000
  n2 : r.n2 < 10000000000000000
  z1 : r.k = 0 → r.n1 = 0 ∧ r.n2 = 0
  z2 : r.k = 1 → r.n2 = 0
theorem inv_zero : Inv ⟨0, 0, 0, 0, 0⟩ := ⟨by decide, by decide, by decide, by decide, by decide, by decide, fun _ => ⟨rfl, rfl⟩, fun _ => rfl⟩
theorem inv_dot {r : Rs} (h : Inv r) (hk : r.k < 2) : Inv { r with k := r.k + 1, d := 0 } := by
  obtain ⟨a, b, c, k, d⟩ := r
  refine ⟨by simp only; simp only at hk; omega, by simp only; omega, ?_, h.n0, h.n1, h.n2, by simp, ?_⟩
  · simp only at hk
    have h1 := h.z1
    have h2 := h.z2
    simp only at h1 h2
    unfold Rs.get
    simp only
    by_cases h0 : k = 0
    · subst h0; simp [(h1 rfl).1]
    · have : k = 1 := by omega
      subst this
      simp [h2 rfl]
  · intro e
    simp only at e
    exact (h.z1 (by simp only; omega)).2
theorem inv_put {r : Rs} (h : Inv r) (hd : r.d < 16) {x : Nat} (hx : x ≤ 9) : Inv (r.put (10 * r.get + x)) ∧ 10 * r.get + x < 10000000000000000 := by
  have hg := h.get
  have hp : 10 ^ (r.d + 1) = 10 * 10 ^ r.d := by rw [Nat.pow_succ]; omega
  have h16 : (10 : Nat) ^ (r.d + 1) ≤ 10 ^ 16 := Nat.pow_le_pow_right (by decide) (by omega)
  have e16 : (10 : Nat) ^ 16 = 10000000000000000 := by decide
  have hlt : 10 * r.get + x < 10000000000000000 := by omega
  have hlt2 : 10 * r.get + x < 10 ^ (r.d + 1) := by omega
  refine ⟨?_, hlt⟩
  generalize 10 * r.get + x = v at *
  obtain ⟨a, b, c, k, d⟩ := r
  have hk := h.k
  simp only at hk hd hlt2
  unfold Rs.put
  by_cases h0 : k = 0
  · subst h0
    exact ⟨by simp, by simp only [if_true]; omega, by simpa [Rs.get] using hlt2, by simpa using hlt, by simpa using h.n1, by simpa using h.n2, fun _ => by simpa using h.z1 rfl, fun e => by simp at e⟩
  · by_cases h1 : k = 1
    · subst h1
      exact ⟨by simp, by simp only [if_true, if_neg (show ¬ (1 : Nat) = 0 by decide)]; omega, by simpa [Rs.get] using hlt2, by simpa using h.n0, by simpa using hlt, by simpa using h.n2, fun e => by simp at e, fun _ => by simpa using h.z2 rfl⟩
    · have h2 : k = 2 := by omega
      subst h2
      exact ⟨by simp, by simp only [if_neg (show ¬ (2 : Nat) = 0 by decide), if_neg (show ¬ (2 : Nat) = 1 by decide)]; omega, by simpa [Rs.get] using hlt2, by simpa using h.n0, by simpa using h.n1, by simpa using hlt, fun e => by simp at e, fun e => by simp at e⟩
theorem isDig_46 : isDig 46 = false := by decide
/-- A row of digits, read. -/
theorem scan_digits : ∀ (l : Nm) (r : Rs), l.all isDig = true → r.d + l.length ≤ 16 → ∃ r', scanF (some r) l = some r' ∧ r'.k = r.k ∧ r'.d = r.d + l.length ∧ r'.get = l.foldl (fun n c => 10 * n + (c.toNat - 48)) r.get ∧ (r.k ≠ 0 → r'.n0 = r.n0) ∧ (r.k ≠ 1 → r'.n1 = r.n1) ∧ ((r.k = 0 ∨ r.k = 1) → r'.n2 = r.n2)
  | [], r, _, _ => ⟨r, rfl, rfl, rfl, rfl, fun _ => rfl, fun _ => rfl, fun _ => rfl⟩
  | c :: l, r, h, hl => by
    rw [List.all_cons, Bool.and_eq_true] at h
    rw [List.length_cons] at hl
    have h46 : ¬ (c = 46 ∧ 0 < r.d ∧ r.k < 2) := by
      rintro ⟨e, _⟩
      have := h.1
      rw [e, isDig_46] at this
      cases this
    have hs : stepR r c = some (r.put (10 * r.get + (c.toNat - 48))) := by
      unfold stepR
      rw [if_neg h46, if_pos ⟨h.1, by omega⟩]
    have hpk : (r.put (10 * r.get + (c.toNat - 48))).k = r.k ∧ (r.put (10 * r.get + (c.toNat - 48))).d = r.d + 1 ∧ (r.put (10 * r.get + (c.toNat - 48))).get = 10 * r.get + (c.toNat - 48) ∧ (r.k ≠ 0 → (r.put (10 * r.get + (c.toNat - 48))).n0 = r.n0) ∧ (r.k ≠ 1 → (r.put (10 * r.get + (c.toNat - 48))).n1 = r.n1) ∧ ((r.k = 0 ∨ r.k = 1) → (r.put (10 * r.get + (c.toNat - 48))).n2 = r.n2) := by
      generalize 10 * r.get + (c.toNat - 48) = v
      unfold Rs.put Rs.get
      by_cases h0 : r.k = 0
      · simp [h0]
      · by_cases h1 : r.k = 1
        · simp [h1]
        · simp [h0, h1]
    obtain ⟨r', e1, e2, e3, e4, e5, e6, e7⟩ := scan_digits l _ h.2 (by rw [hpk.2.1]; omega)
    refine ⟨r', ?_, e2.trans hpk.1, ?_, ?_, fun h => ?_, fun h => ?_, fun h => ?_⟩
    · rw [← e1, ← hs]; rfl
    · rw [e3, hpk.2.1, List.length_cons]; omega
    · rw [e4, hpk.2.2.1]; rfl
    · rw [e5 (by rw [hpk.1]; exact h), hpk.2.2.2.1 h]
    · rw [e6 (by rw [hpk.1]; exact h), hpk.2.2.2.2.1 h]
    · rw [e7 (by rw [hpk.1]; exact h), hpk.2.2.2.2.2 h]
theorem scan_dot (r : Rs) (hd : 0 < r.d) (hk : r.k < 2) : scanF (some r) [46] = some { r with k := r.k + 1, d := 0 } := by
  show (some r).bind (stepR · 46) = _
  show stepR r 46 = _
  unfold stepR
  rw [if_pos ⟨rfl, hd, hk⟩]
theorem dec_row {n : Int} (h0 : 0 ≤ n) (h1 : n ≤ 281474976710656) : (decV n).all isDig = true ∧ 0 < (decV n).length ∧ (decV n).length ≤ 15 ∧ (dv (decV n) : Int) = n := by
  obtain ⟨u, rfl⟩ : ∃ u : Nat, n = (u : Int) := ⟨n.toNat, by omega⟩
  rw [decV_nat]
  refine ⟨(digits_dig u).1, by rw [Lib.decDigits_length]; exact Lib.nDigits_pos u, ?_, by rw [(digits_dig u).2]⟩
  rw [Lib.decDigits_length]
  refine nDigits_le 14 u ?_
  have : (10 : Nat) ^ (14 + 1) = 1000000000000000 := by decide
  omega
theorem scan_print {x : St} (h : mayS x = true) : ∃ r, scanR (printS x) = some r ∧ (⟨r.n0, r.n1, r.n2⟩ : St) = x := by
  have hr := mayS_iff.1 h
  obtain ⟨a1, a2, a3, a4⟩ := dec_row hr.1.1 hr.1.2
  obtain ⟨b1, b2, b3, b4⟩ := dec_row hr.2.1.1 (by omega)
  obtain ⟨c1, c2, c3, c4⟩ := dec_row hr.2.2.1 (by omega)
  obtain ⟨r1, e1, e2, e3, e4, _, e6, e7⟩ := scan_digits (decV x.w) ⟨0, 0, 0, 0, 0⟩ a1 (by simp only; omega)
  simp only at e2 e3 e6 e7
  have s1 := scan_dot r1 (by omega) (by omega)
  obtain ⟨r2, f1, f2, f3, f4, f5, f6, f7⟩ := scan_digits (decV x.l) { r1 with k := r1.k + 1, d := 0 } b1 (by simp only; omega)
  simp only at f2 f3 f5 f6 f7
  have s2 := scan_dot r2 (by omega) (by omega)
  obtain ⟨r3, g1, g2, g3, g4, g5, g6, g7⟩ := scan_digits (decV x.n) { r2 with k := r2.k + 1, d := 0 } c1 (by simp only; omega)
  simp only at g2 g3 g5 g6 g7
  refine ⟨r3, ?_, ?_⟩
  · unfold scanR printS
    rw [scanF_append, scanF_append, scanF_append, scanF_append, e1, s1, f1, s2, g1]
  · have k1 : r1.k = 0 := e2
    have k2 : r2.k = 1 := by omega
    have k3 : r3.k = 2 := by omega
    have n0 : r3.n0 = dv (decV x.w) := by
      rw [g5 (by omega), f5 (by omega)]
      have : r1.get = r1.n0 := by unfold Rs.get; rw [if_pos k1]
      rw [← this, e4]; rfl
    have n1 : r3.n1 = dv (decV x.l) := by
      rw [g6 (by omega)]
      have e : r2.get = r2.n1 := by unfold Rs.get; rw [if_neg (by omega), if_pos k2]
      rw [← e, f4]
      have : ({ r1 with k := r1.k + 1, d := 0 } : Rs).get = 0 := by
        unfold Rs.get
        simp only [k1]
        rw [if_neg (by decide), if_pos (by decide)]
        exact e6 (by decide)
      rw [this]; rfl
    have n2 : r3.n2 = dv (decV x.n) := by
      have e : r3.get = r3.n2 := by unfold Rs.get; rw [if_neg (by omega), if_neg (by omega)]
      rw [← e, g4]
      have : ({ r2 with k := r2.k + 1, d := 0 } : Rs).get = 0 := by
        unfold Rs.get
        simp only [k2]
        rw [if_neg (by decide), if_neg (by decide), f7 (.inr (by omega)), e7 (.inl trivial)]
      rw [this]; rfl
    obtain ⟨w, l, n⟩ := x
    simp only at *
    rw [n0, n1, n2, a4, b4, c4]
def rsS (r : Rs) : St := ⟨r.n0, r.n1, r.n2⟩
def rparseS (l : Nm) : St × Int := match scanR l with
  | none => (St.zero, 4)
  | some r => if mayS (rsS r) = true ∧ printS (rsS r) = l then (rsS r, 0) else (St.zero, 4)
theorem rparse_none {l : Nm} (h : scanR l = none) : rparseS l = (St.zero, 4) := by unfold rparseS; rw [h]
theorem rparse_some {l : Nm} {r : Rs} (h : scanR l = some r) : rparseS l = if mayS (rsS r) = true ∧ printS (rsS r) = l then (rsS r, 0) else (St.zero, 4) := by unfold rparseS; rw [h]
theorem rparse_is (l : Nm) : IsParse l (rparseS l) := by
  cases h : scanR l with
  | none =>
    rw [rparse_none h]
    refine .inr ⟨rfl, fun x hx e => ?_⟩
    subst e
    obtain ⟨r, h1, _⟩ := scan_print hx
    rw [h1] at h; cases h
  | some r =>
    rw [rparse_some h]
    split
    · rename_i h2; exact .inl ⟨h2.1, h2.2, rfl⟩
    · rename_i h2
      refine .inr ⟨rfl, fun x hx e => h2 ?_⟩
      subst e
      obtain ⟨r', h1, h3⟩ := scan_print hx
      rw [h1] at h
      obtain rfl := Option.some.inj h
      have : rsS r' = x := h3
      rw [this]
      exact ⟨hx, rfl⟩
theorem dig_wrap (n c : Nat) (hn : n < 10000000000000000) (h1 : 48 ≤ c) (h2 : c ≤ 57) : wrap64 (wrap64 (10 * (n : Int)) + ((c : Int) - 48)) = ((10 * n + (c - 48) : Nat) : Int) := by
  have e1 : wrap64 (10 * (n : Int)) = 10 * (n : Int) := by unfold wrap64; omega
  rw [e1]
  have e2 : wrap64 (10 * (n : Int) + ((c : Int) - 48)) = 10 * (n : Int) + ((c : Int) - 48) := by unfold wrap64; omega
  rw [e2]
  omega
theorem At.set_0 {w : World} {b : Nat} {s : St} (h : At w b s) (v : Int) : At (w.setCell ⟨b, 0, none⟩ (.int .i64 v)) b ⟨v, s.l, s.n⟩ :=
  ⟨by simpa [World.setCell] using h.lt, World.cell?_setCell_same _ _ _ h.c0, by rw [World.cell?_setCell_other (h := by simp)]; exact h.c1, by rw [World.cell?_setCell_other (h := by simp)]; exact h.c2, by simp [h.f0], by simp [h.f1], by simp [h.f2]⟩
theorem At.set_1 {w : World} {b : Nat} {s : St} (h : At w b s) (v : Int) : At (w.setCell ⟨b, 1, none⟩ (.int .i64 v)) b ⟨s.w, v, s.n⟩ :=
  ⟨by simpa [World.setCell] using h.lt, by rw [World.cell?_setCell_other (h := by simp)]; exact h.c0, World.cell?_setCell_same _ _ _ h.c1, by rw [World.cell?_setCell_other (h := by simp)]; exact h.c2, by simp [h.f0], by simp [h.f1], by simp [h.f2]⟩
theorem At.set_2 {w : World} {b : Nat} {s : St} (h : At w b s) (v : Int) : At (w.setCell ⟨b, 2, none⟩ (.int .i64 v)) b ⟨s.w, s.l, v⟩ :=
  ⟨by simpa [World.setCell] using h.lt, by rw [World.cell?_setCell_other (h := by simp)]; exact h.c0, by rw [World.cell?_setCell_other (h := by simp)]; exact h.c1, World.cell?_setCell_same _ _ _ h.c2, by simp [h.f0], by simp [h.f1], by simp [h.f2]⟩
theorem below_one {B : Nat} {w w' : World} {b o : Nat} (h : Below B w w') (hb : B ≤ b) (v : Value) : Below B w (w'.setCell ⟨b, o, none⟩ v) := h.setCell (p := ⟨b, o, none⟩) hb v
theorem At.one {w : World} {b c o : Nat} {s : St} (h : At w b s) (hc : b ≠ c) (v : Value) : At (w.setCell ⟨c, o, none⟩ v) b s :=
  h.tn (S := fun j => j = c) ((Tn.refl (fun j => j = c) w).setCell (p := ⟨c, o, none⟩) (fun _ => rfl) v) hc
set_option maxRecDepth 100000 in
set_option maxHeartbeats 20000000 in
theorem rparse_any (w : World) (l : Nm) (hl : l.length ≤ 1000000) : Calls Tryd.prog 22 #[nmv l] w fun e w' => e = .returned (.tuple #[sagg (rparseS l).1, .int .i64 (rparseS l).2]) ∧ Below w.heap.size w w' := by
  have HZ := Lib.hid (at_two w St.zero St.zero).1
  have HC : Hid (At ((w.alloc (sobj St.zero)).alloc (.cells #[.int .i64 0, .int .i64 0, .int .i64 0] 63)) (w.heap.size + 1) ⟨((0 : Nat) : Int), ((0 : Nat) : Int), ((0 : Nat) : Int)⟩) := at_newT 63 (w.alloc (sobj St.zero)) St.zero
  have HB := Lib.hid (below2 w (sobj St.zero) (.cells #[.int .i64 0, .int .i64 0, .int .i64 0] 63))
  have HZ : Hid (At ((w.alloc (sobj St.zero)).alloc (.cells #[.int .i64 0, .int .i64 0, .int .i64 0] 63)) w.heap.size St.zero) := (at_new w St.zero).alloc _
  have HLN := Lib.hid hl
  clear hl
  go_enter Tryd.func22, Tryd.ntmps22
  go_wp2
  go_loopw [5, 6, 7] (fun vk vd vi wr => ∃ (r : Rs) (i : Nat), vk = .int .i64 (r.k : Int) ∧ vd = .int .i64 (r.d : Int) ∧ vi = .int .i64 (i : Int) ∧ i ≤ l.length ∧ Hid (scanR (l.take i) = some r) ∧ Hid (Inv r) ∧ Hid (Below w.heap.size w wr) ∧ Hid (At wr w.heap.size St.zero) ∧ Hid (At wr (w.heap.size + 1) ⟨(r.n0 : Int), (r.n1 : Int), (r.n2 : Int)⟩)) (fun _ _ vi _ => l.length - (RowKit.intOf vi).toNat)
  case atStart => exact ⟨⟨0, 0, 0, 0, 0⟩, 0, rfl, rfl, rfl, Nat.zero_le _, Lib.hid rfl, Lib.hid inv_zero, HB, HZ, HC⟩
  case round =>
    obtain ⟨r, i, rfl, rfl, rfl, hi, HSC, HIV, HB, HZ, HC⟩ := hrel
    obtain ⟨n0, n1, n2, k, d⟩ := r
    have z0 := HZ.out.c0; have z1 := HZ.out.c1; have z2 := HZ.out.c2; have y0 := HZ.out.f0; have y1 := HZ.out.f1; have y2 := HZ.out.f2; have hz := HZ.out.lt
    have c0 := HC.out.c0; have c1 := HC.out.c1; have c2 := HC.out.c2; have f0 := HC.out.f0; have f1 := HC.out.f1; have f2 := HC.out.f2; have hc := HC.out.lt
    simp only at c0 c1 c2
    by_cases hlt : i < l.length
    · have hlt1 : (i : Int) < (l.length : Int) := by omega
      have hin2 : i < (⟨l.toArray⟩ : ByteArray).size := by show _ < l.toArray.size; simpa using hlt
      have HE : Hid (scanR (l.take (i + 1)) = (scanR (l.take i)).bind (stepR · ((⟨l.toArray⟩ : ByteArray)[i]'hin2))) := by
        show _ = _
        rw [scan_take hlt]
        rfl
      have HLT := Lib.hid hlt
      have hk2 := HIV.out.k
      simp only at hk2
      clear hlt hi
      by_cases h46 : ((⟨l.toArray⟩ : ByteArray)[i]'hin2) = 46
      · have hb : ((((⟨l.toArray⟩ : ByteArray)[i]'hin2).toNat : Int) == 46) = true := by rw [h46]; decide
        have hb2 : ¬ (48 : Int) ≤ (((⟨l.toArray⟩ : ByteArray)[i]'hin2).toNat : Int) := by rw [h46]; decide
        have hb3 : decide ((48 : Int) ≤ (((⟨l.toArray⟩ : ByteArray)[i]'hin2).toNat : Int)) = false := decide_eq_false hb2
        have HC46 := Lib.hid h46
        clear h46
        by_cases hd0 : d = 0
        · subst hd0
          have HF : Hid (rparseS l = (St.zero, 4)) := by
            show _ = _
            refine rparse_none (scan_stop (i := i + 1) ?_)
            rw [HE.out, HSC.out]
            show stepR _ _ = none
            unfold stepR
            rw [if_neg (by rintro ⟨_, h, _⟩; exact absurd h (Nat.lt_irrefl _)), if_neg (by rw [HC46.out, isDig_46]; rintro ⟨h, _⟩; cases h)]
          go_wp2
          exact bodyPost_ret (res_two rfl _ rfl (HZ.out.setAll St.zero)) rfl ⟨by rw [HF.out]; rfl, below_set3 (b := w.heap.size) (u := St.zero) HB.out (Nat.le_refl _)⟩
        · have hdp : (0 : Int) < (d : Int) := by omega
          have hdp' : 0 < d := by omega
          have HDP := Lib.hid hdp'
          clear hd0
          rcases (show k = 0 ∨ k = 1 ∨ k = 2 by omega) with rfl | rfl | rfl
          · clear hk2
            have hi1 : wrap64 ((i : Int) + 1) = ((i + 1 : Nat) : Int) := by have := HLN.out; have := HLT.out; unfold wrap64; omega
            have HI1 := Lib.hid hi1
            clear hi1
            go_wp2
            rw [HI1.out]
            refine ⟨⟨⟨n0, n1, n2, 0 + 1, 0⟩, i + 1, rfl, rfl, rfl, HLT.out, ?_, Lib.hid (inv_dot HIV.out (show 0 < 2 by decide)), HB, HZ, HC⟩, ?_⟩
            · show _ = _
              rw [HE.out, HSC.out]
              show stepR _ _ = _
              unfold stepR
              rw [if_pos ⟨HC46.out, HDP.out, show 0 < 2 by decide⟩]
            · have := HLT.out
              simp [RowKit.intOf]
              omega
          · clear hk2
            have hi1 : wrap64 ((i : Int) + 1) = ((i + 1 : Nat) : Int) := by have := HLN.out; have := HLT.out; unfold wrap64; omega
            have HI1 := Lib.hid hi1
            clear hi1
            go_wp2
            rw [HI1.out]
            refine ⟨⟨⟨n0, n1, n2, 1 + 1, 0⟩, i + 1, rfl, rfl, rfl, HLT.out, ?_, Lib.hid (inv_dot HIV.out (show 1 < 2 by decide)), HB, HZ, HC⟩, ?_⟩
            · show _ = _
              rw [HE.out, HSC.out]
              show stepR _ _ = _
              unfold stepR
              rw [if_pos ⟨HC46.out, HDP.out, show 1 < 2 by decide⟩]
            · have := HLT.out
              simp [RowKit.intOf]
              omega
          · clear hk2
            have HF : Hid (rparseS l = (St.zero, 4)) := by
              show _ = _
              refine rparse_none (scan_stop (i := i + 1) ?_)
              rw [HE.out, HSC.out]
              show stepR _ _ = none
              unfold stepR
              rw [if_neg (by rintro ⟨_, _, h⟩; exact absurd h (Nat.lt_irrefl _)), if_neg (by rw [HC46.out, isDig_46]; rintro ⟨h, _⟩; cases h)]
            go_wp2
            exact bodyPost_ret (res_two rfl _ rfl (HZ.out.setAll St.zero)) rfl ⟨by rw [HF.out]; rfl, below_set3 (b := w.heap.size) (u := St.zero) HB.out (Nat.le_refl _)⟩
      · have hb : ((((⟨l.toArray⟩ : ByteArray)[i]'hin2).toNat : Int) == 46) = false := by
          cases e : ((((⟨l.toArray⟩ : ByteArray)[i]'hin2).toNat : Int) == 46) with
          | false => rfl
          | true =>
            have e2 := eq_of_beq e
            have e3 : (46 : UInt8).toNat = 46 := by decide
            exact absurd (UInt8.toNat_inj.1 (by omega)) h46
        have HN46 : Hid (¬ (((⟨l.toArray⟩ : ByteArray)[i]'hin2) = 46 ∧ 0 < d ∧ k < 2)) := fun h => h46 h.1
        clear h46
        by_cases hdg : isDig ((⟨l.toArray⟩ : ByteArray)[i]'hin2) = true
        · have hdb := isDig_le hdg
          have hlo : (48 : Int) ≤ (((⟨l.toArray⟩ : ByteArray)[i]'hin2).toNat : Int) := by omega
          have hhi : (((⟨l.toArray⟩ : ByteArray)[i]'hin2).toNat : Int) ≤ 57 := by omega
          have HDB := Lib.hid hdb
          have HDG := Lib.hid hdg
          clear hdb hdg
          by_cases hd16 : d < 16
          · have hd1 : (d : Int) < 16 := by omega
            have HD16 := Lib.hid hd16
            rcases (show k = 0 ∨ k = 1 ∨ k = 2 by omega) with rfl | rfl | rfl
            · clear hk2
              have hn1 : wrap64 (wrap64 (10 * (n0 : Int)) + ((((⟨l.toArray⟩ : ByteArray)[i]'hin2).toNat : Int) - 48)) = ((10 * n0 + (((⟨l.toArray⟩ : ByteArray)[i]'hin2).toNat - 48) : Nat) : Int) := dig_wrap n0 ((⟨l.toArray⟩ : ByteArray)[i]'hin2).toNat HIV.out.n0 HDB.out.1 HDB.out.2
              have hi1 : wrap64 ((i : Int) + 1) = ((i + 1 : Nat) : Int) := by have := HLN.out; have := HLT.out; unfold wrap64; omega
              have HN1 := Lib.hid hn1
              have HI1 := Lib.hid hi1
              clear hn1 hi1
              go_wp2
              rw [HN1.out, HI1.out]
              have HP := inv_put HIV.out HD16.out (x := ((⟨l.toArray⟩ : ByteArray)[i]'hin2).toNat - 48) (by have := HDB.out; omega)
              refine ⟨⟨⟨10 * n0 + (((⟨l.toArray⟩ : ByteArray)[i]'hin2).toNat - 48), n1, n2, 0, d + 1⟩, i + 1, rfl, (show Value.int .i64 ((d : Int) + 1) = Value.int .i64 ((d + 1 : Nat) : Int) from congrArg (Value.int .i64) (by omega)), rfl, HLT.out, ?_, Lib.hid HP.1, Lib.hid (below_one HB.out (Nat.le_succ _) _), Lib.hid (HZ.out.one (Nat.ne_of_lt (Nat.lt_succ_self _)) _), Lib.hid (HC.out.set_0 _)⟩, ?_⟩
              · show _ = _
                rw [HE.out, HSC.out]
                show stepR _ _ = _
                unfold stepR
                rw [if_neg HN46.out, if_pos ⟨HDG.out, HD16.out⟩]
                rfl
              · have := HLT.out
                simp [RowKit.intOf]
                omega
            · clear hk2
              have hn1 : wrap64 (wrap64 (10 * (n1 : Int)) + ((((⟨l.toArray⟩ : ByteArray)[i]'hin2).toNat : Int) - 48)) = ((10 * n1 + (((⟨l.toArray⟩ : ByteArray)[i]'hin2).toNat - 48) : Nat) : Int) := dig_wrap n1 ((⟨l.toArray⟩ : ByteArray)[i]'hin2).toNat HIV.out.n1 HDB.out.1 HDB.out.2
              have hi1 : wrap64 ((i : Int) + 1) = ((i + 1 : Nat) : Int) := by have := HLN.out; have := HLT.out; unfold wrap64; omega
              have HN1 := Lib.hid hn1
              have HI1 := Lib.hid hi1
              clear hn1 hi1
              go_wp2
              rw [HN1.out, HI1.out]
              have HP := inv_put HIV.out HD16.out (x := ((⟨l.toArray⟩ : ByteArray)[i]'hin2).toNat - 48) (by have := HDB.out; omega)
              refine ⟨⟨⟨n0, 10 * n1 + (((⟨l.toArray⟩ : ByteArray)[i]'hin2).toNat - 48), n2, 1, d + 1⟩, i + 1, rfl, (show Value.int .i64 ((d : Int) + 1) = Value.int .i64 ((d + 1 : Nat) : Int) from congrArg (Value.int .i64) (by omega)), rfl, HLT.out, ?_, Lib.hid HP.1, Lib.hid (below_one HB.out (Nat.le_succ _) _), Lib.hid (HZ.out.one (Nat.ne_of_lt (Nat.lt_succ_self _)) _), Lib.hid (HC.out.set_1 _)⟩, ?_⟩
              · show _ = _
                rw [HE.out, HSC.out]
                show stepR _ _ = _
                unfold stepR
                rw [if_neg HN46.out, if_pos ⟨HDG.out, HD16.out⟩]
                rfl
              · have := HLT.out
                simp [RowKit.intOf]
                omega
            · clear hk2
              have hn1 : wrap64 (wrap64 (10 * (n2 : Int)) + ((((⟨l.toArray⟩ : ByteArray)[i]'hin2).toNat : Int) - 48)) = ((10 * n2 + (((⟨l.toArray⟩ : ByteArray)[i]'hin2).toNat - 48) : Nat) : Int) := dig_wrap n2 ((⟨l.toArray⟩ : ByteArray)[i]'hin2).toNat HIV.out.n2 HDB.out.1 HDB.out.2
              have hi1 : wrap64 ((i : Int) + 1) = ((i + 1 : Nat) : Int) := by have := HLN.out; have := HLT.out; unfold wrap64; omega
              have HN1 := Lib.hid hn1
              have HI1 := Lib.hid hi1
              clear hn1 hi1
              go_wp2
              rw [HN1.out, HI1.out]
              have HP := inv_put HIV.out HD16.out (x := ((⟨l.toArray⟩ : ByteArray)[i]'hin2).toNat - 48) (by have := HDB.out; omega)
              refine ⟨⟨⟨n0, n1, 10 * n2 + (((⟨l.toArray⟩ : ByteArray)[i]'hin2).toNat - 48), 2, d + 1⟩, i + 1, rfl, (show Value.int .i64 ((d : Int) + 1) = Value.int .i64 ((d + 1 : Nat) : Int) from congrArg (Value.int .i64) (by omega)), rfl, HLT.out, ?_, Lib.hid HP.1, Lib.hid (below_one HB.out (Nat.le_succ _) _), Lib.hid (HZ.out.one (Nat.ne_of_lt (Nat.lt_succ_self _)) _), Lib.hid (HC.out.set_2 _)⟩, ?_⟩
              · show _ = _
                rw [HE.out, HSC.out]
                show stepR _ _ = _
                unfold stepR
                rw [if_neg HN46.out, if_pos ⟨HDG.out, HD16.out⟩]
                rfl
              · have := HLT.out
                simp [RowKit.intOf]
                omega
          · have hd1 : ¬ (d : Int) < 16 := by omega
            have HD16 := Lib.hid hd16
            have HF : Hid (rparseS l = (St.zero, 4)) := by
              show _ = _
              refine rparse_none (scan_stop (i := i + 1) ?_)
              rw [HE.out, HSC.out]
              show stepR _ _ = none
              unfold stepR
              rw [if_neg (by exact HN46.out), if_neg (by exact fun h => HD16.out h.2)]
            clear hd16
            go_wp2
            exact bodyPost_ret (res_two rfl _ rfl (HZ.out.setAll St.zero)) rfl ⟨by rw [HF.out]; rfl, below_set3 (b := w.heap.size) (u := St.zero) HB.out (Nat.le_refl _)⟩
        · have HDG := Lib.hid hdg
          rcases (show ¬ 48 ≤ ((⟨l.toArray⟩ : ByteArray)[i]'hin2).toNat ∨ (48 ≤ ((⟨l.toArray⟩ : ByteArray)[i]'hin2).toNat ∧ ¬ ((⟨l.toArray⟩ : ByteArray)[i]'hin2).toNat ≤ 57) by unfold isDig at hdg; simp at hdg; omega) with hx | ⟨hx1, hx2⟩
          · have hx3 : ¬ (48 : Int) ≤ (((⟨l.toArray⟩ : ByteArray)[i]'hin2).toNat : Int) := by omega
            clear hdg hx
            have HF : Hid (rparseS l = (St.zero, 4)) := by
              show _ = _
              refine rparse_none (scan_stop (i := i + 1) ?_)
              rw [HE.out, HSC.out]
              show stepR _ _ = none
              unfold stepR
              rw [if_neg (by exact HN46.out), if_neg (by exact fun h => HDG.out h.1)]
            go_wp2
            exact bodyPost_ret (res_two rfl _ rfl (HZ.out.setAll St.zero)) rfl ⟨by rw [HF.out]; rfl, below_set3 (b := w.heap.size) (u := St.zero) HB.out (Nat.le_refl _)⟩
          · have hx3 : (48 : Int) ≤ (((⟨l.toArray⟩ : ByteArray)[i]'hin2).toNat : Int) := by omega
            have hx4 : ¬ (((⟨l.toArray⟩ : ByteArray)[i]'hin2).toNat : Int) ≤ 57 := by omega
            clear hdg hx1 hx2
            have HF : Hid (rparseS l = (St.zero, 4)) := by
              show _ = _
              refine rparse_none (scan_stop (i := i + 1) ?_)
              rw [HE.out, HSC.out]
              show stepR _ _ = none
              unfold stepR
              rw [if_neg (by exact HN46.out), if_neg (by exact fun h => HDG.out h.1)]
            go_wp2
            exact bodyPost_ret (res_two rfl _ rfl (HZ.out.setAll St.zero)) rfl ⟨by rw [HF.out]; rfl, below_set3 (b := w.heap.size) (u := St.zero) HB.out (Nat.le_refl _)⟩
    · obtain rfl : i = l.length := by omega
      have HS2 : Hid (scanR l = some ⟨n0, n1, n2, k, d⟩) := by have h := HSC.out; rw [List.take_length] at h; exact h
      have HF := Lib.hid (rparse_some HS2.out)
      clear hlt hi HSC
      have HM := fun w => Lib.hid (rmay_any ⟨(n0 : Int), (n1 : Int), (n2 : Int)⟩ w)
      have hsr : rsS ⟨n0, n1, n2, k, d⟩ = ⟨(n0 : Int), (n1 : Int), (n2 : Int)⟩ := rfl
      rw [hsr] at HF
      have HX := Lib.hid (at_new wr ⟨(n0 : Int), (n1 : Int), (n2 : Int)⟩)
      have HZ := Lib.hid (HZ.out.alloc (sobj ⟨(n0 : Int), (n1 : Int), (n2 : Int)⟩))
      have HB := Lib.hid (HB.out.alloc HB.out.size (sobj ⟨(n0 : Int), (n1 : Int), (n2 : Int)⟩))
      cases hmb : mayS ⟨(n0 : Int), (n1 : Int), (n2 : Int)⟩
      · rw [hmb] at HM HF
        replace HF : Hid (rparseS l = (St.zero, 4)) := by show _ = _; rw [HF.out, if_neg (fun h => absurd h.1 (by decide))]
        clear hsr hmb
        go_wp2_with (first
          | (go_at_call 14; (with_reducible refine (HM _).out.mono ?_); rintro e w6 ⟨rfl, hb⟩; have HZ := Lib.hid (HZ.out.below hb HZ.out.lt); have HX := Lib.hid (HX.out.below hb HX.out.lt); have HB := Lib.hid (HB.out.trans (hb.mono HB.out.size)); have z0 := HZ.out.c0; have z1 := HZ.out.c1; have z2 := HZ.out.c2; have y0 := HZ.out.f0; have y1 := HZ.out.f1; have y2 := HZ.out.f2; have hz := HZ.out.lt; have x0 := HX.out.c0; have x1 := HX.out.c1; have x2 := HX.out.c2; have hx := HX.out.lt; clear hb)
          | (go_at_call 20; (with_reducible refine (HP _).out.mono ?_); rintro e w7 ⟨rfl, hb⟩; have HZ := Lib.hid (HZ.out.below hb HZ.out.lt); have HX := Lib.hid (HX.out.below hb HX.out.lt); have HB := Lib.hid (HB.out.trans (hb.mono HB.out.size)); have z0 := HZ.out.c0; have z1 := HZ.out.c1; have z2 := HZ.out.c2; have y0 := HZ.out.f0; have y1 := HZ.out.f1; have y2 := HZ.out.f2; have hz := HZ.out.lt; have x0 := HX.out.c0; have x1 := HX.out.c1; have x2 := HX.out.c2; have hx := HX.out.lt; clear hb))
        exact bodyPost_ret (res_two rfl _ rfl (HZ.out.setAll St.zero)) rfl ⟨by rw [HF.out]; rfl, below_set3 (b := w.heap.size) (u := St.zero) HB.out (Nat.le_refl _)⟩
      · have hwf : (⟨(n0 : Int), (n1 : Int), (n2 : Int)⟩ : St).wf := by
          have hr := mayS_iff.1 hmb
          simp only at hr
          exact ⟨⟨by simp only; omega, by simp only; omega⟩, ⟨by simp only; omega, by simp only; omega⟩, ⟨by simp only; omega, by simp only; omega⟩⟩
        have HP := fun w => Lib.hid (rprint_any ⟨(n0 : Int), (n1 : Int), (n2 : Int)⟩ hwf w)
        rw [hmb] at HM HF
        clear hsr hmb hwf
        generalize printS ⟨(n0 : Int), (n1 : Int), (n2 : Int)⟩ = T at *
        by_cases ht : T = l
        · replace HF : Hid (rparseS l = (⟨(n0 : Int), (n1 : Int), (n2 : Int)⟩, 0)) := by show _ = _; rw [HF.out, if_pos ⟨rfl, ht⟩]
          subst ht
          go_wp2_with (first
            | (go_at_call 14; (with_reducible refine (HM _).out.mono ?_); rintro e w6 ⟨rfl, hb⟩; have HZ := Lib.hid (HZ.out.below hb HZ.out.lt); have HX := Lib.hid (HX.out.below hb HX.out.lt); have HB := Lib.hid (HB.out.trans (hb.mono HB.out.size)); have z0 := HZ.out.c0; have z1 := HZ.out.c1; have z2 := HZ.out.c2; have y0 := HZ.out.f0; have y1 := HZ.out.f1; have y2 := HZ.out.f2; have hz := HZ.out.lt; have x0 := HX.out.c0; have x1 := HX.out.c1; have x2 := HX.out.c2; have hx := HX.out.lt; clear hb)
            | (go_at_call 20; (with_reducible refine (HP _).out.mono ?_); rintro e w7 ⟨rfl, hb⟩; have HZ := Lib.hid (HZ.out.below hb HZ.out.lt); have HX := Lib.hid (HX.out.below hb HX.out.lt); have HB := Lib.hid (HB.out.trans (hb.mono HB.out.size)); have z0 := HZ.out.c0; have z1 := HZ.out.c1; have z2 := HZ.out.c2; have y0 := HZ.out.f0; have y1 := HZ.out.f1; have y2 := HZ.out.f2; have hz := HZ.out.lt; have x0 := HX.out.c0; have x1 := HX.out.c1; have x2 := HX.out.c2; have hx := HX.out.lt; clear hb))
          exact bodyPost_ret (res_two rfl _ rfl (HZ.out.setAll ⟨(n0 : Int), (n1 : Int), (n2 : Int)⟩)) rfl ⟨by rw [HF.out]; rfl, below_set3 (b := w.heap.size) (u := ⟨(n0 : Int), (n1 : Int), (n2 : Int)⟩) HB.out (Nat.le_refl _)⟩
        · replace HF : Hid (rparseS l = (St.zero, 4)) := by show _ = _; rw [HF.out, if_neg (fun h => ht h.2)]
          have HNE := Lib.hid ht
          have ht' : (T != l) = true := by simpa using ht
          clear ht
          go_wp2_with (first
            | (go_at_call 14; (with_reducible refine (HM _).out.mono ?_); rintro e w6 ⟨rfl, hb⟩; have HZ := Lib.hid (HZ.out.below hb HZ.out.lt); have HX := Lib.hid (HX.out.below hb HX.out.lt); have HB := Lib.hid (HB.out.trans (hb.mono HB.out.size)); have z0 := HZ.out.c0; have z1 := HZ.out.c1; have z2 := HZ.out.c2; have y0 := HZ.out.f0; have y1 := HZ.out.f1; have y2 := HZ.out.f2; have hz := HZ.out.lt; have x0 := HX.out.c0; have x1 := HX.out.c1; have x2 := HX.out.c2; have hx := HX.out.lt; clear hb)
            | (go_at_call 20; (with_reducible refine (HP _).out.mono ?_); rintro e w7 ⟨rfl, hb⟩; have HZ := Lib.hid (HZ.out.below hb HZ.out.lt); have HX := Lib.hid (HX.out.below hb HX.out.lt); have HB := Lib.hid (HB.out.trans (hb.mono HB.out.size)); have z0 := HZ.out.c0; have z1 := HZ.out.c1; have z2 := HZ.out.c2; have y0 := HZ.out.f0; have y1 := HZ.out.f1; have y2 := HZ.out.f2; have hz := HZ.out.lt; have x0 := HX.out.c0; have x1 := HX.out.c1; have x2 := HX.out.c2; have hx := HX.out.lt; clear hb))
          · exact bodyPost_ret (res_two rfl _ rfl (HZ.out.setAll St.zero)) rfl ⟨by rw [HF.out]; rfl, below_set3 (b := w.heap.size) (u := St.zero) HB.out (Nat.le_refl _)⟩
          · rename_i hx9
            exact absurd (by simpa using hx9) HNE.out
end Go.Proofs.YtmpokhjchbaleaaDoor
