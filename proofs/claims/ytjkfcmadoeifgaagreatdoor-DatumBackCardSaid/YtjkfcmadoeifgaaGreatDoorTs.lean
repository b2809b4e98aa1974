/- The two readers, the Writer and the value of a law over datum's bytes, side by side; a row of bytes that came in. Conditions: those of each law. -/
import Derived.Test.YtjkfcmadoeifgaaGreatDoorPg
import Derived.Test.YtjkfcmadoeifgaaGreatDoorPr
import Derived.Test.YtjkfcmadoeifgaaGreatDoorAg
import Derived.Deep.Slices
namespace Go.Proofs.YtjkfcmadoeifgaaGreatDoor
open Go.RowKit Go.Deep Go.ChangeShapes Go.WideShapes
section
variable {H : Type} {enc : TypeId × Value → H} {w : World} {base : Nat} {held : Bool}
/-- A row of bytes that came in. -/
theorem open_has {fuel : Nat} {v : Value} {x : DataW H × List MemPlace} (h : DataW.trod enc Tryz.prog w base (fun _ => true) held fuel 32 [v] = some x) :
    ∃ xs : List UInt8, HasB (fun k => k < w.heap.size) w v xs ∧ xs.length ≤ 9223372036854775807 := by
  rcases open_slice1 Tryz.underlying32 (by kernel_rfl) h with ⟨h0, _⟩ | ⟨a, len, cap, m, n, V, D, Pl, h0, hb, hl, hm, hmm, rfl, hx⟩
  · simp at h0
    subst h0
    exact ⟨[], ⟨none, 0, rfl, Nat.le_refl _, by decide, fun _ => ⟨rfl, rfl⟩, .inl rfl⟩, by simp⟩
  simp only [if_true] at hmm
  subst hmm
  simp at h0
  subst h0
  obtain ⟨B, hB⟩ := choose_lt (α := UInt8) (p := fun i b => V i = .int .u8 (b.toNat : Int)) (fun i hi => by
    obtain ⟨b, h1, _, h3⟩ := DataW.trod_int Tryz.underlying5 (hx i hi).2
    simp [Lit.wf, IntKind.min, IntKind.max, IntKind.signed, IntKind.bits] at h3
    simp at h1
    refine ⟨UInt8.ofNat b.toNat, ?_⟩
    rw [h1, ofNat_toNat (by omega)]
    congr 1
    omega)
  have hlen : ((List.range len).map B).length = len := by simp
  refine ⟨(List.range len).map B, ⟨some a, m, by rw [hlen], by rw [hlen]; exact hl, hm, (fun e => by cases e), ?_⟩, by rw [hlen]; unfold maxLen at hm; omega⟩
  by_cases h1 : len = 0
  · left; simp [h1]
  right
  obtain ⟨b, off, spot⟩ := a
  have h00 := (hx 0 (by omega)).1
  have hspot : spot = none := by simpa [Addr.add] using World.cell?_spot h00
  subst hspot
  refine ⟨b, off, rfl, World.block_lt_of_cell? _ _ h00, World.block_lt_of_cell? _ _ h00, fun i hi => ?_⟩
  have hi' : i < len := by simpa using hi
  have h2 := (hx i (by omega)).1
  rw [Addr.add_lit] at h2
  rw [h2, hB i (by omega)]
  simp [List.getD, hi']
end
/-- The value's box, the Writer, the two readers, each in blocks of its own. -/
structure TS (w0 : World) (v : DV) (p r q n : Nat) (vw vr bv : Value) (L : List UInt8) (w : World) (s x : Rst) : Prop where
  be : Below w0.heap.size w0 w
  bx : At w w0.heap.size v
  wr : Wr w p vw L
  ow : ∀ k, vw.ownBlock = some k → r < k ∧ k < q
  rd : Rd 69 (fun k => n ≤ k ∧ k < r) w r vr s
  rx : Rd 40 (fun k => k < w0.heap.size) w q bv x
  o1 : w0.heap.size < p
  o2 : p < n
  o3 : n ≤ r
  o4 : r < q
section
variable {w0 w w' : World} {v : DV} {p r q n : Nat} {vw vr bv : Value} {L : List UInt8} {s x s' x' : Rst}
theorem TS.below (h : TS w0 v p r q n vw vr bv L w s x) (hb : Below w.heap.size w w') : TS w0 v p r q n vw vr bv L w' s x := by
  have hf : Fr (fun k => w.heap.size ≤ k) w w' := Fr.of_below hb (fun _ _ h => h)
  have h1 := h.o1
  have h2 := h.o2
  have h3 := h.o3
  have h4 := h.o4
  have hq := h.rx.lt
  have hs := h.be.size
  exact ⟨h.be.trans (hb.mono hs), h.bx.below hb h.bx.lt, h.wr.fr hf (by omega) (fun k hk e => by have := (h.ow k hk).2; omega), h.ow, h.rd.fr hf (by omega) (fun k hk e => by have := hk.2; omega), h.rx.fr hf (by omega) (fun _ hk e => by omega), h1, h2, h3, h4⟩
theorem TS.get (h : TS w0 v p r q n vw vr bv L w s x) (hr : Rd 69 (fun k => n ≤ k ∧ k < r) w' r vr s') (hf : Fr (fun k => k = r) w w') : TS w0 v p r q n vw vr bv L w' s' x := by
  have h1 := h.o1
  have h2 := h.o2
  have h3 := h.o3
  have h4 := h.o4
  exact ⟨h.be.trans (hf.below (fun i hi => by omega) h.be.size), h.bx.fr hf (by omega), h.wr.fr hf (by omega) (fun k hk e => by have := (h.ow k hk).1; omega), h.ow, hr, h.rx.fr hf (by omega) (fun _ hk e => by omega), h1, h2, h3, h4⟩
theorem TS.rget (h : TS w0 v p r q n vw vr bv L w s x) (hr : Rd 40 (fun k => k < w0.heap.size) w' q bv x') (hf : Fr (fun k => k = q) w w') : TS w0 v p r q n vw vr bv L w' s x' := by
  have h1 := h.o1
  have h2 := h.o2
  have h3 := h.o3
  have h4 := h.o4
  exact ⟨h.be.trans (hf.below (fun i hi => by omega) h.be.size), h.bx.fr hf (by omega), h.wr.fr hf (by omega) (fun k hk e => by have := (h.ow k hk).2; omega), h.ow, h.rd.fr hf (by omega) (fun k hk e => by have := hk.2; omega), hr, h1, h2, h3, h4⟩
theorem TS.k69 (h : TS w0 v p r q n vw vr bv L w s x) : ∀ k, (n ≤ k ∧ k < r) → k < w.heap.size := fun _ hk => Nat.lt_trans hk.2 h.rd.lt
theorem TS.k40 (h : TS w0 v p r q n vw vr bv L w s x) : ∀ k, k < w0.heap.size → k < w.heap.size := fun _ hk => Nat.lt_of_lt_of_le hk h.be.size
end
/-- A box that another call leaves. -/
theorem At.keep {w w' : World} {b : Nat} {d : DV} {c : Nat} (h : At w b d) (hf : Fr (fun k => k = c) w w') (hc : c < b) : At w' b d := h.fr hf (by omega)
theorem TS.make {w0 w2 w3 : World} {v : DV} {p r n : Nat} {vr bv : Value} {L l : List UInt8} (hbe : Below w0.heap.size w0 w2) (hbx : At w2 w0.heap.size v) (hrd : Rd 69 (fun k => n ≤ k ∧ k < r) w2 r vr ⟨l, 0, 0, 0⟩)
    (hx : WrX w2.heap.size w3 p L) (hf : Fr (fun k => k = p ∨ w2.heap.size ≤ k) w2 w3) (hb : HasB (fun k => k < w0.heap.size) w0 bv l) (hl : l.length ≤ 140737488355328) (o1 : w0.heap.size < p) (o2 : p < n) (o3 : n ≤ r) :
    ∃ vw, TS w0 v p r w3.heap.size n vw vr bv L (w3.alloc (.cells #[bv, .int .i64 0, .int .i64 0, .int .i64 0] 40)) ⟨l, 0, 0, 0⟩ ⟨l, 0, 0, 0⟩ := by
  obtain ⟨vw, hw, hc, how⟩ := hx
  have hr := hrd.lt
  have hs := hf.size
  have hbe3 : Below w0.heap.size w0 w3 := hbe.trans (hf.below (fun i hi => by have := hbe.size; omega) hbe.size)
  have hfa : Fr (fun _ => False) w3 (w3.alloc (.cells #[bv, .int .i64 0, .int .i64 0, .int .i64 0] 40)) := (Fr.refl _ w3).alloc _
  have hf0 : Fr (fun k => w0.heap.size ≤ k) w0 (w3.alloc (.cells #[bv, .int .i64 0, .int .i64 0, .int .i64 0] 40)) := Fr.of_below (hbe3.alloc hbe3.size _) (fun _ _ h => h)
  refine ⟨vw, hbe3.alloc hbe3.size _, (hbx.fr hf (by have := hbx.lt; omega)).fr hfa id, hw.fr hfa id (fun _ _ => id), fun k hk => ⟨by have := how k hk; omega, (hw.own.lt k hk).2⟩, (hrd.fr hf (by omega) (fun _ hk e => by omega)).fr hfa id (fun _ _ => id), ⟨?_, hb.fr hf0 (fun _ hk e => by omega), fun k hk e => by have := hbe3.size; omega, Nat.zero_le _, hl, fun e => by cases e⟩, o1, o2, o3, by omega⟩
  show (w3.heap.push (Obj.cells #[bv, .int .i64 0, .int .i64 0, .int .i64 0] 40))[w3.heap.size]? = _
  simp
theorem dget_is {K : Nat → Prop} {w : World} {p : Nat} {v : Value} {s s' : Rst} {d : DV} (h : Rd 69 K w p v s) (hK : ∀ k, K k → k < w.heap.size) (e : getV s = (d, s')) :
    Calls Tryz.prog 18 #[.pointer (some ⟨p, 0, none⟩)] w fun x w' => x = .returned (vagg d) ∧ Rd 69 K w' p v s' ∧ Fr (fun k => k = p) w w' := by
  have := dget_any h hK
  rw [e] at this
  exact this
theorem rdget_is {K : Nat → Prop} {w : World} {p : Nat} {v : Value} {s s' : Rst} {d : DV} (h : Rd 40 K w p v s) (hK : ∀ k, K k → k < w.heap.size) (e : getV s = (d, s')) :
    Calls Tryz.prog 19 #[.pointer (some ⟨p, 0, none⟩)] w fun x w' => x = .returned (vagg d) ∧ Rd 40 K w' p v s' ∧ Fr (fun k => k = p) w w' := by
  have := rdget_any h hK
  rw [e] at this
  exact this
theorem end_is {K : Nat → Prop} {w : World} {p : Nat} {v : Value} {s : Rst} {n : Int} {m : Nat} (h : Rd 69 K w p v s) (hg : s.er = 0 → s.fp = 0) (e : endR s = (n, m)) :
    Calls Tryz.prog 20 #[.pointer (some ⟨p, 0, none⟩)] w fun x w' => x = .returned (.tuple #[.int .i64 n, .int .i64 (m : Nat)]) ∧ Rd 69 K w' p v s ∧ Fr (fun k => k = p) w w' := by
  have := end_any h hg
  rw [e] at this
  exact this
theorem rend_is {K : Nat → Prop} {w : World} {p : Nat} {v : Value} {s : Rst} {n : Int} {m : Nat} (h : Rd 40 K w p v s) (e : endR s = (n, m)) :
    Calls Tryz.prog 21 #[.pointer (some ⟨p, 0, none⟩)] w fun x w' => x = .returned (.tuple #[.int .i64 n, .int .i64 (m : Nat)]) ∧ Rd 40 K w' p v s ∧ Fr (fun k => k = p) w w' := by
  have := rend_any h
  rw [e] at this
  exact this
theorem same_self {K L : Nat → Prop} {w : World} {a b : Value} {l : List UInt8} (ha : HasB K w a l) (hb : HasB L w b l) : Calls Tryz.prog 22 #[a, b] w fun e w' => e = .returned (.bool true) ∧ w = w' := by
  refine (same_any ha hb).mono ?_
  rintro e w' ⟨rfl, hw⟩
  exact ⟨by rw [beq_self_eq_true], hw.symm⟩
theorem HasB.below {B : Nat} {w w' : World} {v : Value} {l : List UInt8} (h : HasB (fun k => B ≤ k ∧ k < w.heap.size) w v l) (hb : Below w.heap.size w w') : HasB (fun k => B ≤ k ∧ k < w.heap.size) w' v l :=
  h.fr (S := fun k => w.heap.size ≤ k) (Fr.of_below hb (fun _ _ h => h)) (fun _ hk e => by have := hk.2; omega)
theorem put_len (v : DV) : (putV v).length ≤ 100 := by
  have hvl : ∀ n : Int, -9223372036854775808 ≤ n → n < 9223372036854775808 → (vb (foldN n)).length ≤ 10 := fun n h1 h2 => vb_len_le _ (foldN_lt h1 h2)
  have h0 := hvl 0 (by decide) (by decide)
  have h1 := hvl 1 (by decide) (by decide)
  have h2 := hvl 2 (by decide) (by decide)
  unfold putV
  split
  · rename_i hm
    obtain ⟨_, hl⟩ := may_shape hm
    have h3 := hvl (v.s.length : Int) (by omega) (by omega)
    split
    · rw [List.length_append, w8_eight]; omega
    · split
      · rw [List.length_append, List.length_append]; omega
      · omega
  · omega
end Go.Proofs.YtjkfcmadoeifgaaGreatDoor
