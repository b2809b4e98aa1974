/- What outlives a call (the tables that the library reads), bits.TrailingZeros64, strconv.FormatUint and strconv.Itoa at base 10. Conditions: the tables hold what their initialisers lay. num.split: a number above zero is its odd part times a power of two. Conditions: the bits of a finite number above zero; the tables hold what their initialisers lay. -/
import Derived.Test.YtbgccaconhmbaaaGreatDoorJD
import Derived.Test.YtbgccaconhmbaaaGreatDoorJShelf
import Derived.Shelf.Spec.TrailingZeros
import Derived.Lib.AppendIntMem
import Derived.BigCall
import Derived.BigGuard
namespace Go.Proofs.YtbgccaconhmbaaaGreatDoor
open Go.RowKit Go.Sort Go.Lib

structure Tabs (w : World) : Prop where
  pow : Lib.TabIs Tryz.prog w "internal/strconv.uint64pow10" .u64 Lib.pow10Tab
  de : TabAt 5 Lib.deBruijn64tab w

theorem Tabs.below {w w' : World} (h : Tabs w) (hb : Below w.heap.size w w') : Tabs w' := by
  refine ⟨?_, fun j hj => ?_⟩
  · have hp := h.pow
    unfold Lib.TabIs World.var? at *
    cases hg : Tryz.prog.globalNamed "internal/strconv.uint64pow10" with
    | none => simp [hg] at hp
    | some g =>
      simp only [hg, Option.bind_some] at hp ⊢
      have hlt : g < w.heap.size := by
        rcases Nat.lt_or_ge g w.heap.size with h' | h'
        · exact h'
        · rw [Array.getElem?_eq_none h'] at hp; simp at hp
      rw [hb.block g hlt]
      exact hp
  · have hc := h.de j hj
    have hlt : (5 : Nat) < w.heap.size := by
      rcases Nat.lt_or_ge 5 w.heap.size with h' | h'
      · exact h'
      · unfold World.cell? at hc; rw [Array.getElem?_eq_none h'] at hc; simp at hc
    rw [hb.cell (p := ⟨5, j, none⟩) hlt]
    exact hc

theorem tz_core (x k idx : Nat) (w : World) (hx0 : ((x : Int) == 0) = false)
    (key : IntKind.u64.wrap (bits BinOp.and IntKind.u64 (x : Int) (IntKind.u64.wrap (-(x : Int))) * 285870213051353865) / 288230376151711744 = (idx : Int))
    (hi : idx < 64) (hk : k < 64) (hcell : w.cell? ⟨5, idx, none⟩ = some (.int .u8 k)) :
    Calls Tryz.prog 201 #[.int .u64 x] w fun e w' => e = .returned (.int .i64 k) ∧ w = w' := by
  go_enter Tryz.func201, Tryz.ntmps201
  go_wp2_with (simp only [key])
  go_ret
  exact ⟨rfl, rfl⟩
theorem tz_any (x : Nat) (hx : x < 18446744073709551616) (hx0 : x ≠ 0) (w : World) (hT : Tabs w) :
    Calls Tryz.prog 201 #[.int .u64 (x : Int)] w fun e w' => e = .returned (.int .i64 (Lib.ctz 64 x : Nat)) ∧ w = w' := by
  obtain ⟨hlow, hk⟩ := Lib.lowest_bit 64 x hx0 hx
  obtain ⟨hi, htab⟩ := Lib.deBruijn64_at _ hk
  have hcell := hT.de _ hi
  rw [htab] at hcell
  exact tz_core x _ _ w (by simp; omega) (tz64_key x _ hx hx0 hlow) hi hk hcell

theorem holds_zero0 (w : World) (T : TypeId) (nd : Nat) (hs : nd ≤ 24) : Holds (fun (b : UInt8) => Value.int .u8 (b.toNat : Int)) (w.alloc (.cells zeros24 T)) w.heap.size 0 (Array.replicate nd (0 : UInt8)) := fun j hj => by
  have hj' : j < nd := by simpa using hj
  refine ⟨?_, World.frozen?_alloc_new _ _ _ _⟩
  rw [World.cell?_alloc_new, zeros24_at _ (by omega), getElem!_pos _ j hj]
  simp
theorem fin0 (w : World) (o : Obj) (dk : Array UInt8) (k : Nat) : ∃ os, (putRow (fun (b : UInt8) => Value.int .u8 (b.toNat : Int)) (w.alloc o) w.heap.size 0 dk).drewN k = grow (w.drewN k) os := by
  rw [alloc_eq_grow]
  obtain ⟨os', _, e⟩ := putRow_grow_new (fun (b : UInt8) => Value.int .u8 (b.toNat : Int)) w #[o] w.heap.size 0 dk (Nat.le_refl _)
  exact ⟨os', by rw [e]; rfl⟩

set_option maxHeartbeats 1600000 in
set_option maxRecDepth 100000 in
/-- internal/strconv.FormatUint at base 10: the numeral; new blocks and draws. -/
theorem iformatUint (u : Nat) (hu64 : u < 18446744073709551616) (w : World) (hT : Tabs w) :
    Calls Tryz.prog 202 #[.int .u64 (u : Int), .int .i64 10] w fun e w' => e = .returned (.string ⟨(Lib.decDigits u).toArray⟩) ∧ Below w.heap.size w w' := by
  by_cases hs : u < 100
  · have hw : IntKind.i64.wrap (u : Int) = (u : Int) := by rw [IntKind.wrap_i64]; omega
    go_enter Tryz.func202, Tryz.ntmps202
    go_wp2_with (go_at_call 214; refine (Tryz.internal_strconv_small u hs _).mono ?_; rintro e w' ⟨rfl, rfl⟩)
    go_ret
    exact ⟨rfl, Below.refl _ _⟩
  · have hu1 : 1 ≤ u := by omega
    have htab := hT.pow
    have hnd20 : Lib.nDigits u ≤ 20 := by have := Lib.numDigits_eq u hu1 hu64; split at this <;> omega
    have hb3 : Lib.nDigits u ≤ 24 := by omega
    have hal : Tryz.prog.arrayLen 215 = 24 := by kernel_rfl
    have hsl1 : ∀ W, (Instr.sliceAt 215 (.pointer (some ⟨w.heap.size, 0, none⟩)) none (some (.int .i64 (Lib.nDigits u : Int))) none).run Tryz.prog W = .ok (.slice (some ⟨w.heap.size, 0, none⟩) (Lib.nDigits u) 24) W := fun W => by
      rw [run_sliceAt_array_h W 215 ⟨w.heap.size, 0, none⟩ (by kernel_rfl) .i64 (Lib.nDigits u : Int) (by omega) (by rw [hal]; omega)]
      go_simp
    have hH0 := holds_zero0 w 215 (Lib.nDigits u) hb3
    have hfmt := Tryz.internal_strconv_formatBase10 w.heap.size 0 24 u (Array.replicate (Lib.nDigits u) 0) (w.alloc (.cells Lib.zeros24 215)) hH0 (by rw [Array.size_replicate]; exact Lib.lt_pow_nDigits u) hu64 (by rw [Array.size_replicate]; omega)
    rw [Array.size_replicate] at hfmt
    have HH0 := Lib.hid hH0
    clear hH0 hal
    go_enter Tryz.func202, Tryz.ntmps202
    go_wp2_with (first
      | (go_at_call 215; refine (Tryz.internal_strconv_numDigits u hu1 hu64 _ (Lib.tabIs_alloc htab _)).mono ?_; rintro e w' ⟨rfl, rfl⟩))
    go_at_call 216
    refine hfmt.mono ?_
    rintro e w' ⟨rfl, k, v', dk, rfl, hF⟩
    have hcv : (convert 129 9 (.slice (some ⟨w.heap.size, 0, none⟩) (Lib.nDigits u) 24)).run Tryz.prog ((putRow (fun (b : UInt8) => Value.int .u8 (b.toNat : Int)) (w.alloc (.cells Lib.zeros24 215)) w.heap.size 0 dk).drewN k) = .ok (.string ⟨(Lib.decDigits u).toArray⟩) ((putRow (fun (b : UInt8) => Value.int .u8 (b.toNat : Int)) (w.alloc (.cells Lib.zeros24 215)) w.heap.size 0 dk).drewN k) := by
      have h := run_convert_bytes_back (P := Tryz.prog) ((putRow (fun (b : UInt8) => Value.int .u8 (b.toNat : Int)) (w.alloc (.cells Lib.zeros24 215)) w.heap.size 0 dk).drewN k) 129 9 5 ⟨w.heap.size, 0, none⟩ 24 (Lib.decDigits u) Tryz.underlying129 Tryz.underlying5 Tryz.underlying9 (fun j hj => by
        rw [Lib.row_is_numeral hF j hj, Lib.add_plain, World.cell?_drewN]
        exact cell?_putRow (fun (b : UInt8) => Value.int .u8 (b.toNat : Int)) _ w.heap.size 0 _ dk HH0.out (by rw [hF.size, Array.size_replicate]) j (by rw [hF.size]; rw [Lib.decDigits_length] at hj; exact hj))
      rw [Lib.decDigits_length] at h
      exact h
    go_wp2
    go_ret
    obtain ⟨os, eo⟩ := fin0 w (.cells Lib.zeros24 215) dk k
    refine ⟨rfl, ?_⟩
    exact eo ▸ Lib.below_grow _ _ (Nat.le_refl _) _ _
theorem formatUint (u : Nat) (hu64 : u < 18446744073709551616) (w : World) (hT : Tabs w) :
    Calls Tryz.prog 173 #[.int .u64 (u : Int), .int .i64 10] w fun e w' => e = .returned (.string ⟨(Lib.decDigits u).toArray⟩) ∧ Below w.heap.size w w' := by
  have H := Lib.hid hu64; clear hu64
  have HT := Lib.hid hT; clear hT
  go_enter Tryz.func173, Tryz.ntmps173
  go_wp2_with (go_at_call 202; refine (iformatUint _ H.out _ HT.out).mono ?_; rintro e w' ⟨rfl, hb⟩)
  go_ret
  exact ⟨rfl, hb⟩
theorem itoa_any (n : Int) (h0 : -9223372036854775808 ≤ n) (h1 : n ≤ 9223372036854775807) (w : World) (hT : Tabs w) :
    Calls Tryz.prog 174 #[.int .i64 n] w fun e w' => e = .returned (.string ⟨(Lib.itoa n).toArray⟩) ∧ Below w.heap.size w w' := by
  refine (Tryz.strconv_Itoa n h0 h1 w hT.pow).mono ?_
  rintro e w' ⟨he, k, os, rfl⟩
  exact ⟨he, Lib.below_grow _ _ (Nat.le_refl _) _ _⟩
end Go.Proofs.YtbgccaconhmbaaaGreatDoor
namespace Go.Proofs.YtbgccaconhmbaaaGreatDoor
open Go.RowKit Go.Sort Go.Lib
theorem bor52 {n : Nat} (h : n < 4503599627370496) : bits .or .u64 (n : Int) 4503599627370496 = ((n + 4503599627370496 : Nat) : Int) := by
  have := bor (a := n) (b := 4503599627370496) (by omega) (by decide)
  rw [Nat.or_comm, ← Nat.two_pow_add_eq_or_of_lt (i := 52) h 1] at this
  rw [Nat.add_comm]; exact this
/-- The digits of a float above zero, as a whole number; its exponent's place; how often two divides it; the odd part; the power. -/
def fullN (m : Nat) : Nat := bif decide (m < 4503599627370496) then m else m % 4503599627370496 + 4503599627370496
def expN (m : Nat) : Nat := bif decide (m < 4503599627370496) then 1 else m / 4503599627370496
def evenN (m : Nat) : Nat := Lib.ctz 64 (fullN m)
def oddN (m : Nat) : Nat := fullN m / 2 ^ evenN m
def powN (m : Nat) : Int := (expN m : Int) - 1 + (-1074) + evenN m
theorem fullN_lo {m : Nat} (h : m < 4503599627370496) : fullN m = m := by unfold fullN; rw [decide_eq_true h, cond_true]
theorem fullN_hi {m : Nat} (h : ¬ m < 4503599627370496) : fullN m = m % 4503599627370496 + 4503599627370496 := by unfold fullN; rw [decide_eq_false h, cond_false]
theorem expN_lo {m : Nat} (h : m < 4503599627370496) : expN m = 1 := by unfold expN; rw [decide_eq_true h, cond_true]
theorem expN_hi {m : Nat} (h : ¬ m < 4503599627370496) : expN m = m / 4503599627370496 := by unfold expN; rw [decide_eq_false h, cond_false]
theorem fullN_bd {m : Nat} (h : 0 < m) : fullN m ≠ 0 ∧ fullN m < 9007199254740992 := by
  by_cases h2 : m < 4503599627370496
  · rw [fullN_lo h2]; omega
  · rw [fullN_hi h2]; omega
theorem evenN_lt {m : Nat} (h : 0 < m) : evenN m < 64 := by
  obtain ⟨h1, h2⟩ := fullN_bd h
  exact (Lib.lowest_bit 64 _ h1 (by omega)).2
theorem expN_bd {m : Nat} (h : m < infR) : 1 ≤ expN m ∧ expN m ≤ 2046 := by
  unfold infR at h
  by_cases h2 : m < 4503599627370496
  · rw [expN_lo h2]; omega
  · rw [expN_hi h2]; omega
theorem tz_full (m : Nat) (h : 0 < m) (w : World) (hT : Tabs w) :
    Calls Tryz.prog 201 #[.int .u64 (fullN m : Int)] w fun e w' => e = .returned (.int .i64 (evenN m : Nat)) ∧ w = w' :=
  tz_any (fullN m) (by have := (fullN_bd h).2; omega) (fullN_bd h).1 w hT
theorem shr_odd (m : Nat) : (fullN m : Int) / 2 ^ evenN m = (oddN m : Int) := by
  unfold oddN
  rw [Int.natCast_ediv, Int.natCast_pow]; rfl
theorem ret_ii {j k : IntKind} {a b c d : Int} (h1 : a = b) (h2 : c = d) : Ending.returned (.tuple #[.int j a, .int k c]) = .returned (.tuple #[.int j b, .int k d]) := by rw [h1, h2]
theorem split_any (m : Nat) (hm : m < infR) (hm0 : 0 < m) (w : World) (hT : Tabs w) :
    Calls Tryz.prog 172 #[.int .u64 (m : Int)] w fun e w' => e = .returned (.tuple #[.int .u64 (oddN m : Nat), .int .i64 (powN m)]) ∧ w = w' := by
  have hm64 : m < 18446744073709551616 := by unfold infR at hm; omega
  have h1 := band_frac hm64
  have HT := Lib.hid hT; clear hT
  have H0 := Lib.hid hm0
  have S := Lib.hid (shr_odd m)
  have e1 : (1:Int) ≤ (expN m : Int) := by have := (expN_bd hm).1; omega
  have e2 : (expN m : Int) ≤ 2046 := by have := (expN_bd hm).2; omega
  have e3 : (evenN m : Int) < 64 := by have := evenN_lt hm0; omega
  by_cases h0 : m < 4503599627370496
  · have h3 : (m : Int) / 4503599627370496 = 0 := by omega
    have h5 : m % 4503599627370496 = m := by omega
    rw [h5] at h1
    have EX := Lib.hid (expN_lo h0)
    have FU := Lib.hid (fullN_lo h0)
    clear hm h0 h5 hm0 hm64 e1 e2
    go_enter Tryz.func172, Tryz.ntmps172
    go_wp2_with (go_at_call 201; rw [← FU.out]; refine (tz_full m H0.out _ HT.out).mono ?_; rintro e w' ⟨rfl, rfl⟩)
    go_ret2
    exact ⟨ret_ii (by rw [← S.out, FU.out]) (by unfold powN; rw [EX.out]; rfl), rfl⟩
  · have h2 := bor52 (n := m % 4503599627370496) (by omega)
    rw [← fullN_hi h0] at h2
    have h3 : (((m : Int) / 4503599627370496) == 0) = false := by simp; omega
    have he1 : (m : Int) / 4503599627370496 = (expN m : Int) := by rw [expN_hi h0]; omega
    rw [he1] at h3
    clear hm h0 hm0 hm64
    generalize m % 4503599627370496 = fr at h1 h2
    go_enter Tryz.func172, Tryz.ntmps172
    go_wp2_with (go_at_call 201; refine (tz_full m H0.out _ HT.out).mono ?_; rintro e w' ⟨rfl, rfl⟩)
    go_ret2
    exact ⟨ret_ii S.out rfl, rfl⟩
end Go.Proofs.YtbgccaconhmbaaaGreatDoor
