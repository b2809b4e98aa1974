/- A bit turned turns the sum of bytes; the sum of a copy is the same; that of no bytes is nought: racelaw5.FrameSums answers true and leaves its arguments as they were. Conditions: none. -/
import Derived.Test.YtcpncmdnefemmaaW
import Derived.Test.YtcpncmdnefemmaaZ
import Derived.RegionTactic
namespace Go.Proofs.Ytcpncmdnefemmaa
open Go.ChangeShapes Go.WideShapes Go.ChangeAt Go.RowKit
theorem ofInt8 {n : Nat} (h : n < 256) : (BitVec.ofInt 8 (n : Int)).toNat = n := by
  rw [BitVec.ofInt_natCast, BitVec.toNat_ofNat]; exact Nat.mod_eq_of_lt (by omega)
theorem bxor8 {a b : Nat} (ha : a < 256) (hb : b < 256) : bits .xor .u8 (a : Int) (b : Int) = ((a ^^^ b : Nat) : Int) := by
  show IntKind.u8.wrap ((BitVec.ofInt 8 (a : Int) ^^^ BitVec.ofInt 8 (b : Int)).toNat : Int) = _
  rw [BitVec.toNat_xor, ofInt8 ha, ofInt8 hb, wrapu8, Nat.mod_eq_of_lt (Nat.xor_lt_two_pow (n := 8) ha hb)]
/-- A byte with another mask is another byte. -/
theorem xor_byte (x : UInt8) (m : Nat) (h0 : m ≠ 0) (hm : m < 256) : ∃ y : UInt8, y ≠ x ∧ bits .xor .u8 (x.toNat : Int) (m : Int) = (y.toNat : Int) := by
  have hx := byte_lt x
  have hl : x.toNat ^^^ m < 256 := Nat.xor_lt_two_pow (n := 8) hx hm
  refine ⟨UInt8.ofNat (x.toNat ^^^ m), ?_, by rw [bxor8 hx hm, ofNat_toNat hl]⟩
  intro e
  have e2 := congrArg UInt8.toNat e
  rw [ofNat_toNat hl] at e2
  have e3 := congrArg (x.toNat ^^^ ·) e2
  simp only [← Nat.xor_assoc, Nat.xor_self, Nat.zero_xor] at e3
  exact h0 e3
theorem pow_byte {j : Nat} (h : j < 8) : IntKind.u8.wrap ((2 : Int) ^ j) = ((2 ^ j : Nat) : Int) ∧ 2 ^ j ≠ 0 ∧ 2 ^ j < 256 := by
  have : j = 0 ∨ j = 1 ∨ j = 2 ∨ j = 3 ∨ j = 4 ∨ j = 5 ∨ j = 6 ∨ j = 7 := by omega
  rcases this with rfl | rfl | rfl | rfl | rfl | rfl | rfl | rfl <;> decide
theorem bys_set (l : List UInt8) (i : Nat) (y : UInt8) : bys (l.set i y) = (bys l).set i (.int .u8 (y.toNat : Int)) := by
  unfold bys; rw [List.map_set]
set_option maxHeartbeats 1000000 in
set_option maxRecDepth 100000 in
theorem frameSums_pp (w : World) (ao : Option Addr) (cap : Nat) (l : List UInt8) (n : Nat) (HN : Hid (l.length = n)) (H : Hid (SB w.heap.size w ao n cap l)) (h0 : 0 < n) (h2 : n ≤ 20000) (A D : Nat) (_hA : (A : Int) ≤ 9223372036854775807) (_hD : (D : Int) ≤ 9223372036854775807) :
    Calls Try.prog 9 #[.slice ao n cap, .int .i64 (A : Int), .int .i64 (D : Int)] w fun e w' => e = .returned (.bool true) ∧ Below w.heap.size w w' := by
  have HB := Lib.hid (Below.refl w.heap.size w)
  have hn0 : ((n : Int) == 0) = false := by rw [beq_eq_false_iff_ne]; omega
  have hnz : ¬ n = 0 := by omega
  have hi : A % n < n := Nat.mod_lt _ h0
  have hj : D % 8 < 8 := Nat.mod_lt _ (by decide)
  have e1 : Int.tmod (A : Int) (n : Int) = ((A % n : Nat) : Int) := rfl
  have e2 : Int.tmod (D : Int) 8 = ((D % 8 : Nat) : Int) := rfl
  generalize A % n = i at *
  generalize D % 8 = j at *
  have e3 : IntKind.u64.wrap (j : Int) = (j : Int) := by rw [IntKind.wrap_u64]; omega
  go_enter Try.func9, Try.ntmps9
  go_wp2_with (first
    | (go_at_call 10; (with_reducible refine (first_any _).mono ?_); rintro e w1 ⟨rfl, hb⟩; have HB := Lib.hid (HB.out.trans (hb.mono HB.out.size)); clear hb)
    | (go_at_call 11; (with_reducible refine (copyBytes_any ((H.out.below HB.out).mono HB.out.size) (by omega)).mono ?_); rintro e w2 ⟨co, cc, rfl, ho, hb⟩; obtain ⟨g, cc', hv⟩ := own_shape ho h0; cases hv; have c1 := ho.cellAt i (by omega); have fr1 := ho.frozenAt i; have HO := Lib.hid ho; have HB2 := Lib.hid (HB.out.trans (hb.mono HB.out.size)); clear ho hb))
  have c2 : (bys l)[i]? = some (.int .u8 ((l.getD i 0).toNat : Int)) := by
    simp [bys, List.getD_eq_getElem?_getD, List.getElem?_eq_getElem (show i < l.length by rw [HN.out]; exact hi)]
  rw [c2] at c1
  clear c2
  obtain ⟨e4, e5, e6⟩ := pow_byte hj
  obtain ⟨y, hy, e7⟩ := xor_byte (l.getD i 0) (2 ^ j) e5 e6
  rw [Int.natCast_pow] at e4 e7
  have e4 : IntKind.u8.wrap ((2 : Int) ^ j) = (2 : Int) ^ j := e4
  have e7 : bits .xor .u8 ((l.getD i 0).toNat : Int) ((2 : Int) ^ j) = (y.toNat : Int) := e7
  have HY : Hid (crc (l.set i y) ≠ crc l) := fun e => hy (crc_set (by rw [HN.out]; exact hi) e)
  clear hy e5 e6
  generalize hx : l.getD i 0 = x at *
  clear hx
  refine wp_region_any (by kernel_rfl) ?_
  change wpAny _ _ _ _ _ _ _ (World.drew _)
  refine wpAny_take (i := 0) (v := ?v0) rfl (by kernel_rfl) (by kernel_rfl) (by kernel_rfl) (fun _ _ _ h => h) (Or.inl ⟨by rfl, ?y0⟩) ?r0
  case y0 => first | (intro W; go_simp; done) | (intro W; go_simp; with_reducible rfl)
  go_simp
  refine wpAny_take (i := 1) (v := ?v1) rfl (by kernel_rfl) (by kernel_rfl) (by kernel_rfl) (fun _ _ _ h => h) (Or.inl ⟨by rfl, ?y1⟩) ?r1
  case y1 => first | (intro W; go_simp; done) | (intro W; go_simp; with_reducible rfl)
  go_simp
  refine wpAny_take (i := 2) (v := ?v2) rfl (by kernel_rfl) (by kernel_rfl) (by kernel_rfl) (fun _ _ _ h => h) (Or.inl ⟨by rfl, ?y2⟩) ?r2
  case y2 => first | (intro W; go_simp; done) | (intro W; go_simp; with_reducible rfl)
  go_simp
  refine wpAny_take (i := 3) (v := ?v3) rfl (by kernel_rfl) (by kernel_rfl) (by kernel_rfl) (fun _ _ _ h => h) (Or.inl ⟨by rfl, ?y3⟩) ?r3
  case y3 => first | (intro W; go_simp; done) | (intro W; go_simp; with_reducible rfl)
  go_simp
  refine wpAny_take (i := 4) (v := ?v4) rfl (by kernel_rfl) (by kernel_rfl) (by kernel_rfl) (fun _ _ _ h => h) (Or.inl ⟨by rfl, ?y4⟩) ?r4
  case y4 => first | (intro W; go_simp; done) | (intro W; go_simp; with_reducible rfl)
  go_simp
  refine wpAny_take (i := 5) (v := ?v5) rfl (by kernel_rfl) (by kernel_rfl) (by kernel_rfl) (fun _ _ _ h => h) (Or.inl ⟨by rfl, ?y5⟩) ?r5
  case y5 => first | (intro W; go_simp; done) | (intro W; go_simp; with_reducible rfl)
  go_simp
  refine wpAny_take (i := 6) (v := ?v6) rfl (by kernel_rfl) (by kernel_rfl) (by kernel_rfl) (fun _ _ _ h => h) (Or.inl ⟨by rfl, ?y6⟩) ?r6
  case y6 => first | (intro W; go_simp; done) | (intro W; go_simp; with_reducible rfl)
  go_simp
  refine wpAny_take (i := 7) (v := ?v7) rfl (by kernel_rfl) (by kernel_rfl) (by kernel_rfl) (fun _ _ _ h => h) (Or.inl ⟨by rfl, ?y7⟩) ?r7
  case y7 => first | (intro W; go_simp; done) | (intro W; go_simp; with_reducible rfl)
  go_simp
  refine wpAny_take (i := 8) (v := ?v8) rfl (by kernel_rfl) (by kernel_rfl) (by kernel_rfl) (fun _ _ _ h => h) (Or.inl ⟨by rfl, ?y8⟩) ?r8
  case y8 => first | (intro W; go_simp; done) | (intro W; go_simp; with_reducible rfl)
  go_simp
  refine wpAny_take (i := 9) (v := ?v9) rfl (by kernel_rfl) (by kernel_rfl) (by kernel_rfl) (fun _ _ _ h => h) (Or.inl ⟨by rfl, ?y9⟩) ?r9
  case y9 => first | (intro W; go_simp; done) | (intro W; go_simp; with_reducible rfl)
  go_simp
  refine wpAny_take (i := 10) (v := ?v10) rfl (by kernel_rfl) (by kernel_rfl) (by kernel_rfl) (fun _ _ _ h => h) (Or.inl ⟨by rfl, ?y10⟩) ?r10
  case y10 => first | (intro W; go_simp; done) | (intro W; go_simp; with_reducible rfl)
  go_simp
  refine wpAny_take (i := 12) (v := ?v12) rfl (by kernel_rfl) (by kernel_rfl) (by kernel_rfl) (fun _ _ _ h => h) (Or.inl ⟨by rfl, ?y12⟩) ?r12
  case y12 => first | (intro W; go_simp; done) | (intro W; go_simp; with_reducible rfl)
  go_simp
  refine wpAny_take (i := 13) (v := ?v13) rfl (by kernel_rfl) (by kernel_rfl) (by kernel_rfl) (fun _ _ _ h => h) (Or.inl ⟨by rfl, ?y13⟩) ?r13
  case y13 => first | (intro W; go_simp; done) | (intro W; go_simp; with_reducible rfl)
  go_simp
  refine wpAny_take (i := 14) (v := ?v14) rfl (by kernel_rfl) (by kernel_rfl) (by kernel_rfl) (fun _ _ _ h => h) (Or.inl ⟨by rfl, ?y14⟩) ?r14
  case y14 => first | (intro W; go_simp; done) | (intro W; go_simp; with_reducible rfl)
  go_simp
  refine wpAny_take (i := 15) (v := ?v15) rfl (by kernel_rfl) (by kernel_rfl) (by kernel_rfl) (fun _ _ _ h => h) (Or.inl ⟨by rfl, ?y15⟩) ?r15
  case y15 => first | (intro W; go_simp; done) | (intro W; go_simp; with_reducible rfl)
  go_simp
  refine wpAny_ready (rs := [11]) (by kernel_rfl) (by simp) ?_
  refine AllReady.cons rfl (fun K hK => ?_) AllReady.nil
  go_simp
  go_wp2_with (first
    | fail)
  refine wpAny_take (i := 16) (v := ?v16) rfl (by kernel_rfl) (by kernel_rfl) (by kernel_rfl) (fun _ _ _ h => h) (Or.inl ⟨by rfl, ?y16⟩) ?r16
  case y16 => first | (intro W; go_simp; done) | (intro W; go_simp; with_reducible rfl)
  go_simp
  refine wpAny_take (i := 17) (v := ?v17) rfl (by kernel_rfl) (by kernel_rfl) (by kernel_rfl) (fun _ _ _ h => h) (Or.inl ⟨by rfl, ?y17⟩) ?r17
  case y17 => first | (intro W; go_simp; done) | (intro W; go_simp; with_reducible rfl)
  go_simp
  refine wpAny_ready (rs := [18]) (by kernel_rfl) (by simp) ?_
  refine AllReady.cons rfl (fun K hK => ?_) AllReady.nil
  go_simp
  go_wp2_with (first
    | fail)
  refine wpAny_done (by kernel_rfl) ?_ _
  clear c1 e1 e2 e3 e4 e7
  have HO3 := Lib.hid (HO.out.stored i (.int .u8 (y.toNat : Int))).1
  rw [← bys_set] at HO3
  have hb3 := (Below.refl w2.heap.size w2)
  have HB3 := Lib.hid (HB2.out.trans (((Below.refl w1.heap.size w2).setCell (p := ⟨g, i, none⟩) ((HO.out.lt g rfl).1) (.int .u8 (y.toNat : Int))).mono HB.out.size))
  have HO4 := Lib.hid (own_below HO3.out ((Below.refl _ _).drew))
  have HB4 := Lib.hid (HB3.out.drew)
  clear fr1 HO HO3 HB3 HB2 hb3
  generalize (w2.setCell ⟨g, i, none⟩ (.int .u8 (y.toNat : Int))).drew = w3 at *
  have HSN := Lib.hid (own_sb HO4.out)
  clear HO4
  have ht : ((crc l : Int) != (crc (l.set i y) : Int)) = true := by rw [bne_iff_ne]; intro e; exact HY.out (by omega)
  have ht2 : ((crc l : Int) == (crc l : Int)) = true := beq_self_eq_true _
  generalize hcl : crc l = C at *
  generalize hcl2 : crc (l.set i y) = C2 at *
  have HCL := Lib.hid hcl
  have HCL2 := Lib.hid hcl2
  clear hcl hcl2 HY
  go_wp2_with (first
    | (go_at_call 10; (with_reducible refine (first_any _).mono ?_); rintro e w4 ⟨rfl, hb⟩; have HSN := Lib.hid ((HSN.out.below hb).mono hb.size); have HB4 := Lib.hid (HB4.out.trans (hb.mono HB4.out.size)); clear hb)
    | (go_at_call 14; (with_reducible refine (sum_any HCP.out).mono ?_); rw [HCL.out]; rintro e w7 ⟨rfl, hb⟩; have HB4 := Lib.hid (HB4.out.trans (hb.mono HB4.out.size)); clear hb)
    | (go_at_call 14; (with_reducible refine (sum_any HSN.out).mono ?_); rw [HCL2.out]; rintro e w5 ⟨rfl, hb⟩; have HSN := Lib.hid ((HSN.out.below hb).mono hb.size); have HB4 := Lib.hid (HB4.out.trans (hb.mono HB4.out.size)); clear hb)
    | (go_at_call 14; (with_reducible refine (sum_any ((H.out.below HB4.out).mono HB4.out.size)).mono ?_); rw [HCL.out]; rintro e w5 ⟨rfl, hb⟩; have HSN := Lib.hid ((HSN.out.below hb).mono hb.size); have HB4 := Lib.hid (HB4.out.trans (hb.mono HB4.out.size)); clear hb)
    | (go_at_call 11; (with_reducible refine (copyBytes_any ((H.out.below HB4.out).mono HB4.out.size) (by omega)).mono ?_); rintro e w6 ⟨co, cd, rfl, ho, hb⟩; have HCP := Lib.hid (own_sb ho); have HB4 := Lib.hid (HB4.out.trans (hb.mono HB4.out.size)); clear ho hb))
  go_ret
  exact ⟨rfl, HB4.out⟩
set_option maxHeartbeats 1000000 in
set_option maxRecDepth 100000 in
theorem frameSums_pn (w : World) (ao : Option Addr) (cap : Nat) (l : List UInt8) (n : Nat) (HN : Hid (l.length = n)) (H : Hid (SB w.heap.size w ao n cap l)) (h0 : 0 < n) (h2 : n ≤ 20000) (A D : Nat) (_hA : (A : Int) ≤ 9223372036854775807) (hD : (D : Int) ≤ 9223372036854775807) :
    Calls Try.prog 9 #[.slice ao n cap, .int .i64 (A : Int), .int .i64 (-(D : Int) - 1)] w fun e w' => e = .returned (.bool true) ∧ Below w.heap.size w w' := by
  have HB := Lib.hid (Below.refl w.heap.size w)
  have hn0 : ((n : Int) == 0) = false := by rw [beq_eq_false_iff_ne]; omega
  have hnz : ¬ n = 0 := by omega
  have hi : A % n < n := Nat.mod_lt _ h0
  have hj : D % 8 < 8 := Nat.mod_lt _ (by decide)
  have e1 : Int.tmod (A : Int) (n : Int) = ((A % n : Nat) : Int) := rfl
  have e2 : Int.tmod (D : Int) 8 = ((D % 8 : Nat) : Int) := rfl
  generalize A % n = i at *
  generalize D % 8 = j at *
  have e3 : IntKind.u64.wrap (j : Int) = (j : Int) := by rw [IntKind.wrap_u64]; omega
  go_enter Try.func9, Try.ntmps9
  go_wp2_with (first
    | (go_at_call 10; (with_reducible refine (first_any _).mono ?_); rintro e w1 ⟨rfl, hb⟩; have HB := Lib.hid (HB.out.trans (hb.mono HB.out.size)); clear hb)
    | (go_at_call 11; (with_reducible refine (copyBytes_any ((H.out.below HB.out).mono HB.out.size) (by omega)).mono ?_); rintro e w2 ⟨co, cc, rfl, ho, hb⟩; obtain ⟨g, cc', hv⟩ := own_shape ho h0; cases hv; have c1 := ho.cellAt i (by omega); have fr1 := ho.frozenAt i; have HO := Lib.hid ho; have HB2 := Lib.hid (HB.out.trans (hb.mono HB.out.size)); clear ho hb))
  have c2 : (bys l)[i]? = some (.int .u8 ((l.getD i 0).toNat : Int)) := by
    simp [bys, List.getD_eq_getElem?_getD, List.getElem?_eq_getElem (show i < l.length by rw [HN.out]; exact hi)]
  rw [c2] at c1
  clear c2
  obtain ⟨e4, e5, e6⟩ := pow_byte hj
  obtain ⟨y, hy, e7⟩ := xor_byte (l.getD i 0) (2 ^ j) e5 e6
  rw [Int.natCast_pow] at e4 e7
  have e4 : IntKind.u8.wrap ((2 : Int) ^ j) = (2 : Int) ^ j := e4
  have e7 : bits .xor .u8 ((l.getD i 0).toNat : Int) ((2 : Int) ^ j) = (y.toNat : Int) := e7
  have HY : Hid (crc (l.set i y) ≠ crc l) := fun e => hy (crc_set (by rw [HN.out]; exact hi) e)
  clear hy e5 e6
  generalize hx : l.getD i 0 = x at *
  clear hx
  refine wp_region_any (by kernel_rfl) ?_
  change wpAny _ _ _ _ _ _ _ (World.drew _)
  refine wpAny_take (i := 0) (v := ?v0) rfl (by kernel_rfl) (by kernel_rfl) (by kernel_rfl) (fun _ _ _ h => h) (Or.inl ⟨by rfl, ?y0⟩) ?r0
  case y0 => first | (intro W; go_simp; done) | (intro W; go_simp; with_reducible rfl)
  go_simp
  refine wpAny_take (i := 1) (v := ?v1) rfl (by kernel_rfl) (by kernel_rfl) (by kernel_rfl) (fun _ _ _ h => h) (Or.inl ⟨by rfl, ?y1⟩) ?r1
  case y1 => first | (intro W; go_simp; done) | (intro W; go_simp; with_reducible rfl)
  go_simp
  refine wpAny_take (i := 2) (v := ?v2) rfl (by kernel_rfl) (by kernel_rfl) (by kernel_rfl) (fun _ _ _ h => h) (Or.inl ⟨by rfl, ?y2⟩) ?r2
  case y2 => first | (intro W; go_simp; done) | (intro W; go_simp; with_reducible rfl)
  go_simp
  refine wpAny_take (i := 3) (v := ?v3) rfl (by kernel_rfl) (by kernel_rfl) (by kernel_rfl) (fun _ _ _ h => h) (Or.inl ⟨by rfl, ?y3⟩) ?r3
  case y3 => first | (intro W; go_simp; done) | (intro W; go_simp; with_reducible rfl)
  go_simp
  refine wpAny_take (i := 4) (v := ?v4) rfl (by kernel_rfl) (by kernel_rfl) (by kernel_rfl) (fun _ _ _ h => h) (Or.inl ⟨by rfl, ?y4⟩) ?r4
  case y4 => first | (intro W; go_simp; done) | (intro W; go_simp; with_reducible rfl)
  go_simp
  refine wpAny_take (i := 5) (v := ?v5) rfl (by kernel_rfl) (by kernel_rfl) (by kernel_rfl) (fun _ _ _ h => h) (Or.inl ⟨by rfl, ?y5⟩) ?r5
  case y5 => first | (intro W; go_simp; done) | (intro W; go_simp; with_reducible rfl)
  go_simp
  refine wpAny_take (i := 6) (v := ?v6) rfl (by kernel_rfl) (by kernel_rfl) (by kernel_rfl) (fun _ _ _ h => h) (Or.inl ⟨by rfl, ?y6⟩) ?r6
  case y6 => first | (intro W; go_simp; done) | (intro W; go_simp; with_reducible rfl)
  go_simp
  refine wpAny_take (i := 7) (v := ?v7) rfl (by kernel_rfl) (by kernel_rfl) (by kernel_rfl) (fun _ _ _ h => h) (Or.inl ⟨by rfl, ?y7⟩) ?r7
  case y7 => first | (intro W; go_simp; done) | (intro W; go_simp; with_reducible rfl)
  go_simp
  refine wpAny_take (i := 8) (v := ?v8) rfl (by kernel_rfl) (by kernel_rfl) (by kernel_rfl) (fun _ _ _ h => h) (Or.inl ⟨by rfl, ?y8⟩) ?r8
  case y8 => first | (intro W; go_simp; done) | (intro W; go_simp; with_reducible rfl)
  go_simp
  refine wpAny_take (i := 9) (v := ?v9) rfl (by kernel_rfl) (by kernel_rfl) (by kernel_rfl) (fun _ _ _ h => h) (Or.inl ⟨by rfl, ?y9⟩) ?r9
  case y9 => first | (intro W; go_simp; done) | (intro W; go_simp; with_reducible rfl)
  go_simp
  refine wpAny_take (i := 10) (v := ?v10) rfl (by kernel_rfl) (by kernel_rfl) (by kernel_rfl) (fun _ _ _ h => h) (Or.inl ⟨by rfl, ?y10⟩) ?r10
  case y10 => first | (intro W; go_simp; done) | (intro W; go_simp; with_reducible rfl)
  go_simp
  refine wpAny_take (i := 12) (v := ?v12) rfl (by kernel_rfl) (by kernel_rfl) (by kernel_rfl) (fun _ _ _ h => h) (Or.inl ⟨by rfl, ?y12⟩) ?r12
  case y12 => first | (intro W; go_simp; done) | (intro W; go_simp; with_reducible rfl)
  go_simp
  refine wpAny_take (i := 13) (v := ?v13) rfl (by kernel_rfl) (by kernel_rfl) (by kernel_rfl) (fun _ _ _ h => h) (Or.inl ⟨by rfl, ?y13⟩) ?r13
  case y13 => first | (intro W; go_simp; done) | (intro W; go_simp; with_reducible rfl)
  go_simp
  refine wpAny_take (i := 14) (v := ?v14) rfl (by kernel_rfl) (by kernel_rfl) (by kernel_rfl) (fun _ _ _ h => h) (Or.inl ⟨by rfl, ?y14⟩) ?r14
  case y14 => first | (intro W; go_simp; done) | (intro W; go_simp; with_reducible rfl)
  go_simp
  refine wpAny_take (i := 15) (v := ?v15) rfl (by kernel_rfl) (by kernel_rfl) (by kernel_rfl) (fun _ _ _ h => h) (Or.inl ⟨by rfl, ?y15⟩) ?r15
  case y15 => first | (intro W; go_simp; done) | (intro W; go_simp; with_reducible rfl)
  go_simp
  refine wpAny_ready (rs := [11]) (by kernel_rfl) (by simp) ?_
  refine AllReady.cons rfl (fun K hK => ?_) AllReady.nil
  go_simp
  go_wp2_with (first
    | fail)
  refine wpAny_take (i := 16) (v := ?v16) rfl (by kernel_rfl) (by kernel_rfl) (by kernel_rfl) (fun _ _ _ h => h) (Or.inl ⟨by rfl, ?y16⟩) ?r16
  case y16 => first | (intro W; go_simp; done) | (intro W; go_simp; with_reducible rfl)
  go_simp
  refine wpAny_take (i := 17) (v := ?v17) rfl (by kernel_rfl) (by kernel_rfl) (by kernel_rfl) (fun _ _ _ h => h) (Or.inl ⟨by rfl, ?y17⟩) ?r17
  case y17 => first | (intro W; go_simp; done) | (intro W; go_simp; with_reducible rfl)
  go_simp
  refine wpAny_ready (rs := [18]) (by kernel_rfl) (by simp) ?_
  refine AllReady.cons rfl (fun K hK => ?_) AllReady.nil
  go_simp
  go_wp2_with (first
    | fail)
  refine wpAny_done (by kernel_rfl) ?_ _
  clear c1 e1 e2 e3 e4 e7
  have HO3 := Lib.hid (HO.out.stored i (.int .u8 (y.toNat : Int))).1
  rw [← bys_set] at HO3
  have hb3 := (Below.refl w2.heap.size w2)
  have HB3 := Lib.hid (HB2.out.trans (((Below.refl w1.heap.size w2).setCell (p := ⟨g, i, none⟩) ((HO.out.lt g rfl).1) (.int .u8 (y.toNat : Int))).mono HB.out.size))
  have HO4 := Lib.hid (own_below HO3.out ((Below.refl _ _).drew))
  have HB4 := Lib.hid (HB3.out.drew)
  clear fr1 HO HO3 HB3 HB2 hb3
  generalize (w2.setCell ⟨g, i, none⟩ (.int .u8 (y.toNat : Int))).drew = w3 at *
  have HSN := Lib.hid (own_sb HO4.out)
  clear HO4
  have ht : ((crc l : Int) != (crc (l.set i y) : Int)) = true := by rw [bne_iff_ne]; intro e; exact HY.out (by omega)
  have ht2 : ((crc l : Int) == (crc l : Int)) = true := beq_self_eq_true _
  generalize hcl : crc l = C at *
  generalize hcl2 : crc (l.set i y) = C2 at *
  have HCL := Lib.hid hcl
  have HCL2 := Lib.hid hcl2
  clear hcl hcl2 HY
  go_wp2_with (first
    | (go_at_call 10; (with_reducible refine (first_any _).mono ?_); rintro e w4 ⟨rfl, hb⟩; have HSN := Lib.hid ((HSN.out.below hb).mono hb.size); have HB4 := Lib.hid (HB4.out.trans (hb.mono HB4.out.size)); clear hb)
    | (go_at_call 14; (with_reducible refine (sum_any HCP.out).mono ?_); rw [HCL.out]; rintro e w7 ⟨rfl, hb⟩; have HB4 := Lib.hid (HB4.out.trans (hb.mono HB4.out.size)); clear hb)
    | (go_at_call 14; (with_reducible refine (sum_any HSN.out).mono ?_); rw [HCL2.out]; rintro e w5 ⟨rfl, hb⟩; have HSN := Lib.hid ((HSN.out.below hb).mono hb.size); have HB4 := Lib.hid (HB4.out.trans (hb.mono HB4.out.size)); clear hb)
    | (go_at_call 14; (with_reducible refine (sum_any ((H.out.below HB4.out).mono HB4.out.size)).mono ?_); rw [HCL.out]; rintro e w5 ⟨rfl, hb⟩; have HSN := Lib.hid ((HSN.out.below hb).mono hb.size); have HB4 := Lib.hid (HB4.out.trans (hb.mono HB4.out.size)); clear hb)
    | (go_at_call 11; (with_reducible refine (copyBytes_any ((H.out.below HB4.out).mono HB4.out.size) (by omega)).mono ?_); rintro e w6 ⟨co, cd, rfl, ho, hb⟩; have HCP := Lib.hid (own_sb ho); have HB4 := Lib.hid (HB4.out.trans (hb.mono HB4.out.size)); clear ho hb))
  go_ret
  exact ⟨rfl, HB4.out⟩
set_option maxHeartbeats 1000000 in
set_option maxRecDepth 100000 in
theorem frameSums_np (w : World) (ao : Option Addr) (cap : Nat) (l : List UInt8) (n : Nat) (HN : Hid (l.length = n)) (H : Hid (SB w.heap.size w ao n cap l)) (h0 : 0 < n) (h2 : n ≤ 20000) (A D : Nat) (hA : (A : Int) ≤ 9223372036854775807) (_hD : (D : Int) ≤ 9223372036854775807) :
    Calls Try.prog 9 #[.slice ao n cap, .int .i64 (-(A : Int) - 1), .int .i64 (D : Int)] w fun e w' => e = .returned (.bool true) ∧ Below w.heap.size w w' := by
  have HB := Lib.hid (Below.refl w.heap.size w)
  have hn0 : ((n : Int) == 0) = false := by rw [beq_eq_false_iff_ne]; omega
  have hnz : ¬ n = 0 := by omega
  have hi : A % n < n := Nat.mod_lt _ h0
  have hj : D % 8 < 8 := Nat.mod_lt _ (by decide)
  have e1 : Int.tmod (A : Int) (n : Int) = ((A % n : Nat) : Int) := rfl
  have e2 : Int.tmod (D : Int) 8 = ((D % 8 : Nat) : Int) := rfl
  generalize A % n = i at *
  generalize D % 8 = j at *
  have e3 : IntKind.u64.wrap (j : Int) = (j : Int) := by rw [IntKind.wrap_u64]; omega
  go_enter Try.func9, Try.ntmps9
  go_wp2_with (first
    | (go_at_call 10; (with_reducible refine (first_any _).mono ?_); rintro e w1 ⟨rfl, hb⟩; have HB := Lib.hid (HB.out.trans (hb.mono HB.out.size)); clear hb)
    | (go_at_call 11; (with_reducible refine (copyBytes_any ((H.out.below HB.out).mono HB.out.size) (by omega)).mono ?_); rintro e w2 ⟨co, cc, rfl, ho, hb⟩; obtain ⟨g, cc', hv⟩ := own_shape ho h0; cases hv; have c1 := ho.cellAt i (by omega); have fr1 := ho.frozenAt i; have HO := Lib.hid ho; have HB2 := Lib.hid (HB.out.trans (hb.mono HB.out.size)); clear ho hb))
  have c2 : (bys l)[i]? = some (.int .u8 ((l.getD i 0).toNat : Int)) := by
    simp [bys, List.getD_eq_getElem?_getD, List.getElem?_eq_getElem (show i < l.length by rw [HN.out]; exact hi)]
  rw [c2] at c1
  clear c2
  obtain ⟨e4, e5, e6⟩ := pow_byte hj
  obtain ⟨y, hy, e7⟩ := xor_byte (l.getD i 0) (2 ^ j) e5 e6
  rw [Int.natCast_pow] at e4 e7
  have e4 : IntKind.u8.wrap ((2 : Int) ^ j) = (2 : Int) ^ j := e4
  have e7 : bits .xor .u8 ((l.getD i 0).toNat : Int) ((2 : Int) ^ j) = (y.toNat : Int) := e7
  have HY : Hid (crc (l.set i y) ≠ crc l) := fun e => hy (crc_set (by rw [HN.out]; exact hi) e)
  clear hy e5 e6
  generalize hx : l.getD i 0 = x at *
  clear hx
  refine wp_region_any (by kernel_rfl) ?_
  change wpAny _ _ _ _ _ _ _ (World.drew _)
  refine wpAny_take (i := 0) (v := ?v0) rfl (by kernel_rfl) (by kernel_rfl) (by kernel_rfl) (fun _ _ _ h => h) (Or.inl ⟨by rfl, ?y0⟩) ?r0
  case y0 => first | (intro W; go_simp; done) | (intro W; go_simp; with_reducible rfl)
  go_simp
  refine wpAny_take (i := 1) (v := ?v1) rfl (by kernel_rfl) (by kernel_rfl) (by kernel_rfl) (fun _ _ _ h => h) (Or.inl ⟨by rfl, ?y1⟩) ?r1
  case y1 => first | (intro W; go_simp; done) | (intro W; go_simp; with_reducible rfl)
  go_simp
  refine wpAny_take (i := 2) (v := ?v2) rfl (by kernel_rfl) (by kernel_rfl) (by kernel_rfl) (fun _ _ _ h => h) (Or.inl ⟨by rfl, ?y2⟩) ?r2
  case y2 => first | (intro W; go_simp; done) | (intro W; go_simp; with_reducible rfl)
  go_simp
  refine wpAny_take (i := 3) (v := ?v3) rfl (by kernel_rfl) (by kernel_rfl) (by kernel_rfl) (fun _ _ _ h => h) (Or.inl ⟨by rfl, ?y3⟩) ?r3
  case y3 => first | (intro W; go_simp; done) | (intro W; go_simp; with_reducible rfl)
  go_simp
  refine wpAny_take (i := 4) (v := ?v4) rfl (by kernel_rfl) (by kernel_rfl) (by kernel_rfl) (fun _ _ _ h => h) (Or.inl ⟨by rfl, ?y4⟩) ?r4
  case y4 => first | (intro W; go_simp; done) | (intro W; go_simp; with_reducible rfl)
  go_simp
  refine wpAny_take (i := 5) (v := ?v5) rfl (by kernel_rfl) (by kernel_rfl) (by kernel_rfl) (fun _ _ _ h => h) (Or.inl ⟨by rfl, ?y5⟩) ?r5
  case y5 => first | (intro W; go_simp; done) | (intro W; go_simp; with_reducible rfl)
  go_simp
  refine wpAny_take (i := 6) (v := ?v6) rfl (by kernel_rfl) (by kernel_rfl) (by kernel_rfl) (fun _ _ _ h => h) (Or.inl ⟨by rfl, ?y6⟩) ?r6
  case y6 => first | (intro W; go_simp; done) | (intro W; go_simp; with_reducible rfl)
  go_simp
  refine wpAny_take (i := 7) (v := ?v7) rfl (by kernel_rfl) (by kernel_rfl) (by kernel_rfl) (fun _ _ _ h => h) (Or.inl ⟨by rfl, ?y7⟩) ?r7
  case y7 => first | (intro W; go_simp; done) | (intro W; go_simp; with_reducible rfl)
  go_simp
  refine wpAny_take (i := 8) (v := ?v8) rfl (by kernel_rfl) (by kernel_rfl) (by kernel_rfl) (fun _ _ _ h => h) (Or.inl ⟨by rfl, ?y8⟩) ?r8
  case y8 => first | (intro W; go_simp; done) | (intro W; go_simp; with_reducible rfl)
  go_simp
  refine wpAny_take (i := 9) (v := ?v9) rfl (by kernel_rfl) (by kernel_rfl) (by kernel_rfl) (fun _ _ _ h => h) (Or.inl ⟨by rfl, ?y9⟩) ?r9
  case y9 => first | (intro W; go_simp; done) | (intro W; go_simp; with_reducible rfl)
  go_simp
  refine wpAny_take (i := 10) (v := ?v10) rfl (by kernel_rfl) (by kernel_rfl) (by kernel_rfl) (fun _ _ _ h => h) (Or.inl ⟨by rfl, ?y10⟩) ?r10
  case y10 => first | (intro W; go_simp; done) | (intro W; go_simp; with_reducible rfl)
  go_simp
  refine wpAny_take (i := 12) (v := ?v12) rfl (by kernel_rfl) (by kernel_rfl) (by kernel_rfl) (fun _ _ _ h => h) (Or.inl ⟨by rfl, ?y12⟩) ?r12
  case y12 => first | (intro W; go_simp; done) | (intro W; go_simp; with_reducible rfl)
  go_simp
  refine wpAny_take (i := 13) (v := ?v13) rfl (by kernel_rfl) (by kernel_rfl) (by kernel_rfl) (fun _ _ _ h => h) (Or.inl ⟨by rfl, ?y13⟩) ?r13
  case y13 => first | (intro W; go_simp; done) | (intro W; go_simp; with_reducible rfl)
  go_simp
  refine wpAny_take (i := 14) (v := ?v14) rfl (by kernel_rfl) (by kernel_rfl) (by kernel_rfl) (fun _ _ _ h => h) (Or.inl ⟨by rfl, ?y14⟩) ?r14
  case y14 => first | (intro W; go_simp; done) | (intro W; go_simp; with_reducible rfl)
  go_simp
  refine wpAny_take (i := 15) (v := ?v15) rfl (by kernel_rfl) (by kernel_rfl) (by kernel_rfl) (fun _ _ _ h => h) (Or.inl ⟨by rfl, ?y15⟩) ?r15
  case y15 => first | (intro W; go_simp; done) | (intro W; go_simp; with_reducible rfl)
  go_simp
  refine wpAny_ready (rs := [11]) (by kernel_rfl) (by simp) ?_
  refine AllReady.cons rfl (fun K hK => ?_) AllReady.nil
  go_simp
  go_wp2_with (first
    | fail)
  refine wpAny_take (i := 16) (v := ?v16) rfl (by kernel_rfl) (by kernel_rfl) (by kernel_rfl) (fun _ _ _ h => h) (Or.inl ⟨by rfl, ?y16⟩) ?r16
  case y16 => first | (intro W; go_simp; done) | (intro W; go_simp; with_reducible rfl)
  go_simp
  refine wpAny_take (i := 17) (v := ?v17) rfl (by kernel_rfl) (by kernel_rfl) (by kernel_rfl) (fun _ _ _ h => h) (Or.inl ⟨by rfl, ?y17⟩) ?r17
  case y17 => first | (intro W; go_simp; done) | (intro W; go_simp; with_reducible rfl)
  go_simp
  refine wpAny_ready (rs := [18]) (by kernel_rfl) (by simp) ?_
  refine AllReady.cons rfl (fun K hK => ?_) AllReady.nil
  go_simp
  go_wp2_with (first
    | fail)
  refine wpAny_done (by kernel_rfl) ?_ _
  clear c1 e1 e2 e3 e4 e7
  have HO3 := Lib.hid (HO.out.stored i (.int .u8 (y.toNat : Int))).1
  rw [← bys_set] at HO3
  have hb3 := (Below.refl w2.heap.size w2)
  have HB3 := Lib.hid (HB2.out.trans (((Below.refl w1.heap.size w2).setCell (p := ⟨g, i, none⟩) ((HO.out.lt g rfl).1) (.int .u8 (y.toNat : Int))).mono HB.out.size))
  have HO4 := Lib.hid (own_below HO3.out ((Below.refl _ _).drew))
  have HB4 := Lib.hid (HB3.out.drew)
  clear fr1 HO HO3 HB3 HB2 hb3
  generalize (w2.setCell ⟨g, i, none⟩ (.int .u8 (y.toNat : Int))).drew = w3 at *
  have HSN := Lib.hid (own_sb HO4.out)
  clear HO4
  have ht : ((crc l : Int) != (crc (l.set i y) : Int)) = true := by rw [bne_iff_ne]; intro e; exact HY.out (by omega)
  have ht2 : ((crc l : Int) == (crc l : Int)) = true := beq_self_eq_true _
  generalize hcl : crc l = C at *
  generalize hcl2 : crc (l.set i y) = C2 at *
  have HCL := Lib.hid hcl
  have HCL2 := Lib.hid hcl2
  clear hcl hcl2 HY
  go_wp2_with (first
    | (go_at_call 10; (with_reducible refine (first_any _).mono ?_); rintro e w4 ⟨rfl, hb⟩; have HSN := Lib.hid ((HSN.out.below hb).mono hb.size); have HB4 := Lib.hid (HB4.out.trans (hb.mono HB4.out.size)); clear hb)
    | (go_at_call 14; (with_reducible refine (sum_any HCP.out).mono ?_); rw [HCL.out]; rintro e w7 ⟨rfl, hb⟩; have HB4 := Lib.hid (HB4.out.trans (hb.mono HB4.out.size)); clear hb)
    | (go_at_call 14; (with_reducible refine (sum_any HSN.out).mono ?_); rw [HCL2.out]; rintro e w5 ⟨rfl, hb⟩; have HSN := Lib.hid ((HSN.out.below hb).mono hb.size); have HB4 := Lib.hid (HB4.out.trans (hb.mono HB4.out.size)); clear hb)
    | (go_at_call 14; (with_reducible refine (sum_any ((H.out.below HB4.out).mono HB4.out.size)).mono ?_); rw [HCL.out]; rintro e w5 ⟨rfl, hb⟩; have HSN := Lib.hid ((HSN.out.below hb).mono hb.size); have HB4 := Lib.hid (HB4.out.trans (hb.mono HB4.out.size)); clear hb)
    | (go_at_call 11; (with_reducible refine (copyBytes_any ((H.out.below HB4.out).mono HB4.out.size) (by omega)).mono ?_); rintro e w6 ⟨co, cd, rfl, ho, hb⟩; have HCP := Lib.hid (own_sb ho); have HB4 := Lib.hid (HB4.out.trans (hb.mono HB4.out.size)); clear ho hb))
  go_ret
  exact ⟨rfl, HB4.out⟩
set_option maxHeartbeats 1000000 in
set_option maxRecDepth 100000 in
theorem frameSums_nn (w : World) (ao : Option Addr) (cap : Nat) (l : List UInt8) (n : Nat) (HN : Hid (l.length = n)) (H : Hid (SB w.heap.size w ao n cap l)) (h0 : 0 < n) (h2 : n ≤ 20000) (A D : Nat) (hA : (A : Int) ≤ 9223372036854775807) (hD : (D : Int) ≤ 9223372036854775807) :
    Calls Try.prog 9 #[.slice ao n cap, .int .i64 (-(A : Int) - 1), .int .i64 (-(D : Int) - 1)] w fun e w' => e = .returned (.bool true) ∧ Below w.heap.size w w' := by
  have HB := Lib.hid (Below.refl w.heap.size w)
  have hn0 : ((n : Int) == 0) = false := by rw [beq_eq_false_iff_ne]; omega
  have hnz : ¬ n = 0 := by omega
  have hi : A % n < n := Nat.mod_lt _ h0
  have hj : D % 8 < 8 := Nat.mod_lt _ (by decide)
  have e1 : Int.tmod (A : Int) (n : Int) = ((A % n : Nat) : Int) := rfl
  have e2 : Int.tmod (D : Int) 8 = ((D % 8 : Nat) : Int) := rfl
  generalize A % n = i at *
  generalize D % 8 = j at *
  have e3 : IntKind.u64.wrap (j : Int) = (j : Int) := by rw [IntKind.wrap_u64]; omega
  go_enter Try.func9, Try.ntmps9
  go_wp2_with (first
    | (go_at_call 10; (with_reducible refine (first_any _).mono ?_); rintro e w1 ⟨rfl, hb⟩; have HB := Lib.hid (HB.out.trans (hb.mono HB.out.size)); clear hb)
    | (go_at_call 11; (with_reducible refine (copyBytes_any ((H.out.below HB.out).mono HB.out.size) (by omega)).mono ?_); rintro e w2 ⟨co, cc, rfl, ho, hb⟩; obtain ⟨g, cc', hv⟩ := own_shape ho h0; cases hv; have c1 := ho.cellAt i (by omega); have fr1 := ho.frozenAt i; have HO := Lib.hid ho; have HB2 := Lib.hid (HB.out.trans (hb.mono HB.out.size)); clear ho hb))
  have c2 : (bys l)[i]? = some (.int .u8 ((l.getD i 0).toNat : Int)) := by
    simp [bys, List.getD_eq_getElem?_getD, List.getElem?_eq_getElem (show i < l.length by rw [HN.out]; exact hi)]
  rw [c2] at c1
  clear c2
  obtain ⟨e4, e5, e6⟩ := pow_byte hj
  obtain ⟨y, hy, e7⟩ := xor_byte (l.getD i 0) (2 ^ j) e5 e6
  rw [Int.natCast_pow] at e4 e7
  have e4 : IntKind.u8.wrap ((2 : Int) ^ j) = (2 : Int) ^ j := e4
  have e7 : bits .xor .u8 ((l.getD i 0).toNat : Int) ((2 : Int) ^ j) = (y.toNat : Int) := e7
  have HY : Hid (crc (l.set i y) ≠ crc l) := fun e => hy (crc_set (by rw [HN.out]; exact hi) e)
  clear hy e5 e6
  generalize hx : l.getD i 0 = x at *
  clear hx
  refine wp_region_any (by kernel_rfl) ?_
  change wpAny _ _ _ _ _ _ _ (World.drew _)
  refine wpAny_take (i := 0) (v := ?v0) rfl (by kernel_rfl) (by kernel_rfl) (by kernel_rfl) (fun _ _ _ h => h) (Or.inl ⟨by rfl, ?y0⟩) ?r0
  case y0 => first | (intro W; go_simp; done) | (intro W; go_simp; with_reducible rfl)
  go_simp
  refine wpAny_take (i := 1) (v := ?v1) rfl (by kernel_rfl) (by kernel_rfl) (by kernel_rfl) (fun _ _ _ h => h) (Or.inl ⟨by rfl, ?y1⟩) ?r1
  case y1 => first | (intro W; go_simp; done) | (intro W; go_simp; with_reducible rfl)
  go_simp
  refine wpAny_take (i := 2) (v := ?v2) rfl (by kernel_rfl) (by kernel_rfl) (by kernel_rfl) (fun _ _ _ h => h) (Or.inl ⟨by rfl, ?y2⟩) ?r2
  case y2 => first | (intro W; go_simp; done) | (intro W; go_simp; with_reducible rfl)
  go_simp
  refine wpAny_take (i := 3) (v := ?v3) rfl (by kernel_rfl) (by kernel_rfl) (by kernel_rfl) (fun _ _ _ h => h) (Or.inl ⟨by rfl, ?y3⟩) ?r3
  case y3 => first | (intro W; go_simp; done) | (intro W; go_simp; with_reducible rfl)
  go_simp
  refine wpAny_take (i := 4) (v := ?v4) rfl (by kernel_rfl) (by kernel_rfl) (by kernel_rfl) (fun _ _ _ h => h) (Or.inl ⟨by rfl, ?y4⟩) ?r4
  case y4 => first | (intro W; go_simp; done) | (intro W; go_simp; with_reducible rfl)
  go_simp
  refine wpAny_take (i := 5) (v := ?v5) rfl (by kernel_rfl) (by kernel_rfl) (by kernel_rfl) (fun _ _ _ h => h) (Or.inl ⟨by rfl, ?y5⟩) ?r5
  case y5 => first | (intro W; go_simp; done) | (intro W; go_simp; with_reducible rfl)
  go_simp
  refine wpAny_take (i := 6) (v := ?v6) rfl (by kernel_rfl) (by kernel_rfl) (by kernel_rfl) (fun _ _ _ h => h) (Or.inl ⟨by rfl, ?y6⟩) ?r6
  case y6 => first | (intro W; go_simp; done) | (intro W; go_simp; with_reducible rfl)
  go_simp
  refine wpAny_take (i := 7) (v := ?v7) rfl (by kernel_rfl) (by kernel_rfl) (by kernel_rfl) (fun _ _ _ h => h) (Or.inl ⟨by rfl, ?y7⟩) ?r7
  case y7 => first | (intro W; go_simp; done) | (intro W; go_simp; with_reducible rfl)
  go_simp
  refine wpAny_take (i := 8) (v := ?v8) rfl (by kernel_rfl) (by kernel_rfl) (by kernel_rfl) (fun _ _ _ h => h) (Or.inl ⟨by rfl, ?y8⟩) ?r8
  case y8 => first | (intro W; go_simp; done) | (intro W; go_simp; with_reducible rfl)
  go_simp
  refine wpAny_take (i := 9) (v := ?v9) rfl (by kernel_rfl) (by kernel_rfl) (by kernel_rfl) (fun _ _ _ h => h) (Or.inl ⟨by rfl, ?y9⟩) ?r9
  case y9 => first | (intro W; go_simp; done) | (intro W; go_simp; with_reducible rfl)
  go_simp
  refine wpAny_take (i := 10) (v := ?v10) rfl (by kernel_rfl) (by kernel_rfl) (by kernel_rfl) (fun _ _ _ h => h) (Or.inl ⟨by rfl, ?y10⟩) ?r10
  case y10 => first | (intro W; go_simp; done) | (intro W; go_simp; with_reducible rfl)
  go_simp
  refine wpAny_take (i := 12) (v := ?v12) rfl (by kernel_rfl) (by kernel_rfl) (by kernel_rfl) (fun _ _ _ h => h) (Or.inl ⟨by rfl, ?y12⟩) ?r12
  case y12 => first | (intro W; go_simp; done) | (intro W; go_simp; with_reducible rfl)
  go_simp
  refine wpAny_take (i := 13) (v := ?v13) rfl (by kernel_rfl) (by kernel_rfl) (by kernel_rfl) (fun _ _ _ h => h) (Or.inl ⟨by rfl, ?y13⟩) ?r13
  case y13 => first | (intro W; go_simp; done) | (intro W; go_simp; with_reducible rfl)
  go_simp
  refine wpAny_take (i := 14) (v := ?v14) rfl (by kernel_rfl) (by kernel_rfl) (by kernel_rfl) (fun _ _ _ h => h) (Or.inl ⟨by rfl, ?y14⟩) ?r14
  case y14 => first | (intro W; go_simp; done) | (intro W; go_simp; with_reducible rfl)
  go_simp
  refine wpAny_take (i := 15) (v := ?v15) rfl (by kernel_rfl) (by kernel_rfl) (by kernel_rfl) (fun _ _ _ h => h) (Or.inl ⟨by rfl, ?y15⟩) ?r15
  case y15 => first | (intro W; go_simp; done) | (intro W; go_simp; with_reducible rfl)
  go_simp
  refine wpAny_ready (rs := [11]) (by kernel_rfl) (by simp) ?_
  refine AllReady.cons rfl (fun K hK => ?_) AllReady.nil
  go_simp
  go_wp2_with (first
    | fail)
  refine wpAny_take (i := 16) (v := ?v16) rfl (by kernel_rfl) (by kernel_rfl) (by kernel_rfl) (fun _ _ _ h => h) (Or.inl ⟨by rfl, ?y16⟩) ?r16
  case y16 => first | (intro W; go_simp; done) | (intro W; go_simp; with_reducible rfl)
  go_simp
  refine wpAny_take (i := 17) (v := ?v17) rfl (by kernel_rfl) (by kernel_rfl) (by kernel_rfl) (fun _ _ _ h => h) (Or.inl ⟨by rfl, ?y17⟩) ?r17
  case y17 => first | (intro W; go_simp; done) | (intro W; go_simp; with_reducible rfl)
  go_simp
  refine wpAny_ready (rs := [18]) (by kernel_rfl) (by simp) ?_
  refine AllReady.cons rfl (fun K hK => ?_) AllReady.nil
  go_simp
  go_wp2_with (first
    | fail)
  refine wpAny_done (by kernel_rfl) ?_ _
  clear c1 e1 e2 e3 e4 e7
  have HO3 := Lib.hid (HO.out.stored i (.int .u8 (y.toNat : Int))).1
  rw [← bys_set] at HO3
  have hb3 := (Below.refl w2.heap.size w2)
  have HB3 := Lib.hid (HB2.out.trans (((Below.refl w1.heap.size w2).setCell (p := ⟨g, i, none⟩) ((HO.out.lt g rfl).1) (.int .u8 (y.toNat : Int))).mono HB.out.size))
  have HO4 := Lib.hid (own_below HO3.out ((Below.refl _ _).drew))
  have HB4 := Lib.hid (HB3.out.drew)
  clear fr1 HO HO3 HB3 HB2 hb3
  generalize (w2.setCell ⟨g, i, none⟩ (.int .u8 (y.toNat : Int))).drew = w3 at *
  have HSN := Lib.hid (own_sb HO4.out)
  clear HO4
  have ht : ((crc l : Int) != (crc (l.set i y) : Int)) = true := by rw [bne_iff_ne]; intro e; exact HY.out (by omega)
  have ht2 : ((crc l : Int) == (crc l : Int)) = true := beq_self_eq_true _
  generalize hcl : crc l = C at *
  generalize hcl2 : crc (l.set i y) = C2 at *
  have HCL := Lib.hid hcl
  have HCL2 := Lib.hid hcl2
  clear hcl hcl2 HY
  go_wp2_with (first
    | (go_at_call 10; (with_reducible refine (first_any _).mono ?_); rintro e w4 ⟨rfl, hb⟩; have HSN := Lib.hid ((HSN.out.below hb).mono hb.size); have HB4 := Lib.hid (HB4.out.trans (hb.mono HB4.out.size)); clear hb)
    | (go_at_call 14; (with_reducible refine (sum_any HCP.out).mono ?_); rw [HCL.out]; rintro e w7 ⟨rfl, hb⟩; have HB4 := Lib.hid (HB4.out.trans (hb.mono HB4.out.size)); clear hb)
    | (go_at_call 14; (with_reducible refine (sum_any HSN.out).mono ?_); rw [HCL2.out]; rintro e w5 ⟨rfl, hb⟩; have HSN := Lib.hid ((HSN.out.below hb).mono hb.size); have HB4 := Lib.hid (HB4.out.trans (hb.mono HB4.out.size)); clear hb)
    | (go_at_call 14; (with_reducible refine (sum_any ((H.out.below HB4.out).mono HB4.out.size)).mono ?_); rw [HCL.out]; rintro e w5 ⟨rfl, hb⟩; have HSN := Lib.hid ((HSN.out.below hb).mono hb.size); have HB4 := Lib.hid (HB4.out.trans (hb.mono HB4.out.size)); clear hb)
    | (go_at_call 11; (with_reducible refine (copyBytes_any ((H.out.below HB4.out).mono HB4.out.size) (by omega)).mono ?_); rintro e w6 ⟨co, cd, rfl, ho, hb⟩; have HCP := Lib.hid (own_sb ho); have HB4 := Lib.hid (HB4.out.trans (hb.mono HB4.out.size)); clear ho hb))
  go_ret
  exact ⟨rfl, HB4.out⟩
theorem frameSums_few (w : World) (ao : Option Addr) (cap : Nat) (l : List UInt8) (n : Nat) (HN : Hid (l.length = n)) (H : Hid (SB w.heap.size w ao n cap l)) (hn : 20000 < n ∨ n = 0) (a b : Int) :
    Calls Try.prog 9 #[.slice ao n cap, .int .i64 a, .int .i64 b] w fun e w' => e = .returned (.bool true) ∧ Below w.heap.size w w' := by
  have HB := Lib.hid (Below.refl w.heap.size w)
  have hc0 := Lib.hid crc_nil
  rcases hn with hn | rfl
  all_goals
    go_enter Try.func9, Try.ntmps9
    go_wp2_with (first
      | (go_at_call 10; (with_reducible refine (first_any _).mono ?_); rintro e w1 ⟨rfl, hb⟩; have HB := Lib.hid (HB.out.trans (hb.mono HB.out.size)); clear hb)
      | (go_at_call 14; (with_reducible refine (sum_any (sb_nil _ _)).mono ?_); rw [hc0.out]; rintro e w5 ⟨rfl, hb⟩; have HB := Lib.hid (HB.out.trans (hb.mono HB.out.size)); clear hb))
    go_ret
    exact ⟨rfl, HB.out⟩
theorem frameSums_walk (w : World) (ao : Option Addr) (cap : Nat) (l : List UInt8) (h : SB w.heap.size w ao l.length cap l) (a : Int) (ha1 : -9223372036854775808 ≤ a) (ha2 : a ≤ 9223372036854775807) (b : Int) (hb1 : -9223372036854775808 ≤ b) (hb2 : b ≤ 9223372036854775807) :
    Calls Try.prog 9 #[.slice ao l.length cap, .int .i64 a, .int .i64 b] w fun e w' => e = .returned (.bool true) ∧ Below w.heap.size w w' := by
  by_cases hn : 20000 < l.length ∨ l.length = 0
  · exact frameSums_few w ao cap l l.length rfl h hn a b
  have cut : ∀ x : Int, -9223372036854775808 ≤ x → x ≤ 9223372036854775807 → (∃ A : Nat, x = (A : Int) ∧ (A : Int) ≤ 9223372036854775807) ∨ (∃ A : Nat, x = -(A : Int) - 1 ∧ (A : Int) ≤ 9223372036854775807) := fun x h1 h2 => by
    by_cases h : x < 0
    · exact .inr ⟨(-(x + 1)).toNat, by omega, by omega⟩
    · exact .inl ⟨x.toNat, by omega, by omega⟩
  rcases cut a ha1 ha2 with ⟨A, rfl, hA⟩ | ⟨A, rfl, hA⟩ <;> rcases cut b hb1 hb2 with ⟨D, rfl, hD⟩ | ⟨D, rfl, hD⟩
  · exact frameSums_pp w ao cap l l.length rfl h (by omega) (by omega) A D hA hD
  · exact frameSums_pn w ao cap l l.length rfl h (by omega) (by omega) A D hA hD
  · exact frameSums_np w ao cap l l.length rfl h (by omega) (by omega) A D hA hD
  · exact frameSums_nn w ao cap l l.length rfl h (by omega) (by omega) A D hA hD

set_option maxRecDepth 100000 in
theorem frameSums_lifted (os : Os) (started : os.Started) (H : Type) (enc : TypeId × Value → H) :
    ReturnsInHanded {} Try.checked os 9 .any (Rows.frameSumsSpec.pre6 enc Try.prog Try.f9 [] false) (Rows.frameSumsSpec.post enc Try.prog Try.f9 false true false false) := by
  refine returnsInHanded_of_change (C := Try.checked) own started (by kernel_rfl) Try.func9
    (ChangeSpec.witness6 (enc := enc) (C := Try.checked) false ⟨#[], #[.slice none 0 0, .int .i64 0, .int .i64 0], []⟩ 8 (by kernel_rfl) (by kernel_rfl) (by kernel_rfl) (by kernel_rfl)) ?_
  intro W base args ds gs before hval0 hW _ _
  have hval : ∀ (j : Nat) t v, Try.f9.params[j]? = some t → args[j]? = some v → Value.okWide Try.prog W .any base t v := hval0
  have hW' := hW
  obtain ⟨p, q, hA0, hV, rfl, hfz, hnd⟩ := hW
  have hA : DataW.TrodAll enc Try.prog W 0 (fun _ => true) true Try.f9.params.toList args.toList ds p := hA0
  rw [Try.params9] at hA hval
  obtain ⟨v0, v1, v2, d0, d1, d2, p0, p1, p2, rfl, rfl, rfl, h0, h1, h2⟩ := trodAll_three hA
  obtain ⟨b0, len0, cap0, rfl⟩ := okWide_slice Try.underlying22 (hval 0 22 v0 rfl rfl)
  have k0 := h0
  obtain ⟨fuel0, g0⟩ := h0
  obtain ⟨a1, rfl, rfl, rfl, wf1⟩ := open_int Try.underlying3 (hval 1 3 v1 rfl rfl) h1
  obtain ⟨a2, rfl, rfl, rfl, wf2⟩ := open_int Try.underlying3 (hval 2 3 v2 rfl rfl) h2
  obtain ⟨rfl, rfl⟩ := trodVars_none hV
  clear hA0 hval0
  simp only [List.append_nil] at hW'
  have hlt : ∀ x ∈ p0 ++ [] ++ [], x.block < W.heap.size := fun x hx => hW'.lt x (by simpa using hx)
  obtain ⟨ao0, c0, xs0, hv0, r0⟩ := open_sb g0
  have hwf1 := wf1
  simp [Lit.wf, IntKind.min, IntKind.max, IntKind.signed, IntKind.bits] at hwf1
  have hwf2 := wf2
  simp [Lit.wf, IntKind.min, IntKind.max, IntKind.signed, IntKind.bits] at hwf2
  refine Calls.mono (?walk : Calls _ _ _ _ fun e w' => e = .returned (.bool true) ∧ Below W.heap.size W w') fun e W' ⟨he, hw⟩ => ?_
  case walk =>
    rw [hv0]
    exact frameSums_walk W ao0 c0 xs0 r0 a1 (by omega) (by omega) a2 (by omega) (by omega)
  subst he
  exact ⟨_, rfl, post_of_below (pa := p0 ++ ([] ++ [])) (pv := []) hW' (fun _ _ _ => trodAll_mk1 (shut_bool Try.underlying4 _)) (fun sp hsp => trodAll_mk3 (WideElems.Trod_stays laidOut (by kernel_rfl) (of_decide_eq_true (by kernel_rfl)) k0 (fun x hx => hw.same (hlt x (by first | (simp [hx]; done) | exact nomatch hx))) (fun x hx => hsp x (by first | (simp [hx]; done) | exact nomatch hx))) (shut_int Try.underlying3 wf1) (shut_int Try.underlying3 wf2)) (fun _ _ => rfl) (by simp) hw (ok_one (by kernel_rfl) rfl (okWide_bool_mk Try.underlying4 _))⟩
/-- THE ROW. -/
theorem frameSums_holds : Rows.FrameSumsSaid :=
  OpenClaim.holds_of_wide 9 Try.f9 rfl rfl rfl rfl rfl rfl rfl ⟨rfl, rfl, rfl, rfl, rfl⟩ rfl rfl rfl rfl rfl (by kernel_rfl) Try.func9 (by kernel_rfl)
    (of_decide_eq_true (by kernel_rfl)) (by unfold Func.isWrapper; first | (rw [if_pos (by decide +kernel)]; kernel_rfl) | (rw [if_neg (by decide +kernel)]; exact ⟨rfl, rfl⟩))
    (fun os started H enc _ => frameSums_lifted os started H enc)
#print axioms frameSums_holds
end Go.Proofs.Ytcpncmdnefemmaa
