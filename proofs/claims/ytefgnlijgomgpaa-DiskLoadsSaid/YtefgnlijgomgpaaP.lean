/- raceref.CopyBytes, Bytes; racelaw6.Does. Conditions: names and bytes as few operations have them. -/
import Derived.Test.YtefgnlijgomgpaaJ
import Derived.Test.YtefgnlijgomgpaaO
namespace Go.Proofs.Ytefgnlijgomgpaa
open Go.RowKit
set_option maxRecDepth 100000 in
theorem copyBytes_any {C : Nat → Prop} {w : World} {ao : Option Addr} {n cap : Nat} {l : List UInt8} (h : SB C w ao n cap l) (hroom : n ≤ 140737488355328) :
    Calls Try.prog 19 #[.slice ao n cap] w fun e w' => ∃ ao' cap', e = .returned (.slice ao' n cap') ∧ w'.ownsRow w.heap.size 5 1 (.slice ao' n cap') n (bys l) ∧ Below w.heap.size w w' := by
  obtain ⟨i0, hi, hz0, hz1, hz2⟩ := info_parts info5
  have hn := h.len
  have HN := Lib.hid hn
  have H := Lib.hid h
  clear h hn
  go_enter Try.func19, Try.ntmps19
  go_wp2
  go_loopw [3, 4] (fun b i wr => ∃ j : Nat, j ≤ n ∧ i = .int .i64 j ∧ Hid (wr.ownsRow w.heap.size 5 1 b j (bys (l.take j))) ∧ Hid (Below w.heap.size w wr)) (fun _ i _ => n - (intOf i).toNat)
  case atStart => exact ⟨0, by omega, rfl, World.ownsRow_nil _ _ _ _, Below.refl _ _⟩
  case round =>
    obtain ⟨j, hj, rfl, HO, HW⟩ := hrel
    by_cases hjn : j < n
    · rcases (H.out.below HW.out).cells with h0 | ⟨b, off, rfl, _, hcell⟩
      · omega
      have hc := hcell j hjn
      have HT : Hid (l.take (j + 1) = l.take j ++ [l.getD j 0]) := by
        have : j < l.length := by rw [← HN.out]; exact hjn
        rw [List.take_add_one, List.getD_eq_getElem?_getD, List.getElem?_eq_getElem this]; exact rfl
      clear hcell
      generalize l.getD j 0 = y at *
      generalize l.take j = M at *
      have hs := HW.out.size
      have ho := HO.out
      go_wp2_with (first
        | (at_builtin; refine wpList_append_own_at _ rfl (.tmp 11) (.tmp 16) 33 rfl w.heap.size 5 i0 (.int .u8 0) 1 1 under33 hi hz0 hz1 hz2 rfl (by decide) _ _ _ rfl (ho.alloc _) ⟨wr.heap.size, 0, none⟩ 1 1 (bys [y]) rfl rfl (cell_one_new _ _ _) (bys_one _) (by unfold maxLen; omega) (by omega) (by simp; omega) ?_; intro v2 w2 hown' hgrow _ hat; have HO2 := Lib.hid hown'; have HW2 := Lib.hid ((HW.out.alloc hs _).grown hgrow (by simp; omega) (fun k hk => (ho.lt k hk).1)); clear hown' hgrow hat))
      go_roundw
      case rel => exact ⟨j + 1, by omega, by go_num, by rw [HT.out, bys_append]; exact HO2, HW2⟩
      case measure => simp [intOf]; omega
    · obtain rfl : j = n := by omega
      have ho := HO.out
      rw [List.take_of_length_le (by rw [← HN.out]; omega)] at ho
      have HO3 := Lib.hid ho
      obtain ⟨ao', cap', rfl⟩ := own_slice ho
      clear ho HO
      go_wp2
      go_ret
      exact ⟨_, _, rfl, HO3.out, HW.out⟩
theorem bytes_any {B C : Nat → Prop} {w : World} {ao bo : Option Addr} {n cap m bcap : Nat} {l k : List UInt8} (h : SB B w ao n cap l) (h2 : SB C w bo m bcap k) :
    Calls Try.prog 18 #[.slice ao n cap, .slice bo m bcap] w fun e w' => e = .returned (.bool (l == k)) ∧ w = w' := by
  have c1 := h.conv
  have c2 := h2.conv
  clear h h2
  go_enter Try.func18, Try.ntmps18
  go_wp2
  go_ret
  exact ⟨rfl, rfl⟩
section
variable {S C : Nat → Prop} {w : World} {a m : Nat} {d : Dk} {ρ : Nm → Nat} {δ : Nm → Value}
theorem wrote_from {w1 w' : World} {r : Dk × Nat} {e : Ending} (h : Wrote S w1 a r e w') (hb : Below w.heap.size w w1) (hl : ∀ k, S k → k < w.heap.size) : Wrote S w a r e w' := by
  obtain ⟨h1, ⟨m, ρ, δ, h2⟩, h3⟩ := h
  have ht : Tn S w w' := (Tn.of_below hb).trans h3 (fun _ _ e => e)
  refine ⟨h1, ⟨m, ρ, δ, h2.grow (fun k hk => ?_) (fun k hk => Gw.size ht.size hl hk)⟩, ht⟩
  rcases hk with hk | hk
  · exact .inl hk
  · have := hb.size; exact .inr (by omega)
theorem DK.grow {U : Nat → Prop} (h : DK S w a d) (hu : ∀ k, S k → U k) (hl : ∀ k, U k → k < w.heap.size) : DK U w a d := let ⟨m, ρ, δ, h⟩ := h; ⟨m, ρ, δ, h.grow hu hl⟩
theorem wrote_dk {w' : World} {r : Dk × Nat} (h : DK S w' a r.1) (ht : Tn S w w') (hl : ∀ k, S k → k < w.heap.size) : Wrote S w a r (.returned (.int .i64 (r.2 : Int))) w' := by
  obtain ⟨m, ρ, δ, h⟩ := h
  exact wrote_same h ht hl
/-- Bounds under which an operation is done. -/
structure Do.small (p : Do) : Prop extends p.wf where
  name1 : p.name.length ≤ 281474976710656
  to1 : p.to.length ≤ 281474976710656
  b1 : p.b.length ≤ 70000000000000
set_option maxRecDepth 100000 in
theorem does_1 {ao po : Option Addr} {cap pc : Nat} {n : Int} {name to : Nm} {b : List UInt8} {picks : List Int} (h : DAt S w a d m ρ δ) (hs : Do.small ⟨1, n, name, to, b, picks⟩) (hb : SB C w ao b.length cap b) (hp : SI C w po picks.length pc picks) (hC : ∀ k, C k → ¬ S k) (hd : d.done < 9223372036854775807) :
    Calls Try.prog 13 #[ptr a, .agg #[.int .i64 1, .int .i64 n, nmv name, nmv to, .slice ao b.length cap, .slice po picks.length pc]] w (Wrote S w a (d.step ⟨1, n, name, to, b, picks⟩)) := by
  have h1 := h.below (below1 w (.cells #[.int .i64 1, .int .i64 n, nmv name, nmv to, .slice ao b.length cap, .slice po picks.length pc] 36))
  have H1 := Lib.hid h1
  have HL := Lib.hid h.lt
  have HS := Lib.hid hs
  have HB := Lib.hid (hb.below (below1 w (.cells #[.int .i64 1, .int .i64 n, nmv name, nmv to, .slice ao b.length cap, .slice po picks.length pc] 36)))
  have HP := Lib.hid (hp.below (below1 w (.cells #[.int .i64 1, .int .i64 n, nmv name, nmv to, .slice ao b.length cap, .slice po picks.length pc] 36)))
  have HC := Lib.hid hC
  have HD := Lib.hid hd
  have e : d.step ⟨1, n, name, to, b, picks⟩ = d.create name := by unfold Dk.step; simp
  rw [e]
  clear h1 h hs hb hp hC hd e
  go_enter Try.func13, Try.ntmps13
  go_wp2_with (go_at_call 32; (refine (create_any H1.out HS.out.name1 HD.out).mono ?_); rintro e w' ⟨rfl, hk, ht⟩; have HK := Lib.hid hk; have HT := Lib.hid ht; clear hk ht)
  go_ret
  exact wrote_from ⟨rfl, HK.out, HT.out⟩ (below1 w _) HL.out
set_option maxRecDepth 100000 in
theorem does_3 {ao po : Option Addr} {cap pc : Nat} {n : Int} {name to : Nm} {b : List UInt8} {picks : List Int} (h : DAt S w a d m ρ δ) (hs : Do.small ⟨3, n, name, to, b, picks⟩) (hb : SB C w ao b.length cap b) (hp : SI C w po picks.length pc picks) (hC : ∀ k, C k → ¬ S k) (hd : d.done < 9223372036854775807) :
    Calls Try.prog 13 #[ptr a, .agg #[.int .i64 3, .int .i64 n, nmv name, nmv to, .slice ao b.length cap, .slice po picks.length pc]] w (Wrote S w a (d.step ⟨3, n, name, to, b, picks⟩)) := by
  have h1 := h.below (below1 w (.cells #[.int .i64 3, .int .i64 n, nmv name, nmv to, .slice ao b.length cap, .slice po picks.length pc] 36))
  have H1 := Lib.hid h1
  have HL := Lib.hid h.lt
  have HS := Lib.hid hs
  have HB := Lib.hid (hb.below (below1 w (.cells #[.int .i64 3, .int .i64 n, nmv name, nmv to, .slice ao b.length cap, .slice po picks.length pc] 36)))
  have HP := Lib.hid (hp.below (below1 w (.cells #[.int .i64 3, .int .i64 n, nmv name, nmv to, .slice ao b.length cap, .slice po picks.length pc] 36)))
  have HC := Lib.hid hC
  have HD := Lib.hid hd
  have e : d.step ⟨3, n, name, to, b, picks⟩ = d.sync name := by unfold Dk.step; simp
  rw [e]
  clear h1 h hs hb hp hC hd e
  go_enter Try.func13, Try.ntmps13
  go_wp2_with (go_at_call 28; (refine (sync_any H1.out HS.out.name HD.out).mono ?_); rintro e w' ⟨rfl, hk, ht⟩; have HK := Lib.hid hk; have HT := Lib.hid ht; clear hk ht)
  go_ret
  exact wrote_from ⟨rfl, HK.out, HT.out⟩ (below1 w _) HL.out
set_option maxRecDepth 100000 in
theorem does_4 {ao po : Option Addr} {cap pc : Nat} {n : Int} {name to : Nm} {b : List UInt8} {picks : List Int} (h : DAt S w a d m ρ δ) (hs : Do.small ⟨4, n, name, to, b, picks⟩) (hb : SB C w ao b.length cap b) (hp : SI C w po picks.length pc picks) (hC : ∀ k, C k → ¬ S k) (hd : d.done < 9223372036854775807) :
    Calls Try.prog 13 #[ptr a, .agg #[.int .i64 4, .int .i64 n, nmv name, nmv to, .slice ao b.length cap, .slice po picks.length pc]] w (Wrote S w a (d.step ⟨4, n, name, to, b, picks⟩)) := by
  have h1 := h.below (below1 w (.cells #[.int .i64 4, .int .i64 n, nmv name, nmv to, .slice ao b.length cap, .slice po picks.length pc] 36))
  have H1 := Lib.hid h1
  have HL := Lib.hid h.lt
  have HS := Lib.hid hs
  have HB := Lib.hid (hb.below (below1 w (.cells #[.int .i64 4, .int .i64 n, nmv name, nmv to, .slice ao b.length cap, .slice po picks.length pc] 36)))
  have HP := Lib.hid (hp.below (below1 w (.cells #[.int .i64 4, .int .i64 n, nmv name, nmv to, .slice ao b.length cap, .slice po picks.length pc] 36)))
  have HC := Lib.hid hC
  have HD := Lib.hid hd
  have e : d.step ⟨4, n, name, to, b, picks⟩ = d.cut name n := by unfold Dk.step; simp
  rw [e]
  clear h1 h hs hb hp hC hd e
  go_enter Try.func13, Try.ntmps13
  go_wp2_with (go_at_call 34; (refine (cut_any H1.out HS.out.name HD.out n HS.out.n.1 HS.out.n.2).mono ?_); rintro e w' ⟨rfl, hk, ht⟩; have HK := Lib.hid hk; have HT := Lib.hid ht; clear hk ht)
  go_ret
  exact wrote_from ⟨rfl, HK.out, HT.out⟩ (below1 w _) HL.out
set_option maxRecDepth 100000 in
theorem does_5 {ao po : Option Addr} {cap pc : Nat} {n : Int} {name to : Nm} {b : List UInt8} {picks : List Int} (h : DAt S w a d m ρ δ) (hs : Do.small ⟨5, n, name, to, b, picks⟩) (hb : SB C w ao b.length cap b) (hp : SI C w po picks.length pc picks) (hC : ∀ k, C k → ¬ S k) (hd : d.done < 9223372036854775807) :
    Calls Try.prog 13 #[ptr a, .agg #[.int .i64 5, .int .i64 n, nmv name, nmv to, .slice ao b.length cap, .slice po picks.length pc]] w (Wrote S w a (d.step ⟨5, n, name, to, b, picks⟩)) := by
  have h1 := h.below (below1 w (.cells #[.int .i64 5, .int .i64 n, nmv name, nmv to, .slice ao b.length cap, .slice po picks.length pc] 36))
  have H1 := Lib.hid h1
  have HL := Lib.hid h.lt
  have HS := Lib.hid hs
  have HB := Lib.hid (hb.below (below1 w (.cells #[.int .i64 5, .int .i64 n, nmv name, nmv to, .slice ao b.length cap, .slice po picks.length pc] 36)))
  have HP := Lib.hid (hp.below (below1 w (.cells #[.int .i64 5, .int .i64 n, nmv name, nmv to, .slice ao b.length cap, .slice po picks.length pc] 36)))
  have HC := Lib.hid hC
  have HD := Lib.hid hd
  have e : d.step ⟨5, n, name, to, b, picks⟩ = d.rename name to := by unfold Dk.step; simp
  rw [e]
  clear h1 h hs hb hp hC hd e
  go_enter Try.func13, Try.ntmps13
  go_wp2_with (go_at_call 29; (refine (rename_any H1.out HS.out.name HD.out HS.out.to1).mono ?_); rintro e w' ⟨rfl, hk, ht⟩; have HK := Lib.hid hk; have HT := Lib.hid ht; clear hk ht)
  go_ret
  exact wrote_from ⟨rfl, HK.out, HT.out⟩ (below1 w _) HL.out
set_option maxRecDepth 100000 in
theorem does_6 {ao po : Option Addr} {cap pc : Nat} {n : Int} {name to : Nm} {b : List UInt8} {picks : List Int} (h : DAt S w a d m ρ δ) (hs : Do.small ⟨6, n, name, to, b, picks⟩) (hb : SB C w ao b.length cap b) (hp : SI C w po picks.length pc picks) (hC : ∀ k, C k → ¬ S k) (hd : d.done < 9223372036854775807) :
    Calls Try.prog 13 #[ptr a, .agg #[.int .i64 6, .int .i64 n, nmv name, nmv to, .slice ao b.length cap, .slice po picks.length pc]] w (Wrote S w a (d.step ⟨6, n, name, to, b, picks⟩)) := by
  have h1 := h.below (below1 w (.cells #[.int .i64 6, .int .i64 n, nmv name, nmv to, .slice ao b.length cap, .slice po picks.length pc] 36))
  have H1 := Lib.hid h1
  have HL := Lib.hid h.lt
  have HS := Lib.hid hs
  have HB := Lib.hid (hb.below (below1 w (.cells #[.int .i64 6, .int .i64 n, nmv name, nmv to, .slice ao b.length cap, .slice po picks.length pc] 36)))
  have HP := Lib.hid (hp.below (below1 w (.cells #[.int .i64 6, .int .i64 n, nmv name, nmv to, .slice ao b.length cap, .slice po picks.length pc] 36)))
  have HC := Lib.hid hC
  have HD := Lib.hid hd
  have e : d.step ⟨6, n, name, to, b, picks⟩ = d.remove name := by unfold Dk.step; simp
  rw [e]
  clear h1 h hs hb hp hC hd e
  go_enter Try.func13, Try.ntmps13
  go_wp2_with (go_at_call 35; (refine (remove_any H1.out HS.out.name HD.out).mono ?_); rintro e w' ⟨rfl, hk, ht⟩; have HK := Lib.hid hk; have HT := Lib.hid ht; clear hk ht)
  go_ret
  exact wrote_from ⟨rfl, HK.out, HT.out⟩ (below1 w _) HL.out
set_option maxRecDepth 100000 in
theorem does_7 {ao po : Option Addr} {cap pc : Nat} {n : Int} {name to : Nm} {b : List UInt8} {picks : List Int} (h : DAt S w a d m ρ δ) (hs : Do.small ⟨7, n, name, to, b, picks⟩) (hb : SB C w ao b.length cap b) (hp : SI C w po picks.length pc picks) (hC : ∀ k, C k → ¬ S k) (hd : d.done < 9223372036854775807) :
    Calls Try.prog 13 #[ptr a, .agg #[.int .i64 7, .int .i64 n, nmv name, nmv to, .slice ao b.length cap, .slice po picks.length pc]] w (Wrote S w a (d.step ⟨7, n, name, to, b, picks⟩)) := by
  have h1 := h.below (below1 w (.cells #[.int .i64 7, .int .i64 n, nmv name, nmv to, .slice ao b.length cap, .slice po picks.length pc] 36))
  have H1 := Lib.hid h1
  have HL := Lib.hid h.lt
  have HS := Lib.hid hs
  have HB := Lib.hid (hb.below (below1 w (.cells #[.int .i64 7, .int .i64 n, nmv name, nmv to, .slice ao b.length cap, .slice po picks.length pc] 36)))
  have HP := Lib.hid (hp.below (below1 w (.cells #[.int .i64 7, .int .i64 n, nmv name, nmv to, .slice ao b.length cap, .slice po picks.length pc] 36)))
  have HC := Lib.hid hC
  have HD := Lib.hid hd
  have e : d.step ⟨7, n, name, to, b, picks⟩ = (d.arm n, 0) := by unfold Dk.step; simp
  rw [e]
  clear h1 h hs hb hp hC hd e
  go_enter Try.func13, Try.ntmps13
  go_wp2_with (go_at_call 36; (refine (arm_any H1.out n HS.out.n.1 HS.out.n.2).mono ?_); rintro e w' ⟨rfl, hk, ht⟩; have HK := Lib.hid hk; have HT := Lib.hid ht; clear hk ht)
  go_ret
  exact wrote_from (wrote_same (r := (d.arm n, 0)) HK.out HT.out H1.out.lt) (below1 w _) HL.out
set_option maxRecDepth 100000 in
theorem does_8 {ao po : Option Addr} {cap pc : Nat} {n : Int} {name to : Nm} {b : List UInt8} {picks : List Int} (h : DAt S w a d m ρ δ) (hs : Do.small ⟨8, n, name, to, b, picks⟩) (hb : SB C w ao b.length cap b) (hp : SI C w po picks.length pc picks) (hC : ∀ k, C k → ¬ S k) (hd : d.done < 9223372036854775807) :
    Calls Try.prog 13 #[ptr a, .agg #[.int .i64 8, .int .i64 n, nmv name, nmv to, .slice ao b.length cap, .slice po picks.length pc]] w (Wrote S w a (d.step ⟨8, n, name, to, b, picks⟩)) := by
  have h1 := h.below (below1 w (.cells #[.int .i64 8, .int .i64 n, nmv name, nmv to, .slice ao b.length cap, .slice po picks.length pc] 36))
  have H1 := Lib.hid h1
  have HL := Lib.hid h.lt
  have HS := Lib.hid hs
  have HB := Lib.hid (hb.below (below1 w (.cells #[.int .i64 8, .int .i64 n, nmv name, nmv to, .slice ao b.length cap, .slice po picks.length pc] 36)))
  have HP := Lib.hid (hp.below (below1 w (.cells #[.int .i64 8, .int .i64 n, nmv name, nmv to, .slice ao b.length cap, .slice po picks.length pc] 36)))
  have HC := Lib.hid hC
  have HD := Lib.hid hd
  have e : d.step ⟨8, n, name, to, b, picks⟩ = (d.crash picks, 0) := by unfold Dk.step; simp
  rw [e]
  clear h1 h hs hb hp hC hd e
  go_enter Try.func13, Try.ntmps13
  go_wp2_with (go_at_call 24; (refine (crash_any H1.out HP.out HC.out).mono ?_); rintro e w' ⟨rfl, hk, ht⟩; have HK := Lib.hid hk; have HT := Lib.hid ht; clear hk ht)
  go_ret
  exact wrote_from (wrote_dk (r := (d.crash picks, 0)) HK.out HT.out H1.out.lt) (below1 w _) HL.out
set_option maxRecDepth 100000 in
theorem does_9 {ao po : Option Addr} {cap pc : Nat} {n : Int} {name to : Nm} {b : List UInt8} {picks : List Int} (h : DAt S w a d m ρ δ) (hs : Do.small ⟨9, n, name, to, b, picks⟩) (hb : SB C w ao b.length cap b) (hp : SI C w po picks.length pc picks) (hC : ∀ k, C k → ¬ S k) (hd : d.done < 9223372036854775807) :
    Calls Try.prog 13 #[ptr a, .agg #[.int .i64 9, .int .i64 n, nmv name, nmv to, .slice ao b.length cap, .slice po picks.length pc]] w (Wrote S w a (d.step ⟨9, n, name, to, b, picks⟩)) := by
  have h1 := h.below (below1 w (.cells #[.int .i64 9, .int .i64 n, nmv name, nmv to, .slice ao b.length cap, .slice po picks.length pc] 36))
  have H1 := Lib.hid h1
  have HL := Lib.hid h.lt
  have HS := Lib.hid hs
  have HB := Lib.hid (hb.below (below1 w (.cells #[.int .i64 9, .int .i64 n, nmv name, nmv to, .slice ao b.length cap, .slice po picks.length pc] 36)))
  have HP := Lib.hid (hp.below (below1 w (.cells #[.int .i64 9, .int .i64 n, nmv name, nmv to, .slice ao b.length cap, .slice po picks.length pc] 36)))
  have HC := Lib.hid hC
  have HD := Lib.hid hd
  have e : d.step ⟨9, n, name, to, b, picks⟩ = (d, (d.read name).2) := by unfold Dk.step; simp
  rw [e]
  clear h1 h hs hb hp hC hd e
  go_enter Try.func13, Try.ntmps13
  go_wp2_with (go_at_call 16; (refine (read_any H1.out HS.out.name).mono ?_); rintro e w' ⟨v, rfl, ho, hb⟩; have HK := Lib.hid hb; clear ho hb)
  go_ret
  exact wrote_from (wrote_same (r := (d, (d.read name).2)) (H1.out.below HK.out) (Tn.of_below HK.out) H1.out.lt) (below1 w _) HL.out
set_option maxRecDepth 100000 in
theorem does_0 {ao po : Option Addr} {cap pc : Nat} {q n : Int} {name to : Nm} {b : List UInt8} {picks : List Int} (h : DAt S w a d m ρ δ) (hs : Do.small ⟨q, n, name, to, b, picks⟩) (hb : SB C w ao b.length cap b) (hp : SI C w po picks.length pc picks) (hC : ∀ k, C k → ¬ S k) (hd : d.done < 9223372036854775807) (h1 : q ≠ 1) (h2 : q ≠ 2) (h3 : q ≠ 3) (h4 : q ≠ 4) (h5 : q ≠ 5) (h6 : q ≠ 6) (h7 : q ≠ 7) (h8 : q ≠ 8) (h9 : q ≠ 9) :
    Calls Try.prog 13 #[ptr a, .agg #[.int .i64 q, .int .i64 n, nmv name, nmv to, .slice ao b.length cap, .slice po picks.length pc]] w (Wrote S w a (d.step ⟨q, n, name, to, b, picks⟩)) := by
  have hh := h.below (below1 w (.cells #[.int .i64 q, .int .i64 n, nmv name, nmv to, .slice ao b.length cap, .slice po picks.length pc] 36))
  have H1 := Lib.hid hh
  have HL := Lib.hid h.lt
  have HS := Lib.hid hs
  have HB := Lib.hid (hb.below (below1 w (.cells #[.int .i64 q, .int .i64 n, nmv name, nmv to, .slice ao b.length cap, .slice po picks.length pc] 36)))
  have HP := Lib.hid (hp.below (below1 w (.cells #[.int .i64 q, .int .i64 n, nmv name, nmv to, .slice ao b.length cap, .slice po picks.length pc] 36)))
  have HC := Lib.hid hC
  have HD := Lib.hid hd
  have e : d.step ⟨q, n, name, to, b, picks⟩ = (d, 0) := by unfold Dk.step; simp [h1, h2, h3, h4, h5, h6, h7, h8, h9]
  rw [e]
  have b1 : (q == 1) = false := by simpa using h1
  have b2 : (q == 2) = false := by simpa using h2
  have b3 : (q == 3) = false := by simpa using h3
  have b4 : (q == 4) = false := by simpa using h4
  have b5 : (q == 5) = false := by simpa using h5
  have b6 : (q == 6) = false := by simpa using h6
  have b7 : (q == 7) = false := by simpa using h7
  have b8 : (q == 8) = false := by simpa using h8
  have b9 : (q == 9) = false := by simpa using h9
  clear hh h hs hb hp hC hd e h1 h2 h3 h4 h5 h6 h7 h8 h9
  go_enter Try.func13, Try.ntmps13
  go_wp2
  go_ret
  exact wrote_from (wrote_same (r := (d, 0)) H1.out (Tn.refl _ _) H1.out.lt) (below1 w _) HL.out
set_option maxRecDepth 100000 in
theorem does_2 {ao po : Option Addr} {cap pc : Nat} {n : Int} {name to : Nm} {b : List UInt8} {picks : List Int} (h : DAt S w a d m ρ δ) (hs : Do.small ⟨2, n, name, to, b, picks⟩) (hb : SB C w ao b.length cap b) (hp : SI C w po picks.length pc picks) (hC : ∀ k, C k → ¬ S k) (hd : d.done < 9223372036854775807) :
    Calls Try.prog 13 #[ptr a, .agg #[.int .i64 2, .int .i64 n, nmv name, nmv to, .slice ao b.length cap, .slice po picks.length pc]] w (Wrote S w a (d.step ⟨2, n, name, to, b, picks⟩)) := by
  have h1 := h.below (below1 w (.cells #[.int .i64 2, .int .i64 n, nmv name, nmv to, .slice ao b.length cap, .slice po picks.length pc] 36))
  have H1 := Lib.hid h1
  have HL := Lib.hid h.lt
  have HS := Lib.hid hs
  have HB := Lib.hid (hb.below (below1 w (.cells #[.int .i64 2, .int .i64 n, nmv name, nmv to, .slice ao b.length cap, .slice po picks.length pc] 36)))
  have HP := Lib.hid (hp.below (below1 w (.cells #[.int .i64 2, .int .i64 n, nmv name, nmv to, .slice ao b.length cap, .slice po picks.length pc] 36)))
  have HC := Lib.hid hC
  have HD := Lib.hid hd
  have e : d.step ⟨2, n, name, to, b, picks⟩ = d.append name b := by unfold Dk.step; simp
  rw [e]
  have hb1 : b.length ≤ 70000000000000 := hs.b1
  clear h1 h hs hb hp hC hd e
  go_enter Try.func13, Try.ntmps13
  go_wp2_with (first
    | (go_at_call 19; (refine (copyBytes_any HB.out (by omega)).mono ?_); rintro e w2 ⟨io, ic, rfl, ho, hb⟩; have HO := Lib.hid ho; have HB2 := Lib.hid hb; have c2 : w2.cell? ⟨w.heap.size, 2, none⟩ = some (nmv name) := (hb.cell (p := ⟨w.heap.size, 2, none⟩) (by simp)).trans (by go_simp); clear ho hb)
    | (go_at_call 33; (refine (append_any (H1.out.below HB2.out) HS.out.name HD.out (own_sb HO.out) hb1).mono ?_); rintro e w3 ⟨rfl, hk, ht⟩; have HK := Lib.hid hk; have HT := Lib.hid ht; clear hk ht))
  have hbs : b.length ≤ 9223372036854775807 := by omega
  have hro : w3.ownsRow (w.heap.size + 1) 5 1 (.slice io b.length ic) b.length (bys b) := by
    have h1 := own_tn HO.out HT.out (fun k hk e => by have h1 := (HO.out.lt k hk).1; simp at h1; have := HL.out k e; omega)
    simpa using h1
  have HR : Hid (∃ xs, w3.ownsRow (w.heap.size + 1) 5 1 (.slice io b.length ic) b.length xs) := ⟨_, hro⟩
  have hout : ∀ k, (Value.slice io b.length ic).ownBlock = some k → ¬ Gw S w2 w3 k := fun k hk e => by
    have h1 := HO.out.lt k hk
    rcases e with e | e
    · have := HL.out k e
      have h2 := h1.1
      simp at h2
      omega
    · omega
  have HOUT := Lib.hid hout
  clear hro hout c2
  go_loopw [7] (fun i wr => ∃ k : Nat, k ≤ b.length ∧ i = .int .i64 k ∧ Hid (∃ xs, wr.ownsRow (w.heap.size + 1) 5 1 (.slice io b.length ic) b.length xs) ∧ Hid (Tn (fun k => (Value.slice io b.length ic).ownBlock = some k) w3 wr)) (fun i _ => b.length - (intOf i).toNat)
  case atStart => exact ⟨0, Nat.zero_le _, rfl, HR, Tn.refl _ _⟩
  case round =>
    obtain ⟨k, hk, rfl, HX, HW⟩ := hrel
    by_cases hlt : k < b.length
    · obtain ⟨xs, hx⟩ := HX.out
      obtain ⟨g, gc, hg⟩ := own_shape hx (by omega)
      cases hg
      have hsz := hx.1
      have hcell : wr.cell? ⟨g, k, none⟩ = some (xs.getD k undef) := by
        rw [hx.cellAt k (by omega), List.getD_eq_getElem?_getD, List.getElem?_eq_getElem (by omega)]; rfl
      obtain ⟨cur, hcur⟩ := own_at hx (k := g) rfl
      have hfz := frozen_zero (o := k) hcur
      obtain ⟨hx2, hg2⟩ := hx.stored k (.int .u8 88)
      have HX2 := Lib.hid hx2
      have HW2 := Lib.hid (HW.out.grown hg2 (fun j hj _ => hj))
      generalize xs.getD k undef = old at *
      clear hx hx2 hg2 hcur hsz HR HOUT HO
      go_wp2
      go_roundw
      case rel => exact ⟨k + 1, by omega, by go_num, ⟨_, HX2.out⟩, HW2⟩
      case measure => simp [intOf]; omega
    · obtain rfl : k = b.length := by omega
      go_wp2
      go_ret
      have hk2 := HK.out.tn HW.out (fun k hk e => HOUT.out k e hk)
      have hb12 := (below1 w _).trans (HB2.out.mono (by simp))
      have ht2 : Tn S w wr := ((Tn.of_below hb12).trans HT.out (fun _ _ e => e)).trans HW.out (fun j hj e => by have h1 := (HO.out.lt j e).1; simp at h1; omega)
      refine ⟨rfl, hk2.grow (fun j hj => ?_) (fun j hj => Gw.size ht2.size HL.out hj), ht2⟩
      rcases hj with hj | hj
      · exact .inl hj
      · have h1 := hb12.size; have h2 := HW.out.size; exact .inr (by omega)
end
end Go.Proofs.Ytefgnlijgomgpaa
