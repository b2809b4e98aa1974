/- raceref.CopyBytes, Bytes; racelaw6.Does. Conditions: names and bytes as few operations have them. racelaw6.Does at whatever operation; Few. Conditions: none of its own. -/
import Derived.Test.YtkilkhnoldfhcaaGreatDoorJ
import Derived.Test.YtkilkhnoldfhcaaGreatDoorO
namespace Go.Proofs.YtkilkhnoldfhcaaGreatDoor
open Go.RowKit
set_option maxRecDepth 100000 in
theorem copyBytes_any {C : Nat → Prop} {w : World} {ao : Option Addr} {n cap : Nat} {l : List UInt8} (h : SB C w ao n cap l) (hroom : n ≤ 140737488355328) :
    Calls Tryz.prog 26 #[.slice ao n cap] w fun e w' => ∃ ao' cap', e = .returned (.slice ao' n cap') ∧ w'.ownsRow w.heap.size 5 1 (.slice ao' n cap') n (bys l) ∧ Below w.heap.size w w' := by
  obtain ⟨i0, hi, hz0, hz1, hz2⟩ := info_parts info5
  have hn := h.len
  have HN := Lib.hid hn
  have H := Lib.hid h
  clear h hn
  go_enter Tryz.func26, Tryz.ntmps26
  go_wp2
  go_loopw [3, 4] (fun b i wr => ∃ j : Nat, j ≤ n ∧ i = .int .i64 j ∧ Hid (wr.ownsRow w.heap.size 5 1 b j (bys (l.take j))) ∧ Hid (Below w.heap.size w wr)) (fun _ i _ => n - (intOf i).toNat)
  case atStart => exact ⟨0, by omega, rfl, World.ownsRow_nil _ _ _ _, Below.refl _ _⟩
  case round =>
    obtain ⟨j, hj, rfl, HO, HW⟩ := hrel
    by_cases hjn : j < n
    · rcases (H.out.below HW.out).cells with h0 | ⟨b, off, rfl, _, hcell⟩
      · omega
      have hc := hcell j hjn
      have HT : Hid (l.take (j + 1) = l.take j ++ [l.getD j 0]) := by
        have : j < l.length := by rw [← HN.out]; exact hjn
        rw [List.take_add_one, List.getD_eq_getElem?_getD, List.getElem?_eq_getElem this]; exact rfl
      clear hcell
      generalize l.getD j 0 = y at *
      generalize l.take j = M at *
      have hs := HW.out.size
      have ho := HO.out
      go_wp2_with (first
        | (at_builtin; refine wpList_append_own_at _ rfl (.tmp 11) (.tmp 16) 36 rfl w.heap.size 5 i0 (.int .u8 0) 1 1 under33 hi hz0 hz1 hz2 rfl (by decide) _ _ _ rfl (ho.alloc _) ⟨wr.heap.size, 0, none⟩ 1 1 (bys [y]) rfl rfl (cell_one_new _ _ _) (bys_one _) (by unfold maxLen; omega) (by omega) (by simp; omega) ?_; intro v2 w2 hown' hgrow _ hat; have HO2 := Lib.hid hown'; have HW2 := Lib.hid ((HW.out.alloc hs _).grown hgrow (by simp; omega) (fun k hk => (ho.lt k hk).1)); clear hown' hgrow hat))
      go_roundw
      case rel => exact ⟨j + 1, by omega, by go_num, by rw [HT.out, bys_append]; exact HO2, HW2⟩
      case measure => simp [intOf]; omega
    · obtain rfl : j = n := by omega
      have ho := HO.out
      rw [List.take_of_length_le (by rw [← HN.out]; omega)] at ho
      have HO3 := Lib.hid ho
      obtain ⟨ao', cap', rfl⟩ := own_slice ho
      clear ho HO
      go_wp2
      go_ret
      exact ⟨_, _, rfl, HO3.out, HW.out⟩
theorem bytes_any {B C : Nat → Prop} {w : World} {ao bo : Option Addr} {n cap m bcap : Nat} {l k : List UInt8} (h : SB B w ao n cap l) (h2 : SB C w bo m bcap k) :
    Calls Tryz.prog 40 #[.slice ao n cap, .slice bo m bcap] w fun e w' => e = .returned (.bool (l == k)) ∧ w = w' := by
  have c1 := h.conv
  have c2 := h2.conv
  clear h h2
  go_enter Tryz.func40, Tryz.ntmps40
  go_wp2
  go_ret
  exact ⟨rfl, rfl⟩
section
variable {S C : Nat → Prop} {w : World} {a m : Nat} {d : Dk} {ρ : Nm → Nat} {δ : Nm → Value}
theorem wrote_from {w1 w' : World} {r : Dk × Nat} {e : Ending} (h : Wrote S w1 a r e w') (hb : Below w.heap.size w w1) (hl : ∀ k, S k → k < w.heap.size) : Wrote S w a r e w' := by
  obtain ⟨h1, ⟨m, ρ, δ, h2⟩, h3⟩ := h
  have ht : Tn S w w' := (Tn.of_below hb).trans h3 (fun _ _ e => e)
  refine ⟨h1, ⟨m, ρ, δ, h2.grow (fun k hk => ?_) (fun k hk => Gw.size ht.size hl hk)⟩, ht⟩
  rcases hk with hk | hk
  · exact .inl hk
  · have := hb.size; exact .inr (by omega)
theorem DK.grow {U : Nat → Prop} (h : DK S w a d) (hu : ∀ k, S k → U k) (hl : ∀ k, U k → k < w.heap.size) : DK U w a d := let ⟨m, ρ, δ, h⟩ := h; ⟨m, ρ, δ, h.grow hu hl⟩
theorem wrote_dk {w' : World} {r : Dk × Nat} (h : DK S w' a r.1) (ht : Tn S w w') (hl : ∀ k, S k → k < w.heap.size) : Wrote S w a r (.returned (.int .i64 (r.2 : Int))) w' := by
  obtain ⟨m, ρ, δ, h⟩ := h
  exact wrote_same h ht hl
/-- Bounds under which an operation is done. -/
structure Do.small (p : Do) : Prop extends p.wf where
  name1 : p.name.length ≤ 281474976710656
  to1 : p.to.length ≤ 281474976710656
  b1 : p.b.length ≤ 70000000000000
end
end Go.Proofs.YtkilkhnoldfhcaaGreatDoor
namespace Go.Proofs.YtkilkhnoldfhcaaGreatDoor
open Go.RowKit
section
variable {S C : Nat → Prop} {w : World} {a m : Nat} {d : Dk} {ρ : Nm → Nat} {δ : Nm → Value}
/-- An operation as a value. -/
def opv (p : Do) (ao : Option Addr) (cap : Nat) (po : Option Addr) (pc : Nat) : Value := .agg #[.int .i64 p.kind, .int .i64 p.n, nmv p.name, nmv p.to, .slice ao p.b.length cap, .slice po p.picks.length pc]
/-- How much it writes. -/
theorem done_step (d : Dk) (p : Do) : (d.step p).1.done ≤ d.done + 1 := by
  have h0 : d.spend.1.done ≤ d.done + 1 := by unfold Dk.spend; split <;> simp
  unfold Dk.step
  repeat' split
  all_goals first
    | (show d.done ≤ _; omega)
    | (unfold Dk.create; repeat' split) <;> first | (show d.done ≤ _; omega) | exact h0
    | (unfold Dk.append; repeat' split) <;> first | (show d.done ≤ _; omega) | exact h0
    | (unfold Dk.sync; repeat' split) <;> first | (show d.done ≤ _; omega) | exact h0
    | (unfold Dk.cut; repeat' split) <;> first | (show d.done ≤ _; omega) | exact h0
    | (unfold Dk.rename; repeat' split) <;> first | (show d.done ≤ _; omega) | exact h0
    | (unfold Dk.remove; repeat' split) <;> first | (show d.done ≤ _; omega) | exact h0
    | (unfold Dk.arm; repeat' split) <;> (show d.done ≤ _; omega)
    | (unfold Dk.crash; show d.done ≤ _; omega)
end
/-- How many bytes operations bear. -/
def wei (l : List Do) : Nat := (l.map fun p => min p.name.length 20001 + min p.to.length 20001 + min p.b.length 20001).sum
def fewB (l : List Do) : Bool := decide (l.length ≤ 300) && decide (wei (l.take 300) ≤ 20000)
theorem wei_take {l : List Do} {k : Nat} (h : k < l.length) : wei (l.take (k + 1)) = wei (l.take k) + (min l[k].name.length 20001 + min l[k].to.length 20001 + min l[k].b.length 20001) := by
  unfold wei
  rw [List.take_succ_eq_append_getElem h, List.map_append, List.sum_append]
  simp
theorem wei_le (l : List Do) : wei l ≤ l.length * 60003 := by
  induction l with
  | nil => simp [wei]
  | cons p r ih =>
    have e : wei (p :: r) = (min p.name.length 20001 + min p.to.length 20001 + min p.b.length 20001) + wei r := rfl
    rw [e, List.length_cons, Nat.add_mul]
    omega
theorem few_yes {l : List Do} (h : fewB l = true) : l.length ≤ 300 ∧ wei l ≤ 20000 := by
  unfold fewB at h
  simp only [Bool.and_eq_true, decide_eq_true_eq] at h
  obtain ⟨h1, h2⟩ := h
  rw [List.take_of_length_le h1] at h2
  exact ⟨h1, h2⟩
theorem wei_mem {l : List Do} (h : wei l ≤ 20000) : ∀ p ∈ l, p.name.length ≤ 20000 ∧ p.to.length ≤ 20000 ∧ p.b.length ≤ 20000 := by
  induction l with
  | nil => intro p hp; cases hp
  | cons u r ih =>
    have e : wei (u :: r) = (min u.name.length 20001 + min u.to.length 20001 + min u.b.length 20001) + wei r := rfl
    intro p hp
    rcases List.mem_cons.1 hp with rfl | hp
    · omega
    · exact ih (by omega) p hp
theorem few_small {l : List Do} (h : fewB l = true) (hw : ∀ p ∈ l, p.wf) : ∀ p ∈ l, p.small := fun p hp => by
  have := wei_mem (few_yes h).2 p hp
  exact ⟨hw p hp, by omega, by omega, by omega⟩
end Go.Proofs.YtkilkhnoldfhcaaGreatDoor
