/- The directory in memory: what its calls answer and leave. Conditions: none of its own. -/
import Derived.Test.YtfcdajkgopcmpaaDu
namespace Go.Proofs.Ytfcdajkgopcmpaa
open Go.ChangeShapes Go.WideShapes Go.ChangeAt Go.RowKit Go.Deep
section
variable {C S P : Nat → Prop} {w w' : World} {a : Nat} {L l : List RV} {v : Value}
theorem DKm.tn (h : DKm C w a L) (ht : Tn S w w') (hd : ∀ k, C k → ¬ S k) : DKm C w' a L := let ⟨m, h⟩ := h; ⟨m, h.tn ht hd⟩
theorem DKm.below (h : DKm C w a L) (hb : Below w.heap.size w w') : DKm C w' a L := h.tn (Tn.of_below (S := fun _ => False) hb) (fun _ _ e => e)
theorem DKm.lt (h : DKm C w a L) : ∀ k, C k → k < w.heap.size := let ⟨_, h⟩ := h; h.lt
theorem DKm.rise (h : DKm C w a L) : Rise L := let ⟨_, h⟩ := h; h.rise
theorem DKm.may (h : DKm C w a L) : ∀ q ∈ L, mayV q = true := let ⟨_, h⟩ := h; h.may
theorem DKm.ca (h : DKm C w a L) : C a := let ⟨_, h⟩ := h; h.ca
theorem DKm.few (h : DKm C w a L) : L.length ≤ 12 := may_len h.rise h.may
theorem dlearn_any (h : DKm C w a L) (hv : HasR P w v l) (hPC : ∀ k, P k → ¬ C k) (hw : ∀ r ∈ l, r.wf) (hl : L.length + l.length ≤ 1000000) :
    Calls Try.prog 19 #[ptr a, v] w fun e w' => e = .returned (.int .i64 ((learnL L l).2 : Nat)) ∧ ∃ C', DKm C' w' a (learnL L l).1 ∧ Way C w C' w' :=
  (dlearnm_any h hv hPC hw hl).mono fun _ _ ⟨h1, h2, h3⟩ => ⟨h1, C, h2, h3⟩
end
end Go.Proofs.Ytfcdajkgopcmpaa
