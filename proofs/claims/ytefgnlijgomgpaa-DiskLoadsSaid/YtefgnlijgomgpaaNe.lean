/- A disk and the document's, side by side. Conditions: none of its own. -/
import Derived.Test.YtefgnlijgomgpaaMm
namespace Go.Proofs.Ytefgnlijgomgpaa
open Go.RowKit
/-- A disk and the document's, side by side, in blocks from B on. -/
structure Two (B : Nat) (w : World) (a : Nat) (S : Nat → Prop) (d : Dk) (c : Nat) (C : Nat → Prop) (e : Dk) : Prop where
  dk : DK S w a d
  rk : RK C w c e
  sb : ∀ k, S k → B ≤ k
  cb : ∀ k, C k → B ≤ k
  sc : ∀ k, S k → ¬ C k
section
variable {B : Nat} {w w' w1 : World} {a c : Nat} {S C : Nat → Prop} {d e x : Dk}
theorem Two.below (h : Two B w a S d c C e) (hb : Below w.heap.size w w') : Two B w' a S d c C e := ⟨h.dk.below hb, h.rk.below hb, h.sb, h.cb, h.sc⟩
theorem Two.ta (h : Two B w a S d c C e) (hB : B ≤ w.heap.size) (hd : DK (Gw S w w') w' a x) (ht : Tn S w w') : Two B w' a (Gw S w w') x c C e := by
  refine ⟨hd, h.rk.tn ht (fun k hk e => h.sc k e hk), fun k hk => Gw.lo h.sb hB hk, h.cb, fun k hk e => ?_⟩
  rcases hk with hk | hk
  · exact h.sc k hk e
  · have := h.rk.lt k e; omega
theorem Two.tb (h : Two B w a S d c C e) (hB : B ≤ w.heap.size) (hd : RK (Gw C w w') w' c x) (ht : Tn C w w') : Two B w' a S d c (Gw C w w') x := by
  refine ⟨h.dk.tn ht (fun k hk e => h.sc k hk e), hd, h.sb, fun k hk => Gw.lo h.cb hB hk, fun k hk e => ?_⟩
  rcases e with e | e
  · exact h.sc k hk e
  · have := h.dk.lt k hk; omega
theorem rk_read (h : RK C w a d) (s : Nm) : Calls Try.prog 17 #[ptr a, nmv s] w fun e w' => ∃ ao cap, e = .returned (.tuple #[.slice ao (d.read s).1.length cap, .int .i64 ((d.read s).2 : Nat)]) ∧ SB C w ao (d.read s).1.length cap (d.read s).1 ∧ w = w' := let ⟨_, _, h⟩ := h; rread_any h s
theorem sb_eq {ao : Option Addr} {n cap : Nat} {l : List UInt8} (h : SB C w ao n cap l) (e : w = w') : SB C w' ao n cap l := e ▸ h
theorem bne_self_eq_false' (n : Int) : (n != n) = false := by simp
theorem two_new {lo : Nat} (h : DK (fun k => lo ≤ k ∧ k < w.heap.size) w a .zero) (hlo : lo ≤ w.heap.size) : Two lo (w.alloc (.cells #[.slice none 0 0, .bool false, .int .i64 0, .int .i64 0] 30)) a (fun k => lo ≤ k ∧ k < w.heap.size) .zero w.heap.size (· = w.heap.size) .zero := by
  refine ⟨h.below (below1 w _), ⟨.slice none 0 0, [], ok_zero, by decide, heap_alloc_new w _, FO.nil _ _, rfl, fun k hk => ?_⟩, fun k hk => hk.1, fun k hk => ?_, fun k hk e => ?_⟩
  · subst hk; simp
  · subst hk; exact hlo
  · subst e; omega
end
end Go.Proofs.Ytefgnlijgomgpaa
