/- What the chapter's examples fix comes out true. Conditions: none. -/
import Derived.Test.YtfcdajkgopcmpaaJMd
import Derived.Test.YtfcdajkgopcmpaaJHa
import Derived.Below
namespace Go.Proofs.Ytfcdajkgopcmpaa
open Go.RowKit
theorem check_nil (w : World) : Calls Try.prog 28 #[.slice none 0 0] w fun e w' => e = .returned (.int .i64 8) ∧ w = w' := by
  go_enter Try.func28, Try.ntmps28
  go_wp2
  go_ret
  exact ⟨rfl, rfl⟩
theorem mid_one_eq : midV 0 4607182418800017408 = (4602678819172646912, 0) := by decide +kernel
theorem hash_empty (w : World) : Calls Try.prog 47 #[.string ⟨#[]⟩] w fun e w' => e = .returned (.int .u64 17280346270528514342) ∧ w = w' := by
  have := hash_any ⟨#[]⟩ (by decide) w
  rw [hash_none] at this
  exact this
theorem half_fin : 4602678819172646912 < infR := by decide
theorem of_fin (l : List UInt8) : ofH l < infR := Nat.lt_trans (of_spec l).2 one_fin
theorem k_test : (FloatKind.f64.format.order (ofH [107]) 4602678819172646912 == some .lt) = true := by
  rw [lt_test (of_fin _) half_fin, decide_eq_true of_k]
theorem a_test : (FloatKind.f64.format.order (ofH [97]) 4602678819172646912 == some .gt) = true := order_gt_t (of_fin _) half_fin of_a
end Go.Proofs.Ytfcdajkgopcmpaa
