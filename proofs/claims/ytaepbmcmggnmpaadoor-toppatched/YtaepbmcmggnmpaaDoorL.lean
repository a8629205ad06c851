/-
  The contract of the law's 'made', walked, where no entries come in.
-/
import Derived.Test.YtaepbmcmggnmpaaDoorJ
namespace Go.Proofs.YtaepbmcmggnmpaaDoor
open Go.RowKit
set_option maxRecDepth 100000

set_option maxRecDepth 100000 in
set_option maxHeartbeats 4000000 in
theorem made_nil (n0 n1 n2 n3 : Int) (hi : List UInt8) (a : Option Addr) (cap : Nat) (w : World) (hh : hi.length ≤ maxLen) :
    Calls Tryd.prog 12 #[.agg #[.int .i64 n0, .int .i64 n1, .int .i64 n2, .int .i64 n3, .string (M.bs hi), .slice a 0 cap]] w fun e w' => ∃ x y,
      e = .returned (.tuple #[.agg #[.int .i64 n0, .int .i64 n1, .int .i64 n2, .int .i64 n3, .string (M.bs (hi.take 80)), x], .agg #[.int .i64 n0, .int .i64 n1, .int .i64 n2, .int .i64 n3, .string (M.bs (hi.take 80)), y]]) ∧
        OwnE 71 w' w.heap.size x [] ∧ OwnE 88 w' w.heap.size y [] ∧ Bel w w' := by
  unfold maxLen at hh
  have hz : (M.bs hi).size = hi.length := M.bs_size hi
  have hce : (M.bs hi).extract 0 (min (hi.length : Int) 80).toNat = M.bs (hi.take 80) := cut_eq hi 80
  have q1 : (0 : Int) ≤ min (hi.length : Int) 80 := by omega
  have q2 : min (hi.length : Int) 80 ≤ (hi.length : Int) := by omega
  generalize hi.take 80 = H at *
  go_enter Tryd.func12, Tryd.ntmps12
  go_wp2_with fail
  refine wp_loop_rounds 1 ?_
  rw [rounds_succ]
  go_wp2_with fail
  go_region
  all_goals
    go_wp2_with fail
    refine bodyPost_ret (v := .tuple #[.agg #[.int .i64 n0, .int .i64 n1, .int .i64 n2, .int .i64 n3, .string (M.bs H), .slice none 0 0], .agg #[.int .i64 n0, .int .i64 n1, .int .i64 n2, .int .i64 n3, .string (M.bs H), .slice none 0 0]]) (by simp [results, Tryd.results12, go_sem]) rfl ⟨_, _, rfl, OwnE.nil _ _ _, OwnE.nil _ _ _, (Bel.al (Bel.al (Bel.al (Bel.al (Bel.al (Below.refl _ _) _) _) _) _) _).dr⟩
end Go.Proofs.YtaepbmcmggnmpaaDoor
