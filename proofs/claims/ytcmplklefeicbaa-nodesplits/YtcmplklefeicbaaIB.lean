/-
  Where a node isn't split.
-/
import Derived.Test.YtcmplklefeicbaaIA
namespace Go.Proofs.Ytcmplklefeicbaa
open Go.RowKit
set_option maxRecDepth 100000

/-- The boxes of a call of the document's Split. -/
structure SC (w W : World) (cs : Array Value) : Prop where
  b0 : Blk W w.heap.size cs 33
  b1 : Blk W (w.heap.size + 1) noC 33
  b2 : Blk W (w.heap.size + 1 + 1) noC 33
  below : Bel w W
theorem SC.bel {w W W' : World} {cs : Array Value} (h : SC w W cs) (b : Bel W W') : SC w W' cs :=
  ⟨h.b0.below b h.b0.lt, h.b1.below b h.b1.lt, h.b2.below b h.b2.lt, h.below.tr b⟩
theorem SC.start (w : World) (cs : Array Value) : SC w (((w.alloc (.cells cs 33)).alloc (.cells noC 33)).alloc (.cells noC 33)) cs := by
  obtain ⟨h1, h2⟩ := heap_two w (.cells cs 33) (.cells noC 33)
  have e : w.heap.size + 1 + 1 = ((w.alloc (.cells cs 33)).alloc (.cells noC 33)).heap.size := by simp
  exact ⟨Blk.al (show Blk _ _ _ _ from h1) _, Blk.al (show Blk _ _ _ _ from h2) _, by rw [e]; exact Blk.new _ _ _, Bel.al (Bel.al (Bel.al (Below.refl _ _) _) _) _⟩
set_option maxHeartbeats 4000000 in
theorem split_err1 (p : M.Pg) (a : Option Addr) (n c : Nat) (r : Int) (w : World) (h : r < 1 ∨ 65535 < r) :
    Calls Try.prog 18 #[pv p (.slice a n c), .int .i64 r] w fun e w' => e = .returned (.tuple #[.agg noC, .agg noC, .int .i64 1]) ∧ Bel w w' := by
  have I0 := hid (SB.start w #[.int .i64 p.lsn, .int .i64 p.kind, .int .i64 p.level, .int .i64 p.right, .string (M.bs p.high), .slice a n c])
  go_enter Try.func18, Try.ntmps18
  go_wp2_with (go_at_call 32; refine (linkable_no r _ h).mono ?_; rintro e w3 ⟨rfl, rfl⟩)
  refine bodyPost_ret (results_cells3 (p := 4) (q := 5) (ty := 30) (u := 6) rfl _ _ (w.heap.size + 1) _ (w.heap.size + 1 + 1) _ rfl rfl (load30 (cs := noC) I0.out.b1 rfl) (load30 (cs := noC) I0.out.b2 rfl)) rfl ?_
  exact ⟨rfl, I0.out.below⟩
theorem split_err2 (p : M.Pg) (a : Option Addr) (n c : Nat) (r : Int) (w : World) (h1 : 1 ≤ r) (h2 : r ≤ 65535) (hn : n < 2) :
    Calls Try.prog 18 #[pv p (.slice a n c), .int .i64 r] w fun e w' => e = .returned (.tuple #[.agg noC, .agg noC, .int .i64 17]) ∧ Bel w w' := by
  have I0 := hid (SB.start w #[.int .i64 p.lsn, .int .i64 p.kind, .int .i64 p.level, .int .i64 p.right, .string (M.bs p.high), .slice a n c])
  have hn' : (n : Int) < 2 := by omega
  go_enter Try.func18, Try.ntmps18
  go_wp2_with (go_at_call 32; refine (linkable_yes r _ h1 h2).mono ?_; rintro e w3 ⟨rfl, rfl⟩)
  refine bodyPost_ret (results_cells3 (p := 4) (q := 5) (ty := 30) (u := 6) rfl _ _ (w.heap.size + 1) _ (w.heap.size + 1 + 1) _ rfl rfl (load30 (cs := noC) I0.out.b1 rfl) (load30 (cs := noC) I0.out.b2 rfl)) rfl ?_
  exact ⟨rfl, I0.out.below⟩
set_option maxHeartbeats 4000000 in
theorem rsplit_err1 (p : M.Pg) (a : Option Addr) (n c : Nat) (r : Int) (w : World) (h : r < 1 ∨ 65535 < r) :
    Calls Try.prog 19 #[pv p (.slice a n c), .int .i64 r] w fun e w' => e = .returned (.tuple #[.agg noC, .agg noC, .int .i64 1]) ∧ Bel w w' := by
  have I0 := hid (SC.start w #[.int .i64 p.lsn, .int .i64 p.kind, .int .i64 p.level, .int .i64 p.right, .string (M.bs p.high), .slice a n c])
  by_cases h1 : r < 1
  · have q1 : decide (r < 1) = true := decide_eq_true h1
    go_enter Try.func19, Try.ntmps19
    go_wp2_with fail
    refine bodyPost_ret (results_cells3 (p := 4) (q := 5) (ty := 33) (u := 6) rfl _ _ (w.heap.size + 1) _ (w.heap.size + 1 + 1) _ rfl rfl (load33 (cs := noC) I0.out.b1 rfl) (load33 (cs := noC) I0.out.b2 rfl)) rfl ?_
    exact ⟨rfl, I0.out.below⟩
  · have q1 : decide (r < 1) = false := decide_eq_false h1
    have q2 : decide (65535 < r) = true := decide_eq_true (by omega)
    have q3 : 65535 < r := by omega
    go_enter Try.func19, Try.ntmps19
    go_wp2_with fail
    refine bodyPost_ret (results_cells3 (p := 4) (q := 5) (ty := 33) (u := 6) rfl _ _ (w.heap.size + 1) _ (w.heap.size + 1 + 1) _ rfl rfl (load33 (cs := noC) I0.out.b1 rfl) (load33 (cs := noC) I0.out.b2 rfl)) rfl ?_
    exact ⟨rfl, I0.out.below⟩
theorem rsplit_err2 (p : M.Pg) (a : Option Addr) (n c : Nat) (r : Int) (w : World) (h1 : 1 ≤ r) (h2 : r ≤ 65535) (hn : n < 2) :
    Calls Try.prog 19 #[pv p (.slice a n c), .int .i64 r] w fun e w' => e = .returned (.tuple #[.agg noC, .agg noC, .int .i64 17]) ∧ Bel w w' := by
  have I0 := hid (SC.start w #[.int .i64 p.lsn, .int .i64 p.kind, .int .i64 p.level, .int .i64 p.right, .string (M.bs p.high), .slice a n c])
  have hn' : (n : Int) < 2 := by omega
  have q1 : decide (r < 1) = false := decide_eq_false (by omega)
  have q2 : decide (65535 < r) = false := decide_eq_false (by omega)
  have q3 : ¬ r < 1 := by omega
  have q4 : ¬ 65535 < r := by omega
  go_enter Try.func19, Try.ntmps19
  go_wp2_with fail
  refine bodyPost_ret (results_cells3 (p := 4) (q := 5) (ty := 33) (u := 6) rfl _ _ (w.heap.size + 1) _ (w.heap.size + 1 + 1) _ rfl rfl (load33 (cs := noC) I0.out.b1 rfl) (load33 (cs := noC) I0.out.b2 rfl)) rfl ?_
  exact ⟨rfl, I0.out.below⟩
end Go.Proofs.Ytcmplklefeicbaa
