/-
  The contract of node's Right for leaves, walked.
-/
import Derived.Test.YtcmplklefeicbaaR
namespace Go.Proofs.Ytcmplklefeicbaa
open Go.RowKit
set_option maxRecDepth 100000

set_option maxHeartbeats 4000000 in
/-- A leaf. -/
theorem right_leaf (p : M.Pg) (x : Value) (w : World) (hs : Sm p) (hv : Vs w x p.es) (hk : p.kind = 3) (hl : p.level ≤ 0) :
    Calls Try.prog 20 #[pv p x] w fun e w' => e = .returned (.bool (M.rises p.high p.es)) ∧ Bel w w' := by
  have H := fun W hW => rises_any p x W hs (hv.bel hW)
  have B0 : Bel w (w.alloc (.cells #[.int .i64 p.lsn, .int .i64 p.kind, .int .i64 p.level, .int .i64 p.right, .string (M.bs p.high), x] 30)) := Bel.al (Below.refl _ _) _
  have HB : Hid (∀ W, Bel (w.alloc (.cells #[.int .i64 p.lsn, .int .i64 p.kind, .int .i64 p.level, .int .i64 p.right, .string (M.bs p.high), x] 30)) W → W.cell? ⟨w.heap.size, 2, none⟩ = some (.int .i64 p.level)) := fun W hW => by
    rw [((Blk.new w #[.int .i64 p.lsn, .int .i64 p.kind, .int .i64 p.level, .int .i64 p.right, .string (M.bs p.high), x] 30).below hW (Blk.new w _ 30).lt).cell]; rfl
  obtain ⟨a, n, c, rfl⟩ := slice_of hv
  obtain ⟨lsn, kind, level, right, high, es⟩ := p
  simp only at hk hl
  subst hk
  have q0 : decide (level ≤ 0) = true := decide_eq_true hl
  cases hr : M.rises high es with
  | true =>
    rw [hr] at H
    have HH := hid H
    have HB0 := hid B0
    clear H B0 hs hv hr
    go_enter Try.func20, Try.ntmps20
    go_wp2_with (go_at_call 35; refine (HH.out _ HB0.out).mono ?_; rintro e w3 ⟨rfl, b3⟩; have c2 := HB.out w3 b3)
    go_ret
    exact ⟨rfl, HB0.out.tr b3⟩
  | false =>
    rw [hr] at H
    have HH := hid H
    have HB0 := hid B0
    clear H B0 hs hv hr
    go_enter Try.func20, Try.ntmps20
    go_wp2_with (go_at_call 35; refine (HH.out _ HB0.out).mono ?_; rintro e w3 ⟨rfl, b3⟩; have c2 := HB.out w3 b3)
    go_ret
    exact ⟨rfl, HB0.out.tr b3⟩
end Go.Proofs.Ytcmplklefeicbaa
