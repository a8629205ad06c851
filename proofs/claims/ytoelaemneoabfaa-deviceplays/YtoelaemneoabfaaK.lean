/-
  The device speaks: a short life of one, walked. The contracts at no device (nil).
-/
import Derived.Test.YtoelaemneoabfaaJ
namespace Go.Proofs.Ytoelaemneoabfaa
open Go.RowKit

/-- The device that 'speaks' asks. -/
def sp1 : St := write (new 3) 0 [97]
def sp2 : St := write sp1 1 [98]
def sp3 : St := blow sp2 [0, 1]
def sp4 : St := on sp3
theorem good_new (n : Int) (h1 : 1 ≤ n) (h2 : n ≤ 4096) : Good 0 (new n) :=
  ⟨by omega, h1, h2, by simp [new], by simp [new], by simp [new], by simp [new], by simp [new], by simp [new], by simp [new], by simp [new], by simp [new]⟩
theorem Good.on {N : Nat} {S : St} (g : Good N S) : Good N (on S) := ⟨g.n, g.size1, g.size2, g.dat, g.fin, g.sec, g.room, g.done0, g.done, by simp [Ytoelaemneoabfaa.on], by simp [Ytoelaemneoabfaa.on], by simp [Ytoelaemneoabfaa.on]⟩
theorem sp_off : sp3.off = true := by decide +kernel
theorem sp_read0 : read sp4 0 = 0 :: List.replicate 255 0 := by decide +kernel
theorem sp_read1 : read sp4 1 = 98 :: List.replicate 255 0 := by decide +kernel
theorem sp_size : sp4.size = 3 := by decide +kernel
theorem index0 (c : UInt8) (l : M.Tx) (w : World) : (Instr.index 9 (.string (M.bs (c :: l))) (.int .i64 0)).run Try.prog w = .ok (.int .u8 c.toNat) w := by
  rw [run_index_string w 9 _ .i64 0 Try.underlying9, dif_pos ⟨Int.le_refl _, by rw [M.bs_size]; simp⟩]
  rfl
theorem two_new (w : World) (a c : Int) : ReadsN (w.alloc (.cells #[.int .i64 a, .int .i64 c] 3)) (.slice (some ⟨w.heap.size, 0, none⟩) 2 2) [a, c] := by
  refine ⟨_, 2, rfl, .inr ⟨_, _, rfl, fun j hj => ?_⟩⟩
  rw [(Blk.new w _ 3).cell]
  match j, hj with
  | 0, _ => rfl
  | 1, _ => rfl
set_option maxHeartbeats 2000000 in
theorem speaks_any (w : World) : Calls Try.prog 8 #[] w fun e w' => e = .returned (.bool true) ∧ Bel w w' := by
  have g1 : Hid (Good 1 sp1) := (good_new 3 (by omega) (by omega)).write (by omega) 0 [97]
  have g2 : Hid (Good 2 sp2) := g1.out.write (by omega) 1 [98]
  have g3 : Hid (Good 2 sp3) := g2.out.blow _
  have g4 : Hid (Good 2 sp4) := g3.out.on
  go_enter Try.func8, Try.ntmps8
  go_wp2_with fail
  refine (new_any 3 w (by omega) (by omega)).mono ?_
  rintro e w1 ⟨b, rfl, h1, b1⟩
  have H1 := hid h1
  have K1 : Hid (Keep (fun k => k < w.heap.size) w w1) := Keep.of_bel b1 (fun k h => h)
  clear h1 b1
  go_wp2_with fail
  refine (write_any _ b _ 0 0 [97] w1 H1.out (good_new 3 (by omega) (by omega)) (by omega)).mono ?_
  rintro e w2 ⟨rfl, h2, k2⟩
  have H2 : Hid (Dev (fun k => k < w.heap.size) w2 b sp1) := h2
  have K2 := hid (K1.out.tr k2)
  clear h2 k2 H1 K1
  go_wp2_with fail
  refine (write_any _ b _ 1 1 [98] w2 H2.out g1.out (by omega)).mono ?_
  rintro e w3 ⟨rfl, h3, k3⟩
  have H3 : Hid (Dev (fun k => k < w.heap.size) w3 b sp2) := h3
  have K3 := hid (K2.out.tr k3)
  clear h3 k3 H2 K2
  go_wp2_with fail
  have bA : Bel w3 (w3.alloc (.cells #[.int .i64 0, .int .i64 1] 3)) := Bel.al (Below.refl _ _) _
  refine (blow_any _ b _ 2 [0, 1] _ _ (H3.out.bel bA) g2.out (two_new w3 0 1) (by simp)).mono ?_
  rintro e w4 ⟨rfl, h4, k4⟩
  have H4 : Hid (Dev (fun k => k < w.heap.size) w4 b sp3) := h4
  have K4 := hid (K3.out.tr ((Keep.of_bel bA H3.out.lt).tr k4))
  clear h4 k4 bA H3 K3
  go_wp2_with fail
  refine (off_any _ b _ w4 H4.out).mono ?_
  rintro e w5 ⟨rfl, rfl⟩
  rw [sp_off]
  go_wp2_with fail
  refine (on_any _ b _ w4 H4.out).mono ?_
  rintro e w5 ⟨rfl, h5, k5⟩
  have H5 : Hid (Dev (fun k => k < w.heap.size) w5 b sp4) := h5
  have K5 := hid (K4.out.tr k5)
  clear h5 k5 H4 K4
  go_wp2_with fail
  refine (read_any _ b _ 2 0 w5 H5.out g4.out).mono ?_
  rintro e w6 ⟨rfl, b6⟩
  have H6 := hid (H5.out.bel b6)
  have K6 := hid (K5.out.tr (Keep.of_bel b6 H5.out.lt))
  clear b6 H5 K5
  rw [sp_read0]
  have i0 := index0 0 (List.replicate 255 0)
  have z0 : (M.bs (0 :: List.replicate 255 0)).size = 256 := by rw [M.bs_size, List.length_cons, List.length_replicate]
  generalize M.bs (0 :: List.replicate 255 0) = s0 at *
  go_wp2_with fail
  refine (read_any _ b _ 2 1 w6 H6.out g4.out).mono ?_
  rintro e w7 ⟨rfl, b7⟩
  have H7 := hid (H6.out.bel b7)
  have K7 := hid (K6.out.tr (Keep.of_bel b7 H6.out.lt))
  clear b7 H6 K6
  rw [sp_read1]
  have i1 := index0 98 (List.replicate 255 0)
  have z1 : (M.bs (98 :: List.replicate 255 0)).size = 256 := by rw [M.bs_size, List.length_cons, List.length_replicate]
  generalize M.bs (98 :: List.replicate 255 0) = s1 at *
  have hsz := size_any _ b _ w7 H7.out
  rw [sp_size] at hsz
  go_wp2_with (go_at_call 23; refine hsz.mono ?_; rintro e w8 ⟨rfl, rfl⟩)
  go_ret
  exact ⟨rfl, K7.out.below⟩
set_option maxHeartbeats 1000000 in
theorem read_nil (i : Int) (w : World) : Calls Try.prog 19 #[.pointer none, .int .i64 i] w fun e w' => e = .returned (.tuple #[.string ⟨#[]⟩, .int .i64 1]) ∧ w = w' := by
  have hc : Calls Try.prog 29 #[.pointer none, .int .i64 i] w fun e w' => e = .returned (.int .i64 1) ∧ w = w' := by
    go_enter Try.func29, Try.ntmps29
    go_wp2_with fail
    go_ret
    exact ⟨rfl, rfl⟩
  go_enter Try.func19, Try.ntmps19
  go_wp2_with (go_at_call 29; refine hc.mono ?_; rintro e w' ⟨rfl, rfl⟩)
  go_ret2
  exact ⟨rfl, rfl⟩
set_option maxHeartbeats 1000000 in
theorem write_nil (i : Int) (t : ByteArray) (w : World) : Calls Try.prog 13 #[.pointer none, .int .i64 i, .string t] w fun e w' => e = .returned (.int .i64 1) ∧ w = w' := by
  have hc : Calls Try.prog 29 #[.pointer none, .int .i64 i] w fun e w' => e = .returned (.int .i64 1) ∧ w = w' := by
    go_enter Try.func29, Try.ntmps29
    go_wp2_with fail
    go_ret
    exact ⟨rfl, rfl⟩
  go_enter Try.func13, Try.ntmps13
  go_wp2_with (go_at_call 29; refine hc.mono ?_; rintro e w' ⟨rfl, rfl⟩)
  go_ret
  exact ⟨rfl, rfl⟩
set_option maxHeartbeats 1000000 in
theorem fuse_nil (i : Int) (w : World) : Calls Try.prog 21 #[.pointer none, .int .i64 i, .slice none 0 0] w fun e w' => e = .returned (.tuple #[]) ∧ w = w' := by
  go_enter Try.func21, Try.ntmps21
  go_wp2_with fail
  refine bodyPost_ret (results_none rfl _ _ _) rfl ?_
  exact ⟨rfl, rfl⟩
set_option maxHeartbeats 1000000 in
theorem blow_nil (w : World) : Calls Try.prog 15 #[.pointer none, .slice none 0 0] w fun e w' => e = .returned (.tuple #[]) ∧ w = w' := by
  go_enter Try.func15, Try.ntmps15
  go_wp2_with fail
  refine bodyPost_ret (results_none rfl _ _ _) rfl ?_
  exact ⟨rfl, rfl⟩
set_option maxHeartbeats 1000000 in
theorem on_nil (w : World) : Calls Try.prog 20 #[.pointer none] w fun e w' => e = .returned (.tuple #[]) ∧ w = w' := by
  go_enter Try.func20, Try.ntmps20
  go_wp2_with fail
  refine bodyPost_ret (results_none rfl _ _ _) rfl ?_
  exact ⟨rfl, rfl⟩
set_option maxHeartbeats 1000000 in
theorem open_nil (w : World) : Calls Try.prog 22 #[.pointer none] w fun e w' => e = .returned (.tuple #[.int .i64 0, .int .i64 0]) ∧ w = w' := by
  go_enter Try.func22, Try.ntmps22
  go_wp2_with fail
  go_ret2
  exact ⟨rfl, rfl⟩
set_option maxHeartbeats 1000000 in
theorem sync_nil (w : World) : Calls Try.prog 14 #[.pointer none] w fun e w' => e = .returned (.int .i64 1) ∧ w = w' := by
  go_enter Try.func14, Try.ntmps14
  go_wp2_with fail
  go_ret
  exact ⟨rfl, rfl⟩
set_option maxHeartbeats 1000000 in
theorem size_nil (w : World) : Calls Try.prog 23 #[.pointer none] w fun e w' => e = .returned (.int .i64 0) ∧ w = w' := by
  go_enter Try.func23, Try.ntmps23
  go_wp2_with fail
  go_ret
  exact ⟨rfl, rfl⟩
set_option maxHeartbeats 1000000 in
theorem off_nil (w : World) : Calls Try.prog 24 #[.pointer none] w fun e w' => e = .returned (.bool true) ∧ w = w' := by
  go_enter Try.func24, Try.ntmps24
  go_wp2_with fail
  go_ret
  exact ⟨rfl, rfl⟩
set_option maxHeartbeats 1000000 in
theorem copy_nil (w : World) : Calls Try.prog 12 #[.pointer none] w fun e w' => e = .returned (.pointer none) ∧ w = w' := by
  go_enter Try.func12, Try.ntmps12
  go_wp2_with fail
  go_ret
  exact ⟨rfl, rfl⟩
set_option maxHeartbeats 1000000 in
theorem nil_any (i : Int) (t : ByteArray) (w : World) : Calls Try.prog 5 #[.int .i64 i, .string t] w fun e w' => e = .returned (.bool true) ∧ Bel w w' := by
  go_enter Try.func5, Try.ntmps5
  go_wp2_with first
    | (go_at_call 8; refine (speaks_any _).mono ?_; rintro e w1 ⟨rfl, hb⟩)
    | (go_at_call 19; refine (read_nil _ _).mono ?_; rintro e w2 ⟨rfl, rfl⟩)
    | (go_at_call 21; refine (fuse_nil _ _).mono ?_; rintro e w2 ⟨rfl, rfl⟩)
    | (go_at_call 15; refine (blow_nil _).mono ?_; rintro e w2 ⟨rfl, rfl⟩)
    | (go_at_call 20; refine (on_nil _).mono ?_; rintro e w2 ⟨rfl, rfl⟩)
    | (go_at_call 22; refine (open_nil _).mono ?_; rintro e w2 ⟨rfl, rfl⟩)
    | (go_at_call 14; refine (sync_nil _).mono ?_; rintro e w2 ⟨rfl, rfl⟩)
    | (go_at_call 23; refine (size_nil _).mono ?_; rintro e w2 ⟨rfl, rfl⟩)
    | (go_at_call 24; refine (off_nil _).mono ?_; rintro e w2 ⟨rfl, rfl⟩)
    | (go_at_call 12; refine (copy_nil _).mono ?_; rintro e w2 ⟨rfl, rfl⟩)
    | (go_at_call 13; refine (write_nil _ _ _).mono ?_; rintro e w2 ⟨rfl, rfl⟩)
  go_ret
  exact ⟨rfl, hb⟩
end Go.Proofs.Ytoelaemneoabfaa
