/-
  The contracts of sum.Put (where it fits) and of node's Link, walked.
-/
import Derived.Test.YtcmplklefeicbaaRL
namespace Go.Proofs.Ytcmplklefeicbaa.M
open Go.RowKit
theorem nums_bs (xs : List Int) : strOfNums xs = bs (xs.map fun n => UInt8.ofNat n.toNat) := rfl
theorem ofNat_mod (n : Nat) : UInt8.ofNat (n % 256) = UInt8.ofNat n := by
  apply UInt8.toNat_inj.1; simp
/-- The cells of 'Put', behind k rounds. -/
def putC (z n : Nat) : Nat → Array Value
  | 0 => madeCells #[.int .u8 0] z
  | k + 1 => (putC z n k).setIfInBounds (z - 1 - k) (.int .u8 ((n / 2 ^ (8 * k) % 256 : Nat) : Int))
theorem putC_step (z n k : Nat) : (putC z n k).setIfInBounds (z - 1 - k) (.int .u8 ((n : Int) / 2 ^ (8 * k) % 256)) = putC z n (k + 1) := by
  simp only [putC]
  rw [Int.natCast_emod, Int.natCast_ediv, Int.natCast_pow]; rfl
theorem putC_size (z n k : Nat) : (putC z n k).size = z := by
  induction k with
  | zero => exact size_madeCells _ _
  | succ k ih => simp [putC, ih]
theorem putC_at (z n k j : Nat) (hk : k ≤ z) (hj : j < z) (h : z - k ≤ j) : (putC z n k)[j]? = some (.int .u8 ((n / 2 ^ (8 * (z - 1 - j)) % 256 : Nat) : Int)) := by
  induction k with
  | zero => omega
  | succ k ih =>
    simp only [putC]
    by_cases e : z - 1 - k = j
    · subst e
      rw [Array.getElem?_setIfInBounds_self_of_lt (by rw [putC_size]; omega)]
      rw [show z - 1 - (z - 1 - k) = k by omega]
    · rw [Array.getElem?_setIfInBounds_ne e]
      exact ih (by omega) (by omega)
theorem putC_some (z n k j : Nat) (hj : j < z) : ∃ v, (putC z n k)[j]? = some v := ⟨(putC z n k)[j]'(by rw [putC_size]; exact hj), Array.getElem?_eq_getElem _⟩
def putL (z n : Nat) : List UInt8 := (List.range z).map fun j => UInt8.ofNat (n / 2 ^ (8 * (z - 1 - j)))
theorem putL_length (z n : Nat) : (putL z n).length = z := by simp [putL]
theorem putL_nums (z n : Nat) : strOfNums ((List.range z).map fun j => ((n / 2 ^ (8 * (z - 1 - j)) % 256 : Nat) : Int)) = bs (putL z n) := by
  rw [nums_bs, List.map_map]
  congr 1
  apply List.map_congr_left
  intro j _
  simp only [Function.comp, Int.toNat_natCast]
  exact ofNat_mod _
end Go.Proofs.Ytcmplklefeicbaa.M
namespace Go.Proofs.Ytcmplklefeicbaa
open Go.RowKit
set_option maxRecDepth 100000

theorem info5 : (Try.prog.info? 5).map (fun i => (i.zero, i.size, i.bytes)) = some (some (.int .u8 0), 1, 1) := by kernel_rfl

theorem make_bytes (w : World) (z n : Nat) (hz : z ≤ 7) : (Instr.makeSlice 82 (.int .i64 (z : Int)) (.int .i64 (z : Int))).run Try.prog w =
    .ok (.slice (some ⟨w.heap.size, 0, none⟩) z z) (w.alloc (.cells (M.putC z n 0) 5)) := by
  obtain ⟨i0, hi, hz0, hz1, hz2⟩ := info_parts info5
  have h := run_make (P := Try.prog) w 82 5 i0 (.int .u8 0) Try.underlying82 hi hz0 .i64 .i64 (z : Int) (z : Int) (by omega) (by omega) (by rw [hz2]; omega) (by omega)
  rw [h, hz1]
  simp [M.putC, Value.cells]

theorem conv_put (W : World) (z n : Nat) : (convert 82 9 (.slice (some ⟨W.heap.size, 0, none⟩) z z)).run Try.prog (W.alloc (.cells (M.putC z n z) 5)) =
    .ok (.string (M.bs (M.putL z n))) (W.alloc (.cells (M.putC z n z) 5)) := by
  rw [← M.putL_nums]
  refine run_convert_bytes_arg (P := Try.prog) _ 82 5 Try.underlying82 Try.underlying5 W.heap.size 0 z z _ (by simp) ?_ 9 Try.underlying9
  intro i hi
  rw [World.cell?_alloc_at (hn := rfl), Nat.zero_add, M.putC_at z n z i (Nat.le_refl _) hi (by omega)]
  simp [List.getD, hi]

set_option maxRecDepth 20000 in
set_option maxHeartbeats 400000 in
theorem put_yes (n z : Nat) (w : World) (h1 : 1 ≤ z) (h7 : z ≤ 7) (hn : n ≤ 9223372036854775807) (h0 : n / 2 ^ (8 * z) = 0) :
    Calls Try.prog 39 #[.int .i64 (n : Int), .int .i64 (z : Int)] w fun e w' => e = .returned (.string (M.bs (M.putL z n))) ∧ Bel w w' := by
  have hmk := make_bytes w z n h7
  have q1 : ((8 : Int) * (z : Int)).toNat = 8 * z := by omega
  have q2 : ((n : Int) / 2 ^ (8 * z) != 0) = false := by
    have : (n : Int) / 2 ^ (8 * z) = 0 := by exact_mod_cast h0
    simp [this]
  clear h0
  go_enter Try.func39, Try.ntmps39
  go_wp2
  go_loopw [27] (fun i wr => ∃ k : Nat, k ≤ z ∧ i = .int .i64 k ∧ wr = w.alloc (.cells (M.putC z n k) 5)) (fun i _ => z - (intOf i).toNat)
  case atStart => exact ⟨0, Nat.zero_le _, rfl, rfl⟩
  case round =>
    obtain ⟨k, hk, rfl, rfl⟩ := hrel
    by_cases hlt : k < z
    · obtain ⟨v0, hv0⟩ := M.putC_some z n k (z - 1 - k) (by omega)
      have q3 : ((8 : Int) * (k : Int)).toNat = 8 * k := by omega
      have q4 : ((z : Int) - 1 - (k : Int)).toNat = z - 1 - k := by omega
      go_wp2
      go_roundw
      case rel => exact ⟨k + 1, by omega, by go_num, by rw [M.putC_step]⟩
      case measure => simp [intOf]; omega
    · obtain rfl : k = z := by omega
      have kc := conv_put w k n
      go_wp2
      go_ret
      exact ⟨rfl, Bel.al (Below.refl _ _) _⟩
theorem linkable_yes (n : Int) (w : World) (h1 : 1 ≤ n) (h2 : n ≤ 65535) : Calls Try.prog 32 #[.int .i64 n] w fun e w' => e = .returned (.bool true) ∧ w = w' := by
  have q1 : decide (1 ≤ n) = true := decide_eq_true h1
  have q2 : decide (n ≤ 65535) = true := decide_eq_true h2
  go_enter Try.func32, Try.ntmps32
  go_wp2
  go_ret
  exact ⟨rfl, rfl⟩
theorem linkable_no (n : Int) (w : World) (h : n < 1 ∨ 65535 < n) : Calls Try.prog 32 #[.int .i64 n] w fun e w' => e = .returned (.bool false) ∧ w = w' := by
  by_cases h1 : 1 ≤ n
  · have q1 : decide (1 ≤ n) = true := decide_eq_true h1
    have q2 : decide (n ≤ 65535) = false := decide_eq_false (by omega)
    have q3 : ¬ n ≤ 65535 := by omega
    go_enter Try.func32, Try.ntmps32
    go_wp2
    go_ret
    exact ⟨rfl, rfl⟩
  · have q1 : decide (1 ≤ n) = false := decide_eq_false h1
    go_enter Try.func32, Try.ntmps32
    go_wp2
    go_ret
    exact ⟨rfl, rfl⟩
theorem link_yes (n : Nat) (w : World) (h1 : 1 ≤ n) (h2 : n ≤ 65535) : Calls Try.prog 25 #[.int .i64 (n : Int)] w fun e w' => e = .returned (.string (M.bs (M.putL 2 n))) ∧ Bel w w' := by
  have hp := fun w => put_yes n 2 w (by omega) (by omega) (by omega) (by show n / 65536 = 0; omega)
  go_enter Try.func25, Try.ntmps25
  go_wp2_with (first
    | (go_at_call 32; refine (linkable_yes (n : Int) _ (by omega) (by omega)).mono ?_; rintro e w3 ⟨rfl, rfl⟩)
    | (go_at_call 39; refine (hp _).mono ?_; rintro e w3 ⟨rfl, b3⟩))
  go_ret
  exact ⟨rfl, b3⟩
/-- 'append' of whatever, at a plain region's list. -/
theorem appL {ops : Array Oper} {rest : List Oper} {o : Oper} {a : Go.Act} {Q : Exit → Go.Act → World → Prop} {W W' : World} {t : TypeId} {v xv v' : Value} (hgd : o.guard = none) (s x : Operand)
    (ho : o.op = .call { callee := .builtin .append, args := #[s, x], argTypes := #[t, t] }) (hs : a.eval s = v) (hx : a.eval x = xv) (hr : (Builtin.append_ #[t, t] o.type #[v, xv]).run Try.prog W = .ok v' W')
    (h : wpList Try.prog ops Q rest (a.put o.dst v') W') : wpList Try.prog ops Q (o :: rest) a W :=
  wpList_plain hgd fun _ hK => by
    unfold Oper.wp execOp
    simp only [ho, resolve, invoke, builtin, Sem.run_bind, Sem.run_pure, Result.andThen_ok, List.map_toArray, List.map_cons, List.map_nil, hs, hx, hr]
    exact hK _ _ h
/-- A copy of a slice of entries. -/
theorem clone_any (x : Value) (L : List M.En) (w : World) (hv : Vs w x L) (hl : L.length ≤ 100000) :
    Calls Try.prog 30 #[x] w fun e w' => ∃ x', e = .returned x' ∧ w'.ownsRow w.heap.size 40 3 x' L.length (csE L) ∧ Bel w w' := by
  have q : ∀ (w : World) (a : Option Addr) (n c n' c' : Nat), (binOp .eql 28 (.slice a n c) (.slice none n' c')).run Try.prog w = .ok (.bool a.isNone) w := fun w a n c n' c' => Lib.run_eql_slice_nil w _ _ a n c n' c' Try.underlying28
  obtain ⟨i0, hi, hz0, hz1, hz2⟩ := info_parts info40
  rcases hv with ⟨rfl, rfl⟩ | ⟨b, off, cap, rfl, hc, hb, hr⟩
  · go_enter Try.func30, Try.ntmps30
    go_wp2_with fail
    go_ret
    exact ⟨_, rfl, World.ownsRow_nil _ _ _ _, Below.refl _ _⟩
  · have hA : Bel w (w.alloc (.cells #[] 40)) := Bel.al (Below.refl _ _) _
    have hcs := row3_cells (hr.below hA hb)
    have hown : (w.alloc (.cells #[] 40)).ownsRow w.heap.size 40 3 (.slice (some ⟨w.heap.size, 0, none⟩) 0 0) 0 [] := World.ownsRow_made w #[] 0 (Nat.le_refl _) (Nat.zero_le _) (by simp)
    obtain ⟨v1, w1, g1, g2, g3, _, g5⟩ := run_append_own_at (P := Try.prog) (w.alloc (.cells #[] 40)) w.heap.size 28 28 40 i0 _ 3 40 Try.underlying28 hi hz0 hz1 hz2 rfl (by decide) _ 0 [] hown ⟨b, off, none⟩ L.length cap (csE L) (csE_length L) (fun j u hj => by rw [add_lit]; exact hcs j u hj) (csE_one _) (by unfold maxLen; omega) (by omega) (by simp)
    rw [Nat.zero_add, List.nil_append] at g2
    have k1 : Bel w w1 := hA.grown g3 (by simp) (by intro k hk; simp [Value.ownBlock] at hk; omega)
    obtain ⟨a1, c1, rfl⟩ := row_form g2
    go_enter Try.func30, Try.ntmps30
    go_wp2_with (at_builtin; refine appL rfl _ _ rfl rfl rfl g1 ?_)
    go_ret
    exact ⟨_, rfl, g2, k1⟩
end Go.Proofs.Ytcmplklefeicbaa
