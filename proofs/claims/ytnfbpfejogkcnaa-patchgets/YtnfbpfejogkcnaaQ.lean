/-
  Two pieces held against one another (the types 48 and 50); what the laws call 'speaks' and 'same', walked.
-/
import Derived.Test.YtnfbpfejogkcnaaC
import Derived.Lib.MinMax
namespace Go.Proofs.Ytnfbpfejogkcnaa
open Go.RowKit
theorem run_eqFields48 (w : World) (a b : ByteArray) (m n : Int) : (Op.equalIn 10000 48 (.agg #[.int .i64 m, .string a]) (.agg #[.int .i64 n, .string b])).run Try.prog w =
    .ok ((m == n) && (a.toList == b.toList)) w := by
  have u3 := Try.underlying3
  have a3 := Try.isAgg3
  have z3 := Try.sizeOf3
  have u9 := Try.underlying9
  have a9 := Try.isAgg9
  have z9 := Try.sizeOf9
  have hS : Try.prog.underlying 48 = some (.struct (Try.prog.fieldsOf 48)) := by kernel_rfl
  have hp : Try.prog.stoodInHeld 48 = false := by kernel_rfl
  rw [show (10000 : Nat) = 9999 + 1 from rfl, run_equalIn_agg w 9999 48 _ _ hS hp]
  simp only [Program.fieldsOf, Try.underlying48]
  by_cases h1 : a.toList = b.toList <;> by_cases h2 : m = n
  all_goals go_simp
  all_goals simp [h1, h2]
theorem eql48 (w : World) (a b : ByteArray) (m n : Int) : (binOp .eql 48 (.agg #[.int .i64 m, .string a]) (.agg #[.int .i64 n, .string b])).run Try.prog w =
    .ok (.bool ((m == n) && (a.toList == b.toList))) w := by
  rw [run_eql_struct, run_eqFields48]; rfl
theorem neq48 (w : World) (a b : ByteArray) (m n : Int) : (binOp .neq 48 (.agg #[.int .i64 m, .string a]) (.agg #[.int .i64 n, .string b])).run Try.prog w =
    .ok (.bool (!((m == n) && (a.toList == b.toList)))) w := by
  rw [run_neq_struct, run_eqFields48]; rfl
theorem guard48 (op : BinOp) (x y : Operand) (xs ys : Array Value) (w : World) : (eqGuard op 48 x y (.agg xs) (.agg ys)).run Try.prog w = .ok () w :=
  run_eqGuard_agg w op 48 x y xs ys (by kernel_rfl)
theorem run_eqFields50 (w : World) (a b : ByteArray) (m n : Int) : (Op.equalIn 10000 50 (.agg #[.int .i64 m, .string a]) (.agg #[.int .i64 n, .string b])).run Try.prog w =
    .ok ((m == n) && (a.toList == b.toList)) w := by
  have u3 := Try.underlying3
  have a3 := Try.isAgg3
  have z3 := Try.sizeOf3
  have u9 := Try.underlying9
  have a9 := Try.isAgg9
  have z9 := Try.sizeOf9
  have hS : Try.prog.underlying 50 = some (.struct (Try.prog.fieldsOf 50)) := by kernel_rfl
  have hp : Try.prog.stoodInHeld 50 = false := by kernel_rfl
  rw [show (10000 : Nat) = 9999 + 1 from rfl, run_equalIn_agg w 9999 50 _ _ hS hp]
  simp only [Program.fieldsOf, Try.underlying50]
  by_cases h1 : a.toList = b.toList <;> by_cases h2 : m = n
  all_goals go_simp
  all_goals simp [h1, h2]
theorem eql50 (w : World) (a b : ByteArray) (m n : Int) : (binOp .eql 50 (.agg #[.int .i64 m, .string a]) (.agg #[.int .i64 n, .string b])).run Try.prog w =
    .ok (.bool ((m == n) && (a.toList == b.toList))) w := by
  rw [run_eql_struct, run_eqFields50]; rfl
theorem neq50 (w : World) (a b : ByteArray) (m n : Int) : (binOp .neq 50 (.agg #[.int .i64 m, .string a]) (.agg #[.int .i64 n, .string b])).run Try.prog w =
    .ok (.bool (!((m == n) && (a.toList == b.toList)))) w := by
  rw [run_neq_struct, run_eqFields50]; rfl
theorem guard50 (op : BinOp) (x y : Operand) (xs ys : Array Value) (w : World) : (eqGuard op 50 x y (.agg xs) (.agg ys)).run Try.prog w = .ok () w :=
  run_eqGuard_agg w op 50 x y xs ys (by kernel_rfl)

def opA : List UInt8 := [97, 98, 99, 100, 101, 102, 103, 104]
def opB : List UInt8 := [120, 98, 99, 100, 101, 102, 103, 121]
theorem speaks_diff : M.diff opA opB = [(0, [120]), (7, [121])] := by decide +kernel
theorem speaks_apply : M.apply opA [(0, [120]), (7, [121])] = (opB, 0) := by decide +kernel
set_option maxHeartbeats 1000000 in
theorem speaks_any (w : World) : Calls Try.prog 8 #[] w fun e w' => e = .returned (.bool true) ∧ Bel w w' := by
  have H1 := fun W => diff_any opA opB W (by decide) (by decide)
  have H2 := fun x W hv => apply_any opA [(0, [120]), (7, [121])] x W hv (by decide) (by decide) (by decide)
  rw [speaks_diff] at H1
  rw [speaks_apply] at H2
  have k1 := guard48
  have k2 := eql48
  go_enter Try.func8, Try.ntmps8
  go_wp2_with fail
  refine (H1 _).mono ?_
  rintro e w1 ⟨v, rfl, o1, b1⟩
  have hv1 := o1.vals
  obtain ⟨ao, cap, rfl, h | ⟨g, off, rfl, hr⟩⟩ := id hv1
  · simp at h
  have hg : g < w1.heap.size := hr.lt (by decide)
  obtain ⟨c1, c2⟩ := hr 1 (by decide)
  have HV := hid hv1
  clear hv1 o1 hr
  simp only [List.length_cons, List.length_nil, Nat.zero_add, Nat.reduceAdd, List.getElem_cons_succ, List.getElem_cons_zero] at HV c1 c2
  go_wp2_with fail
  refine (H2 _ _ HV.out).mono ?_
  rintro e w2 ⟨rfl, b2⟩
  have d1 := (bel_cell b2 hg _).trans c1
  have d2 := (bel_cell b2 hg _).trans c2
  have q : (M.bs [121]).toList = [121] := M.bs_toList _
  have q2 : (M.bs opB).toList = [120, 98, 99, 100, 101, 102, 103, 121] := M.bs_toList _
  go_wp2_with fail
  go_ret
  exact ⟨rfl, b1.tr b2⟩

theorem pc_beq (p q : M.Pc) : ((p.1 == q.1) && ((M.bs p.2).toList == (M.bs q.2).toList)) = decide (p = q) := by
  obtain ⟨a, t⟩ := p
  obtain ⟨b, u⟩ := q
  rw [M.bs_toList, M.bs_toList, Bool.eq_iff_iff]
  simp
set_option maxHeartbeats 1000000 in
theorem same_some (L K : List M.Pc) (hl : L.length = K.length) (a0 : Option Addr) (c0 b1 o1 c1 : Nat) (w : World) (hx : ∃ b off, a0 = some ⟨b, off, none⟩ ∧ Row2 w b off L) (hy : Row2 w b1 o1 K) (hL : 0 < L.length) (hL2 : L.length ≤ 100000) :
    Calls Try.prog 10 #[.slice a0 L.length c0, .slice (some ⟨b1, o1, none⟩) K.length c1] w fun e w' => e = .returned (.bool (decide (L = K))) ∧ Bel w w' := by
  obtain ⟨b0, o0, rfl, hx⟩ := hx
  have hb0 := hx.lt hL
  have hb1 := hy.lt (by omega)
  have q0 : (((L.length : Nat) : Int) != (K.length : Int)) = false := by rw [bne_eq_false_iff_eq]; omega
  have k1 := guard50
  have k2 := neq50
  rw [hl] at hL2 q0 ⊢
  go_enter Try.func10, Try.ntmps10
  go_wp2_with fail
  go_loopw [5] (fun i wr => ∃ k : Nat, k ≤ K.length ∧ i = .int .i64 k ∧ L.take k = K.take k ∧ Bel w wr) (fun i _ => K.length - (intOf i).toNat)
  case atStart => exact ⟨0, Nat.zero_le _, rfl, rfl, Below.refl _ _⟩
  case round =>
    obtain ⟨k, hk, rfl, htk, hb⟩ := hrel
    by_cases hlt : k < K.length
    · have hlt0 : k < L.length := by omega
      obtain ⟨d1, d2⟩ := (hx.below hb hb0) k hlt0
      obtain ⟨e1, e2⟩ := (hy.below hb hb1) k hlt
      have HQ := pc_beq L[k] K[k]
      have HN : Hid (L[k] ≠ K[k] → L ≠ K) := fun h e => h (by simp only [e])
      have HY : Hid (L[k] = K[k] → L.take (k + 1) = K.take (k + 1)) := fun h => by rw [List.take_succ_eq_append_getElem hlt0, List.take_succ_eq_append_getElem hlt, htk, h]
      clear htk hx hy hl
      generalize L[k] = p at *
      generalize K[k] = q at *
      obtain ⟨m, t⟩ := p
      obtain ⟨n, u⟩ := q
      simp only at d1 d2 e1 e2 HQ
      by_cases hpq : (m, t) = (n, u)
      · rw [decide_eq_true hpq] at HQ
        have HT := hid (HY.out hpq)
        clear hpq HN HY
        go_wp2_with fail
        go_quiet (fail)
        have b0 : Bel wr (wr.drewN nq) := below_drewN (Below.refl _ _) _
        generalize wr.drewN nq = W1 at b0 ⊢
        go_wp2_with fail
        go_roundw
        case rel => exact ⟨k + 1, by omega, by go_num, HT.out, hb.tr b0⟩
        case measure => simp [intOf]; omega
      · rw [decide_eq_false hpq] at HQ
        have HT := hid (HN.out hpq)
        clear hpq HN HY
        go_wp2_with fail
        go_quiet (fail)
        have b0 : Bel wr (wr.drewN nq) := below_drewN (Below.refl _ _) _
        generalize wr.drewN nq = W1 at b0 ⊢
        go_wp2_with fail
        go_ret
        exact ⟨by rw [decide_eq_false HT.out]; rfl, hb.tr b0⟩
    · have HE : Hid (L = K) := by
        show _ = _
        rw [List.take_of_length_le (by omega), List.take_of_length_le (by omega)] at htk
        exact htk
      clear htk hx hy
      go_wp2_with fail
      go_ret
      exact ⟨by rw [decide_eq_true HE.out]; rfl, hb⟩
theorem same_nil (a b : Option Addr) (c d : Nat) (w : World) : Calls Try.prog 10 #[.slice a 0 c, .slice b 0 d] w fun e w' => e = .returned (.bool true) ∧ Bel w w' := by
  go_enter Try.func10, Try.ntmps10
  go_wp2_with fail
  refine wp_loop_rounds 1 ?_
  rw [rounds_succ]
  go_wp2_with fail
  go_ret
  exact ⟨rfl, Below.refl _ _⟩
theorem same_not (a b : Option Addr) (m n c d : Nat) (w : World) (h : m ≠ n) : Calls Try.prog 10 #[.slice a m c, .slice b n d] w fun e w' => e = .returned (.bool false) ∧ Bel w w' := by
  have q0 : ((m : Int) != (n : Int)) = true := by rw [bne_iff_ne]; omega
  clear h
  go_enter Try.func10, Try.ntmps10
  go_wp2_with fail
  go_ret
  exact ⟨rfl, Below.refl _ _⟩
theorem same_any (L K : List M.Pc) (x y : Value) (w : World) (hx : Vals w x L) (hy : Vals w y K) (hL2 : L.length ≤ 100000) :
    Calls Try.prog 10 #[x, y] w fun e w' => e = .returned (.bool (decide (L = K))) ∧ Bel w w' := by
  obtain ⟨a, c, rfl, hx⟩ := hx
  obtain ⟨b, d, rfl, hy⟩ := hy
  by_cases hl : L.length = K.length
  · by_cases h0 : L = []
    · subst h0
      obtain rfl : K = [] := List.length_eq_zero_iff.1 hl.symm
      exact same_nil a b c d w
    · have h1 : L.length ≠ 0 := fun h => h0 (List.length_eq_zero_iff.1 h)
      have hK : K ≠ [] := fun h => by rw [h] at hl; exact h1 hl
      obtain h | ⟨b1, o1, rfl, hr⟩ := hy
      · exact absurd h hK
      · exact same_some L K hl a c b1 o1 d w (hx.resolve_left h0) hr (by omega) hL2
  · rw [decide_eq_false (fun e => hl (by rw [e]))]
    exact same_not a b _ _ c d w hl
end Go.Proofs.Ytnfbpfejogkcnaa
