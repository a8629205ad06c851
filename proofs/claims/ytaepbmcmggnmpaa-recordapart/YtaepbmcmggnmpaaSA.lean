/-
  Two pieces held against one another; the contract of the law's 'same' where the two records are the same, walked.
-/
import Derived.Test.YtaepbmcmggnmpaaRC
import Derived.Lib.MinMax
namespace Go.Proofs.Ytaepbmcmggnmpaa
open Go.RowKit
set_option maxRecDepth 100000

theorem run_eqFields67 (w : World) (a b : ByteArray) (m n : Int) : (Op.equalIn 10000 67 (.agg #[.int .i64 m, .string a]) (.agg #[.int .i64 n, .string b])).run Try.prog w =
    .ok ((m == n) && (a.toList == b.toList)) w := by
  have u3 := Try.underlying3
  have a3 := Try.isAgg3
  have z3 := Try.sizeOf3
  have u9 := Try.underlying9
  have a9 := Try.isAgg9
  have z9 := Try.sizeOf9
  have hS : Try.prog.underlying 67 = some (.struct (Try.prog.fieldsOf 67)) := by kernel_rfl
  have hp : Try.prog.stoodInHeld 67 = false := by kernel_rfl
  rw [show (10000 : Nat) = 9999 + 1 from rfl, run_equalIn_agg w 9999 67 _ _ hS hp]
  simp only [Program.fieldsOf, Try.underlying67]
  by_cases h1 : a.toList = b.toList <;> by_cases h2 : m = n
  all_goals go_simp
  all_goals simp [h1, h2]
theorem eql67 (w : World) (a b : ByteArray) (m n : Int) : (binOp .eql 67 (.agg #[.int .i64 m, .string a]) (.agg #[.int .i64 n, .string b])).run Try.prog w =
    .ok (.bool ((m == n) && (a.toList == b.toList))) w := by
  rw [run_eql_struct, run_eqFields67]; rfl
theorem neq67 (w : World) (a b : ByteArray) (m n : Int) : (binOp .neq 67 (.agg #[.int .i64 m, .string a]) (.agg #[.int .i64 n, .string b])).run Try.prog w =
    .ok (.bool (!((m == n) && (a.toList == b.toList)))) w := by
  rw [run_neq_struct, run_eqFields67]; rfl
theorem guard67 (op : BinOp) (x y : Operand) (xs ys : Array Value) (w : World) : (eqGuard op 67 x y (.agg xs) (.agg ys)).run Try.prog w = .ok () w :=
  run_eqGuard_agg w op 67 x y xs ys (by kernel_rfl)

theorem Vals.row {w : World} {a : Option Addr} {n c : Nat} {L : List M.Pc} (h : Vals w (.slice a n c) L) (hL : 0 < L.length) : ∃ b off, a = some ⟨b, off, none⟩ ∧ Row2 w b off L := by
  obtain ⟨x, y, hx, h⟩ := h
  simp only [Value.slice.injEq] at hx
  obtain ⟨rfl, _, _⟩ := hx
  exact h.resolve_left (fun e => by rw [e] at hL; simp at hL)
theorem ValC.row {w : World} {a : Option Addr} {n c : Nat} {L : List M.Ch} (h : ValC w (.slice a n c) L) (hL : 0 < L.length) : ∃ b off, a = some ⟨b, off, none⟩ ∧ RowC w b off L := by
  obtain ⟨x, y, hx, h⟩ := h
  simp only [Value.slice.injEq] at hx
  obtain ⟨rfl, _, _⟩ := hx
  exact h.resolve_left (fun e => by rw [e] at hL; simp at hL)
theorem pc_same (m : Int) (t : List UInt8) : ((m == m) && ((M.bs t).toList == (M.bs t).toList)) = true := by simp
set_option maxHeartbeats 4000000 in
theorem same_yes (r : M.Rec) (x y : Value) (w : World) (hx : ValC w x r.pages) (hy : ValC w y r.pages) (hp : r.pages.length ≤ 5000) (he : ∀ c ∈ r.pages, c.2.length ≤ 5000) :
    Calls Try.prog 12 #[rv r x, rv r y] w fun e w' => e = .returned (.bool true) ∧ Bel w w' := by
  obtain ⟨lsn, txn, kind, undo, undone, pages⟩ := r
  simp only at hx hy hp he ⊢
  obtain ⟨ax, cx, rfl, _⟩ := id hx
  obtain ⟨ay, cy, rfl, _⟩ := id hy
  have k1 := guard67
  have k2 := neq67
  have bW : Bel w ((w.alloc (.cells #[.int .i64 lsn, .int .i64 txn, .int .i64 kind, .string (M.bs undo), .int .i64 undone, .slice ax pages.length cx] 29)).alloc (.cells #[.int .i64 lsn, .int .i64 txn, .int .i64 kind, .string (M.bs undo), .int .i64 undone, .slice ay pages.length cy] 32)) := Bel.al (Bel.al (Below.refl _ _) _) _
  have g1 : Bt 29 ((w.alloc (.cells #[.int .i64 lsn, .int .i64 txn, .int .i64 kind, .string (M.bs undo), .int .i64 undone, .slice ax pages.length cx] 29)).alloc (.cells #[.int .i64 lsn, .int .i64 txn, .int .i64 kind, .string (M.bs undo), .int .i64 undone, .slice ay pages.length cy] 32)) w.heap.size (.int .i64 lsn) (.int .i64 txn) (.int .i64 kind) (.string (M.bs undo)) (.int .i64 undone) (.slice ax pages.length cx) := Bt.bel (heap_alloc_new w _) (Bel.al (Below.refl _ _) _)
  have g2 : Bt 32 ((w.alloc (.cells #[.int .i64 lsn, .int .i64 txn, .int .i64 kind, .string (M.bs undo), .int .i64 undone, .slice ax pages.length cx] 29)).alloc (.cells #[.int .i64 lsn, .int .i64 txn, .int .i64 kind, .string (M.bs undo), .int .i64 undone, .slice ay pages.length cy] 32)) (w.heap.size + 1) (.int .i64 lsn) (.int .i64 txn) (.int .i64 kind) (.string (M.bs undo)) (.int .i64 undone) (.slice ay pages.length cy) := by
    have := heap_alloc_new (w.alloc (.cells #[.int .i64 lsn, .int .i64 txn, .int .i64 kind, .string (M.bs undo), .int .i64 undone, .slice ax pages.length cx] 29)) (.cells #[.int .i64 lsn, .int .i64 txn, .int .i64 kind, .string (M.bs undo), .int .i64 undone, .slice ay pages.length cy] 32)
    rw [World.size_alloc] at this
    exact this
  have hx := hid (hx.bel bW)
  have hy := hid (hy.bel bW)
  have HE := hid he
  clear he
  go_enter Try.func12, Try.ntmps12
  go_wp2_with fail
  generalize (w.alloc (.cells #[.int .i64 lsn, .int .i64 txn, .int .i64 kind, .string (M.bs undo), .int .i64 undone, .slice ax pages.length cx] 29)).alloc (.cells #[.int .i64 lsn, .int .i64 txn, .int .i64 kind, .string (M.bs undo), .int .i64 undone, .slice ay pages.length cy] 32) = W0 at *
  go_loopw [5] (fun i wr => ∃ k : Nat, k ≤ pages.length ∧ i = .int .i64 k ∧ Bel W0 wr) (fun i _ => pages.length - (intOf i).toNat)
  case atStart => exact ⟨0, Nat.zero_le _, rfl, Below.refl _ _⟩
  case round =>
    obtain ⟨k, hk, rfl, hb⟩ := hrel
    have x5 := (g1.bel hb).cells.2.2.2.2.2
    have y5 := (g2.bel hb).cells.2.2.2.2.2
    by_cases hlt : k < pages.length
    · obtain ⟨bx, ox, rfl, hrx⟩ := (hx.out.bel hb).row (by omega)
      obtain ⟨by', oy, rfl, hry⟩ := (hy.out.bel hb).row (by omega)
      obtain ⟨xv, c1, c2, c3⟩ := hrx k hlt
      obtain ⟨yv, d1, d2, d3⟩ := hry k hlt
      have hel := HE.out pages[k] (List.getElem_mem hlt)
      clear hrx hry
      generalize pages[k] = c at *
      obtain ⟨pn, pl⟩ := c
      simp only at c1 c2 c3 d1 d2 d3 hel
      obtain ⟨xa, xc, rfl, _⟩ := id c3
      obtain ⟨ya, yc, rfl, _⟩ := id d3
      have HC3 := hid c3
      have HD3 := hid d3
      clear c3 d3
      go_wp2_with fail
      go_quiet (fail)
      have b0 : Bel wr (wr.drewN nq) := below_drewN (Below.refl _ _) _
      generalize wr.drewN nq = W1 at b0 ⊢
      have hb1 := hb.tr b0
      have x5 := (g1.bel hb1).cells.2.2.2.2.2
      have y5 := (g2.bel hb1).cells.2.2.2.2.2
      have D2 := hid (cell_later b0 d2)
      have C2 := hid (cell_later b0 c2)
      have C3 := hid (HC3.out.bel b0)
      have D3 := hid (HD3.out.bel b0)
      clear HC3 HD3 c1 c2 d1 d2
      go_wp2_with fail
      go_loopw [6] (fun i w2 => ∃ j : Nat, j ≤ pl.length ∧ i = .int .i64 j ∧ Bel W1 w2) (fun i _ => pl.length - (intOf i).toNat)
      case atStart => exact ⟨0, Nat.zero_le _, rfl, Below.refl _ _⟩
      case round =>
        obtain ⟨j, hj, rfl, hbj⟩ := hrel
        have x5 := (g1.bel (hb1.tr hbj)).cells.2.2.2.2.2
        have y5 := (g2.bel (hb1.tr hbj)).cells.2.2.2.2.2
        have d2 := cell_later hbj D2.out
        have c2 := cell_later hbj C2.out
        by_cases hjl : j < pl.length
        · obtain ⟨b1, o1, rfl, r1⟩ := (C3.out.bel hbj).row (by omega)
          obtain ⟨b2, o2, rfl, r2⟩ := (D3.out.bel hbj).row (by omega)
          obtain ⟨p1, p2⟩ := r1 j hjl
          obtain ⟨q1, q2⟩ := r2 j hjl
          clear r1 r2
          generalize pl[j] = q at *
          obtain ⟨m, t⟩ := q
          simp only at p1 p2 q1 q2
          have HQ := pc_same m t
          go_wp2_with fail
          go_quiet (fail)
          have b3 : Bel wr (wr.drewN nq) := below_drewN (Below.refl _ _) _
          generalize wr.drewN nq = W2 at b3 ⊢
          go_wp2_with fail
          go_roundw
          case rel => exact ⟨j + 1, by omega, by go_num, hbj.tr b3⟩
          case measure => simp [intOf]; omega
        · go_wp2_with fail
          go_roundw
          case rel => exact ⟨k + 1, by omega, by go_num, hb1.tr hbj⟩
          case measure => simp [intOf]; omega
    · go_wp2_with fail
      go_ret
      exact ⟨rfl, bW.tr hb⟩
end Go.Proofs.Ytaepbmcmggnmpaa
