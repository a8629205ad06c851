/-
  Two structs of three fields held against one another (the types 36 and 40).
-/
import Derived.Test.YtfiopegkopfceaaKC
namespace Go.Proofs.Ytfiopegkopfceaa
open Go.RowKit
theorem run_eqFields36 (w : World) (a b : ByteArray) (m n : Int) (c d : Bool) : (Op.equalIn 10000 36 (.agg #[.string a, .int .i64 m, .bool c]) (.agg #[.string b, .int .i64 n, .bool d])).run Try.prog w =
    .ok ((a.toList == b.toList) && (m == n) && (c == d)) w := by
  have u3 := Try.underlying3
  have a3 := Try.isAgg3
  have z3 := Try.sizeOf3
  have u9 := Try.underlying9
  have a9 := Try.isAgg9
  have z9 := Try.sizeOf9
  have u4 := Try.underlying4
  have a4 := Try.isAgg4
  have z4 := Try.sizeOf4
  have hS : Try.prog.underlying 36 = some (.struct (Try.prog.fieldsOf 36)) := by kernel_rfl
  have hp : Try.prog.stoodInHeld 36 = false := by kernel_rfl
  rw [show (10000 : Nat) = 9999 + 1 from rfl, run_equalIn_agg w 9999 36 _ _ hS hp]
  simp only [Program.fieldsOf, Try.underlying36]
  by_cases h1 : a.toList = b.toList <;> by_cases h2 : m = n <;> by_cases h3 : c = d
  all_goals go_simp
  all_goals simp [h1, h2, h3]
theorem eql36 (w : World) (a b : ByteArray) (m n : Int) (c d : Bool) : (binOp .eql 36 (.agg #[.string a, .int .i64 m, .bool c]) (.agg #[.string b, .int .i64 n, .bool d])).run Try.prog w =
    .ok (.bool ((a.toList == b.toList) && (m == n) && (c == d))) w := by
  rw [run_eql_struct, run_eqFields36]; rfl
theorem neq36 (w : World) (a b : ByteArray) (m n : Int) (c d : Bool) : (binOp .neq 36 (.agg #[.string a, .int .i64 m, .bool c]) (.agg #[.string b, .int .i64 n, .bool d])).run Try.prog w =
    .ok (.bool (!((a.toList == b.toList) && (m == n) && (c == d)))) w := by
  rw [run_neq_struct, run_eqFields36]; rfl
theorem guard36 (op : BinOp) (x y : Operand) (xs ys : Array Value) (w : World) : (eqGuard op 36 x y (.agg xs) (.agg ys)).run Try.prog w = .ok () w :=
  run_eqGuard_agg w op 36 x y xs ys (by kernel_rfl)
theorem run_eqFields40 (w : World) (a b : ByteArray) (m n : Int) (c d : Bool) : (Op.equalIn 10000 40 (.agg #[.string a, .int .i64 m, .bool c]) (.agg #[.string b, .int .i64 n, .bool d])).run Try.prog w =
    .ok ((a.toList == b.toList) && (m == n) && (c == d)) w := by
  have u3 := Try.underlying3
  have a3 := Try.isAgg3
  have z3 := Try.sizeOf3
  have u9 := Try.underlying9
  have a9 := Try.isAgg9
  have z9 := Try.sizeOf9
  have u4 := Try.underlying4
  have a4 := Try.isAgg4
  have z4 := Try.sizeOf4
  have hS : Try.prog.underlying 40 = some (.struct (Try.prog.fieldsOf 40)) := by kernel_rfl
  have hp : Try.prog.stoodInHeld 40 = false := by kernel_rfl
  rw [show (10000 : Nat) = 9999 + 1 from rfl, run_equalIn_agg w 9999 40 _ _ hS hp]
  simp only [Program.fieldsOf, Try.underlying40]
  by_cases h1 : a.toList = b.toList <;> by_cases h2 : m = n <;> by_cases h3 : c = d
  all_goals go_simp
  all_goals simp [h1, h2, h3]
theorem eql40 (w : World) (a b : ByteArray) (m n : Int) (c d : Bool) : (binOp .eql 40 (.agg #[.string a, .int .i64 m, .bool c]) (.agg #[.string b, .int .i64 n, .bool d])).run Try.prog w =
    .ok (.bool ((a.toList == b.toList) && (m == n) && (c == d))) w := by
  rw [run_eql_struct, run_eqFields40]; rfl
theorem neq40 (w : World) (a b : ByteArray) (m n : Int) (c d : Bool) : (binOp .neq 40 (.agg #[.string a, .int .i64 m, .bool c]) (.agg #[.string b, .int .i64 n, .bool d])).run Try.prog w =
    .ok (.bool (!((a.toList == b.toList) && (m == n) && (c == d)))) w := by
  rw [run_neq_struct, run_eqFields40]; rfl
theorem guard40 (op : BinOp) (x y : Operand) (xs ys : Array Value) (w : World) : (eqGuard op 40 x y (.agg xs) (.agg ys)).run Try.prog w = .ok () w :=
  run_eqGuard_agg w op 40 x y xs ys (by kernel_rfl)
end Go.Proofs.Ytfiopegkopfceaa
