/-
  The reference of layer 3: the contract of its Full, walked.
-/
import Derived.Test.YtoelaemneoabfaaO
import Derived.Lib.BufferWrite
namespace Go.Proofs.Ytoelaemneoabfaa
open Go.RowKit

def numsOf (t : M.Tx) : List Int := t.map fun b => (b.toNat : Int)
theorem strOf_nums (t : M.Tx) : strOfNums (numsOf t) = M.bs t := by
  unfold strOfNums numsOf M.bs
  rw [List.map_map]
  congr 2
  conv => rhs; rw [← List.map_id t]
  apply List.map_congr_left
  intro b _
  simp
set_option maxRecDepth 100000 in
set_option maxHeartbeats 2000000 in
theorem full_any (t : M.Tx) (w : World) (ht : t.length ≤ 256) : Calls Try.prog 25 #[.string (M.bs t)] w fun e w' => e = .returned (.string (M.bs (pad t))) ∧ Bel w w' := by
  obtain ⟨i0, hi, hz0, hz1, hz2⟩ := info_parts info5
  have hsz : (M.bs t).size = t.length := M.bs_size t
  have hmk := run_makeSlice (P := Try.prog) w 74 5 i0 _ Try.underlying74 hi hz0 .i64 .i64 256 256 (by omega) (by omega) (by rw [hz1]; decide) (by rw [hz2]; omega) (by omega)
  rw [hz1] at hmk
  have e256 : (256 : Int).toNat * 1 = 256 := rfl
  have e256' : (256 : Int).toNat = 256 := rfl
  rw [e256, e256'] at hmk
  have hg : (w.alloc (.cells (madeCells (Value.int .u8 0).cells 256) 5)).heap[w.heap.size]? = some (.cells (madeCells (Value.int .u8 0).cells 256) 5 (0, 0)) := heap_alloc_new _ _
  have hcp := fun ty => Lib.run_copy_row_string (P := Try.prog) (w.alloc (.cells (madeCells (Value.int .u8 0).cells 256) 5)) 74 9 ty 5 w.heap.size 0 256 256 (M.bs t) _ 5 Try.underlying74 (by rw [hi]; simp [hz1]) hg (by omega) (by rw [size_madeCells]; omega)
  have hc1 : (madeCells (Value.int .u8 0).cells 256).toList = List.replicate 256 (.int .u8 0) := toList_madeCells_one _ _
  have hrow : (List.take 0 (madeCells (Value.int .u8 0).cells 256).toList ++ Lib.byteCells (M.bs t).data.toList ++ List.drop (0 + (M.bs t).size) (madeCells (Value.int .u8 0).cells 256).toList) = (numsOf (pad t)).map (Value.int .u8) := by
    rw [hc1, hsz, M.bs_data, List.take_zero, List.nil_append, Nat.zero_add, List.drop_replicate]
    unfold numsOf pad Lib.byteCells
    rw [List.map_append, List.map_append, List.map_map, List.map_replicate, List.map_replicate]
    rfl
  have hfr : ∀ ty, (Builtin.copy_ #[74, 9] ty #[.slice (some ⟨w.heap.size, 0, none⟩) 256 256, .string (M.bs t)]).run Try.prog (w.alloc (.cells (madeCells (Value.int .u8 0).cells 256) 5)) = .ok (goInt (M.bs t).size) ((w.alloc (.cells (madeCells (Value.int .u8 0).cells 256) 5)).setRow w.heap.size ((numsOf (pad t)).map (Value.int .u8)).toArray) := fun ty => by rw [hcp ty, hrow]
  have hW : Blk ((w.alloc (.cells (madeCells (Value.int .u8 0).cells 256) 5)).setRow w.heap.size ((numsOf (pad t)).map (Value.int .u8)).toArray) w.heap.size ((numsOf (pad t)).map (Value.int .u8)).toArray 5 := setRow_heap _ _ _ _ _ _ hg
  have hpl : (numsOf (pad t)).length = 256 := by simp [numsOf, pad]; omega
  have hB : Hid (Bel w ((w.alloc (.cells (madeCells (Value.int .u8 0).cells 256) 5)).setRow w.heap.size ((numsOf (pad t)).map (Value.int .u8)).toArray)) := (((Keep.refl (fun k => k < w.heap.size) w).al (fun _ h => h) _).setRow (by simp) _).below
  have hcv := run_convert_bytes_arg (P := Try.prog) _ 74 5 Try.underlying74 Try.underlying5 w.heap.size 0 256 256 (numsOf (pad t)) hpl (fun i hi => by
    rw [Nat.zero_add, hW.cell]
    simp [List.getD, hpl, hi]) 9 Try.underlying9
  rw [strOf_nums] at hcv
  clear hcp hrow hc1 hg hW
  generalize (w.alloc (.cells (madeCells (Value.int .u8 0).cells 256) 5)).setRow w.heap.size ((numsOf (pad t)).map (Value.int .u8)).toArray = w2 at *
  generalize w.alloc (.cells (madeCells (Value.int .u8 0).cells 256) 5) = w1 at *
  generalize pad t = pt at *
  go_enter Try.func25, Try.ntmps25
  go_wp2_with fail
  go_ret
  exact ⟨rfl, hB.out⟩
end Go.Proofs.Ytoelaemneoabfaa
