/-
  The contracts of the device's padded and Read, walked.
-/
import Derived.Test.YtoelaemneoabfaaE
namespace Go.Proofs.Ytoelaemneoabfaa
open Go.RowKit

def pad (t : M.Tx) : M.Tx := t ++ List.replicate (256 - t.length) 0
theorem info5 : (Try.prog.info? 5).map (fun i => (i.zero, i.size, i.bytes)) = some (some (.int .u8 0), 1, 1) := by kernel_rfl
set_option maxHeartbeats 1000000 in
theorem padded_any (t : M.Tx) (w : World) (ht : t.length ≤ 256) : Calls Try.prog 36 #[.string (M.bs t)] w fun e w' => e = .returned (.string (M.bs (pad t))) ∧ Bel w w' := by
  obtain ⟨i0, hi, hz0, hz1, hz2⟩ := info_parts info5
  have hsz : (M.bs t).size = t.length := M.bs_size t
  obtain ⟨k, hk⟩ : ∃ k, t.length + k = 256 := ⟨256 - t.length, by omega⟩
  have hkk : (256 : Int) - (t.length : Int) = k := by omega
  have hmk := run_makeSlice (P := Try.prog) w 74 5 i0 _ Try.underlying74 hi hz0 .i64 .i64 (k : Int) (k : Int) (by omega) (by omega) (by rw [hz1]; simp; omega) (by rw [hz2]; omega) (by omega)
  rw [hz1] at hmk
  simp only [Int.toNat_natCast, Nat.mul_one] at hmk
  have hcv := run_convert_bytes_arg (P := Try.prog) (w.alloc (.cells (madeCells #[Value.int .u8 0] k) 5)) 74 5 Try.underlying74 Try.underlying5 w.heap.size 0 k k (List.replicate k 0) (by simp) (fun i hi => by
    rw [Nat.zero_add, (Blk.new w (madeCells #[Value.int .u8 0] k) 5).cell, ← Array.getElem?_toList, toList_madeCells_one]
    simp [hi, List.getD]) 9 Try.underlying9
  have hadd : Hid (M.bs t ++ strOfNums (List.replicate k 0) = M.bs (pad t)) := by
    show _ = _
    have e : 256 - t.length = k := by omega
    rw [pad, e, M.bs, M.bs, strOfNums, List.map_replicate]
    apply ByteArray.ext
    rw [ByteArray.data_append]
    exact List.append_toArray _ _
  have hs2 : (strOfNums (List.replicate k (0 : Int))).size = k := by rw [strOfNums_size, List.length_replicate]
  go_enter Try.func36, Try.ntmps36
  go_wp2_with fail
  go_ret
  exact ⟨congrArg (fun s => Ending.returned (.string s)) hadd.out, Bel.al (Below.refl _ _) _⟩

theorem int_wf {i : Int} (h0 : -9223372036854775808 ≤ i) (h1 : i ≤ 9223372036854775807) : (Lit.int .i64 i).wf = true := by
  simp only [Lit.wf]
  have e0 : IntKind.min .i64 = -9223372036854775808 := by decide
  have e1 : IntKind.max .i64 = 9223372036854775807 := by decide
  rw [e0, e1, decide_eq_true h0, decide_eq_true h1]
  rfl
/-- What a device's state keeps to, that has seen at most N commands. -/
structure Good (N : Nat) (S : St) : Prop where
  n : N ≤ 1000
  size1 : 1 ≤ S.size
  size2 : S.size ≤ 4096
  dat : ∀ x ∈ S.wait, x.2.length ≤ 256
  fin : ∀ i, (S.fin i).2.length ≤ 256
  sec : ∀ x ∈ S.wait, 0 ≤ x.1 ∧ x.1 < S.size
  room : S.room + S.wait.length ≤ N
  done0 : 0 ≤ S.done
  done : S.done ≤ N
  fuse0 : 0 ≤ S.fuse
  fuse : S.fuse ≤ 9223372036854775807
  keep : S.keep.length ≤ 1000
theorem lastW_dat {L : List M.Wr} {i : Int} {d : M.Wr} (h : ∀ x ∈ L, x.2.length ≤ 256) (hd : d.2.length ≤ 256) : (M.lastW L i d).2.length ≤ 256 := by
  unfold M.lastW
  cases hf : L.reverse.find? (fun x => x.1 == i) with
  | none => exact hd
  | some x => exact h x (by simpa using List.mem_of_find?_eq_some hf)
def read (S : St) (i : Int) : M.Tx := if check S i = 0 then pad (M.lastW S.wait i (S.fin i)).2 else []
set_option maxHeartbeats 1000000 in
theorem read_yes (b : Nat) (i : Int) (x : M.Wr) (w : World) (hc : Calls Try.prog 29 #[.pointer (some ⟨b, 0, none⟩), .int .i64 i] w fun e w' => e = .returned (.int .i64 0) ∧ w = w')
    (hl : Calls Try.prog 37 #[.pointer (some ⟨b, 0, none⟩), .int .i64 i] w fun e w' => e = .returned (.agg #[.int .i64 x.1, .string (M.bs x.2)]) ∧ Bel w w')
    (hp : ∀ w, Calls Try.prog 36 #[.string (M.bs x.2)] w fun e w' => e = .returned (.string (M.bs (pad x.2))) ∧ Bel w w') :
    Calls Try.prog 19 #[.pointer (some ⟨b, 0, none⟩), .int .i64 i] w fun e w' => e = .returned (.tuple #[.string (M.bs (pad x.2)), .int .i64 0]) ∧ Bel w w' := by
  have hfd : ∀ w : World, (Instr.field 65 (.agg #[.int .i64 x.1, .string (M.bs x.2)]) 1).run Try.prog w = .ok (.string (M.bs x.2)) w := fun _ => by kernel_rfl
  go_enter Try.func19, Try.ntmps19
  go_wp2_with first
    | (go_at_call 29; refine hc.mono ?_; rintro e w' ⟨rfl, rfl⟩)
    | (go_at_call 37; refine hl.mono ?_; rintro e w1 ⟨rfl, hb1⟩)
    | (go_at_call 36; refine (hp _).mono ?_; rintro e w2 ⟨rfl, hb2⟩)
  go_ret2
  exact ⟨rfl, hb1.tr hb2⟩
set_option maxHeartbeats 1000000 in
theorem read_any (X : Nat → Prop) (b : Nat) (S : St) (N : Nat) (i : Int) (w : World) (h : Dev X w b S) (g : Good N S) : Calls Try.prog 19 #[.pointer (some ⟨b, 0, none⟩), .int .i64 i] w fun e w' => e = .returned (.tuple #[.string (M.bs (read S i)), .int .i64 (check S i)]) ∧ Bel w w' := by
  have hc := check_any X b S i w h
  by_cases h0 : check S i = 0
  · have hi : 0 ≤ i ∧ i < S.size := by
      unfold check at h0
      split at h0
      · cases h0
      · split at h0
        · cases h0
        · omega
    have hwf : (Lit.int .i64 i).wf = true := int_wf (by omega) (by have := g.size2; omega)
    obtain ⟨mb, n, wv, kv, h⟩ := h
    have hl := last_any b mb i wv S.wait (S.fin i) w (by have := g.room; have := g.n; omega) (by rw [h.blk.cell]; rfl) (by rw [h.blk.cell]; rfl) (showsW_of h.wait) h.map.lt (fun W hW => (h.map.same hW).look i hwf)
    have hr : read S i = pad (M.lastW S.wait i (S.fin i)).2 := by unfold read; rw [if_pos h0]
    rw [hr, h0]
    rw [h0] at hc
    exact read_yes b i (M.lastW S.wait i (S.fin i)) w hc hl (fun w => padded_any _ w (lastW_dat g.dat (g.fin i)))
  · have hr : read S i = [] := by unfold read; rw [if_neg h0]
    have q : (check S i == 0) = false := by simpa using h0
    rw [hr]
    clear hr h
    generalize check S i = c at *
    go_enter Try.func19, Try.ntmps19
    go_wp2_with (go_at_call 29; refine hc.mono ?_; rintro e w' ⟨rfl, rfl⟩)
    go_ret2
    exact ⟨rfl, Below.refl _ _⟩
end Go.Proofs.Ytoelaemneoabfaa
