/-
  The contracts of slices.Delete (one element), walked.
-/
import Derived.Test.YtoelaemneoabfabU
namespace Go.Proofs.Ytoelaemneoabfab
open Go.RowKit

theorem setCells_row (w : World) (g o : Nat) (t : TypeId) (cur : Array Value) (vs : List Value) (hg : w.heap[g]? = some (.cells cur t (0, 0))) (hf : o + vs.length ≤ cur.size) (h1 : ∀ v ∈ vs, v.oneCell' = true) :
    w.setCells g o vs = w.setRow g (cur.toList.take o ++ vs ++ cur.toList.drop (o + vs.length)).toArray := by
  have a := run_storeCells_at Try.prog g o t vs 0 cur w hg (by simpa using hf) h1
  have b := run_storeCells_cells (P := Try.prog) g o vs 0 w (fun j hj => by rw [cell_of_row w g _ cur t (0, 0) hg, Array.getElem?_eq_getElem (by omega)]; rfl) (fun j hj => by simp [World.frozen?, hg]) h1
  rw [a] at b
  injection b with _ b
  simpa using b.symm

theorem clear1 (w : World) (ty g o c : Nat) (cur : Array Value) (hg : w.heap[g]? = some (.cells cur 3 (0, 0))) (hf : o + 1 ≤ cur.size) :
    (Builtin.clear_ #[28] ty #[.slice (some ⟨g, o, none⟩) 1 c]).run Try.prog w = .ok (.tuple #[]) (w.setRow g (cur.toList.take o ++ [Value.int .i64 0] ++ cur.toList.drop (o + 1)).toArray) := by
  have hst := run_storeCells_at Try.prog g o 3 [Value.int .i64 0] 0 cur w hg (by simpa using hf) (by intro v hv; simp at hv; subst hv; rfl)
  have hv : (zeroValue 3).run Try.prog w = .ok (Value.int .i64 0) w := by kernel_rfl
  have hzc : (Builtin.zeroCells (Value.int .i64 0).cells 1).toList = [Value.int .i64 0] := by kernel_rfl
  simp only [Nat.add_zero] at hst
  simp [Builtin.clear_, run_underlying Try.underlying28, hv, hzc, hst]
set_option maxHeartbeats 2000000 in
set_option maxRecDepth 100000 in
theorem sdel1 (X : Nat → Prop) (m i g cap : Nat) (xs : List Value) (w : World) (ho : Own 3 1 X w (.slice (some ⟨g, 0, none⟩) (m + 1) cap) (m + 1) xs) (hi : i ≤ m) (hm : m ≤ 1000) (h1 : ∀ u ∈ xs, u.oneCell' = true) :
    Calls Try.prog 40 #[.slice (some ⟨g, 0, none⟩) (m + 1 : Nat) cap, .int .i64 i, .int .i64 ((i : Int) + 1)] w fun e w' => e = .returned (.slice (some ⟨g, 0, none⟩) m cap) ∧
      Own 3 1 X w' (.slice (some ⟨g, 0, none⟩) m cap) m (xs.take (i * 1) ++ xs.drop ((i + 1) * 1)) ∧ Keep X w w' := by
  obtain ⟨cur, hg, hcn, hcm, hs, ht⟩ : ∃ cur, w.heap[g]? = some (.cells cur 3 (0, 0)) ∧ m + 1 ≤ cap ∧ cap ≤ maxLen ∧ cur.size = cap * 1 ∧ cur.toList.take ((m + 1) * 1) = xs := by
    rcases ho.1.2 with ⟨h, _⟩ | ⟨g', cap', cur, h, _, r1, r2, r3, r4, r5⟩
    · cases h
    · injection h with h1 h2 h3
      injection h1 with h1
      injection h1 with h1
      subst h1 h3
      exact ⟨cur, r1, r2, r3, r4, r5⟩
  have hx := ho.2 g rfl
  have hxl : xs.length = (m + 1) * 1 := ho.1.1
  clear ho
  obtain ⟨i0, hi0, hz0, hz1, hz2⟩ := info_parts info3
  have hnl : (xs.drop ((i + 1) * 1)).length = (m - i) * 1 := by rw [List.length_drop, hxl]; omega
  have hcell : ∀ j, j < (m + 1) * 1 → w.cell? ⟨g, j, none⟩ = xs[j]? := fun j hj => by
    rw [cell_of_row w g j cur 3 (0, 0) hg, ← ht, List.getElem?_take, if_pos hj]; simp
  have hone := fun u (hu : u ∈ xs.drop ((i + 1) * 1)) => h1 u (List.mem_of_mem_drop hu)
  obtain ⟨R1, hR1⟩ : ∃ R1 : Array Value, R1 = (cur.toList.take (i * 1) ++ xs.drop ((i + 1) * 1) ++ cur.toList.drop (i * 1 + (xs.drop ((i + 1) * 1)).length)).toArray := ⟨_, rfl⟩
  have hset : ∀ W : World, W.heap = w.heap → W.setCells g (i) (xs.drop (i + 1)) = W.setRow g R1 := fun W hW => by
    have H := setCells_row W g (i * 1) 3 cur (xs.drop ((i + 1) * 1)) (by rw [hW]; exact hg) (by rw [hnl, hs]; omega) hone
    rw [← hR1] at H
    first | exact H | (simp only [Nat.mul_one] at H ⊢; exact H)
  have hR1s : R1.size = cap * 1 := by rw [hR1]; simp [hs, hxl]; omega
  obtain ⟨R2, hR2⟩ : ∃ R2 : Array Value, R2 = (R1.toList.take (m * 1) ++ [Value.int .i64 0] ++ R1.toList.drop (m * 1 + 1)).toArray := ⟨_, rfl⟩
  have hR2s : R2.size = cap * 1 := by rw [hR2]; simp [hR1s]; omega
  have hcl : ∀ W : World, W.heap = (w.setRow g R1).heap → ∀ c, (Builtin.clear_ #[28] 0 #[.slice (some ⟨g, m, none⟩) 1 c]).run Try.prog W = .ok (.tuple #[]) (W.setRow g R2) := fun W hW c => by
    have H := clear1 W 0 g (m * 1) c R1 (by rw [hW]; exact setRow_heap w g cur _ 3 _ hg) (by rw [hR1s]; omega)
    rw [← hR2] at H
    first | exact H | (simp only [Nat.mul_one] at H ⊢; exact H)
  have hfin : Hid (∀ W : World, W.heap = (w.setRow g R1).heap → Own 3 1 X (W.setRow g R2) (.slice (some ⟨g, 0, none⟩) m cap) m (xs.take (i * 1) ++ xs.drop ((i + 1) * 1))) := by
    intro W hW
    refine ⟨⟨by simp [hxl]; omega, .inr ⟨g, cap, R2, rfl, Nat.zero_le _, setRow_heap W g R1 _ 3 _ (by rw [hW]; exact setRow_heap w g cur _ 3 _ hg), by omega, hcm, hR2s, ?_⟩⟩, fun g' hg' => ?_⟩
    · have e0 : R1.toList.take (m * 1) = xs.take (i * 1) ++ xs.drop ((i + 1) * 1) := by
        rw [hR1]
        have e1 : cur.toList.take (i * 1) = xs.take (i * 1) := by rw [← ht, List.take_take]; congr 1; omega
        rw [e1]
        exact List.take_left' (by simp [hxl]; omega)
      rw [hR2, List.append_assoc, e0]
      exact List.take_left' (by simp [hxl]; omega)
    · obtain rfl : g = g' := by simpa [Value.ownBlock] using hg'
      exact hx
  have hK : Hid (∀ W : World, Keep X w W → Keep X w ((W.setRow g R1).setRow g R2)) := fun W h => (h.setRow hx _).setRow hx _
  have hspare : Hid (∀ j, j < (xs.drop ((i + 1) * 1)).length → (w.drew.cell? ⟨g, 0 + i * 1 + j, none⟩).isSome = true ∧ w.drew.frozen? ⟨g, 0 + i * 1 + j, none⟩ = false) := fun j hj => by
    refine ⟨?_, by show w.frozen? _ = _; simp [World.frozen?, hg]⟩
    show (w.cell? _).isSome = _
    rw [cell_of_row w g _ cur 3 (0, 0) hg, Array.getElem?_eq_getElem (by rw [hnl] at hj; omega)]; rfl
  have HNL := hid hnl
  have HONE := hid hone
  have HSET := hid (hset w.drew rfl)
  have HCL := fun c => hcl (w.drew.setRow g R1) rfl c
  have HF := hid (hfin.out (w.drew.setRow g R1) rfl)
  have HKK := hid (hK.out w.drew ((Keep.refl X w).dr))
  have hq : i + (m - i) = m := by omega
  have hz4 : ¬ ((i : Int) = (i : Int) + 1) := by omega
  have hw1 : IntKind.i64.wrap ((i : Int) + 1) = (i : Int) + 1 := by rw [IntKind.wrap_i64]; omega
  have hb1 : (0 : Int) ≤ (i : Int) + 1 := by omega
  have htn : ((i : Int) + 1).toNat = i + 1 := by omega
  have hb3 : (i : Int) ≤ (m : Int) + 1 := by omega
  have hb5 : (i : Int) ≤ (m : Int) := by omega
  have hb6 : ¬ (cap = m) := by omega
  have hb7 : cap ≤ 9223372036854775807 := by unfold maxLen at hcm; omega
  have hb8 : (i : Int) ≤ (cap : Int) := by omega
  by_cases hce : cap = i + 1
  · have hmi : m = i := by omega
    have hnil : xs.drop ((i + 1) * 1) = [] := by rw [← hmi, ← hxl]; exact List.drop_length
    have HN : Hid (∀ j u, (xs.drop ((i + 1) * 1))[j]? = some u → w.drew.cell? ((⟨g, 0, none⟩ : Addr).add j) = some u) := fun j u hj => by rw [hnil] at hj; cases hj
    clear hset hcl hfin hK hR1 hR2 hR1s hR2s hcell hone hnl hnil hs ht hg hcm h1 hxl hx hb8 hb3 hb5 hb6 hq
    subst hmi hce
    rw [Nat.sub_self] at HNL
    have hb9 : ((m : Int) ≤ (m : Int) + 1) = True := by simp; omega
    have hb10 : (m + 1 = m) = False := by simp
    go_enter Try.func40, Try.ntmps40
    go_wp2_with fail
    go_region_law (refine step_append_room rfl (.tmp 22) (.tmp 25) 28 rfl 3 i0 1 Try.underlying28 hi0 hz1 g 0 m (m + 1) (by simp [Act.eval, Act.put]) ⟨g, 0, none⟩ 0 0 (xs.drop ((m + 1) * 1)) (by simp [Act.eval, Act.put]) HNL.out HN.out HONE.out (by omega) hspare.out ?_)
    rw [HSET.out]
    go_wp2_with fail
    go_ret
    exact ⟨rfl, HF.out, HKK.out⟩
  · have HN : Hid (∀ j u, (xs.drop ((i + 1) * 1))[j]? = some u → w.drew.cell? ((⟨g, (i + 1) * 1, none⟩ : Addr).add j) = some u) := fun j u hj => by
      have hjl := (List.getElem?_eq_some_iff.1 hj).1
      show w.cell? _ = _
      rw [add_lit, hcell _ (by rw [hnl] at hjl; omega)]
      rwa [List.getElem?_drop] at hj
    clear hset hcl hfin hK hR1 hR2 hR1s hR2s hcell hone hnl hs ht hg hcm h1 hxl hx
    go_enter Try.func40, Try.ntmps40
    go_wp2_with fail
    go_region_law (refine step_append_room rfl (.tmp 22) (.tmp 25) 28 rfl 3 i0 1 Try.underlying28 hi0 hz1 g 0 i cap (by simp [Act.eval, Act.put]) ⟨g, (i + 1) * 1, none⟩ (m - i) (cap - (i + 1)) (xs.drop ((i + 1) * 1)) (by simp [Act.eval, Act.put]) HNL.out HN.out HONE.out (by omega) hspare.out ?_)
    rw [HSET.out]
    go_wp2_with fail
    go_ret
    exact ⟨rfl, HF.out, HKK.out⟩

theorem clear2 (w : World) (ty g o c : Nat) (cur : Array Value) (hg : w.heap[g]? = some (.cells cur 70 (0, 0))) (hf : o + 2 ≤ cur.size) :
    (Builtin.clear_ #[24] ty #[.slice (some ⟨g, o, none⟩) 1 c]).run Try.prog w = .ok (.tuple #[]) (w.setRow g (cur.toList.take o ++ [Value.string ⟨#[]⟩, Value.int .i64 0] ++ cur.toList.drop (o + 2)).toArray) := by
  have hst := run_storeCells_at Try.prog g o 70 [Value.string ⟨#[]⟩, Value.int .i64 0] 0 cur w hg (by simpa using hf) (by intro v hv; simp at hv; rcases hv with rfl | rfl <;> rfl)
  have hv : (zeroValue 70).run Try.prog w = .ok (Value.agg #[Value.string ⟨#[]⟩, Value.int .i64 0]) w := by kernel_rfl
  have hzc : (Builtin.zeroCells (Value.agg #[Value.string ⟨#[]⟩, Value.int .i64 0]).cells 1).toList = [Value.string ⟨#[]⟩, Value.int .i64 0] := by kernel_rfl
  simp only [Nat.add_zero] at hst
  simp [Builtin.clear_, run_underlying Try.underlying24, hv, hzc, hst]
set_option maxHeartbeats 2000000 in
set_option maxRecDepth 100000 in
theorem sdel2 (X : Nat → Prop) (m i g cap : Nat) (xs : List Value) (w : World) (ho : Own 70 2 X w (.slice (some ⟨g, 0, none⟩) (m + 1) cap) (m + 1) xs) (hi : i ≤ m) (hm : m ≤ 1000) (h1 : ∀ u ∈ xs, u.oneCell' = true) :
    Calls Try.prog 32 #[.slice (some ⟨g, 0, none⟩) (m + 1 : Nat) cap, .int .i64 i, .int .i64 ((i : Int) + 1)] w fun e w' => e = .returned (.slice (some ⟨g, 0, none⟩) m cap) ∧
      Own 70 2 X w' (.slice (some ⟨g, 0, none⟩) m cap) m (xs.take (i * 2) ++ xs.drop ((i + 1) * 2)) ∧ Keep X w w' := by
  obtain ⟨cur, hg, hcn, hcm, hs, ht⟩ : ∃ cur, w.heap[g]? = some (.cells cur 70 (0, 0)) ∧ m + 1 ≤ cap ∧ cap ≤ maxLen ∧ cur.size = cap * 2 ∧ cur.toList.take ((m + 1) * 2) = xs := by
    rcases ho.1.2 with ⟨h, _⟩ | ⟨g', cap', cur, h, _, r1, r2, r3, r4, r5⟩
    · cases h
    · injection h with h1 h2 h3
      injection h1 with h1
      injection h1 with h1
      subst h1 h3
      exact ⟨cur, r1, r2, r3, r4, r5⟩
  have hx := ho.2 g rfl
  have hxl : xs.length = (m + 1) * 2 := ho.1.1
  clear ho
  obtain ⟨i0, hi0, hz0, hz1, hz2⟩ := info_parts info70
  have hnl : (xs.drop ((i + 1) * 2)).length = (m - i) * 2 := by rw [List.length_drop, hxl]; omega
  have hcell : ∀ j, j < (m + 1) * 2 → w.cell? ⟨g, j, none⟩ = xs[j]? := fun j hj => by
    rw [cell_of_row w g j cur 70 (0, 0) hg, ← ht, List.getElem?_take, if_pos hj]; simp
  have hone := fun u (hu : u ∈ xs.drop ((i + 1) * 2)) => h1 u (List.mem_of_mem_drop hu)
  obtain ⟨R1, hR1⟩ : ∃ R1 : Array Value, R1 = (cur.toList.take (i * 2) ++ xs.drop ((i + 1) * 2) ++ cur.toList.drop (i * 2 + (xs.drop ((i + 1) * 2)).length)).toArray := ⟨_, rfl⟩
  have hset : ∀ W : World, W.heap = w.heap → W.setCells g (i * 2) (xs.drop ((i + 1) * 2)) = W.setRow g R1 := fun W hW => by
    have H := setCells_row W g (i * 2) 70 cur (xs.drop ((i + 1) * 2)) (by rw [hW]; exact hg) (by rw [hnl, hs]; omega) hone
    rw [← hR1] at H
    first | exact H | (simp only [Nat.mul_one] at H ⊢; exact H)
  have hR1s : R1.size = cap * 2 := by rw [hR1]; simp [hs, hxl]; omega
  obtain ⟨R2, hR2⟩ : ∃ R2 : Array Value, R2 = (R1.toList.take (m * 2) ++ [Value.string ⟨#[]⟩, Value.int .i64 0] ++ R1.toList.drop (m * 2 + 2)).toArray := ⟨_, rfl⟩
  have hR2s : R2.size = cap * 2 := by rw [hR2]; simp [hR1s]; omega
  have hcl : ∀ W : World, W.heap = (w.setRow g R1).heap → ∀ c, (Builtin.clear_ #[24] 0 #[.slice (some ⟨g, m * 2, none⟩) 1 c]).run Try.prog W = .ok (.tuple #[]) (W.setRow g R2) := fun W hW c => by
    have H := clear2 W 0 g (m * 2) c R1 (by rw [hW]; exact setRow_heap w g cur _ 70 _ hg) (by rw [hR1s]; omega)
    rw [← hR2] at H
    first | exact H | (simp only [Nat.mul_one] at H ⊢; exact H)
  have hfin : Hid (∀ W : World, W.heap = (w.setRow g R1).heap → Own 70 2 X (W.setRow g R2) (.slice (some ⟨g, 0, none⟩) m cap) m (xs.take (i * 2) ++ xs.drop ((i + 1) * 2))) := by
    intro W hW
    refine ⟨⟨by simp [hxl]; omega, .inr ⟨g, cap, R2, rfl, Nat.zero_le _, setRow_heap W g R1 _ 70 _ (by rw [hW]; exact setRow_heap w g cur _ 70 _ hg), by omega, hcm, hR2s, ?_⟩⟩, fun g' hg' => ?_⟩
    · have e0 : R1.toList.take (m * 2) = xs.take (i * 2) ++ xs.drop ((i + 1) * 2) := by
        rw [hR1]
        have e1 : cur.toList.take (i * 2) = xs.take (i * 2) := by rw [← ht, List.take_take]; congr 1; omega
        rw [e1]
        exact List.take_left' (by simp [hxl]; omega)
      rw [hR2, List.append_assoc, e0]
      exact List.take_left' (by simp [hxl]; omega)
    · obtain rfl : g = g' := by simpa [Value.ownBlock] using hg'
      exact hx
  have hK : Hid (∀ W : World, Keep X w W → Keep X w ((W.setRow g R1).setRow g R2)) := fun W h => (h.setRow hx _).setRow hx _
  have hspare : Hid (∀ j, j < (xs.drop ((i + 1) * 2)).length → (w.drew.cell? ⟨g, 0 + i * 2 + j, none⟩).isSome = true ∧ w.drew.frozen? ⟨g, 0 + i * 2 + j, none⟩ = false) := fun j hj => by
    refine ⟨?_, by show w.frozen? _ = _; simp [World.frozen?, hg]⟩
    show (w.cell? _).isSome = _
    rw [cell_of_row w g _ cur 70 (0, 0) hg, Array.getElem?_eq_getElem (by rw [hnl] at hj; omega)]; rfl
  have HNL := hid hnl
  have HONE := hid hone
  have HSET := hid (hset w.drew rfl)
  have HCL := fun c => hcl (w.drew.setRow g R1) rfl c
  have HF := hid (hfin.out (w.drew.setRow g R1) rfl)
  have HKK := hid (hK.out w.drew ((Keep.refl X w).dr))
  have hq : i + (m - i) = m := by omega
  have hz4 : ¬ ((i : Int) = (i : Int) + 1) := by omega
  have hw1 : IntKind.i64.wrap ((i : Int) + 1) = (i : Int) + 1 := by rw [IntKind.wrap_i64]; omega
  have hb1 : (0 : Int) ≤ (i : Int) + 1 := by omega
  have htn : ((i : Int) + 1).toNat = i + 1 := by omega
  have hb3 : (i : Int) ≤ (m : Int) + 1 := by omega
  have hb5 : (i : Int) ≤ (m : Int) := by omega
  have hb6 : ¬ (cap = m) := by omega
  have hb7 : cap ≤ 9223372036854775807 := by unfold maxLen at hcm; omega
  have hb8 : (i : Int) ≤ (cap : Int) := by omega
  by_cases hce : cap = i + 1
  · have hmi : m = i := by omega
    have hnil : xs.drop ((i + 1) * 2) = [] := by rw [← hmi, ← hxl]; exact List.drop_length
    have HN : Hid (∀ j u, (xs.drop ((i + 1) * 2))[j]? = some u → w.drew.cell? ((⟨g, 0, none⟩ : Addr).add j) = some u) := fun j u hj => by rw [hnil] at hj; cases hj
    clear hset hcl hfin hK hR1 hR2 hR1s hR2s hcell hone hnl hnil hs ht hg hcm h1 hxl hx hb8 hb3 hb5 hb6 hq
    subst hmi hce
    rw [Nat.sub_self] at HNL
    have hb9 : ((m : Int) ≤ (m : Int) + 1) = True := by simp; omega
    have hb10 : (m + 1 = m) = False := by simp
    go_enter Try.func32, Try.ntmps32
    go_wp2_with fail
    go_region_law (refine step_append_room rfl (.tmp 22) (.tmp 25) 24 rfl 70 i0 2 Try.underlying24 hi0 hz1 g 0 m (m + 1) (by simp [Act.eval, Act.put]) ⟨g, 0, none⟩ 0 0 (xs.drop ((m + 1) * 2)) (by simp [Act.eval, Act.put]) HNL.out HN.out HONE.out (by omega) hspare.out ?_)
    rw [HSET.out]
    go_wp2_with fail
    go_ret
    exact ⟨rfl, HF.out, HKK.out⟩
  · have HN : Hid (∀ j u, (xs.drop ((i + 1) * 2))[j]? = some u → w.drew.cell? ((⟨g, (i + 1) * 2, none⟩ : Addr).add j) = some u) := fun j u hj => by
      have hjl := (List.getElem?_eq_some_iff.1 hj).1
      show w.cell? _ = _
      rw [add_lit, hcell _ (by rw [hnl] at hjl; omega)]
      rwa [List.getElem?_drop] at hj
    clear hset hcl hfin hK hR1 hR2 hR1s hR2s hcell hone hnl hs ht hg hcm h1 hxl hx
    go_enter Try.func32, Try.ntmps32
    go_wp2_with fail
    go_region_law (refine step_append_room rfl (.tmp 22) (.tmp 25) 24 rfl 70 i0 2 Try.underlying24 hi0 hz1 g 0 i cap (by simp [Act.eval, Act.put]) ⟨g, (i + 1) * 2, none⟩ (m - i) (cap - (i + 1)) (xs.drop ((i + 1) * 2)) (by simp [Act.eval, Act.put]) HNL.out HN.out HONE.out (by omega) hspare.out ?_)
    rw [HSET.out]
    go_wp2_with fail
    go_ret
    exact ⟨rfl, HF.out, HKK.out⟩
end Go.Proofs.Ytoelaemneoabfab
