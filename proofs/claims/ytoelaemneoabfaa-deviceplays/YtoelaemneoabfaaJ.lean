/-
  The contracts of the device's Write, Sync and Fuse, walked.
-/
import Derived.Test.YtoelaemneoabfaaI
namespace Go.Proofs.Ytoelaemneoabfaa
open Go.RowKit

theorem two_newW (w : World) (c0 c1 : Value) : ∀ j u, [c0, c1][j]? = some u → (w.alloc (.cells #[c0, c1] 65)).cell? ((⟨w.heap.size, 0, none⟩ : Addr).add j) = some u := by
  intro j u h
  rw [add_lit, World.cell?_alloc_at (hn := rfl)]
  simpa using h
theorem appW (X : Nat → Prop) (L : List M.Wr) (k : Int) (x : M.Tx) (v : Value) (w : World) (hL : L.length ≤ 1000) (ho : Own 65 2 X w v L.length (csW L)) (hX : ∀ k, X k → k < w.heap.size) :
    ∃ v' w', (∀ ty, (Builtin.append_ #[59, 59] ty #[v, .slice (some ⟨w.heap.size, 0, none⟩) 1 1]).run Try.prog (w.alloc (.cells #[(Value.int .i64 k), .string (M.bs x)] 65)) = .ok v' w') ∧ Own 65 2 X w' v' (L.length + 1) (csW (L ++ [(k, x)])) ∧ Keep X w w' := by
  obtain ⟨i0, hi, hz0, hz1, hz2⟩ := info_parts info65
  have hcs : csW (L ++ [(k, x)]) = csW L ++ [(Value.int .i64 k), .string (M.bs x)] := by rw [csW_append]; rfl
  have hone : ∀ u ∈ [(Value.int .i64 k), .string (M.bs x)], u.oneCell' = true := by intro u hu; simp at hu; rcases hu with rfl | rfl <;> rfl
  have hgrow : ∀ (base : Option Addr) (c : Nat) (_ : c < L.length + 1) (_ : (Builtin.firstCells i0.size L.length (.slice base L.length c)).run Try.prog (w.alloc (.cells #[(Value.int .i64 k), .string (M.bs x)] 65)).drew = .ok (csW L).toArray (w.alloc (.cells #[(Value.int .i64 k), .string (M.bs x)] 65)).drew),
      ∃ v' w', (∀ ty, (Builtin.append_ #[59, 59] ty #[.slice base L.length c, .slice (some ⟨w.heap.size, 0, none⟩) 1 1]).run Try.prog (w.alloc (.cells #[(Value.int .i64 k), .string (M.bs x)] 65)) = .ok v' w') ∧ Own 65 2 X w' v' (L.length + 1) (csW (L ++ [(k, x)])) ∧ Keep X w w' := by
    intro base c hc hf
    refine ⟨_, _, fun ty => run_append_grow_src _ 59 59 ty 65 i0 _ Try.underlying59 hi hz0 base L.length c _ hf _ 1 _
      (Src.ofSlice _ Try.underlying59 ⟨w.heap.size, 0, none⟩ 1 1 [(Value.int .i64 k), .string (M.bs x)] (by rw [hz1]; rfl) (two_newW w _ _) hone) hc (by omega) (by rw [hz2]; exact growslice_fits hc (by omega)), ?_, ?_⟩
    · refine ⟨⟨by rw [csW_length]; simp, .inr ⟨_, _, _, rfl, Nat.zero_le _, heap_alloc_new _ _, grownCap_ge _ _ _ _, grownCap_le_maxLen _ _ _ _ (by unfold maxLen; omega), ?_, ?_⟩⟩, fun g hg hx => ?_⟩
      · rw [Array.size_append, size_zeroCells]
        have := grownCap_ge (w.alloc (.cells #[(Value.int .i64 k), .string (M.bs x)] 65)) (L.length + 1) c 65
        simp only [List.size_toArray, List.length_append, csW_length, List.length_cons, List.length_nil]
        show _ + _ * 2 = _
        omega
      · rw [hcs, Array.toList_append, List.take_left' (by simp [csW_length]; omega)]
      · have : g = (w.alloc (.cells #[(Value.int .i64 k), .string (M.bs x)] 65)).heap.size := by simpa [Value.ownBlock] using hg.symm
        have := hX g hx
        simp at *; omega
    · exact (((Keep.refl X w).al hX _).dr).al hX _
  rcases ho.1.2 with ⟨rfl, hn⟩ | ⟨g, cap, cur, rfl, _, hg, hn, hm, hs, ht⟩
  · rw [hn] at hgrow ⊢
    exact hgrow none 0 (by omega) (by rw [List.length_eq_zero_iff.1 hn]; exact run_firstCells_none _ _ 0 0 0)
  · have hgl := (Array.getElem?_eq_some_iff.1 hg).1
    have hg' : (w.alloc (.cells #[(Value.int .i64 k), .string (M.bs x)] 65)).heap[g]? = some (.cells cur 65 (0, 0)) := (Below.heap_alloc _ _ _ hgl).trans hg
    by_cases hr : L.length + 1 ≤ cap
    · refine ⟨_, _, fun ty => run_append_room _ 59 ty 65 i0 Try.underlying59 hi g L.length cap cur hg' ⟨w.heap.size, 0, none⟩ 1 1 [(Value.int .i64 k), .string (M.bs x)] (by rw [hz1]; rfl) (two_newW w _ _) hone hr (by rw [hz1, hs]; simp; omega), ?_, ?_⟩
      · refine ⟨⟨by rw [csW_length]; simp, .inr ⟨g, cap, _, rfl, Nat.zero_le _, setRow_heap _ g cur _ 65 _ hg', hr, hm, ?_, ?_⟩⟩, fun g' hg' => ?_⟩
        · rw [hz1]; simp [hs]; omega
        · rw [hz1, ht, hcs, List.take_left' (by simp [csW_length]; omega)]
        · obtain rfl : g = g' := by simpa [Value.ownBlock] using hg'
          exact ho.2 g rfl
      · exact ((Keep.refl X w).al hX _).setRow (ho.2 g rfl) _
    · refine hgrow _ _ (by omega) ?_
      rw [hz1]
      refine run_firstCells_some _ 2 L.length ⟨g, 0, none⟩ L.length cap (csW L) (csW_length L) (fun j u hj => ?_)
      have := ho.1.cells (g := g) rfl j u hj
      rw [add_lit] at this ⊢
      show (w.alloc (.cells #[(Value.int .i64 k), .string (M.bs x)] 65)).cell? _ = _
      rw [World.cell?_alloc_past _ _ _ hgl]
      exact this

theorem own_ne {w : World} {b : Nat} {cs : Array Value} {e e' : TypeId} {size : Nat} {v : Value} {m : Nat} {xs : List Value} (hb : Blk w b cs e') (he : e ≠ e') (hv : w.ownsRow 0 e size v m xs) : v.ownBlock ≠ some b := by
  intro hg
  rcases hv.2 with ⟨rfl, _⟩ | ⟨g', cap, cur, rfl, _, hgb, _⟩
  · simp [Value.ownBlock] at hg
  · obtain rfl : g' = b := by simpa [Value.ownBlock] using hg
    have := (show w.heap[g']? = _ from hb).symm.trans hgb
    simp at this
    exact he this.2.symm
theorem own_ne_map {w : World} {mb n : Nat} {F : Int → M.Wr} {e : TypeId} {size : Nat} {v : Value} {m : Nat} {xs : List Value} (hm : MapW w mb n F) (hv : w.ownsRow 0 e size v m xs) : v.ownBlock ≠ some mb := by
  intro hg
  rcases hv.2 with ⟨rfl, _⟩ | ⟨g', cap, cur, rfl, _, hgb, _⟩
  · simp [Value.ownBlock] at hg
  · obtain rfl : g' = mb := by simpa [Value.ownBlock] using hg
    obtain ⟨D, ⟨es, clock, h1, _⟩, _⟩ := hm
    rw [hgb] at h1
    cases h1
theorem own_ne_own {w : World} {e e' : TypeId} {size size' : Nat} {v v' : Value} {m m' : Nat} {xs xs' : List Value} (he : e ≠ e') (hv : w.ownsRow 0 e size v m xs) (hv' : w.ownsRow 0 e' size' v' m' xs') (g : Nat) (h1 : v.ownBlock = some g) : v'.ownBlock ≠ some g := by
  intro hg
  rcases hv.2 with ⟨rfl, _⟩ | ⟨g', cap, cur, rfl, _, hgb, _⟩
  · simp [Value.ownBlock] at h1
  · obtain rfl : g' = g := by simpa [Value.ownBlock] using h1
    exact own_ne (show Blk w g' cur e from hgb) (fun e => he e.symm) hv' hg
theorem Dev.push {X : Nat → Prop} {w : World} {b : Nat} {S : St} {N : Nat} (h : Dev X w b S) (g : Good N S) (k : Int) (x : M.Tx) : ∃ wv g' cap' v' w', v' = .slice (some ⟨g', 0, none⟩) (S.wait.length + 1) cap' ∧ w.cell? ⟨b, 2, none⟩ = some wv ∧ (∀ ty, (Builtin.append_ #[59, 59] ty #[wv, .slice (some ⟨w.heap.size, 0, none⟩) 1 1]).run Try.prog (w.alloc (.cells #[(Value.int .i64 k), .string (M.bs x)] 65)) = .ok v' w') ∧
    w'.cell? ⟨b, 2, none⟩ = some wv ∧ w'.frozen? ⟨b, 2, none⟩ = false ∧ Dev X (w'.setCell ⟨b, 2, none⟩ v') b { S with wait := S.wait ++ [(k, x)] } ∧ Keep X w (w'.setCell ⟨b, 2, none⟩ v') := by
  obtain ⟨mb, n, wv, kv, h⟩ := h
  have nb := own_ne h.blk (by decide) h.wait
  have nm := own_ne_map h.map h.wait
  have hx : ∀ j, X j → j < w.heap.size ∧ wv.ownBlock ≠ some j := fun j hj => ⟨h.lt j hj, fun e => h.xw j e hj⟩
  obtain ⟨v', w', hrun, ho, hk⟩ := appW (fun j => j < w.heap.size ∧ wv.ownBlock ≠ some j) S.wait k x wv w (by have := g.room; have := g.n; omega) ⟨h.wait, fun g hg hh => hh.2 hg⟩ (fun _ h => h.1)
  have hb1 : Blk w' b _ 61 := (hk.block b ⟨h.blk.lt, nb⟩).trans h.blk
  have m1 := h.map.same (hk.block mb ⟨h.map.lt, nm⟩)
  have k1 := row_keep h.keep hk (fun g hg => ⟨(h.keep.lt g hg).2, own_ne_own (by decide) h.keep h.wait g hg⟩)
  have ks := (Keep.refl (fun j => j ≠ b) w').set (p := ⟨b, 2, none⟩) (by simp) v'
  have hmb : mb ≠ b := fun e => by
    obtain ⟨D, ⟨es, clock, h1, _⟩, _⟩ := h.map
    rw [e, show w.heap[b]? = _ from h.blk] at h1
    cases h1
  have hxk := hk.weak hx
  have r2 : w'.ownsRow 0 65 2 v' (S.wait ++ [(k, x)]).length (csW (S.wait ++ [(k, x)])) := by rw [List.length_append]; exact ho.1
  have n2 := own_ne hb1 (by decide) r2
  obtain ⟨g', cap', hv'⟩ : ∃ g cap, v' = .slice (some ⟨g, 0, none⟩) (S.wait.length + 1) cap := by
    rcases ho.1.2 with ⟨_, h0⟩ | ⟨g, cap, _, h, _⟩
    · omega
    · exact ⟨g, cap, h⟩
  refine ⟨wv, g', cap', v', w', hv', by rw [h.blk.cell]; rfl, hrun, by rw [hb1.cell]; rfl, hb1.frozen 2, ⟨mb, n, v', kv, hb1.set 2 v', m1.same (ks.block mb hmb), h.room, row_keep r2 ks (fun g hg e => n2 (by rw [← e]; exact hg)), row_keep k1 ks (fun g hg e => own_ne hb1 (by decide) k1 (by rw [← e]; exact hg)), h.xb, h.xm, fun g hg hX => ?_, h.xk, fun j hj => ?_⟩, hxk.set h.xb v'⟩
  · exact ho.2 g hg (hx g hX)
  · exact Nat.lt_of_lt_of_le (h.lt j hj) (Nat.le_trans hk.size ks.size)
def write (S : St) (i : Int) (t : M.Tx) : St := if check S i ≠ 0 then S else if 256 < t.length then S else if S.fuse = 1 then command S else { tick S with wait := S.wait ++ [(i, t)] }
def writeE (S : St) (i : Int) (t : M.Tx) : Int := if check S i ≠ 0 then check S i else if 256 < t.length then 6 else cmdE S
theorem check_in {S : St} {i : Int} (h : check S i = 0) : S.off = false ∧ 0 ≤ i ∧ i < S.size := by
  unfold check at h
  split at h
  · cases h
  · rename_i ho
    split at h
    · cases h
    · exact ⟨by simpa using ho, by omega⟩
theorem Good.write {N : Nat} {S : St} (g : Good N S) (h : N + 1 ≤ 1000) (i : Int) (t : M.Tx) : Good (N + 1) (write S i t) := by
  unfold Ytoelaemneoabfaa.write
  split
  · exact g.more (by omega) h
  · rename_i hc
    split
    · exact g.more (by omega) h
    · rename_i hl
      split
      · exact g.command h
      · have gt := g.tick h
        obtain ⟨_, c1, c2⟩ := check_in (S := S) (i := i) (by simpa using hc)
        refine ⟨h, gt.size1, gt.size2, ?_, gt.fin, ?_, ?_, gt.done0, gt.done, gt.fuse0, gt.fuse, gt.keep⟩
        · intro x hx
          rcases List.mem_append.1 hx with hx | hx
          · exact g.dat x hx
          · simp at hx; subst hx; simpa using hl
        · intro x hx
          rcases List.mem_append.1 hx with hx | hx
          · exact g.sec x hx
          · simp at hx; subst hx; exact ⟨c1, c2⟩
        · have := g.room; simp [Ytoelaemneoabfaa.tick]; omega
set_option maxHeartbeats 1000000 in
theorem write_any (X : Nat → Prop) (b : Nat) (S : St) (N : Nat) (i : Int) (t : M.Tx) (w : World) (h : Dev X w b S) (g : Good N S) (hN : N + 1 ≤ 1000) :
    Calls Try.prog 13 #[.pointer (some ⟨b, 0, none⟩), .int .i64 i, .string (M.bs t)] w fun e w' => e = .returned (.int .i64 (writeE S i t)) ∧ Dev X w' b (write S i t) ∧ Keep X w w' := by
  have HC := check_any X b S i w h
  have hsz : (M.bs t).size = t.length := M.bs_size t
  by_cases h0 : check S i = 0
  · rw [h0] at HC
    by_cases hl : 256 < t.length
    · have HB : Hid (write S i t = S ∧ writeE S i t = 6) := ⟨by simp [write, h0, hl], by simp [writeE, h0, hl]⟩
      have HD := hid h
      clear h g
      go_enter Try.func13, Try.ntmps13
      go_wp2_with (go_at_call 29; refine HC.mono ?_; rintro e w' ⟨rfl, rfl⟩)
      go_ret
      exact ⟨by rw [HB.out.2]; rfl, by rw [HB.out.1]; exact HD.out, Keep.refl _ _⟩
    · have q : decide (256 < t.length) = false := by simpa using hl
      have HM := command_any X b S N w h g
      by_cases hf : S.fuse = 1
      · have HB : Hid (write S i t = command S ∧ writeE S i t = 7) := ⟨by simp [write, h0, hl, hf], by simp [writeE, h0, hl, cmdE, hf]⟩
        rw [show cmdE S = 7 by simp [cmdE, hf]] at HM
        clear h g
        go_enter Try.func13, Try.ntmps13
        go_wp2_with first
          | (go_at_call 29; refine HC.mono ?_; rintro e w' ⟨rfl, rfl⟩)
          | (go_at_call 30; refine HM.mono ?_; rintro e w1 ⟨rfl, h1, k1⟩)
        go_ret
        exact ⟨by rw [HB.out.2]; rfl, by rw [HB.out.1]; exact h1, k1⟩
      · have HB : Hid (write S i t = { tick S with wait := S.wait ++ [(i, t)] } ∧ writeE S i t = 0) := ⟨by simp [write, h0, hl, hf], by simp [writeE, h0, hl, cmdE, hf]⟩
        rw [show cmdE S = 0 by simp [cmdE, hf], show command S = tick S by simp [command, hf]] at HM
        have HG := hid (g.tick hN)
        clear h g
        go_enter Try.func13, Try.ntmps13
        go_wp2_with first
          | (go_at_call 29; refine HC.mono ?_; rintro e w' ⟨rfl, rfl⟩)
          | (go_at_call 30; refine HM.mono ?_; rintro e w1 ⟨rfl, h1, k1⟩; obtain ⟨wv, g', cap', v', w2, rfl, p1, hrun, p3, p4, p5, p6⟩ := h1.push HG.out i t; have HP := hid p5; clear h1 p5)
          | (at_builtin; refine Lib.wpList_append_run _ rfl _ _ _ _ rfl _ _ rfl rfl _ _ (hrun _) ?_)
        go_ret
        exact ⟨by rw [HB.out.2]; rfl, by rw [HB.out.1]; exact HP.out, k1.tr p6⟩
  · have HB : Hid (write S i t = S ∧ writeE S i t = check S i) := ⟨by simp [write, h0], by simp [writeE, h0]⟩
    have q : (check S i == 0) = false := by simpa using h0
    have HD := hid h
    clear h g
    generalize check S i = c at *
    go_enter Try.func13, Try.ntmps13
    go_wp2_with (go_at_call 29; refine HC.mono ?_; rintro e w' ⟨rfl, rfl⟩)
    go_ret
    exact ⟨by rw [HB.out.2]; rfl, by rw [HB.out.1]; exact HD.out, Keep.refl _ _⟩
end Go.Proofs.Ytoelaemneoabfaa
