/-
  The contract of the law's 'both', walked; lists of pieces, as they come in.
-/
import Derived.Test.YtnfbpfejogkcnaaLC
import Derived.Deep.AppendLies
namespace Go.Proofs.Ytnfbpfejogkcnaa
open Go.RowKit

/-- A piece, its bytes cut at three hundred. -/
def cut1 (p : M.Pc) : M.Pc := (p.1, p.2.take 300)
def cut (L : List M.Pc) : List M.Pc := (L.take 20).map cut1
theorem cut_length (L : List M.Pc) : (cut L).length ≤ 20 := by unfold cut; rw [List.length_map, List.length_take]; omega
theorem cut_small (L : List M.Pc) : ∀ p ∈ cut L, p.2.length ≤ 300 := by
  intro p hp
  obtain ⟨q, _, rfl⟩ := List.mem_map.1 hp
  simp only [cut1, List.length_take]; omega
def Cells2 (W : World) (g : Nat) (n : Int) (t : List UInt8) : Prop := W.cell? ⟨g, 0, none⟩ = some (.int .i64 n) ∧ W.cell? ⟨g, 1, none⟩ = some (.string (M.bs t))
theorem Cells2.news {W : World} {g : Nat} {t : List UInt8} {n : Int} (h : Cells2 W g n t) : ∀ j u, (cells2 (n, t))[j]? = some u → W.cell? ((⟨g, 0, none⟩ : Addr).add j) = some u := by
  intro j u hu
  have ha : (⟨g, 0, none⟩ : Addr).add j = ⟨g, j, none⟩ := by unfold Addr.add; split <;> simp_all
  rw [ha]
  match j, hu with
  | 0, hu => simp [cells2] at hu; subst hu; exact h.1
  | 1, hu => simp [cells2] at hu; subst hu; exact h.2
/-- 'append(l, p)' at a step of a region that draws its order. -/
theorem appS48 {ops : Array Oper} {o : Oper} {a : Act} {K : Act → World → Prop} {Q : Exit → Act → World → Prop} {E : Prop} {W : World} (hgd : o.guard = none) (s x : Operand)
    (ho : o.op = .call { callee := .builtin .append, args := #[s, x], argTypes := #[23, 23] }) (base : Nat) (v : Value) (L : List M.Pc) (hs : a.eval s = v) (hown : OwnP 48 W base v L) (n : Int) (t : List UInt8)
    (g : Nat) (hx : a.eval x = .slice (some ⟨g, 0, none⟩) 1 1) (hc : Cells2 W g n t) (hlen : L.length ≤ 100000) (hbase : base ≤ W.heap.size)
    (h : ∀ v' w', OwnP 48 w' base v' (L ++ [(n, t)]) → W.grownBy w' v.ownBlock → K (a.put o.dst v') w') :
    if Region.wanted o (yielded ops a.tmps) = true then Oper.wp Try.prog o a W K Q else E := by
  have hw : Region.wanted o (yielded ops a.tmps) = true := by simp [Region.wanted, hgd]
  rw [if_pos hw]
  obtain ⟨i0, hi, hz0, hz1, hz2⟩ := info_parts info48
  refine wp_append_own W s x 23 ho base 48 i0 _ 2 24 Try.underlying23 hi hz0 hz1 hz2 rfl (by decide) v L.length _ hs hown ⟨g, 0, none⟩ 1 1 (cells2 (n, t)) hx rfl hc.news ?_ (by unfold maxLen; omega) (by omega) hbase ?_
  · intro u hu; simp [cells2] at hu; rcases hu with rfl | rfl <;> rfl
  · intro v' w' h1 h2 _
    exact h v' w' (by unfold OwnP; simpa using h1) h2
theorem appS50 {ops : Array Oper} {o : Oper} {a : Act} {K : Act → World → Prop} {Q : Exit → Act → World → Prop} {E : Prop} {W : World} (hgd : o.guard = none) (s x : Operand)
    (ho : o.op = .call { callee := .builtin .append, args := #[s, x], argTypes := #[26, 26] }) (base : Nat) (v : Value) (L : List M.Pc) (hs : a.eval s = v) (hown : OwnP 50 W base v L) (n : Int) (t : List UInt8)
    (g : Nat) (hx : a.eval x = .slice (some ⟨g, 0, none⟩) 1 1) (hc : Cells2 W g n t) (hlen : L.length ≤ 100000) (hbase : base ≤ W.heap.size)
    (h : ∀ v' w', OwnP 50 w' base v' (L ++ [(n, t)]) → W.grownBy w' v.ownBlock → K (a.put o.dst v') w') :
    if Region.wanted o (yielded ops a.tmps) = true then Oper.wp Try.prog o a W K Q else E := by
  have hw : Region.wanted o (yielded ops a.tmps) = true := by simp [Region.wanted, hgd]
  rw [if_pos hw]
  obtain ⟨i0, hi, hz0, hz1, hz2⟩ := info_parts info50
  refine wp_append_own W s x 26 ho base 50 i0 _ 2 24 Try.underlying26 hi hz0 hz1 hz2 rfl (by decide) v L.length _ hs hown ⟨g, 0, none⟩ 1 1 (cells2 (n, t)) hx rfl hc.news ?_ (by unfold maxLen; omega) (by omega) hbase ?_
  · intro u hu; simp [cells2] at hu; rcases hu with rfl | rfl <;> rfl
  · intro v' w' h1 h2 _
    exact h v' w' (by unfold OwnP; simpa using h1) h2
/-- Rows of two element types are two rows. -/
theorem two_rows {W : World} {base : Nat} {x y : Value} {L M' : List M.Pc} (hx : OwnP 48 W base x L) (hy : OwnP 50 W base y M') : y.ownBlock = none ∨ y.ownBlock ≠ x.ownBlock := by
  obtain ⟨_, ⟨h1, _⟩ | ⟨g, cap, cur, hv, _, hh, _⟩⟩ := hy
  · left; rw [h1]; rfl
  · right
    obtain ⟨_, ⟨k1, _⟩ | ⟨g', cap', cur', kv, _, kh, _⟩⟩ := hx
    · rw [hv, k1]; simp [Value.ownBlock]
    · rw [hv, kv]
      intro e
      simp only [Value.ownBlock, Option.some.injEq] at e
      subst e
      rw [hh] at kh
      simp at kh
theorem OwnP.far {W w' : World} {base : Nat} {x y : Value} {L M' : List M.Pc} (hx : OwnP 48 W base x L) (hy : OwnP 50 W base y M') (hg : W.grownBy w' x.ownBlock) : OwnP 50 w' base y M' :=
  World.ownsRow.kept hy hg (two_rows hx hy)
theorem OwnP.far' {W w' : World} {base : Nat} {x y : Value} {L M' : List M.Pc} (hx : OwnP 48 W base x L) (hy : OwnP 50 W base y M') (hg : W.grownBy w' y.ownBlock) : OwnP 48 w' base x L :=
  World.ownsRow.kept hx hg (by
    rcases two_rows hx hy with h | h
    · cases hx' : x.ownBlock with
      | none => exact .inl rfl
      | some k => rw [h]; exact .inr (by simp)
    · exact .inr (Ne.symm h))

set_option maxHeartbeats 4000000 in
theorem both_some (L : List M.Pc) (b off cap : Nat) (w : World) (hv : Row2 w b off L) (hL : 0 < L.length) (hL2 : L.length ≤ maxLen) (hs : ∀ p ∈ L, p.2.length ≤ maxLen) :
    Calls Try.prog 15 #[.slice (some ⟨b, off, none⟩) L.length cap] w fun e w' => ∃ x y, e = .returned (.tuple #[x, y]) ∧ OwnP 48 w' w.heap.size x (cut L) ∧ OwnP 50 w' w.heap.size y (cut L) ∧ Bel w w' := by
  unfold maxLen at hL2 hs
  have hbw := hv.lt hL
  go_enter Try.func15, Try.ntmps15
  go_wp2_with fail
  go_loopw [4, 5, 6] (fun x y i wr => ∃ k : Nat, k ≤ L.length ∧ k ≤ 20 ∧ i = .int .i64 k ∧ OwnP 48 wr w.heap.size x (cut (L.take k)) ∧ OwnP 50 wr w.heap.size y (cut (L.take k)) ∧ Bel w wr) (fun _ _ i _ => 20 - (intOf i).toNat)
  case atStart => exact ⟨0, by omega, by omega, rfl, OwnP.nil _ _ _, OwnP.nil _ _ _, Below.refl _ _⟩
  case round =>
    obtain ⟨k, hk, hk20, rfl, hx, hy, hb⟩ := hrel
    by_cases hlt : k < L.length
    · by_cases hlt20 : k < 20
      · obtain ⟨c1, c2⟩ := (hv.below hb hbw) k hlt
        have ht := hs L[k] (List.getElem_mem hlt)
        have HC : Hid (cut (L.take (k + 1)) = cut (L.take k) ++ [cut1 L[k]]) := by
          show _ = _
          unfold cut
          rw [List.take_of_length_le (l := L.take (k + 1)) (by rw [List.length_take]; omega), List.take_of_length_le (l := L.take k) (by rw [List.length_take]; omega), List.take_succ_eq_append_getElem hlt, List.map_append]; rfl
        generalize L[k] = v at *
        obtain ⟨n, t⟩ := v
        have hsz : (M.bs t).size = t.length := M.bs_size t
        simp only at ht c1 c2
        clear hs hv
        have HX := hid hx
        have HY := hid hy
        clear hx hy
        have hce : (M.bs t).extract 0 (min (t.length : Int) 300).toNat = M.bs (t.take 300) := cut_eq t 300
        have HT : Hid (cut1 (n, t) = (n, t.take 300)) := rfl
        generalize t.take 300 = T at *
        have hbr : b < wr.heap.size := Nat.lt_of_lt_of_le hbw hb.size
        have d1 : ∀ o, (wr.alloc o).cell? ⟨b, off + k * 2, none⟩ = some (.int .i64 n) := fun o => (bel_cell (Bel.al (Below.refl _ wr) o) hbr _).trans c1
        have d2 : ∀ o, (wr.alloc o).cell? ⟨b, off + k * 2 + 1, none⟩ = some (.string (M.bs t)) := fun o => (bel_cell (Bel.al (Below.refl _ wr) o) hbr _).trans c2
        have q1 : (0 : Int) ≤ min (t.length : Int) 300 := by omega
        have q2 : min (t.length : Int) 300 ≤ (t.length : Int) := by omega
        go_wp2_with fail
        go_region
        have bW : Bel wr (wr.alloc (.cells #[.int .i64 n, .string (M.bs T)] 65)).drew := (Bel.al (Below.refl _ _) _).dr
        have e1 : (wr.alloc (.cells #[.int .i64 n, .string (M.bs T)] 65)).drew.cell? ⟨wr.heap.size, 0, none⟩ = some (.int .i64 n) := by simp [World.cell?_alloc_at]
        have e2 : (wr.alloc (.cells #[.int .i64 n, .string (M.bs T)] 65)).drew.cell? ⟨wr.heap.size, 1, none⟩ = some (.string (M.bs T)) := by simp [World.cell?_alloc_at]
        have hwz : wr.heap.size < (wr.alloc (.cells #[.int .i64 n, .string (M.bs T)] 65)).drew.heap.size := by simp
        have hx := HX.out.bel bW
        have hy := HY.out.bel bW
        have hbb := hb.tr bW
        have hne : ∀ j, wr.heap.size ≤ j → some j ≠ u4.ownBlock := fun j hj e => by have := (World.ownsRow.lt HX.out j e.symm).2; omega
        have hne2 : ∀ j, wr.heap.size ≤ j → some j ≠ u5.ownBlock := fun j hj e => by have := (World.ownsRow.lt HY.out j e.symm).2; omega
        have hr4 : ∀ j, u4.ownBlock = some j → w.heap.size ≤ j := fun j hj => (World.ownsRow.lt HX.out j hj).1
        have hr5 : ∀ j, u5.ownBlock = some j → w.heap.size ≤ j := fun j hj => (World.ownsRow.lt HY.out j hj).1
        have hbz := hb.size
        have hcl : (cut (L.take k)).length ≤ 100000 := by have := cut_length (L.take k); omega
        generalize (wr.alloc (.cells #[.int .i64 n, .string (M.bs T)] 65)).drew = W1 at *
        clear c1 c2 d1 d2 hce q1 q2 hsz ht bW HX HY
        go_wp2_with fail
        go_region_held3 (fun w' => w'.cell? ⟨wr.heap.size, 0, none⟩ = some (.int .i64 n) ∧ w'.cell? ⟨wr.heap.size, 1, none⟩ = some (.string (M.bs T)))
          (first
            | go_keep
            | (refine ⟨?_, ?_⟩ <;> (rw [g2.cell_far _ (by first | (simp; done) | (simp; omega) | omega) (hne2 _ (by simp))]; go_simp))
            | (refine ⟨?_, ?_⟩ <;> (rw [g1.cell_far _ (by first | (simp; done) | (simp; omega) | omega) (hne _ (by simp))]; go_simp)))
          ((first
            | (refine appS48 (by rfl) _ _ (by rfl) w.heap.size u4 (cut (L.take k)) (by rfl) (by exact hx.al _) n T _ (by rfl) (by refine ⟨?_, ?_⟩ <;> go_simp) hcl (by first | (simp; done) | (simp; omega)) ?_; intro v1 w1 o1 g1; have hB1 : OwnP 50 w1 w.heap.size u5 (cut (L.take k)) := OwnP.far (by exact hx.al _) (by exact hy.al _) g1; have bA : Below w.heap.size w w1 := Below.grown (by repeat (first | exact hbb | refine Bel.dr ?_ | refine Bel.al ?_ _)) g1 (by first | (simp; done) | (simp; omega)) hr4; have hz1 := g1.size; simp at hz1)
            | (refine appS48 (by rfl) _ _ (by rfl) w.heap.size u4 (cut (L.take k)) (by rfl) (by exact (hx.al _).al _) n T _ (by rfl) (by refine ⟨?_, ?_⟩ <;> go_simp) hcl (by first | (simp; done) | (simp; omega)) ?_; intro v1 w1 o1 g1; have hB1 : OwnP 50 w1 w.heap.size u5 (cut (L.take k)) := OwnP.far (by exact (hx.al _).al _) (by exact (hy.al _).al _) g1; have bA : Below w.heap.size w w1 := Below.grown (by repeat (first | exact hbb | refine Bel.dr ?_ | refine Bel.al ?_ _)) g1 (by first | (simp; done) | (simp; omega)) hr4; have hz1 := g1.size; simp at hz1)
            | (refine appS50 (by rfl) _ _ (by rfl) w.heap.size u5 (cut (L.take k)) (by rfl) (by exact OwnP.al hB1 _) n T _ (by rfl) (by refine ⟨?_, ?_⟩ <;> go_simp) hcl (by first | (simp; done) | (simp; omega)) ?_; intro v2 w2 o2 g2; have oA : OwnP 48 w2 w.heap.size v1 (cut (L.take k) ++ [(n, T)]) := OwnP.far' (by exact OwnP.al o1 _) (by exact OwnP.al hB1 _) g2; have bB : Below w.heap.size w w2 := Below.grown (by repeat (first | exact bA | refine Below.drew ?_ | refine Below.alloc ?_ bA.size _)) g2 (by first | (simp; done) | (simp; omega)) hr5; have hz2 := g2.size; simp at hz2)
            | (refine appS50 (by rfl) _ _ (by rfl) w.heap.size u5 (cut (L.take k)) (by rfl) (by exact hB1) n T _ (by rfl) (by refine ⟨?_, ?_⟩ <;> (rw [g1.cell_far _ (by first | (simp; done) | (simp; omega)) (hne _ (by first | (simp; done) | (simp; omega)))]; go_simp)) hcl (by omega) ?_; intro v2 w2 o2 g2; have oA : OwnP 48 w2 w.heap.size v1 (cut (L.take k) ++ [(n, T)]) := OwnP.far' o1 hB1 g2; have bB : Below w.heap.size w w2 := Below.grown bA g2 (by omega) hr5; have hz2 := g2.size)))
        all_goals clear g1 g2 hB1 bA o1 hne hne2 hr4 hr5 hx hy
        all_goals (rename_i hHeld; clear hHeld)
        all_goals go_wp2
        all_goals go_roundw
        all_goals first | exact ⟨k + 1, by omega, by omega, by go_num, by rw [HC.out, HT.out]; exact oA, by rw [HC.out, HT.out]; exact o2, bB⟩ | (simp [intOf]; omega)
      · have HE : Hid (cut (L.take k) = cut L) := by
          show _ = _
          unfold cut
          rw [List.take_take, show min 20 k = 20 by omega]
        go_wp2
        go_ret2
        exact ⟨_, _, rfl, by rw [← HE.out]; exact hx, by rw [← HE.out]; exact hy, hb⟩
    · have HE : Hid (cut (L.take k) = cut L) := by
        show _ = _
        rw [List.take_of_length_le (by omega)]
      go_wp2
      go_ret2
      exact ⟨_, _, rfl, by rw [← HE.out]; exact hx, by rw [← HE.out]; exact hy, hb⟩
theorem both_nil (a : Option Addr) (cap : Nat) (w : World) :
    Calls Try.prog 15 #[.slice a 0 cap] w fun e w' => ∃ x y, e = .returned (.tuple #[x, y]) ∧ OwnP 48 w' w.heap.size x [] ∧ OwnP 50 w' w.heap.size y [] ∧ Bel w w' := by
  go_enter Try.func15, Try.ntmps15
  go_wp2_with fail
  refine wp_loop_rounds 1 ?_
  rw [rounds_succ]
  go_wp2
  go_ret2
  exact ⟨_, _, rfl, OwnP.nil _ _ _, OwnP.nil _ _ _, Below.refl _ _⟩
theorem both_any (L : List M.Pc) (x : Value) (w : World) (hv : Vals w x L) (hL2 : L.length ≤ maxLen) (hs : ∀ p ∈ L, p.2.length ≤ maxLen) :
    Calls Try.prog 15 #[x] w fun e w' => ∃ x y, e = .returned (.tuple #[x, y]) ∧ OwnP 48 w' w.heap.size x (cut L) ∧ OwnP 50 w' w.heap.size y (cut L) ∧ Bel w w' := by
  obtain ⟨a, cap, rfl, hv⟩ := hv
  by_cases h0 : L = []
  · subst h0; exact both_nil a cap w
  · obtain h | ⟨b, off, rfl, hr⟩ := hv
    · exact absurd h h0
    · refine both_some L b off cap w hr ?_ hL2 hs
      have : L.length ≠ 0 := fun h => h0 (List.length_eq_zero_iff.1 h)
      omega
end Go.Proofs.Ytnfbpfejogkcnaa
