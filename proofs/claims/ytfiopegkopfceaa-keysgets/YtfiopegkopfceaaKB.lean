/-
  The contract of the laws' 'both', walked.
-/
import Derived.Test.YtfiopegkopfceaaKO
import Derived.Deep.RegionHeld3
import Derived.Deep.AppendLies
namespace Go.Proofs.Ytfiopegkopfceaa
open Go.RowKit

/-- A value, its text cut at fifty bytes. -/
def cut1 (v : M.V) : M.V := (v.1.take 50, v.2.1, v.2.2)
def cut (L : List M.V) : List M.V := (L.take 10).map cut1
theorem info40 : (Try.prog.info? 40).map (fun i => (i.zero, i.size, i.bytes)) = some (some (.agg #[.string ⟨#[]⟩, .int .i64 0, .bool false]), 3, 32) := by kernel_rfl

/-- Three cells from the head of block g on. -/
def Cells3 (W : World) (g : Nat) (t : List UInt8) (n : Int) (b : Bool) : Prop := W.cell? ⟨g, 0, none⟩ = some (.string (M.bs t)) ∧ W.cell? ⟨g, 1, none⟩ = some (.int .i64 n) ∧ W.cell? ⟨g, 2, none⟩ = some (.bool b)
theorem Cells3.news {W : World} {g : Nat} {t : List UInt8} {n : Int} {b : Bool} (h : Cells3 W g t n b) : ∀ j u, (cells3 (t, n, b))[j]? = some u → W.cell? ((⟨g, 0, none⟩ : Addr).add j) = some u := by
  intro j u hu
  have ha : (⟨g, 0, none⟩ : Addr).add j = ⟨g, j, none⟩ := by unfold Addr.add; split <;> simp_all
  rw [ha]
  match j, hu with
  | 0, hu => simp [cells3] at hu; subst hu; exact h.1
  | 1, hu => simp [cells3] at hu; subst hu; exact h.2.1
  | 2, hu => simp [cells3] at hu; subst hu; exact h.2.2
/-- 'append(l, v)' at a step of a region that draws its order: the types 24 (of 36) and 25 (of 40). -/
theorem appS36 {ops : Array Oper} {o : Oper} {a : Act} {K : Act → World → Prop} {Q : Exit → Act → World → Prop} {E : Prop} {W : World} (hgd : o.guard = none) (s x : Operand)
    (ho : o.op = .call { callee := .builtin .append, args := #[s, x], argTypes := #[24, 24] }) (base : Nat) (v : Value) (L : List M.V) (hs : a.eval s = v) (hown : OwnV 36 W base v L) (t : List UInt8) (n : Int) (b : Bool)
    (g : Nat) (hx : a.eval x = .slice (some ⟨g, 0, none⟩) 1 1) (hc : Cells3 W g t n b) (hlen : L.length ≤ 100000) (hbase : base ≤ W.heap.size)
    (h : ∀ v' w', OwnV 36 w' base v' (L ++ [(t, n, b)]) → W.grownBy w' v.ownBlock → K (a.put o.dst v') w') :
    if Region.wanted o (yielded ops a.tmps) = true then Oper.wp Try.prog o a W K Q else E := by
  have hw : Region.wanted o (yielded ops a.tmps) = true := by simp [Region.wanted, hgd]
  rw [if_pos hw]
  obtain ⟨i0, hi, hz0, hz1, hz2⟩ := info_parts info36
  refine wp_append_own W s x 24 ho base 36 i0 _ 3 32 Try.underlying24 hi hz0 hz1 hz2 rfl (by decide) v L.length _ hs hown ⟨g, 0, none⟩ 1 1 (cells3 (t, n, b)) hx rfl hc.news ?_ (by unfold maxLen; omega) (by omega) hbase ?_
  · intro u hu; simp [cells3] at hu; rcases hu with rfl | rfl | rfl <;> rfl
  · intro v' w' h1 h2 _
    exact h v' w' (by unfold OwnV; simpa using h1) h2
theorem appS40 {ops : Array Oper} {o : Oper} {a : Act} {K : Act → World → Prop} {Q : Exit → Act → World → Prop} {E : Prop} {W : World} (hgd : o.guard = none) (s x : Operand)
    (ho : o.op = .call { callee := .builtin .append, args := #[s, x], argTypes := #[25, 25] }) (base : Nat) (v : Value) (L : List M.V) (hs : a.eval s = v) (hown : OwnV 40 W base v L) (t : List UInt8) (n : Int) (b : Bool)
    (g : Nat) (hx : a.eval x = .slice (some ⟨g, 0, none⟩) 1 1) (hc : Cells3 W g t n b) (hlen : L.length ≤ 100000) (hbase : base ≤ W.heap.size)
    (h : ∀ v' w', OwnV 40 w' base v' (L ++ [(t, n, b)]) → W.grownBy w' v.ownBlock → K (a.put o.dst v') w') :
    if Region.wanted o (yielded ops a.tmps) = true then Oper.wp Try.prog o a W K Q else E := by
  have hw : Region.wanted o (yielded ops a.tmps) = true := by simp [Region.wanted, hgd]
  rw [if_pos hw]
  obtain ⟨i0, hi, hz0, hz1, hz2⟩ := info_parts info40
  refine wp_append_own W s x 25 ho base 40 i0 _ 3 32 Try.underlying25 hi hz0 hz1 hz2 rfl (by decide) v L.length _ hs hown ⟨g, 0, none⟩ 1 1 (cells3 (t, n, b)) hx rfl hc.news ?_ (by unfold maxLen; omega) (by omega) hbase ?_
  · intro u hu; simp [cells3] at hu; rcases hu with rfl | rfl | rfl <;> rfl
  · intro v' w' h1 h2 _
    exact h v' w' (by unfold OwnV; simpa using h1) h2
/-- Rows of two element types are two rows. -/
theorem two_rows {W : World} {base : Nat} {x y : Value} {L M' : List M.V} (hx : OwnV 36 W base x L) (hy : OwnV 40 W base y M') : y.ownBlock = none ∨ y.ownBlock ≠ x.ownBlock := by
  obtain ⟨_, ⟨h1, _⟩ | ⟨g, cap, cur, hv, _, hh, _⟩⟩ := hy
  · left; rw [h1]; rfl
  · right
    obtain ⟨_, ⟨k1, _⟩ | ⟨g', cap', cur', kv, _, kh, _⟩⟩ := hx
    · rw [hv, k1]; simp [Value.ownBlock]
    · rw [hv, kv]
      intro e
      simp only [Value.ownBlock, Option.some.injEq] at e
      subst e
      rw [hh] at kh
      simp at kh
theorem OwnV.far {W w' : World} {base : Nat} {x y : Value} {L M' : List M.V} (hx : OwnV 36 W base x L) (hy : OwnV 40 W base y M') (hg : W.grownBy w' x.ownBlock) : OwnV 40 w' base y M' :=
  World.ownsRow.kept hy hg (two_rows hx hy)
theorem OwnV.far' {W w' : World} {base : Nat} {x y : Value} {L M' : List M.V} (hx : OwnV 36 W base x L) (hy : OwnV 40 W base y M') (hg : W.grownBy w' y.ownBlock) : OwnV 36 w' base x L :=
  World.ownsRow.kept hx hg (by
    rcases two_rows hx hy with h | h
    · cases hx' : x.ownBlock with
      | none => exact .inl rfl
      | some k => rw [h]; exact .inr (by simp)
    · exact .inr (Ne.symm h))

set_option maxHeartbeats 4000000 in
theorem both_some (L : List M.V) (b off cap : Nat) (w : World) (hv : Row3 w b off L) (hL : 0 < L.length) (hL2 : L.length ≤ maxLen) (hs : ∀ v ∈ L, Fits v) :
    Calls Try.prog 11 #[.slice (some ⟨b, off, none⟩) L.length cap] w fun e w' => ∃ x y, e = .returned (.tuple #[x, y]) ∧ OwnV 36 w' w.heap.size x (cut L) ∧ OwnV 40 w' w.heap.size y (cut L) ∧ Bel w w' := by
  unfold maxLen at hL2
  go_enter Try.func11, Try.ntmps11
  go_wp2_with fail
  have hbw := hv.lt hL
  go_loopw [4, 5, 6] (fun x y i wr => ∃ k : Nat, k ≤ L.length ∧ k ≤ 10 ∧ i = .int .i64 k ∧ OwnV 36 wr w.heap.size x (cut (L.take k)) ∧ OwnV 40 wr w.heap.size y (cut (L.take k)) ∧ Bel w wr) (fun _ _ i _ => 10 - (intOf i).toNat)
  case atStart => exact ⟨0, by omega, by omega, rfl, World.ownsRow_nil _ _ _ _, World.ownsRow_nil _ _ _ _, Below.refl _ _⟩
  case round =>
    obtain ⟨k, hk, hk10, rfl, hx, hy, hb⟩ := hrel
    by_cases hlt : k < L.length
    · by_cases hlt10 : k < 10
      · obtain ⟨c1, c2, c3⟩ := (hv.below hb hbw) k hlt
        have hf := hs L[k] (List.getElem_mem hlt)
        have HC : Hid (cut (L.take (k + 1)) = cut (L.take k) ++ [cut1 L[k]]) := by
          show _ = _
          unfold cut
          rw [List.take_of_length_le (l := L.take (k + 1)) (by rw [List.length_take]; omega), List.take_of_length_le (l := L.take k) (by rw [List.length_take]; omega), List.take_succ_eq_append_getElem hlt, List.map_append]; rfl
        generalize L[k] = v at *
        obtain ⟨t, n, f⟩ := v
        have hsz : (M.bs t).size = t.length := M.bs_size t
        have ht : t.length ≤ maxLen := hf.1
        unfold maxLen at ht
        clear hf hs hv
        have p1 : (0 : Int) ≤ (k : Int) := by omega
        have p2 : (k : Int) < (L.length : Int) := by omega
        have HXY : Hid (OwnV 36 wr w.heap.size u4 (cut (L.take k)) ∧ OwnV 40 wr w.heap.size u5 (cut (L.take k))) := ⟨hx, hy⟩
        clear hx hy
        by_cases h50 : t.length ≤ 50
        · have p3 : (t.length : Int) ≤ 50 := by omega
          have p4 : (0 : Int) ≤ (t.length : Int) := by omega
          have p5 : ((50 : Int) < (t.length : Int)) = False := by simp; omega
          have pe : (M.bs t).extract 0 t.length = M.bs (t.take 50) := by rw [M.extract_bs, M.bs_data, List.drop_zero, Nat.sub_zero, List.take_of_length_le (Nat.le_refl _), List.take_of_length_le h50]
          have HT : Hid (cut1 (t, n, f) = (t.take 50, n, f)) := rfl
          generalize t.take 50 = T at *
          go_wp2_with fail
          go_region_held3 (fun w' => w'.cell? ⟨b, off + k * 3, none⟩ = some (.string (M.bs t)) ∧ w'.cell? ⟨b, off + k * 3 + 1, none⟩ = some (.int .i64 n) ∧ w'.cell? ⟨b, off + k * 3 + 2, none⟩ = some (.bool f)) (go_keep) (fail)
          all_goals (rename_i hHeld; clear hHeld)
          all_goals go_wp2_with fail
          all_goals clear c1 c2 c3 pe p5 p4 p3 hsz
          · obtain ⟨hx, hy⟩ := HXY.out
            have hne : ∀ j, wr.heap.size ≤ j → some j ≠ u4.ownBlock := fun j hj e => by have := (World.ownsRow.lt hx j e.symm).2; omega
            have hne2 : ∀ j, wr.heap.size ≤ j → some j ≠ u5.ownBlock := fun j hj e => by have := (World.ownsRow.lt hy j e.symm).2; omega
            have hr4 : ∀ j, u4.ownBlock = some j → w.heap.size ≤ j := fun j hj => (World.ownsRow.lt hx j hj).1
            have hr5 : ∀ j, u5.ownBlock = some j → w.heap.size ≤ j := fun j hj => (World.ownsRow.lt hy j hj).1
            have hbz := hb.size
            have hcl : (cut (L.take k)).length ≤ 100000 := by unfold cut; rw [List.length_map, List.length_take]; omega
            go_region_held3 (fun w' => w'.cell? ⟨wr.heap.size, 0, none⟩ = some (.string (M.bs T)) ∧ w'.cell? ⟨wr.heap.size, 1, none⟩ = some (.int .i64 n) ∧ w'.cell? ⟨wr.heap.size, 2, none⟩ = some (.bool f))
              (first
                | go_keep
                | (refine ⟨?_, ?_, ?_⟩ <;> (rw [g2.cell_far _ (by first | (simp; done) | (simp; omega)) (hne2 _ (by simp))]; go_simp))
                | (refine ⟨?_, ?_, ?_⟩ <;> (rw [g1.cell_far _ (by first | (simp; done) | (simp; omega)) (hne _ (by simp))]; go_simp)))
              ((first
                | (refine appS36 (by rfl) _ _ (by rfl) w.heap.size u4 (cut (L.take k)) (by rfl) (by exact OwnV.al (OwnV.al hx _) _) T n f _ (by rfl) (by refine ⟨?_, ?_, ?_⟩ <;> go_simp) hcl (by first | (simp; done) | (simp; omega)) ?_; intro v1 w1 o1 g1; have hB1 : OwnV 40 w1 w.heap.size u5 (cut (L.take k)) := OwnV.far (by exact OwnV.al (OwnV.al hx _) _) (by exact OwnV.al (OwnV.al hy _) _) g1; have bA : Below w.heap.size w w1 := Below.grown (by repeat (first | exact hb | refine Bel.dr ?_ | refine Bel.al ?_ _)) g1 (by first | (simp; done) | (simp; omega)) hr4; have hz1 := g1.size; simp at hz1)
                | (refine appS36 (by rfl) _ _ (by rfl) w.heap.size u4 (cut (L.take k)) (by rfl) (by exact OwnV.al (OwnV.al (OwnV.al hx _) _) _) T n f _ (by rfl) (by refine ⟨?_, ?_, ?_⟩ <;> go_simp) hcl (by first | (simp; done) | (simp; omega)) ?_; intro v1 w1 o1 g1; have hB1 : OwnV 40 w1 w.heap.size u5 (cut (L.take k)) := OwnV.far (by exact OwnV.al (OwnV.al (OwnV.al hx _) _) _) (by exact OwnV.al (OwnV.al (OwnV.al hy _) _) _) g1; have bA : Below w.heap.size w w1 := Below.grown (by repeat (first | exact hb | refine Bel.dr ?_ | refine Bel.al ?_ _)) g1 (by first | (simp; done) | (simp; omega)) hr4; have hz1 := g1.size; simp at hz1)
                | (refine appS40 (by rfl) _ _ (by rfl) w.heap.size u5 (cut (L.take k)) (by rfl) (by exact OwnV.al hB1 _) T n f _ (by rfl) (by refine ⟨?_, ?_, ?_⟩ <;> go_simp) hcl (by first | (simp; done) | (simp; omega)) ?_; intro v2 w2 o2 g2; have oA : OwnV 36 w2 w.heap.size v1 (cut (L.take k) ++ [(T, n, f)]) := OwnV.far' (by exact OwnV.al o1 _) (by exact OwnV.al hB1 _) g2; have bB : Below w.heap.size w w2 := Below.grown (by repeat (first | exact bA | refine Below.drew ?_ | refine Below.alloc ?_ bA.size _)) g2 (by first | (simp; done) | (simp; omega)) hr5; have hz2 := g2.size; simp at hz2)
                | (refine appS40 (by rfl) _ _ (by rfl) w.heap.size u5 (cut (L.take k)) (by rfl) (by exact hB1) T n f _ (by rfl) (by refine ⟨?_, ?_, ?_⟩ <;> (rw [g1.cell_far _ (by first | (simp; done) | (simp; omega)) (hne _ (by first | (simp; done) | (simp; omega)))]; go_simp)) hcl (by omega) ?_; intro v2 w2 o2 g2; have oA : OwnV 36 w2 w.heap.size v1 (cut (L.take k) ++ [(T, n, f)]) := OwnV.far' o1 hB1 g2; have bB : Below w.heap.size w w2 := Below.grown bA g2 (by omega) hr5; have hz2 := g2.size)))
            all_goals clear g1 g2 hB1 bA o1 hne hne2 hr4 hr5 hx hy
            all_goals (rename_i hHeld; clear hHeld)
            all_goals go_wp2
            all_goals go_roundw
            all_goals first | exact ⟨k + 1, by omega, by omega, by go_num, by rw [HC.out, HT.out]; exact oA, by rw [HC.out, HT.out]; exact o2, bB⟩ | (simp [intOf]; omega)
          · obtain ⟨hx, hy⟩ := HXY.out
            have hne : ∀ j, wr.heap.size ≤ j → some j ≠ u4.ownBlock := fun j hj e => by have := (World.ownsRow.lt hx j e.symm).2; omega
            have hne2 : ∀ j, wr.heap.size ≤ j → some j ≠ u5.ownBlock := fun j hj e => by have := (World.ownsRow.lt hy j e.symm).2; omega
            have hr4 : ∀ j, u4.ownBlock = some j → w.heap.size ≤ j := fun j hj => (World.ownsRow.lt hx j hj).1
            have hr5 : ∀ j, u5.ownBlock = some j → w.heap.size ≤ j := fun j hj => (World.ownsRow.lt hy j hj).1
            have hbz := hb.size
            have hcl : (cut (L.take k)).length ≤ 100000 := by unfold cut; rw [List.length_map, List.length_take]; omega
            go_region_held3 (fun w' => w'.cell? ⟨wr.heap.size, 0, none⟩ = some (.string (M.bs T)) ∧ w'.cell? ⟨wr.heap.size, 1, none⟩ = some (.int .i64 n) ∧ w'.cell? ⟨wr.heap.size, 2, none⟩ = some (.bool f))
              (first
                | go_keep
                | (refine ⟨?_, ?_, ?_⟩ <;> (rw [g2.cell_far _ (by first | (simp; done) | (simp; omega)) (hne2 _ (by simp))]; go_simp))
                | (refine ⟨?_, ?_, ?_⟩ <;> (rw [g1.cell_far _ (by first | (simp; done) | (simp; omega)) (hne _ (by simp))]; go_simp)))
              ((first
                | (refine appS36 (by rfl) _ _ (by rfl) w.heap.size u4 (cut (L.take k)) (by rfl) (by exact OwnV.al (OwnV.al hx _) _) T n f _ (by rfl) (by refine ⟨?_, ?_, ?_⟩ <;> go_simp) hcl (by first | (simp; done) | (simp; omega)) ?_; intro v1 w1 o1 g1; have hB1 : OwnV 40 w1 w.heap.size u5 (cut (L.take k)) := OwnV.far (by exact OwnV.al (OwnV.al hx _) _) (by exact OwnV.al (OwnV.al hy _) _) g1; have bA : Below w.heap.size w w1 := Below.grown (by repeat (first | exact hb | refine Bel.dr ?_ | refine Bel.al ?_ _)) g1 (by first | (simp; done) | (simp; omega)) hr4; have hz1 := g1.size; simp at hz1)
                | (refine appS36 (by rfl) _ _ (by rfl) w.heap.size u4 (cut (L.take k)) (by rfl) (by exact OwnV.al (OwnV.al (OwnV.al hx _) _) _) T n f _ (by rfl) (by refine ⟨?_, ?_, ?_⟩ <;> go_simp) hcl (by first | (simp; done) | (simp; omega)) ?_; intro v1 w1 o1 g1; have hB1 : OwnV 40 w1 w.heap.size u5 (cut (L.take k)) := OwnV.far (by exact OwnV.al (OwnV.al (OwnV.al hx _) _) _) (by exact OwnV.al (OwnV.al (OwnV.al hy _) _) _) g1; have bA : Below w.heap.size w w1 := Below.grown (by repeat (first | exact hb | refine Bel.dr ?_ | refine Bel.al ?_ _)) g1 (by first | (simp; done) | (simp; omega)) hr4; have hz1 := g1.size; simp at hz1)
                | (refine appS40 (by rfl) _ _ (by rfl) w.heap.size u5 (cut (L.take k)) (by rfl) (by exact OwnV.al hB1 _) T n f _ (by rfl) (by refine ⟨?_, ?_, ?_⟩ <;> go_simp) hcl (by first | (simp; done) | (simp; omega)) ?_; intro v2 w2 o2 g2; have oA : OwnV 36 w2 w.heap.size v1 (cut (L.take k) ++ [(T, n, f)]) := OwnV.far' (by exact OwnV.al o1 _) (by exact OwnV.al hB1 _) g2; have bB : Below w.heap.size w w2 := Below.grown (by repeat (first | exact bA | refine Below.drew ?_ | refine Below.alloc ?_ bA.size _)) g2 (by first | (simp; done) | (simp; omega)) hr5; have hz2 := g2.size; simp at hz2)
                | (refine appS40 (by rfl) _ _ (by rfl) w.heap.size u5 (cut (L.take k)) (by rfl) (by exact hB1) T n f _ (by rfl) (by refine ⟨?_, ?_, ?_⟩ <;> (rw [g1.cell_far _ (by first | (simp; done) | (simp; omega)) (hne _ (by first | (simp; done) | (simp; omega)))]; go_simp)) hcl (by omega) ?_; intro v2 w2 o2 g2; have oA : OwnV 36 w2 w.heap.size v1 (cut (L.take k) ++ [(T, n, f)]) := OwnV.far' o1 hB1 g2; have bB : Below w.heap.size w w2 := Below.grown bA g2 (by omega) hr5; have hz2 := g2.size)))
            all_goals clear g1 g2 hB1 bA o1 hne hne2 hr4 hr5 hx hy
            all_goals (rename_i hHeld; clear hHeld)
            all_goals go_wp2
            all_goals go_roundw
            all_goals first | exact ⟨k + 1, by omega, by omega, by go_num, by rw [HC.out, HT.out]; exact oA, by rw [HC.out, HT.out]; exact o2, bB⟩ | (simp [intOf]; omega)
        · have p3 : (50 : Int) ≤ (t.length : Int) := by omega
          have p4 : (0 : Int) ≤ (t.length : Int) := by omega
          have p5 : ((50 : Int) < (t.length : Int)) = True := by simp; omega
          have pe : (M.bs t).extract 0 50 = M.bs (t.take 50) := by rw [M.extract_bs, M.bs_data, List.drop_zero, Nat.sub_zero]
          have HT : Hid (cut1 (t, n, f) = (t.take 50, n, f)) := rfl
          generalize t.take 50 = T at *
          go_wp2_with fail
          go_region_held3 (fun w' => w'.cell? ⟨b, off + k * 3, none⟩ = some (.string (M.bs t)) ∧ w'.cell? ⟨b, off + k * 3 + 1, none⟩ = some (.int .i64 n) ∧ w'.cell? ⟨b, off + k * 3 + 2, none⟩ = some (.bool f)) (go_keep) (fail)
          all_goals (rename_i hHeld; clear hHeld)
          all_goals go_wp2_with fail
          all_goals clear c1 c2 c3 pe p5 p4 p3 hsz
          · obtain ⟨hx, hy⟩ := HXY.out
            have hne : ∀ j, wr.heap.size ≤ j → some j ≠ u4.ownBlock := fun j hj e => by have := (World.ownsRow.lt hx j e.symm).2; omega
            have hne2 : ∀ j, wr.heap.size ≤ j → some j ≠ u5.ownBlock := fun j hj e => by have := (World.ownsRow.lt hy j e.symm).2; omega
            have hr4 : ∀ j, u4.ownBlock = some j → w.heap.size ≤ j := fun j hj => (World.ownsRow.lt hx j hj).1
            have hr5 : ∀ j, u5.ownBlock = some j → w.heap.size ≤ j := fun j hj => (World.ownsRow.lt hy j hj).1
            have hbz := hb.size
            have hcl : (cut (L.take k)).length ≤ 100000 := by unfold cut; rw [List.length_map, List.length_take]; omega
            go_region_held3 (fun w' => w'.cell? ⟨wr.heap.size, 0, none⟩ = some (.string (M.bs T)) ∧ w'.cell? ⟨wr.heap.size, 1, none⟩ = some (.int .i64 n) ∧ w'.cell? ⟨wr.heap.size, 2, none⟩ = some (.bool f))
              (first
                | go_keep
                | (refine ⟨?_, ?_, ?_⟩ <;> (rw [g2.cell_far _ (by first | (simp; done) | (simp; omega)) (hne2 _ (by simp))]; go_simp))
                | (refine ⟨?_, ?_, ?_⟩ <;> (rw [g1.cell_far _ (by first | (simp; done) | (simp; omega)) (hne _ (by simp))]; go_simp)))
              ((first
                | (refine appS36 (by rfl) _ _ (by rfl) w.heap.size u4 (cut (L.take k)) (by rfl) (by exact OwnV.al (OwnV.al hx _) _) T n f _ (by rfl) (by refine ⟨?_, ?_, ?_⟩ <;> go_simp) hcl (by first | (simp; done) | (simp; omega)) ?_; intro v1 w1 o1 g1; have hB1 : OwnV 40 w1 w.heap.size u5 (cut (L.take k)) := OwnV.far (by exact OwnV.al (OwnV.al hx _) _) (by exact OwnV.al (OwnV.al hy _) _) g1; have bA : Below w.heap.size w w1 := Below.grown (by repeat (first | exact hb | refine Bel.dr ?_ | refine Bel.al ?_ _)) g1 (by first | (simp; done) | (simp; omega)) hr4; have hz1 := g1.size; simp at hz1)
                | (refine appS36 (by rfl) _ _ (by rfl) w.heap.size u4 (cut (L.take k)) (by rfl) (by exact OwnV.al (OwnV.al (OwnV.al hx _) _) _) T n f _ (by rfl) (by refine ⟨?_, ?_, ?_⟩ <;> go_simp) hcl (by first | (simp; done) | (simp; omega)) ?_; intro v1 w1 o1 g1; have hB1 : OwnV 40 w1 w.heap.size u5 (cut (L.take k)) := OwnV.far (by exact OwnV.al (OwnV.al (OwnV.al hx _) _) _) (by exact OwnV.al (OwnV.al (OwnV.al hy _) _) _) g1; have bA : Below w.heap.size w w1 := Below.grown (by repeat (first | exact hb | refine Bel.dr ?_ | refine Bel.al ?_ _)) g1 (by first | (simp; done) | (simp; omega)) hr4; have hz1 := g1.size; simp at hz1)
                | (refine appS40 (by rfl) _ _ (by rfl) w.heap.size u5 (cut (L.take k)) (by rfl) (by exact OwnV.al hB1 _) T n f _ (by rfl) (by refine ⟨?_, ?_, ?_⟩ <;> go_simp) hcl (by first | (simp; done) | (simp; omega)) ?_; intro v2 w2 o2 g2; have oA : OwnV 36 w2 w.heap.size v1 (cut (L.take k) ++ [(T, n, f)]) := OwnV.far' (by exact OwnV.al o1 _) (by exact OwnV.al hB1 _) g2; have bB : Below w.heap.size w w2 := Below.grown (by repeat (first | exact bA | refine Below.drew ?_ | refine Below.alloc ?_ bA.size _)) g2 (by first | (simp; done) | (simp; omega)) hr5; have hz2 := g2.size; simp at hz2)
                | (refine appS40 (by rfl) _ _ (by rfl) w.heap.size u5 (cut (L.take k)) (by rfl) (by exact hB1) T n f _ (by rfl) (by refine ⟨?_, ?_, ?_⟩ <;> (rw [g1.cell_far _ (by first | (simp; done) | (simp; omega)) (hne _ (by first | (simp; done) | (simp; omega)))]; go_simp)) hcl (by omega) ?_; intro v2 w2 o2 g2; have oA : OwnV 36 w2 w.heap.size v1 (cut (L.take k) ++ [(T, n, f)]) := OwnV.far' o1 hB1 g2; have bB : Below w.heap.size w w2 := Below.grown bA g2 (by omega) hr5; have hz2 := g2.size)))
            all_goals clear g1 g2 hB1 bA o1 hne hne2 hr4 hr5 hx hy
            all_goals (rename_i hHeld; clear hHeld)
            all_goals go_wp2
            all_goals go_roundw
            all_goals first | exact ⟨k + 1, by omega, by omega, by go_num, by rw [HC.out, HT.out]; exact oA, by rw [HC.out, HT.out]; exact o2, bB⟩ | (simp [intOf]; omega)
          · obtain ⟨hx, hy⟩ := HXY.out
            have hne : ∀ j, wr.heap.size ≤ j → some j ≠ u4.ownBlock := fun j hj e => by have := (World.ownsRow.lt hx j e.symm).2; omega
            have hne2 : ∀ j, wr.heap.size ≤ j → some j ≠ u5.ownBlock := fun j hj e => by have := (World.ownsRow.lt hy j e.symm).2; omega
            have hr4 : ∀ j, u4.ownBlock = some j → w.heap.size ≤ j := fun j hj => (World.ownsRow.lt hx j hj).1
            have hr5 : ∀ j, u5.ownBlock = some j → w.heap.size ≤ j := fun j hj => (World.ownsRow.lt hy j hj).1
            have hbz := hb.size
            have hcl : (cut (L.take k)).length ≤ 100000 := by unfold cut; rw [List.length_map, List.length_take]; omega
            go_region_held3 (fun w' => w'.cell? ⟨wr.heap.size, 0, none⟩ = some (.string (M.bs T)) ∧ w'.cell? ⟨wr.heap.size, 1, none⟩ = some (.int .i64 n) ∧ w'.cell? ⟨wr.heap.size, 2, none⟩ = some (.bool f))
              (first
                | go_keep
                | (refine ⟨?_, ?_, ?_⟩ <;> (rw [g2.cell_far _ (by first | (simp; done) | (simp; omega)) (hne2 _ (by simp))]; go_simp))
                | (refine ⟨?_, ?_, ?_⟩ <;> (rw [g1.cell_far _ (by first | (simp; done) | (simp; omega)) (hne _ (by simp))]; go_simp)))
              ((first
                | (refine appS36 (by rfl) _ _ (by rfl) w.heap.size u4 (cut (L.take k)) (by rfl) (by exact OwnV.al (OwnV.al hx _) _) T n f _ (by rfl) (by refine ⟨?_, ?_, ?_⟩ <;> go_simp) hcl (by first | (simp; done) | (simp; omega)) ?_; intro v1 w1 o1 g1; have hB1 : OwnV 40 w1 w.heap.size u5 (cut (L.take k)) := OwnV.far (by exact OwnV.al (OwnV.al hx _) _) (by exact OwnV.al (OwnV.al hy _) _) g1; have bA : Below w.heap.size w w1 := Below.grown (by repeat (first | exact hb | refine Bel.dr ?_ | refine Bel.al ?_ _)) g1 (by first | (simp; done) | (simp; omega)) hr4; have hz1 := g1.size; simp at hz1)
                | (refine appS36 (by rfl) _ _ (by rfl) w.heap.size u4 (cut (L.take k)) (by rfl) (by exact OwnV.al (OwnV.al (OwnV.al hx _) _) _) T n f _ (by rfl) (by refine ⟨?_, ?_, ?_⟩ <;> go_simp) hcl (by first | (simp; done) | (simp; omega)) ?_; intro v1 w1 o1 g1; have hB1 : OwnV 40 w1 w.heap.size u5 (cut (L.take k)) := OwnV.far (by exact OwnV.al (OwnV.al (OwnV.al hx _) _) _) (by exact OwnV.al (OwnV.al (OwnV.al hy _) _) _) g1; have bA : Below w.heap.size w w1 := Below.grown (by repeat (first | exact hb | refine Bel.dr ?_ | refine Bel.al ?_ _)) g1 (by first | (simp; done) | (simp; omega)) hr4; have hz1 := g1.size; simp at hz1)
                | (refine appS40 (by rfl) _ _ (by rfl) w.heap.size u5 (cut (L.take k)) (by rfl) (by exact OwnV.al hB1 _) T n f _ (by rfl) (by refine ⟨?_, ?_, ?_⟩ <;> go_simp) hcl (by first | (simp; done) | (simp; omega)) ?_; intro v2 w2 o2 g2; have oA : OwnV 36 w2 w.heap.size v1 (cut (L.take k) ++ [(T, n, f)]) := OwnV.far' (by exact OwnV.al o1 _) (by exact OwnV.al hB1 _) g2; have bB : Below w.heap.size w w2 := Below.grown (by repeat (first | exact bA | refine Below.drew ?_ | refine Below.alloc ?_ bA.size _)) g2 (by first | (simp; done) | (simp; omega)) hr5; have hz2 := g2.size; simp at hz2)
                | (refine appS40 (by rfl) _ _ (by rfl) w.heap.size u5 (cut (L.take k)) (by rfl) (by exact hB1) T n f _ (by rfl) (by refine ⟨?_, ?_, ?_⟩ <;> (rw [g1.cell_far _ (by first | (simp; done) | (simp; omega)) (hne _ (by first | (simp; done) | (simp; omega)))]; go_simp)) hcl (by omega) ?_; intro v2 w2 o2 g2; have oA : OwnV 36 w2 w.heap.size v1 (cut (L.take k) ++ [(T, n, f)]) := OwnV.far' o1 hB1 g2; have bB : Below w.heap.size w w2 := Below.grown bA g2 (by omega) hr5; have hz2 := g2.size)))
            all_goals clear g1 g2 hB1 bA o1 hne hne2 hr4 hr5 hx hy
            all_goals (rename_i hHeld; clear hHeld)
            all_goals go_wp2
            all_goals go_roundw
            all_goals first | exact ⟨k + 1, by omega, by omega, by go_num, by rw [HC.out, HT.out]; exact oA, by rw [HC.out, HT.out]; exact o2, bB⟩ | (simp [intOf]; omega)
      · have HE : Hid (cut (L.take k) = cut L) := by
          show _ = _
          unfold cut
          rw [List.take_take, show min 10 k = 10 by omega]
        go_wp2
        go_ret2
        exact ⟨_, _, rfl, by rw [← HE.out]; exact hx, by rw [← HE.out]; exact hy, hb⟩
    · have HE : Hid (cut (L.take k) = cut L) := by
        show _ = _
        rw [List.take_of_length_le (by omega)]
      go_wp2
      go_ret2
      exact ⟨_, _, rfl, by rw [← HE.out]; exact hx, by rw [← HE.out]; exact hy, hb⟩

theorem both_nil (a : Option Addr) (cap : Nat) (w : World) :
    Calls Try.prog 11 #[.slice a 0 cap] w fun e w' => ∃ x y, e = .returned (.tuple #[x, y]) ∧ OwnV 36 w' w.heap.size x [] ∧ OwnV 40 w' w.heap.size y [] ∧ Bel w w' := by
  go_enter Try.func11, Try.ntmps11
  go_wp2_with fail
  refine wp_loop_rounds 1 ?_
  rw [rounds_succ]
  go_wp2
  go_ret2
  exact ⟨_, _, rfl, World.ownsRow_nil _ _ _ _, World.ownsRow_nil _ _ _ _, Below.refl _ _⟩
theorem both_any (L : List M.V) (x : Value) (w : World) (hv : Vals w x L) (hL2 : L.length ≤ maxLen) (hs : ∀ v ∈ L, Fits v) :
    Calls Try.prog 11 #[x] w fun e w' => ∃ x y, e = .returned (.tuple #[x, y]) ∧ OwnV 36 w' w.heap.size x (cut L) ∧ OwnV 40 w' w.heap.size y (cut L) ∧ Bel w w' := by
  obtain ⟨a, cap, rfl, hv⟩ := hv
  by_cases h0 : L = []
  · subst h0; exact both_nil a cap w
  · obtain h | ⟨b, off, rfl, hr⟩ := hv
    · exact absurd h h0
    · refine both_some L b off cap w hr ?_ hL2 hs
      have : L.length ≠ 0 := fun h => h0 (List.length_eq_zero_iff.1 h)
      omega
end Go.Proofs.Ytfiopegkopfceaa
