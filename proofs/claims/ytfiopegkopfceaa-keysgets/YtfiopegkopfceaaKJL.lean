/-
  The law KeysJoins, walked.
-/
import Derived.Test.YtfiopegkopfceaaKS
import Derived.Test.YtfiopegkopfceaaKB
import Derived.Laws.AppendOwnNone
namespace Go.Proofs.Ytfiopegkopfceaa
open Go.RowKit

theorem cut_length (L : List M.V) : (cut L).length ≤ 10 := by unfold cut; rw [List.length_map, List.length_take]; omega
theorem cut_short (L : List M.V) : ∀ v ∈ cut L, v.1.length ≤ 50 := by
  intro v hv
  unfold cut at hv
  rw [List.mem_map] at hv
  obtain ⟨x, _, rfl⟩ := hv
  unfold cut1; simp only [List.length_take]; omega
theorem put_err (L : List M.V) : (M.put L).2 = M.errOf L := by
  unfold M.put
  by_cases h : M.errOf L = 0
  · rw [if_pos h, h]
  · rw [if_neg h]
theorem put_key (L : List M.V) (h : M.errOf L = 0) : (M.put L).1 = M.keyOf L := by unfold M.put; rw [if_pos h]
theorem put_nokey (L : List M.V) (h : M.errOf L ≠ 0) : (M.put L).1 = [] := by unfold M.put; rw [if_neg h]
theorem errOf_le : ∀ L : List M.V, M.errOf L ≤ 6
  | [] => by simp [M.errOf]
  | v :: L => by
    simp only [M.errOf]
    split
    · exact errOf_le L
    · exact M.chk_le v
theorem errOf_front : ∀ (A B : List M.V), M.errOf A ≠ 0 → M.errOf (A ++ B) = M.errOf A
  | [], _, h => absurd rfl h
  | v :: A, B, h => by
    simp only [List.cons_append, M.errOf] at h ⊢
    split
    · rename_i h0; rw [if_pos h0] at h; exact errOf_front A B h
    · rfl
theorem keyOf_append (A B : List M.V) : M.keyOf (A ++ B) = M.keyOf A ++ M.keyOf B := by simp [M.keyOf]
/-- 'Put' of a list that 'both' has made. -/
theorem put_cut (L : List M.V) (x : Value) (W : World) (hv : Vals W x (cut L)) :
    Calls Try.prog 12 #[x] W fun e w' => e = .returned (.tuple #[.string (M.bs (M.put (cut L)).1), .int .i64 ((M.errOf (cut L) : Nat) : Int)]) ∧ Bel W w' := by
  have h := put_any (cut L) x W hv (by have := cut_length L; omega) (fun v hv => by have := cut_short L v hv; unfold maxLen; omega)
  rw [put_err] at h
  exact h
/-- 'append(l, m...)', both the call's own. -/
theorem appX {ops : Array Oper} {rest : List Oper} {o : Oper} {a : Act} {Q : Exit → Act → World → Prop} {W : World} (hgd : o.guard = none) (s x : Operand)
    (ho : o.op = .call { callee := .builtin .append, args := #[s, x], argTypes := #[24, 24] }) (base b2 : Nat) (v y : Value) (L M' : List M.V) (hs : a.eval s = v) (hx : a.eval x = y) (hown : OwnV 36 W base v L) (hy : OwnV 36 W b2 y M')
    (hlen : L.length + M'.length ≤ 100000) (hbase : base ≤ W.heap.size)
    (h : ∀ v' w', OwnV 36 w' base v' (L ++ M') → W.grownBy w' v.ownBlock → wpList Try.prog ops Q rest (a.put o.dst v') w') : wpList Try.prog ops Q (o :: rest) a W := by
  obtain ⟨i0, hi, hz0, hz1, hz2⟩ := info_parts info36
  have hy' := hy
  obtain ⟨hl, ⟨h1, h2⟩ | ⟨g, cap, cur, hv, hg, hh, hn, hm, hs', ht⟩⟩ := hy
  · have hM : M' = [] := List.length_eq_zero_iff.1 h2
    subst hM
    refine wpList_append_own_none hgd s x 24 ho base 36 i0 3 Try.underlying24 hi v L.length _ hs hown (hx.trans h1) ?_
    exact h v W (by rw [List.append_nil]; exact hown) (World.grownBy.refl _ _)
  · refine wpList_append_own _ hgd s x 24 ho base 36 i0 _ 3 32 Try.underlying24 hi hz0 hz1 hz2 rfl (by decide) v L.length _ hs hown ⟨g, 0, none⟩ M'.length cap (M'.flatMap cells3) (hx.trans hv) (cells3_length M') (World.ownsRow.cells hy' (by rw [hv]; rfl)) ?_ (by unfold maxLen; omega) (by omega) hbase ?_
    · intro u hu
      rw [List.mem_flatMap] at hu
      obtain ⟨c, _, hu⟩ := hu
      simp [cells3] at hu; rcases hu with rfl | rfl | rfl <;> rfl
    · intro v' w' k1 k2 _
      exact h v' w' (by unfold OwnV; rw [List.flatMap_append, List.length_append]; exact k1) k2

theorem OwnV.ne {e : TypeId} {W : World} {base : Nat} {x : Value} {L : List M.V} (h : OwnV e W base x L) : x.ownBlock = none ∨ x.ownBlock ≠ some W.heap.size := by
  cases hx : x.ownBlock with
  | none => exact .inl rfl
  | some j =>
    right
    intro e
    have := (World.ownsRow.lt h j hx).2
    injection e with e
    omega
set_option maxHeartbeats 4000000 in
theorem joins_law (v0 v1 : Value) (L0 L1 : List M.V) (w : World) (hv0 : Vals w v0 L0) (hv1 : Vals w v1 L1) (hs0 : ∀ v ∈ L0, Fits v) (hs1 : ∀ v ∈ L1, Fits v) (hm0 : L0.length ≤ maxLen) (hm1 : L1.length ≤ maxLen) :
    Calls Try.prog 9 #[v0, v1] w fun e w' => e = .returned (.bool true) ∧ Bel w w' := by
  have l0 := cut_length L0
  have l1 := cut_length L1
  have H0 := fun W (hv : Vals W v0 L0) => both_any L0 v0 W hv hm0 hs0
  have H1 := fun W (hv : Vals W v1 L1) => both_any L1 v1 W hv hm1 hs1
  have P0 := put_cut L0
  have P1 := put_cut L1
  have P2 := fun (x : Value) W (hv : Vals W x (cut L0 ++ cut L1)) => put_any (cut L0 ++ cut L1) x W hv (by rw [List.length_append]; omega) (fun v hv => by
    rw [List.mem_append] at hv
    rcases hv with hv | hv
    · have := cut_short L0 v hv; unfold maxLen; omega
    · have := cut_short L1 v hv; unfold maxLen; omega)
  rw [put_err] at P2
  clear hs0 hs1 hm0 hm1
  generalize cut L0 = A at *
  generalize cut L1 = B at *
  go_enter Try.func9, Try.ntmps9
  go_wp2_with fail
  refine (speaks_any _).mono ?_
  rintro e w1 ⟨rfl, b1⟩
  go_wp2_with fail
  refine (H0 _ (hv0.bel b1)).mono ?_
  rintro e w2 ⟨x0, y0, rfl, o0, _, b2⟩
  go_wp2_with fail
  refine (H1 _ (hv1.bel (b1.tr b2))).mono ?_
  rintro e w3 ⟨x1, y1, rfl, o1, _, b3⟩
  have o0' := o0.bel b3
  go_wp2_with fail
  refine (P0 _ _ o0'.vals).mono ?_
  rintro e w4 ⟨rfl, b4⟩
  have o0'' := o0'.bel b4
  have o1' := o1.bel b4
  go_wp2_with fail
  refine (P1 _ _ o1'.vals).mono ?_
  rintro e w5 ⟨rfl, b5⟩
  have o0''' := o0''.bel b5
  have o1'' := o1'.bel b5
  clear o0 o0' o0'' o1 o1' H0 H1 hv0 hv1
  have hnx := o1''.ne
  have hP2 := P2
  clear P2 P0 P1
  go_wp2_with (first
    | (at_builtin; refine appX rfl _ _ rfl w5.heap.size _ (.slice (some ⟨w5.heap.size, 0, none⟩) 0 0) x0 [] A rfl rfl (World.ownsRow_made w5 #[] 0 (Nat.le_refl _) (by decide) rfl) (o0'''.al _) (by simp; omega) (by simp) ?_; intro v2 w6 o2 g2; clear o0'''; have o1k : OwnV 36 w6 w2.heap.size x1 B := World.ownsRow.kept (o1''.al _) g2 hnx; have b6 : Bel w5 w6 := Below.grown (Below.alloc (Below.refl _ _) (Nat.le_refl _) _) g2 (by simp) (fun j hj => by simp [Value.ownBlock] at hj; omega); clear g2 o1'' hnx)
    | (at_builtin; refine appX rfl _ _ rfl w5.heap.size _ v2 x1 A B rfl rfl (by simpa using o2) o1k (by omega) b6.size ?_; intro v3 w7 o3 g3; have b7 : Bel w5 w7 := Below.grown b6 g3 b6.size (fun j hj => (World.ownsRow.lt o2 j hj).1); clear g3 o2 o1k))
  refine (hP2 _ _ o3.vals).mono ?_
  rintro e w8 ⟨rfl, b8⟩
  clear o3 hP2
  have bb : Bel w w8 := (((((b1.tr b2).tr b3).tr b4).tr b5).tr b7).tr b8
  by_cases hA : M.errOf A = 0
  · by_cases hB : M.errOf B = 0
    · have e1 : M.errOf (A ++ B) = 0 := by rw [M.errOf_append A B hA, hB]
      have e2 : M.bs (M.put A).1 ++ M.bs (M.put B).1 = M.bs (M.put (A ++ B)).1 := by
        rw [put_key A hA, put_key B hB, put_key _ e1, M.bs_append, keyOf_append]
      have e3 : (M.bs (M.put A).1).size ≤ 1000 := by rw [M.bs_size, put_key A hA]; have := M.keyOf_length A hA; omega
      have e4 : (M.bs (M.put B).1).size ≤ 1000 := by rw [M.bs_size, put_key B hB]; have := M.keyOf_length B hB; omega
      rw [e1, hA, hB]
      clear e1 hA hB
      generalize M.bs (M.put A).1 = SA at *
      generalize M.bs (M.put B).1 = SB at *
      generalize M.bs (M.put (A ++ B)).1 = SC at *
      go_wp2_with fail
      go_ret
      exact ⟨rfl, bb⟩
    · have e1 : M.errOf (A ++ B) = M.errOf B := M.errOf_append A B hA
      have e2 : M.bs (M.put (A ++ B)).1 = ⟨#[]⟩ := by rw [put_nokey _ (by rw [e1]; exact hB)]; rfl
      have e3 := errOf_le B
      rw [e1, hA, e2]
      clear e1 hA e2
      generalize M.errOf B = F at *
      have q : ((F : Int) != 0) = true := by rw [bne_iff_ne]; omega
      go_wp2_with fail
      go_ret
      exact ⟨rfl, bb⟩
  · have e1 : M.errOf (A ++ B) = M.errOf A := errOf_front A B hA
    have e2 : M.bs (M.put (A ++ B)).1 = ⟨#[]⟩ := by rw [put_nokey _ (by rw [e1]; exact hA)]; rfl
    have e3 := errOf_le A
    rw [e1, e2]
    clear e1 e2
    generalize M.errOf A = F at *
    have q : ((F : Int) != 0) = true := by rw [bne_iff_ne]; omega
    go_wp2_with fail
    go_ret
    exact ⟨rfl, bb⟩
end Go.Proofs.Ytfiopegkopfceaa
