/-
  The law's 'made': two entries' appends and two stores in one statement.
-/
import Derived.Test.YtaepbmcmggnmpaaDoorTA
namespace Go.Proofs.YtaepbmcmggnmpaaDoor
open Go.RowKit
set_option maxRecDepth 100000
def S_reg9 (bA bB bC : Nat) (k1 k2 : List UInt8) (em : Bool) (px py : Option Addr) (nX nY cX cY : Nat) (W : World) : Prop := W.cell? ⟨bA, 5, none⟩ = some (.slice px nX cX) ∧ W.cell? ⟨bB, 5, none⟩ = some (.slice py nY cY) ∧ W.cell? ⟨bC, 0, none⟩ = some (.string (M.bs k1)) ∧ W.cell? ⟨bC, 1, none⟩ = some (.string (M.bs k2)) ∧ W.cell? ⟨bC, 2, none⟩ = some (.bool em)
set_option maxHeartbeats 4000000 in
theorem reg9 (v0 v1 v2 v3 v4 v7 v9 v10 v11 v12 v13 v14 v15 v16 v17 v18 v19 v20 v21 v22 v23 v24 v25 v26 v27 v28 v29 v30 v31 v32 v33 v34 v35 v36 v37 v38 v39 v40 v41 v42 v43 v44 v45 v46 v47 v48 v49 v50 v51 v52 v53 v54 v55 v56 v57 v58 v59 v60 v61 v62 v63 v64 v65 v66 v67 v68 v69 v70 v71 v72 v73 v74 v75 v76 v77 v78 v79 v80 v81 v82 v83 v84 v85 v86 v87 v88 v89 : Value) (bA bB bC : Nat) (k1 k2 : List UInt8) (em : Bool) (px py : Option Addr) (nX nY cX cY : Nat) (xs ys : List Value) (csA csB : Array Value) (base : Nat) (W2 : World) (hl1 : nX ≤ 100000) (hl2 : nY ≤ 100000) (hAB : bA ≠ bB) (hbA : base ≤ bA) (hbB : base ≤ bB)
    (ox : W2.ownsRow base 71 3 (.slice px nX cX) nX xs) (oy : W2.ownsRow base 88 3 (.slice py nY cY) nY ys) (gA : W2.heap[bA]? = some (.cells csA 29 (0, 0))) (gB : W2.heap[bB]? = some (.cells csB 32 (0, 0))) (cA : csA[5]? = some (.slice px nX cX)) (cB : csB[5]? = some (.slice py nY cY))
    (gC : W2.heap[bC]? = some (.cells #[.string (M.bs k1), .string (M.bs k2), .bool em] 88 (0, 0))) (nCX : some bC ≠ (Value.slice px nX cX).ownBlock) (nCY : some bC ≠ (Value.slice py nY cY).ownBlock)
    (K' : Act → World → Prop) (Q' : Exit → Act → World → Prop)
    (hK : ∀ (x76 x77 x78 x79 x80 x81 x82 x83 x84 x85 x86 x87 : Value) (wx : World), (∃ (ao5 ao6 : Option Addr) (cp5 cp6 : Nat), wx.ownsRow base 71 3 (.slice ao5 (nX + 1) cp5) (nX + 1) (xs ++ [.string (M.bs k1), .string (M.bs k2), .bool em]) ∧ wx.ownsRow base 88 3 (.slice ao6 (nY + 1) cp6) (nY + 1) (ys ++ [.string (M.bs k1), .string (M.bs k2), .bool em]) ∧ wx.heap[bA]? = some (.cells (csA.setIfInBounds 5 (.slice ao5 (nX + 1) cp5)) 29 (0, 0)) ∧ wx.heap[bB]? = some (.cells (csB.setIfInBounds 5 (.slice ao6 (nY + 1) cp6)) 32 (0, 0)) ∧ Stored base (.slice px nX cX) (.slice py nY cY) bA bB W2 wx) →
      K' ⟨#[v0, v1, v2, v3, v4, (.pointer (some ⟨bA, 0, none⟩)), (.pointer (some ⟨bB, 0, none⟩)), v7, (.pointer (some ⟨bC, 0, none⟩)), v9, v10, v11, v12, v13, v14, v15, v16, v17, v18, v19, v20, v21, v22, v23, v24, v25, v26, v27, v28, v29, v30, v31, v32, v33, v34, v35, v36, v37, v38, v39, v40, v41, v42, v43, v44, v45, v46, v47, v48, v49, v50, v51, v52, v53, v54, v55, v56, v57, v58, v59, v60, v61, v62, v63, v64, v65, v66, v67, v68, v69, v70, v71, v72, v73, v74, v75, x76, x77, x78, x79, x80, x81, x82, x83, x84, x85, x86, x87, v88, v89], []⟩ wx) :
    Code.wp Tryd.prog (Code.region 9
      #[{ dst := some 76, op := Op.fieldAddr 29 (Operand.tmp 5) 5, type := 0, pos := "law.go:30", after := #[],
          guard := none },
        { dst := some 77, op := Op.load 27 (Operand.tmp 76), type := 27, pos := "law.go:30",
          after := #[{ on := 0, ground := Ground.data }], guard := none },
        { dst := some 78, op := Op.load 88 (Operand.tmp 8), type := 88, pos := "law.go:30", after := #[],
          guard := none },
        { dst := some 79, op := Op.buildSlice 27 1 #[(0, Operand.tmp 78)], type := 27, pos := "law.go:30",
          after := #[{ on := 2, ground := Ground.data }], guard := none },
        { dst := some 80,
          op :=
            Op.call
              { callee := Callee.builtin Builtin.append, args := #[Operand.tmp 77, Operand.tmp 79],
                argTypes := #[27, 27] },
          type := 27, pos := "law.go:30",
          after := #[{ on := 1, ground := Ground.data }, { on := 3, ground := Ground.data }], guard := none },
        { dst := some 81, op := Op.fieldAddr 32 (Operand.tmp 6) 5, type := 0, pos := "law.go:30", after := #[],
          guard := none },
        { dst := some 82, op := Op.load 30 (Operand.tmp 81), type := 30, pos := "law.go:30",
          after := #[{ on := 5, ground := Ground.data }], guard := none },
        { dst := some 83, op := Op.load 88 (Operand.tmp 8), type := 88, pos := "law.go:30", after := #[],
          guard := none },
        { dst := some 84, op := Op.buildSlice 30 1 #[(0, Operand.tmp 83)], type := 30, pos := "law.go:30",
          after := #[{ on := 7, ground := Ground.data }], guard := none },
        { dst := some 85,
          op :=
            Op.call
              { callee := Callee.builtin Builtin.append, args := #[Operand.tmp 82, Operand.tmp 84],
                argTypes := #[30, 30] },
          type := 30, pos := "law.go:30",
          after :=
            #[{ on := 6, ground := Ground.data }, { on := 8, ground := Ground.data },
              { on := 4, ground := Ground.chain }],
          guard := none },
        { dst := some 86, op := Op.fieldAddr 29 (Operand.tmp 5) 5, type := 0, pos := "law.go:30",
          after :=
            #[{ on := 0, ground := Ground.phase }, { on := 1, ground := Ground.phase },
              { on := 2, ground := Ground.phase }, { on := 3, ground := Ground.phase },
              { on := 4, ground := Ground.phase }, { on := 5, ground := Ground.textOnly Departure.lateStores },
              { on := 6, ground := Ground.textOnly Departure.lateStores },
              { on := 7, ground := Ground.textOnly Departure.lateStores },
              { on := 8, ground := Ground.textOnly Departure.lateStores },
              { on := 9, ground := Ground.textOnly Departure.lateStoresUnsure }],
          guard := none },
        { dst := none, op := Op.store 27 (Operand.tmp 86) (Operand.tmp 80), type := 0, pos := "law.go:30",
          after :=
            #[{ on := 10, ground := Ground.data }, { on := 4, ground := Ground.data },
              { on := 9, ground := Ground.chain }, { on := 0, ground := Ground.phase },
              { on := 1, ground := Ground.phase }, { on := 2, ground := Ground.phase },
              { on := 3, ground := Ground.phase }, { on := 4, ground := Ground.phase },
              { on := 5, ground := Ground.textOnly Departure.lateStores },
              { on := 6, ground := Ground.textOnly Departure.lateStores },
              { on := 7, ground := Ground.textOnly Departure.lateStores },
              { on := 8, ground := Ground.textOnly Departure.lateStores },
              { on := 9, ground := Ground.textOnly Departure.lateStoresUnsure }],
          guard := none },
        { dst := some 87, op := Op.fieldAddr 32 (Operand.tmp 6) 5, type := 0, pos := "law.go:30",
          after :=
            #[{ on := 0, ground := Ground.phase }, { on := 1, ground := Ground.phase },
              { on := 2, ground := Ground.phase }, { on := 3, ground := Ground.phase },
              { on := 4, ground := Ground.phase }, { on := 5, ground := Ground.phase },
              { on := 6, ground := Ground.phase }, { on := 7, ground := Ground.phase },
              { on := 8, ground := Ground.phase }, { on := 9, ground := Ground.phase },
              { on := 10, ground := Ground.phase }, { on := 11, ground := Ground.phase }],
          guard := none },
        { dst := none, op := Op.store 30 (Operand.tmp 87) (Operand.tmp 85), type := 0, pos := "law.go:30",
          after :=
            #[{ on := 12, ground := Ground.data }, { on := 9, ground := Ground.data },
              { on := 11, ground := Ground.chain }, { on := 0, ground := Ground.phase },
              { on := 1, ground := Ground.phase }, { on := 2, ground := Ground.phase },
              { on := 3, ground := Ground.phase }, { on := 4, ground := Ground.phase },
              { on := 5, ground := Ground.phase }, { on := 6, ground := Ground.phase },
              { on := 7, ground := Ground.phase }, { on := 8, ground := Ground.phase },
              { on := 9, ground := Ground.phase }, { on := 10, ground := Ground.phase },
              { on := 11, ground := Ground.phase }],
          guard := none }]
      true) (Exit.then K' Q') ⟨#[v0, v1, v2, v3, v4, (.pointer (some ⟨bA, 0, none⟩)), (.pointer (some ⟨bB, 0, none⟩)), v7, (.pointer (some ⟨bC, 0, none⟩)), v9, v10, v11, v12, v13, v14, v15, v16, v17, v18, v19, v20, v21, v22, v23, v24, v25, v26, v27, v28, v29, v30, v31, v32, v33, v34, v35, v36, v37, v38, v39, v40, v41, v42, v43, v44, v45, v46, v47, v48, v49, v50, v51, v52, v53, v54, v55, v56, v57, v58, v59, v60, v61, v62, v63, v64, v65, v66, v67, v68, v69, v70, v71, v72, v73, v74, v75, v76, v77, v78, v79, v80, v81, v82, v83, v84, v85, v86, v87, v88, v89], []⟩ W2 := by
  refine wp_mono (Q := fun e a w => e = .normal ∧ K' a w) ?_ (by rintro e a w ⟨rfl, h⟩; exact h)
  have lA := (Array.getElem?_eq_some_iff.1 gA).1
  have lB := (Array.getElem?_eq_some_iff.1 gB).1
  have lC := (Array.getElem?_eq_some_iff.1 gC).1
  have hbz : base ≤ W2.heap.size := by omega
  have hrX : ∀ k, (Value.slice px nX cX).ownBlock = some k → base ≤ k := fun k hk => (World.ownsRow.lt ox k hk).1
  have hrY : ∀ k, (Value.slice py nY cY).ownBlock = some k → base ≤ k := fun k hk => (World.ownsRow.lt oy k hk).1
  have nAX := row_ne ox gA (by decide)
  have nAY := row_ne oy gA (by decide)
  have nBX := row_ne ox gB (by decide)
  have nBY := row_ne oy gB (by decide)
  have hSS : ∀ W, Stays base (.slice px nX cX) (.slice py nY cY) W2 W → (S_reg9 bA bB bC k1 k2 em px py nX nY cX cY) W := fun W h => by
    have a1 := (h.block bA lA nAX nAY).trans gA
    have a2 := (h.block bB lB nBX nBY).trans gB
    have a3 := (h.block bC lC nCX nCY).trans gC
    exact ⟨cell_of a1 cA, cell_of a2 cB, cell_of a3 rfl, cell_of a3 rfl, cell_of a3 rfl⟩
  have hS : (S_reg9 bA bB bC k1 k2 em px py nX nY cX cY) W2.drew := hSS _ (Stays.refl _ _ _ _).dr
  have s3 : ∀ o, Stays base (.slice px nX cX) (.slice py nY cY) W2 (W2.drew.alloc o) := fun o => ((Stays.refl _ _ _ _).dr).al hbz o
  have s38 : ∀ o o', Stays base (.slice px nX cX) (.slice py nY cY) W2 ((W2.drew.alloc o).alloc o') := fun o o' => (s3 o).al hbz o'
  have far : ∀ i, W2.heap.size ≤ i → some i ≠ (Value.slice px nX cX).ownBlock := fun i hi e => by have := (World.ownsRow.lt ox i e.symm).2; omega
  refine region_until (S := (S_reg9 bA bB bC k1 k2 em px py nX nY cX cY)) (m := 11) (by kernel_rfl) ?_
  refine take_first (i := 0) rfl (by kernel_rfl) (by kernel_rfl) (by kernel_rfl) (fun _ _ _ h => absurd h.1 (by simp)) (.one ⟨_, rfl, ⟨0, .phase⟩, by simp, rfl, rfl⟩) Kept.begin (v := .pointer (some ⟨bA, 5, none⟩)) (Or.inl ⟨by rfl, fun w hSw => by obtain ⟨h0, h1, h2, h3, h4⟩ := hSw; go_simp⟩) hS ?_
  simp only [Act.put, List.setIfInBounds_toArray]
  refine take_first (i := 2) rfl (by kernel_rfl) (by kernel_rfl) (by kernel_rfl) (fun _ _ _ h => absurd h.1 (by simp)) (.one ⟨_, rfl, ⟨2, .phase⟩, by simp, rfl, rfl⟩) (Kept.begin.next (j := 0) (by kernel_rfl)) (v := .agg #[.string (M.bs k1), .string (M.bs k2), .bool em]) (Or.inl ⟨by rfl, fun w hSw => by obtain ⟨h0, h1, h2, h3, h4⟩ := hSw; go_simp⟩) hS ?_
  simp only [Act.put]
  refine take_first (i := 5) rfl (by kernel_rfl) (by kernel_rfl) (by kernel_rfl) (fun _ _ _ h => absurd h.1 (by simp)) (.more (.more (.one (p := 6) ⟨_, rfl, ⟨5, .data⟩, by simp, rfl, rfl⟩) (q := 9) ⟨_, rfl, ⟨6, .data⟩, by simp, rfl, rfl⟩) ⟨_, rfl, ⟨9, .chain⟩, by simp, rfl, rfl⟩) ((Kept.begin.next (j := 0) (by kernel_rfl)).next (j := 2) (by kernel_rfl)) (v := .pointer (some ⟨bB, 5, none⟩)) (Or.inl ⟨by rfl, fun w hSw => by obtain ⟨h0, h1, h2, h3, h4⟩ := hSw; go_simp⟩) hS ?_
  simp only [Act.put]
  refine take_first (i := 7) rfl (by kernel_rfl) (by kernel_rfl) (by kernel_rfl) (fun _ _ _ h => absurd h.1 (by simp)) (.more (.more (.one (p := 8) ⟨_, rfl, ⟨7, .data⟩, by simp, rfl, rfl⟩) (q := 9) ⟨_, rfl, ⟨8, .data⟩, by simp, rfl, rfl⟩) ⟨_, rfl, ⟨9, .chain⟩, by simp, rfl, rfl⟩) (((Kept.begin.next (j := 0) (by kernel_rfl)).next (j := 2) (by kernel_rfl)).next (j := 5) (by kernel_rfl)) (v := .agg #[.string (M.bs k1), .string (M.bs k2), .bool em]) (Or.inl ⟨by rfl, fun w hSw => by obtain ⟨h0, h1, h2, h3, h4⟩ := hSw; go_simp⟩) hS ?_
  simp only [Act.put]
  refine take_first (i := 1) rfl (by kernel_rfl) (by kernel_rfl) (by kernel_rfl) (fun _ _ _ h => absurd h.1 (by simp)) (.one ⟨_, rfl, ⟨1, .phase⟩, by simp, rfl, rfl⟩) ((((Kept.begin.next (j := 0) (by kernel_rfl)).next (j := 2) (by kernel_rfl)).next (j := 5) (by kernel_rfl)).next (j := 7) (by kernel_rfl)) (v := (.slice px nX cX)) (Or.inl ⟨by rfl, fun w hSw => by obtain ⟨h0, h1, h2, h3, h4⟩ := hSw; go_simp⟩) hS ?_
  simp only [Act.put]
  refine take_first (i := 6) rfl (by kernel_rfl) (by kernel_rfl) (by kernel_rfl) (fun _ _ _ h => absurd h.1 (by simp)) (.more (.one (p := 9) ⟨_, rfl, ⟨6, .data⟩, by simp, rfl, rfl⟩) ⟨_, rfl, ⟨9, .chain⟩, by simp, rfl, rfl⟩) (((((Kept.begin.next (j := 0) (by kernel_rfl)).next (j := 2) (by kernel_rfl)).next (j := 5) (by kernel_rfl)).next (j := 7) (by kernel_rfl)).next (j := 1) (by kernel_rfl)) (v := (.slice py nY cY)) (Or.inl ⟨by rfl, fun w hSw => by obtain ⟨h0, h1, h2, h3, h4⟩ := hSw; go_simp⟩) hS ?_
  simp only [Act.put]
  refine until_ready (rs := [3, 8]) (by kernel_rfl) (by simp) ?_
  intro jj hjj
  simp only [List.mem_cons, List.not_mem_nil, or_false] at hjj
  rcases hjj with rfl | rfl
  · refine wpOp_step rfl (fun KX hKX => ?_)
    have HX := hid hKX
    clear hKX
    go_simp
    refine HX.out _ _ ⟨fun _ => hSS _ (s3 _), ?_⟩
    clear HX
    refine until_ready (rs := [4, 8]) (by kernel_rfl) (by simp) ?_
    intro jj hjj
    simp only [List.mem_cons, List.not_mem_nil, or_false] at hjj
    rcases hjj with rfl | rfl
    · refine wpOp_step rfl (fun KX hKX => ?_)
      have HX := hid hKX
      clear hKX
      refine app_step (by rfl) _ _ 27 (by rfl) base 71 _ 3 40 Tryd.underlying27 info71 rfl (by decide) (.slice px nX cX) nX xs (by rfl) (by exact ox.alloc _) _ _ _ (by rfl) (by exact heap_alloc_new W2 _) rfl (by intro u hu; simp at hu; rcases hu with rfl | rfl | rfl <;> rfl) hl1 (by decide) (by first | (simp; done) | (simp; omega)) ?_
      intro v1 w5 o5 r5
      have st5 := (s3 _).app1 hbz r5 hrX
      have oy5 : w5.ownsRow base 88 3 (.slice py nY cY) nY ys := row_keep r5 (by exact oy.alloc _) (by exact ox.alloc _) (by decide)
      obtain ⟨ao5, cp5, rfl⟩ := row_form o5
      have hS5 := hSS _ st5
      have z5 := st5.below.size
      refine HX.out _ _ ⟨fun _ => hS5, ?_⟩
      clear HX
      simp only [Act.put]
      refine take_first (i := 10) rfl (by kernel_rfl) (by kernel_rfl) (by kernel_rfl) (fun _ _ _ h => absurd h.1 (by simp)) (.one ⟨_, rfl, ⟨10, .data⟩, by simp, rfl, rfl⟩) ((((((((Kept.begin.next (j := 0) (by kernel_rfl)).next (j := 2) (by kernel_rfl)).next (j := 5) (by kernel_rfl)).next (j := 7) (by kernel_rfl)).next (j := 1) (by kernel_rfl)).next (j := 6) (by kernel_rfl)).next (j := 3) (by kernel_rfl)).next (j := 4) (by kernel_rfl)) (v := .pointer (some ⟨bA, 5, none⟩)) (Or.inl ⟨by rfl, fun w hSw => by obtain ⟨h0, h1, h2, h3, h4⟩ := hSw; go_simp⟩) hS5 ?_
      simp only [Act.put, List.setIfInBounds_toArray]
      refine until_ready (rs := [8]) (by kernel_rfl) (by simp) ?_
      intro jj hjj
      simp only [List.mem_cons, List.not_mem_nil, or_false] at hjj
      subst hjj
      refine wpOp_step rfl (fun KX hKX => ?_)
      have HX := hid hKX
      clear hKX
      go_simp
      refine HX.out _ _ ⟨fun _ => hSS _ (st5.al hbz _), ?_⟩
      clear HX
      refine until_ready (rs := [9]) (by kernel_rfl) (by simp) ?_
      intro jj hjj
      simp only [List.mem_cons, List.not_mem_nil, or_false] at hjj
      subst hjj
      refine wpOp_step rfl (fun KX hKX => ?_)
      have HX := hid hKX
      clear hKX
      refine app_step (by rfl) _ _ 30 (by rfl) base 88 _ 3 40 Tryd.underlying30 info88 rfl (by decide) (.slice py nY cY) nY ys (by rfl) (by exact oy5.alloc _) _ _ _ (by rfl) (by exact heap_alloc_new w5 _) rfl (by intro u hu; simp at hu; rcases hu with rfl | rfl | rfl <;> rfl) hl2 (by decide) (by first | omega | (simp; done) | (simp; omega)) ?_
      intro v2 w6 o6 r6
      have st6 := (st5.al hbz _).app2 hbz r6 hrY
      have ox6 : w6.ownsRow base 71 3 (.slice ao5 (nX + 1) cp5) (nX + 1) (xs ++ [.string (M.bs k1), .string (M.bs k2), .bool em]) := row_keep r6 (by exact o5.alloc _) (by exact oy5.alloc _) (by decide)
      obtain ⟨ao6, cp6, rfl⟩ := row_form o6
      refine HX.out _ _ ⟨fun _ => hSS _ st6, ?_⟩
      clear HX
      simp only [Act.put]
      have a6 := (st6.block bA lA nAX nAY).trans gA
      have b6 := (st6.block bB lB nBX nBY).trans gB
      have y1 := cell_of a6 cA
      have y2 := cell_of b6 cB
      have f1 := Lib.frozen_of_heap a6 5
      have f2 := Lib.frozen_of_heap b6 5
      have FIN := hid (And.intro (row_stored (i := 5) (j := 5) (u1 := .slice ao5 (nX + 1) cp5) (u2 := .slice ao6 (nY + 1) cp6) ox6 (row_ne ox6 a6 (by decide)) (row_ne ox6 b6 (by decide))) (And.intro (row_stored (i := 5) (j := 5) (u1 := .slice ao5 (nX + 1) cp5) (u2 := .slice ao6 (nY + 1) cp6) o6 (row_ne o6 a6 (by decide)) (row_ne o6 b6 (by decide))) (And.intro (block_first (i := 5) (j := 5) (u1 := .slice ao5 (nX + 1) cp5) (u2 := .slice ao6 (nY + 1) cp6) a6 hAB) (And.intro (block_second (i := 5) (j := 5) (u1 := .slice ao5 (nX + 1) cp5) (u2 := .slice ao6 (nY + 1) cp6) b6 hAB) (st6.stored hbA hbB 5 5 (.slice ao5 (nX + 1) cp5) (.slice ao6 (nY + 1) cp6))))))
      clear ox6 o6 o5 oy5 a6 b6 st6 st5 r5 r6 ox oy gA gB gC hSS hS s3 s38 far hS5 nAX nAY nBX nBY nCX nCY hrX hrY
      have hBA : ¬ bB = bA := fun e => hAB e.symm
      have hAB' : ¬ bA = bB := hAB
      refine until_ready (rs := [11]) (by kernel_rfl) (by simp) ?_
      intro jj hjj
      simp only [List.mem_cons, List.not_mem_nil, or_false] at hjj
      subst hjj
      refine wpOp_step rfl (fun KX hKX => ?_)
      have HX := hid hKX
      clear hKX
      go_simp
      refine HX.out _ _ ⟨(fun h => by cases (Eq.trans (Eq.symm (show _ = true by kernel_rfl)) h)), ?_⟩
      clear HX
      refine until_ready (rs := [12]) (by kernel_rfl) (by simp) ?_
      intro jj hjj
      simp only [List.mem_cons, List.not_mem_nil, or_false] at hjj
      subst hjj
      refine wpOp_step rfl (fun KX hKX => ?_)
      have HX := hid hKX
      clear hKX
      go_simp
      refine HX.out _ _ ⟨(fun h => by cases (Eq.trans (Eq.symm (show _ = true by kernel_rfl)) h)), ?_⟩
      clear HX
      refine until_ready (rs := [13]) (by kernel_rfl) (by simp) ?_
      intro jj hjj
      simp only [List.mem_cons, List.not_mem_nil, or_false] at hjj
      subst hjj
      refine wpOp_step rfl (fun KX hKX => ?_)
      have HX := hid hKX
      clear hKX
      go_simp
      refine HX.out _ _ ⟨(fun h => by cases (Eq.trans (Eq.symm (show _ = true by kernel_rfl)) h)), ?_⟩
      clear HX
      refine until_done (by kernel_rfl) ⟨rfl, ?_⟩ _
      exact hK _ _ _ _ _ _ _ _ _ _ _ _ _ ⟨_, _, _, _, FIN.out⟩
    · refine wpOp_step rfl (fun KX hKX => ?_)
      have HX := hid hKX
      clear hKX
      go_simp
      refine HX.out _ _ ⟨fun _ => hSS _ (s38 _ _), ?_⟩
      clear HX
      refine until_ready (rs := [4]) (by kernel_rfl) (by simp) ?_
      intro jj hjj
      simp only [List.mem_cons, List.not_mem_nil, or_false] at hjj
      subst hjj
      refine wpOp_step rfl (fun KX hKX => ?_)
      have HX := hid hKX
      clear hKX
      refine app_step (by rfl) _ _ 27 (by rfl) base 71 _ 3 40 Tryd.underlying27 info71 rfl (by decide) (.slice px nX cX) nX xs (by rfl) (by exact (ox.alloc _).alloc _) _ _ _ (by rfl) (by exact (heap_two W2 _ _).1) rfl (by intro u hu; simp at hu; rcases hu with rfl | rfl | rfl <;> rfl) hl1 (by decide) (by first | (simp; done) | (simp; omega)) ?_
      intro v1 w5 o5 r5
      have st5 := (s38 _ _).app1 hbz r5 hrX
      have oy5 : w5.ownsRow base 88 3 (.slice py nY cY) nY ys := row_keep r5 (by exact (oy.alloc _).alloc _) (by exact (ox.alloc _).alloc _) (by decide)
      obtain ⟨ao5, cp5, rfl⟩ := row_form o5
      have hS5 := hSS _ st5
      have z5 := st5.below.size
      refine HX.out _ _ ⟨fun _ => hS5, ?_⟩
      clear HX
      simp only [Act.put]
      refine take_first (i := 10) rfl (by kernel_rfl) (by kernel_rfl) (by kernel_rfl) (fun _ _ _ h => absurd h.1 (by simp)) (.one ⟨_, rfl, ⟨10, .data⟩, by simp, rfl, rfl⟩) (((((((((Kept.begin.next (j := 0) (by kernel_rfl)).next (j := 2) (by kernel_rfl)).next (j := 5) (by kernel_rfl)).next (j := 7) (by kernel_rfl)).next (j := 1) (by kernel_rfl)).next (j := 6) (by kernel_rfl)).next (j := 3) (by kernel_rfl)).next (j := 8) (by kernel_rfl)).next (j := 4) (by kernel_rfl)) (v := .pointer (some ⟨bA, 5, none⟩)) (Or.inl ⟨by rfl, fun w hSw => by obtain ⟨h0, h1, h2, h3, h4⟩ := hSw; go_simp⟩) hS5 ?_
      simp only [Act.put]
      refine until_ready (rs := [9]) (by kernel_rfl) (by simp) ?_
      intro jj hjj
      simp only [List.mem_cons, List.not_mem_nil, or_false] at hjj
      subst hjj
      refine wpOp_step rfl (fun KX hKX => ?_)
      have HX := hid hKX
      clear hKX
      refine app_step (by rfl) _ _ 30 (by rfl) base 88 _ 3 40 Tryd.underlying30 info88 rfl (by decide) (.slice py nY cY) nY ys (by rfl) (by exact oy5) _ _ _ (by rfl) (by exact (r5.block _ (by first | (simp; done) | (simp; omega)) (far _ (by omega))).trans (heap_two W2 _ _).2) rfl (by intro u hu; simp at hu; rcases hu with rfl | rfl | rfl <;> rfl) hl2 (by decide) (by first | omega | (simp; done) | (simp; omega)) ?_
      intro v2 w6 o6 r6
      have st6 := (st5).app2 hbz r6 hrY
      have ox6 : w6.ownsRow base 71 3 (.slice ao5 (nX + 1) cp5) (nX + 1) (xs ++ [.string (M.bs k1), .string (M.bs k2), .bool em]) := row_keep r6 (by exact o5) (by exact oy5) (by decide)
      obtain ⟨ao6, cp6, rfl⟩ := row_form o6
      refine HX.out _ _ ⟨fun _ => hSS _ st6, ?_⟩
      clear HX
      simp only [Act.put]
      have a6 := (st6.block bA lA nAX nAY).trans gA
      have b6 := (st6.block bB lB nBX nBY).trans gB
      have y1 := cell_of a6 cA
      have y2 := cell_of b6 cB
      have f1 := Lib.frozen_of_heap a6 5
      have f2 := Lib.frozen_of_heap b6 5
      have FIN := hid (And.intro (row_stored (i := 5) (j := 5) (u1 := .slice ao5 (nX + 1) cp5) (u2 := .slice ao6 (nY + 1) cp6) ox6 (row_ne ox6 a6 (by decide)) (row_ne ox6 b6 (by decide))) (And.intro (row_stored (i := 5) (j := 5) (u1 := .slice ao5 (nX + 1) cp5) (u2 := .slice ao6 (nY + 1) cp6) o6 (row_ne o6 a6 (by decide)) (row_ne o6 b6 (by decide))) (And.intro (block_first (i := 5) (j := 5) (u1 := .slice ao5 (nX + 1) cp5) (u2 := .slice ao6 (nY + 1) cp6) a6 hAB) (And.intro (block_second (i := 5) (j := 5) (u1 := .slice ao5 (nX + 1) cp5) (u2 := .slice ao6 (nY + 1) cp6) b6 hAB) (st6.stored hbA hbB 5 5 (.slice ao5 (nX + 1) cp5) (.slice ao6 (nY + 1) cp6))))))
      clear ox6 o6 o5 oy5 a6 b6 st6 st5 r5 r6 ox oy gA gB gC hSS hS s3 s38 far hS5 nAX nAY nBX nBY nCX nCY hrX hrY
      have hBA : ¬ bB = bA := fun e => hAB e.symm
      have hAB' : ¬ bA = bB := hAB
      refine until_ready (rs := [11]) (by kernel_rfl) (by simp) ?_
      intro jj hjj
      simp only [List.mem_cons, List.not_mem_nil, or_false] at hjj
      subst hjj
      refine wpOp_step rfl (fun KX hKX => ?_)
      have HX := hid hKX
      clear hKX
      go_simp
      refine HX.out _ _ ⟨(fun h => by cases (Eq.trans (Eq.symm (show _ = true by kernel_rfl)) h)), ?_⟩
      clear HX
      refine until_ready (rs := [12]) (by kernel_rfl) (by simp) ?_
      intro jj hjj
      simp only [List.mem_cons, List.not_mem_nil, or_false] at hjj
      subst hjj
      refine wpOp_step rfl (fun KX hKX => ?_)
      have HX := hid hKX
      clear hKX
      go_simp
      refine HX.out _ _ ⟨(fun h => by cases (Eq.trans (Eq.symm (show _ = true by kernel_rfl)) h)), ?_⟩
      clear HX
      refine until_ready (rs := [13]) (by kernel_rfl) (by simp) ?_
      intro jj hjj
      simp only [List.mem_cons, List.not_mem_nil, or_false] at hjj
      subst hjj
      refine wpOp_step rfl (fun KX hKX => ?_)
      have HX := hid hKX
      clear hKX
      go_simp
      refine HX.out _ _ ⟨(fun h => by cases (Eq.trans (Eq.symm (show _ = true by kernel_rfl)) h)), ?_⟩
      clear HX
      refine until_done (by kernel_rfl) ⟨rfl, ?_⟩ _
      exact hK _ _ _ _ _ _ _ _ _ _ _ _ _ ⟨_, _, _, _, FIN.out⟩
  · refine wpOp_step rfl (fun KX hKX => ?_)
    have HX := hid hKX
    clear hKX
    go_simp
    refine HX.out _ _ ⟨fun _ => hSS _ (s3 _), ?_⟩
    clear HX
    refine until_ready (rs := [3]) (by kernel_rfl) (by simp) ?_
    intro jj hjj
    simp only [List.mem_cons, List.not_mem_nil, or_false] at hjj
    subst hjj
    refine wpOp_step rfl (fun KX hKX => ?_)
    have HX := hid hKX
    clear hKX
    go_simp
    refine HX.out _ _ ⟨fun _ => hSS _ (s38 _ _), ?_⟩
    clear HX
    refine until_ready (rs := [4]) (by kernel_rfl) (by simp) ?_
    intro jj hjj
    simp only [List.mem_cons, List.not_mem_nil, or_false] at hjj
    subst hjj
    refine wpOp_step rfl (fun KX hKX => ?_)
    have HX := hid hKX
    clear hKX
    refine app_step (by rfl) _ _ 27 (by rfl) base 71 _ 3 40 Tryd.underlying27 info71 rfl (by decide) (.slice px nX cX) nX xs (by rfl) (by exact (ox.alloc _).alloc _) _ _ _ (by rfl) (by exact (heap_two W2 _ _).2) rfl (by intro u hu; simp at hu; rcases hu with rfl | rfl | rfl <;> rfl) hl1 (by decide) (by first | (simp; done) | (simp; omega)) ?_
    intro v1 w5 o5 r5
    have st5 := (s38 _ _).app1 hbz r5 hrX
    have oy5 : w5.ownsRow base 88 3 (.slice py nY cY) nY ys := row_keep r5 (by exact (oy.alloc _).alloc _) (by exact (ox.alloc _).alloc _) (by decide)
    obtain ⟨ao5, cp5, rfl⟩ := row_form o5
    have hS5 := hSS _ st5
    have z5 := st5.below.size
    refine HX.out _ _ ⟨fun _ => hS5, ?_⟩
    clear HX
    simp only [Act.put]
    refine take_first (i := 10) rfl (by kernel_rfl) (by kernel_rfl) (by kernel_rfl) (fun _ _ _ h => absurd h.1 (by simp)) (.one ⟨_, rfl, ⟨10, .data⟩, by simp, rfl, rfl⟩) (((((((((Kept.begin.next (j := 0) (by kernel_rfl)).next (j := 2) (by kernel_rfl)).next (j := 5) (by kernel_rfl)).next (j := 7) (by kernel_rfl)).next (j := 1) (by kernel_rfl)).next (j := 6) (by kernel_rfl)).next (j := 8) (by kernel_rfl)).next (j := 3) (by kernel_rfl)).next (j := 4) (by kernel_rfl)) (v := .pointer (some ⟨bA, 5, none⟩)) (Or.inl ⟨by rfl, fun w hSw => by obtain ⟨h0, h1, h2, h3, h4⟩ := hSw; go_simp⟩) hS5 ?_
    simp only [Act.put]
    refine until_ready (rs := [9]) (by kernel_rfl) (by simp) ?_
    intro jj hjj
    simp only [List.mem_cons, List.not_mem_nil, or_false] at hjj
    subst hjj
    refine wpOp_step rfl (fun KX hKX => ?_)
    have HX := hid hKX
    clear hKX
    refine app_step (by rfl) _ _ 30 (by rfl) base 88 _ 3 40 Tryd.underlying30 info88 rfl (by decide) (.slice py nY cY) nY ys (by rfl) (by exact oy5) _ _ _ (by rfl) (by exact (r5.block _ (by first | (simp; done) | (simp; omega)) (far _ (by omega))).trans (heap_two W2 _ _).1) rfl (by intro u hu; simp at hu; rcases hu with rfl | rfl | rfl <;> rfl) hl2 (by decide) (by first | omega | (simp; done) | (simp; omega)) ?_
    intro v2 w6 o6 r6
    have st6 := (st5).app2 hbz r6 hrY
    have ox6 : w6.ownsRow base 71 3 (.slice ao5 (nX + 1) cp5) (nX + 1) (xs ++ [.string (M.bs k1), .string (M.bs k2), .bool em]) := row_keep r6 (by exact o5) (by exact oy5) (by decide)
    obtain ⟨ao6, cp6, rfl⟩ := row_form o6
    refine HX.out _ _ ⟨fun _ => hSS _ st6, ?_⟩
    clear HX
    simp only [Act.put]
    have a6 := (st6.block bA lA nAX nAY).trans gA
    have b6 := (st6.block bB lB nBX nBY).trans gB
    have y1 := cell_of a6 cA
    have y2 := cell_of b6 cB
    have f1 := Lib.frozen_of_heap a6 5
    have f2 := Lib.frozen_of_heap b6 5
    have FIN := hid (And.intro (row_stored (i := 5) (j := 5) (u1 := .slice ao5 (nX + 1) cp5) (u2 := .slice ao6 (nY + 1) cp6) ox6 (row_ne ox6 a6 (by decide)) (row_ne ox6 b6 (by decide))) (And.intro (row_stored (i := 5) (j := 5) (u1 := .slice ao5 (nX + 1) cp5) (u2 := .slice ao6 (nY + 1) cp6) o6 (row_ne o6 a6 (by decide)) (row_ne o6 b6 (by decide))) (And.intro (block_first (i := 5) (j := 5) (u1 := .slice ao5 (nX + 1) cp5) (u2 := .slice ao6 (nY + 1) cp6) a6 hAB) (And.intro (block_second (i := 5) (j := 5) (u1 := .slice ao5 (nX + 1) cp5) (u2 := .slice ao6 (nY + 1) cp6) b6 hAB) (st6.stored hbA hbB 5 5 (.slice ao5 (nX + 1) cp5) (.slice ao6 (nY + 1) cp6))))))
    clear ox6 o6 o5 oy5 a6 b6 st6 st5 r5 r6 ox oy gA gB gC hSS hS s3 s38 far hS5 nAX nAY nBX nBY nCX nCY hrX hrY
    have hBA : ¬ bB = bA := fun e => hAB e.symm
    have hAB' : ¬ bA = bB := hAB
    refine until_ready (rs := [11]) (by kernel_rfl) (by simp) ?_
    intro jj hjj
    simp only [List.mem_cons, List.not_mem_nil, or_false] at hjj
    subst hjj
    refine wpOp_step rfl (fun KX hKX => ?_)
    have HX := hid hKX
    clear hKX
    go_simp
    refine HX.out _ _ ⟨(fun h => by cases (Eq.trans (Eq.symm (show _ = true by kernel_rfl)) h)), ?_⟩
    clear HX
    refine until_ready (rs := [12]) (by kernel_rfl) (by simp) ?_
    intro jj hjj
    simp only [List.mem_cons, List.not_mem_nil, or_false] at hjj
    subst hjj
    refine wpOp_step rfl (fun KX hKX => ?_)
    have HX := hid hKX
    clear hKX
    go_simp
    refine HX.out _ _ ⟨(fun h => by cases (Eq.trans (Eq.symm (show _ = true by kernel_rfl)) h)), ?_⟩
    clear HX
    refine until_ready (rs := [13]) (by kernel_rfl) (by simp) ?_
    intro jj hjj
    simp only [List.mem_cons, List.not_mem_nil, or_false] at hjj
    subst hjj
    refine wpOp_step rfl (fun KX hKX => ?_)
    have HX := hid hKX
    clear hKX
    go_simp
    refine HX.out _ _ ⟨(fun h => by cases (Eq.trans (Eq.symm (show _ = true by kernel_rfl)) h)), ?_⟩
    clear HX
    refine until_done (by kernel_rfl) ⟨rfl, ?_⟩ _
    exact hK _ _ _ _ _ _ _ _ _ _ _ _ _ ⟨_, _, _, _, FIN.out⟩

theorem Stored.bt {t eA eB : TypeId} {base A B nX nY kX kY b : Nat} {X Y : Value} {xs ys : List Value} {c0 c1 c2 c3 c4 c5 : Value} {W2 W : World} (h : Stored base X Y A B W2 W) (ox : W2.ownsRow base eA kX X nX xs) (oy : W2.ownsRow base eB kY Y nY ys) (g : Bt t W2 b c0 c1 c2 c3 c4 c5) (h1 : t ≠ eA) (h2 : t ≠ eB) (h3 : b ≠ A) (h4 : b ≠ B) : Bt t W b c0 c1 c2 c3 c4 c5 :=
  (h.block b g.lt (row_ne ox g h1) (row_ne oy g h2) h3 h4).trans g
end Go.Proofs.YtaepbmcmggnmpaaDoor
