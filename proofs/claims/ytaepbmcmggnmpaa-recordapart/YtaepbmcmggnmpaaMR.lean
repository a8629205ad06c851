/-
  The law's 'made': two appends and two stores in one statement.
-/
import Derived.Test.YtaepbmcmggnmpaaOT
import Derived.Deep.AppendLies
namespace Go.Proofs.Ytaepbmcmggnmpaa
open Go.RowKit
set_option maxRecDepth 100000
set_option maxHeartbeats 2000000 in
theorem reg13 (v0 v1 v2 v3 v4 v5 v6 v7 v10 v12 v13 v14 v15 v16 v17 v18 v19 v20 v21 v22 v23 v24 v25 v26 v27 v28 v29 v30 v31 v32 v33 v34 v35 v36 v37 v38 v39 v40 v41 v42 v43 v44 v45 v46 v47 v48 v49 v50 v51 v52 v53 v54 v55 v56 v57 v58 v59 v60 v61 v62 v63 v64 v65 v66 v67 v68 v69 v70 v71 v72 v73 v74 v75 v76 v77 v78 v79 v80 v81 v82 v83 v84 v85 v86 v87 v88 v89 v90 v91 v92 v93 v94 v95 v96 v97 v98 v99 v100 v101 v102 v103 v104 v105 v106 v107 v108 v109 v110 v111 v112 v113 v114 v115 v116 v117 v118 v119 v120 v121 v122 v123 v124 v125 v126 v127 v128 v129 : Value) (cb db pb : Nat) (qa : Int) (TT : List UInt8) (K : List M.Pc) (px py : Option Addr) (cxv cyv : Nat) (pn : Int) (W1 W2 : World) (hcl : K.length ≤ 100000) (hcd : cb ≠ db) (hcb : W1.heap.size ≤ cb) (hdb : W1.heap.size ≤ db) (_ncb : ¬ pb = cb) (_ndb : ¬ pb = db)
    (ox2 : OwnP 66 W2 W1.heap.size (.slice px K.length cxv) K) (oy2 : OwnP 67 W2 W1.heap.size (.slice py K.length cyv) K) (bc2 : B2 W2 cb 60 (.int .i64 pn) (.slice px K.length cxv)) (bd2 : B2 W2 db 63 (.int .i64 pn) (.slice py K.length cyv)) (e0 : B2 W2 pb 65 (.int .i64 qa) (.string (M.bs TT))) (bb2 : Bel W1 W2)
    (K' : Act → World → Prop) (Q' : Exit → Act → World → Prop)
    (hK : ∀ (x104 x105 x106 x107 x108 x109 x110 x111 x112 x113 x114 x115 : Value) (wx : World), (∃ (ao5 ao6 : Option Addr) (cp5 cp6 : Nat), OwnP 66 wx W1.heap.size (.slice ao5 (K.length + 1) cp5) (K ++ [(qa, TT)]) ∧ OwnP 67 wx W1.heap.size (.slice ao6 (K.length + 1) cp6) (K ++ [(qa, TT)]) ∧ B2 wx cb 60 (.int .i64 pn) (.slice ao5 (K.length + 1) cp5) ∧ B2 wx db 63 (.int .i64 pn) (.slice ao6 (K.length + 1) cp6) ∧ Bel W1 wx) →
      K' ⟨#[v0, v1, v2, v3, v4, v5, v6, v7, (.pointer (some ⟨cb, 0, none⟩)), (.pointer (some ⟨db, 0, none⟩)), v10, (.pointer (some ⟨pb, 0, none⟩)), v12, v13, v14, v15, v16, v17, v18, v19, v20, v21, v22, v23, v24, v25, v26, v27, v28, v29, v30, v31, v32, v33, v34, v35, v36, v37, v38, v39, v40, v41, v42, v43, v44, v45, v46, v47, v48, v49, v50, v51, v52, v53, v54, v55, v56, v57, v58, v59, v60, v61, v62, v63, v64, v65, v66, v67, v68, v69, v70, v71, v72, v73, v74, v75, v76, v77, v78, v79, v80, v81, v82, v83, v84, v85, v86, v87, v88, v89, v90, v91, v92, v93, v94, v95, v96, v97, v98, v99, v100, v101, v102, v103, x104, x105, x106, x107, x108, x109, x110, x111, x112, x113, x114, x115, v116, v117, v118, v119, v120, v121, v122, v123, v124, v125, v126, v127, v128, v129], []⟩ wx) :
    Code.wp Try.prog (Code.region 13
      #[{ dst := some 104, op := Op.fieldAddr 60 (Operand.tmp 8) 1, type := 0, pos := "law.go:40", after := #[],
          guard := none },
        { dst := some 105, op := Op.load 58 (Operand.tmp 104), type := 58, pos := "law.go:40",
          after := #[{ on := 0, ground := Ground.data }], guard := none },
        { dst := some 106, op := Op.load 65 (Operand.tmp 11), type := 65, pos := "law.go:40", after := #[],
          guard := none },
        { dst := some 107, op := Op.buildSlice 58 1 #[(0, Operand.tmp 106)], type := 58, pos := "law.go:40",
          after := #[{ on := 2, ground := Ground.data }], guard := none },
        { dst := some 108,
          op :=
            Op.call
              { callee := Callee.builtin Builtin.append, args := #[Operand.tmp 105, Operand.tmp 107],
                argTypes := #[58, 58] },
          type := 58, pos := "law.go:40",
          after := #[{ on := 1, ground := Ground.data }, { on := 3, ground := Ground.data }], guard := none },
        { dst := some 109, op := Op.fieldAddr 63 (Operand.tmp 9) 1, type := 0, pos := "law.go:40", after := #[],
          guard := none },
        { dst := some 110, op := Op.load 61 (Operand.tmp 109), type := 61, pos := "law.go:40",
          after := #[{ on := 5, ground := Ground.data }], guard := none },
        { dst := some 111, op := Op.load 65 (Operand.tmp 11), type := 65, pos := "law.go:40", after := #[],
          guard := none },
        { dst := some 112, op := Op.buildSlice 61 1 #[(0, Operand.tmp 111)], type := 61, pos := "law.go:40",
          after := #[{ on := 7, ground := Ground.data }], guard := none },
        { dst := some 113,
          op :=
            Op.call
              { callee := Callee.builtin Builtin.append, args := #[Operand.tmp 110, Operand.tmp 112],
                argTypes := #[61, 61] },
          type := 61, pos := "law.go:40",
          after :=
            #[{ on := 6, ground := Ground.data }, { on := 8, ground := Ground.data },
              { on := 4, ground := Ground.chain }],
          guard := none },
        { dst := some 114, op := Op.fieldAddr 60 (Operand.tmp 8) 1, type := 0, pos := "law.go:40",
          after :=
            #[{ on := 0, ground := Ground.phase }, { on := 1, ground := Ground.phase },
              { on := 2, ground := Ground.phase }, { on := 3, ground := Ground.phase },
              { on := 4, ground := Ground.phase }, { on := 5, ground := Ground.textOnly Departure.lateStores },
              { on := 6, ground := Ground.textOnly Departure.lateStores },
              { on := 7, ground := Ground.textOnly Departure.lateStores },
              { on := 8, ground := Ground.textOnly Departure.lateStores },
              { on := 9, ground := Ground.textOnly Departure.lateStoresUnsure }],
          guard := none },
        { dst := none, op := Op.store 58 (Operand.tmp 114) (Operand.tmp 108), type := 0, pos := "law.go:40",
          after :=
            #[{ on := 10, ground := Ground.data }, { on := 4, ground := Ground.data },
              { on := 9, ground := Ground.chain }, { on := 0, ground := Ground.phase },
              { on := 1, ground := Ground.phase }, { on := 2, ground := Ground.phase },
              { on := 3, ground := Ground.phase }, { on := 4, ground := Ground.phase },
              { on := 5, ground := Ground.textOnly Departure.lateStores },
              { on := 6, ground := Ground.textOnly Departure.lateStores },
              { on := 7, ground := Ground.textOnly Departure.lateStores },
              { on := 8, ground := Ground.textOnly Departure.lateStores },
              { on := 9, ground := Ground.textOnly Departure.lateStoresUnsure }],
          guard := none },
        { dst := some 115, op := Op.fieldAddr 63 (Operand.tmp 9) 1, type := 0, pos := "law.go:40",
          after :=
            #[{ on := 0, ground := Ground.phase }, { on := 1, ground := Ground.phase },
              { on := 2, ground := Ground.phase }, { on := 3, ground := Ground.phase },
              { on := 4, ground := Ground.phase }, { on := 5, ground := Ground.phase },
              { on := 6, ground := Ground.phase }, { on := 7, ground := Ground.phase },
              { on := 8, ground := Ground.phase }, { on := 9, ground := Ground.phase },
              { on := 10, ground := Ground.phase }, { on := 11, ground := Ground.phase }],
          guard := none },
        { dst := none, op := Op.store 61 (Operand.tmp 115) (Operand.tmp 113), type := 0, pos := "law.go:40",
          after :=
            #[{ on := 12, ground := Ground.data }, { on := 9, ground := Ground.data },
              { on := 11, ground := Ground.chain }, { on := 0, ground := Ground.phase },
              { on := 1, ground := Ground.phase }, { on := 2, ground := Ground.phase },
              { on := 3, ground := Ground.phase }, { on := 4, ground := Ground.phase },
              { on := 5, ground := Ground.phase }, { on := 6, ground := Ground.phase },
              { on := 7, ground := Ground.phase }, { on := 8, ground := Ground.phase },
              { on := 9, ground := Ground.phase }, { on := 10, ground := Ground.phase },
              { on := 11, ground := Ground.phase }],
          guard := none }]
      true) (Exit.then K' Q') ⟨#[v0, v1, v2, v3, v4, v5, v6, v7, (.pointer (some ⟨cb, 0, none⟩)), (.pointer (some ⟨db, 0, none⟩)), v10, (.pointer (some ⟨pb, 0, none⟩)), v12, v13, v14, v15, v16, v17, v18, v19, v20, v21, v22, v23, v24, v25, v26, v27, v28, v29, v30, v31, v32, v33, v34, v35, v36, v37, v38, v39, v40, v41, v42, v43, v44, v45, v46, v47, v48, v49, v50, v51, v52, v53, v54, v55, v56, v57, v58, v59, v60, v61, v62, v63, v64, v65, v66, v67, v68, v69, v70, v71, v72, v73, v74, v75, v76, v77, v78, v79, v80, v81, v82, v83, v84, v85, v86, v87, v88, v89, v90, v91, v92, v93, v94, v95, v96, v97, v98, v99, v100, v101, v102, v103, v104, v105, v106, v107, v108, v109, v110, v111, v112, v113, v114, v115, v116, v117, v118, v119, v120, v121, v122, v123, v124, v125, v126, v127, v128, v129], []⟩ W2 := by
  refine wp_mono (Q := fun e a w => e = .normal ∧ K' a w) ?_ (by rintro e a w ⟨rfl, h⟩; exact h)
  have hS : (fun W : World => (W.cell? ⟨cb, 1, none⟩ = some (.slice px K.length cxv) ∧ W.cell? ⟨db, 1, none⟩ = some (.slice py K.length cyv)) ∧ W.cell? ⟨pb, 0, none⟩ = some (.int .i64 qa) ∧ W.cell? ⟨pb, 1, none⟩ = some (.string (M.bs TT))) W2.drew := ⟨⟨bc2.cells.1.2, bd2.cells.1.2⟩, e0.cells.1⟩
  refine region_until (S := fun W : World => (W.cell? ⟨cb, 1, none⟩ = some (.slice px K.length cxv) ∧ W.cell? ⟨db, 1, none⟩ = some (.slice py K.length cyv)) ∧ W.cell? ⟨pb, 0, none⟩ = some (.int .i64 qa) ∧ W.cell? ⟨pb, 1, none⟩ = some (.string (M.bs TT))) (m := 11) (by kernel_rfl) ?_
  refine take_first (i := 0) rfl (by kernel_rfl) (by kernel_rfl) (by kernel_rfl) (fun _ _ _ h => absurd h.1 (by simp)) (.one ⟨_, rfl, ⟨0, .phase⟩, by simp, rfl, rfl⟩) Kept.begin (v := .pointer (some ⟨cb, 1, none⟩)) (Or.inl ⟨by rfl, fun w hSw => by obtain ⟨⟨h1, h2⟩, h3, h4⟩ := hSw; go_simp⟩) hS ?_
  simp only [Act.put, List.setIfInBounds_toArray]
  refine take_first (i := 2) rfl (by kernel_rfl) (by kernel_rfl) (by kernel_rfl) (fun _ _ _ h => absurd h.1 (by simp)) (.one ⟨_, rfl, ⟨2, .phase⟩, by simp, rfl, rfl⟩) (Kept.begin.next (j := 0) (by kernel_rfl)) (v := .agg #[.int .i64 qa, .string (M.bs TT)]) (Or.inl ⟨by rfl, fun w hSw => by obtain ⟨⟨h1, h2⟩, h3, h4⟩ := hSw; go_simp⟩) hS ?_
  simp only [Act.put]
  refine take_first (i := 5) rfl (by kernel_rfl) (by kernel_rfl) (by kernel_rfl) (fun _ _ _ h => absurd h.1 (by simp)) (.more (.more (.one (p := 6) ⟨_, rfl, ⟨5, .data⟩, by simp, rfl, rfl⟩) (q := 9) ⟨_, rfl, ⟨6, .data⟩, by simp, rfl, rfl⟩) ⟨_, rfl, ⟨9, .chain⟩, by simp, rfl, rfl⟩) ((Kept.begin.next (j := 0) (by kernel_rfl)).next (j := 2) (by kernel_rfl)) (v := .pointer (some ⟨db, 1, none⟩)) (Or.inl ⟨by rfl, fun w hSw => by obtain ⟨⟨h1, h2⟩, h3, h4⟩ := hSw; go_simp⟩) hS ?_
  simp only [Act.put]
  refine take_first (i := 7) rfl (by kernel_rfl) (by kernel_rfl) (by kernel_rfl) (fun _ _ _ h => absurd h.1 (by simp)) (.more (.more (.one (p := 8) ⟨_, rfl, ⟨7, .data⟩, by simp, rfl, rfl⟩) (q := 9) ⟨_, rfl, ⟨8, .data⟩, by simp, rfl, rfl⟩) ⟨_, rfl, ⟨9, .chain⟩, by simp, rfl, rfl⟩) (((Kept.begin.next (j := 0) (by kernel_rfl)).next (j := 2) (by kernel_rfl)).next (j := 5) (by kernel_rfl)) (v := .agg #[.int .i64 qa, .string (M.bs TT)]) (Or.inl ⟨by rfl, fun w hSw => by obtain ⟨⟨h1, h2⟩, h3, h4⟩ := hSw; go_simp⟩) hS ?_
  simp only [Act.put]
  refine take_first (i := 1) rfl (by kernel_rfl) (by kernel_rfl) (by kernel_rfl) (fun _ _ _ h => absurd h.1 (by simp)) (.one ⟨_, rfl, ⟨1, .phase⟩, by simp, rfl, rfl⟩) ((((Kept.begin.next (j := 0) (by kernel_rfl)).next (j := 2) (by kernel_rfl)).next (j := 5) (by kernel_rfl)).next (j := 7) (by kernel_rfl)) (v := .slice px K.length cxv) (Or.inl ⟨by rfl, fun w hSw => by obtain ⟨⟨h1, h2⟩, h3, h4⟩ := hSw; go_simp⟩) hS ?_
  simp only [Act.put]
  refine take_first (i := 6) rfl (by kernel_rfl) (by kernel_rfl) (by kernel_rfl) (fun _ _ _ h => absurd h.1 (by simp)) (.more (.one (p := 9) ⟨_, rfl, ⟨6, .data⟩, by simp, rfl, rfl⟩) ⟨_, rfl, ⟨9, .chain⟩, by simp, rfl, rfl⟩) (((((Kept.begin.next (j := 0) (by kernel_rfl)).next (j := 2) (by kernel_rfl)).next (j := 5) (by kernel_rfl)).next (j := 7) (by kernel_rfl)).next (j := 1) (by kernel_rfl)) (v := .slice py K.length cyv) (Or.inl ⟨by rfl, fun w hSw => by obtain ⟨⟨h1, h2⟩, h3, h4⟩ := hSw; go_simp⟩) hS ?_
  simp only [Act.put]
  have bz2 := bb2.size
  have hx : OwnP 66 W2.drew W1.heap.size (.slice px K.length cxv) K := ox2
  have hy : OwnP 67 W2.drew W1.heap.size (.slice py K.length cyv) K := oy2
  have hSa : ∀ o, (fun W : World => (W.cell? ⟨cb, 1, none⟩ = some (.slice px K.length cxv) ∧ W.cell? ⟨db, 1, none⟩ = some (.slice py K.length cyv)) ∧ W.cell? ⟨pb, 0, none⟩ = some (.int .i64 qa) ∧ W.cell? ⟨pb, 1, none⟩ = some (.string (M.bs TT))) (W2.drew.alloc o) := fun o => ⟨⟨(bc2.bel (Bel.al (Bel.dr (Below.refl _ _)) o)).cells.1.2, (bd2.bel (Bel.al (Bel.dr (Below.refl _ _)) o)).cells.1.2⟩, (e0.bel (Bel.al (Bel.dr (Below.refl _ _)) o)).cells.1⟩
  have farx : ∀ i, W2.heap.size ≤ i → some i ≠ (Value.slice px K.length cxv).ownBlock := fun i hi e => by have := (World.ownsRow.lt ox2 i e.symm).2; omega
  refine until_ready (rs := [3, 8]) (by kernel_rfl) (by simp) ?_
  intro jj hjj
  simp only [List.mem_cons, List.not_mem_nil, or_false] at hjj
  rcases hjj with rfl | rfl
  · refine wpOp_step rfl (fun KX hKX => ?_)
    have HX := hid hKX
    clear hKX
    go_simp
    refine HX.out _ _ ⟨fun _ => hSa _, ?_⟩
    clear HX
    refine until_ready (rs := [4, 8]) (by kernel_rfl) (by simp) ?_
    intro jj hjj
    simp only [List.mem_cons, List.not_mem_nil, or_false] at hjj
    rcases hjj with rfl | rfl
    · refine wpOp_step rfl (fun KX hKX => ?_)
      have HX := hid hKX
      clear hKX
      refine appS48 (by rfl) _ _ (by rfl) W1.heap.size (.slice px K.length cxv) K (by rfl) (by exact ox2.al _) qa TT _ (by rfl) (by refine ⟨?_, ?_⟩ <;> go_simp) hcl (by first | (simp; done) | (simp; omega)) ?_
      intro v1 w5 o5 r5
      obtain ⟨hy5, bc5, bd5, e5, bb5, sz5⟩ := after_one rfl ((Bel.al (Below.refl _ _) _).dr) ox2 oy2 bc2 bd2 e0 bb2 r5
      obtain ⟨ao5, cp5, hv5, _⟩ := id o5.vals
      subst hv5
      have hS5 : (fun W : World => (W.cell? ⟨cb, 1, none⟩ = some (.slice px K.length cxv) ∧ W.cell? ⟨db, 1, none⟩ = some (.slice py K.length cyv)) ∧ W.cell? ⟨pb, 0, none⟩ = some (.int .i64 qa) ∧ W.cell? ⟨pb, 1, none⟩ = some (.string (M.bs TT))) w5 := ⟨⟨bc5.cells.1.2, bd5.cells.1.2⟩, e5.cells.1⟩
      refine HX.out _ _ ⟨fun _ => hS5, ?_⟩
      clear HX
      simp only [Act.put, List.setIfInBounds_toArray]
      have bz5 := bb5.size
      refine take_first (i := 10) rfl (by kernel_rfl) (by kernel_rfl) (by kernel_rfl) (fun _ _ _ h => absurd h.1 (by simp)) (.one ⟨_, rfl, ⟨10, .data⟩, by simp, rfl, rfl⟩) ((((((((Kept.begin.next (j := 0) (by kernel_rfl)).next (j := 2) (by kernel_rfl)).next (j := 5) (by kernel_rfl)).next (j := 7) (by kernel_rfl)).next (j := 1) (by kernel_rfl)).next (j := 6) (by kernel_rfl)).next (j := 3) (by kernel_rfl)).next (j := 4) (by kernel_rfl)) (v := .pointer (some ⟨cb, 1, none⟩)) (Or.inl ⟨by rfl, fun w hSw => by obtain ⟨⟨h1, h2⟩, h3, h4⟩ := hSw; go_simp⟩) hS5 ?_
      simp only [Act.put]
      refine until_ready (rs := [8]) (by kernel_rfl) (by simp) ?_
      intro jj hjj
      simp only [List.mem_cons, List.not_mem_nil, or_false] at hjj
      subst hjj
      refine wpOp_step rfl (fun KX hKX => ?_)
      have HX := hid hKX
      clear hKX
      go_simp
      refine HX.out _ _ ⟨fun _ => ⟨⟨(bc5.bel (Bel.al (Below.refl _ _) _)).cells.1.2, (bd5.bel (Bel.al (Below.refl _ _) _)).cells.1.2⟩, (e5.bel (Bel.al (Below.refl _ _) _)).cells.1⟩, ?_⟩
      clear HX
      refine until_ready (rs := [9]) (by kernel_rfl) (by simp) ?_
      intro jj hjj
      simp only [List.mem_cons, List.not_mem_nil, or_false] at hjj
      subst hjj
      refine wpOp_step rfl (fun KX hKX => ?_)
      have HX := hid hKX
      clear hKX
      refine appS50 (by rfl) _ _ (by rfl) W1.heap.size (.slice py K.length cyv) K (by rfl) (by exact hy5.al _) qa TT _ (by rfl) (by refine ⟨?_, ?_⟩ <;> go_simp) hcl (by first | omega | (simp; omega)) ?_
      intro v2 w6 o6 r6
      obtain ⟨oa6, bc6, bd6, e6, bb6⟩ := after_two rfl (Bel.al (Below.refl _ _) _) o5 hy5 bc5 bd5 e5 bb5 r6
      obtain ⟨ao6, cp6, hv6, _⟩ := id o6.vals
      subst hv6
      refine HX.out _ _ ⟨fun _ => ⟨⟨bc6.cells.1.2, bd6.cells.1.2⟩, e6.cells.1⟩, ?_⟩
      clear HX
      simp only [Act.put, List.setIfInBounds_toArray]
      obtain ⟨⟨_, y36⟩, _, f36⟩ := bc6.cells
      obtain ⟨⟨_, y46⟩, _, f46⟩ := bd6.cells
      have FIN := hid (after_stores rfl hcd hcb hdb oa6 o6 bc6 bd6 bb6)
      clear oa6 o6 bc6 bd6 bb6 e6 o5 hy5 bc5 bd5 e5 bb5 ox2 oy2 bc2 bd2 e0 bb2 hx hy hSa hS hS5 r5 r6
      have hdc : ¬ db = cb := fun e => hcd e.symm
      have hcd' : ¬ cb = db := hcd
      refine until_ready (rs := [11]) (by kernel_rfl) (by simp) ?_
      intro jj hjj
      simp only [List.mem_cons, List.not_mem_nil, or_false] at hjj
      subst hjj
      refine wpOp_step rfl (fun KX hKX => ?_)
      have HX := hid hKX
      clear hKX
      go_simp
      refine HX.out _ _ ⟨(fun h => by cases (Eq.trans (Eq.symm (show _ = true by kernel_rfl)) h)), ?_⟩
      clear HX
      refine until_ready (rs := [12]) (by kernel_rfl) (by simp) ?_
      intro jj hjj
      simp only [List.mem_cons, List.not_mem_nil, or_false] at hjj
      subst hjj
      refine wpOp_step rfl (fun KX hKX => ?_)
      have HX := hid hKX
      clear hKX
      go_simp
      refine HX.out _ _ ⟨(fun h => by cases (Eq.trans (Eq.symm (show _ = true by kernel_rfl)) h)), ?_⟩
      clear HX
      refine until_ready (rs := [13]) (by kernel_rfl) (by simp) ?_
      intro jj hjj
      simp only [List.mem_cons, List.not_mem_nil, or_false] at hjj
      subst hjj
      refine wpOp_step rfl (fun KX hKX => ?_)
      have HX := hid hKX
      clear hKX
      go_simp
      refine HX.out _ _ ⟨(fun h => by cases (Eq.trans (Eq.symm (show _ = true by kernel_rfl)) h)), ?_⟩
      clear HX
      refine until_done (by kernel_rfl) ⟨rfl, ?_⟩ _
      obtain ⟨f1, f2, f3, f4, f5⟩ := FIN.out
      simp only [List.length_append, List.length_cons, List.length_nil, Nat.zero_add] at f1 f2 f3 f4 f5
      exact hK _ _ _ _ _ _ _ _ _ _ _ _ _ ⟨_, _, _, _, f1, f2, f3, f4, f5⟩
    · refine wpOp_step rfl (fun KX hKX => ?_)
      have HX := hid hKX
      clear hKX
      go_simp
      refine HX.out _ _ ⟨fun _ => ⟨⟨(bc2.bel (Bel.al (Bel.al (Below.refl _ _) _) _).dr).cells.1.2, (bd2.bel (Bel.al (Bel.al (Below.refl _ _) _) _).dr).cells.1.2⟩, (e0.bel (Bel.al (Bel.al (Below.refl _ _) _) _).dr).cells.1⟩, ?_⟩
      clear HX
      refine until_ready (rs := [4]) (by kernel_rfl) (by simp) ?_
      intro jj hjj
      simp only [List.mem_cons, List.not_mem_nil, or_false] at hjj
      subst hjj
      refine wpOp_step rfl (fun KX hKX => ?_)
      have HX := hid hKX
      clear hKX
      refine appS48 (by rfl) _ _ (by rfl) W1.heap.size (.slice px K.length cxv) K (by rfl) (by exact (ox2.al _).al _) qa TT _ (by rfl) (by refine ⟨?_, ?_⟩ <;> go_simp) hcl (by first | (simp; done) | (simp; omega)) ?_
      intro v1 w5 o5 r5
      obtain ⟨hy5, bc5, bd5, e5, bb5, sz5⟩ := after_one rfl ((Bel.al (Bel.al (Below.refl _ _) _) _).dr) ox2 oy2 bc2 bd2 e0 bb2 r5
      obtain ⟨ao5, cp5, hv5, _⟩ := id o5.vals
      subst hv5
      have hS5 : (fun W : World => (W.cell? ⟨cb, 1, none⟩ = some (.slice px K.length cxv) ∧ W.cell? ⟨db, 1, none⟩ = some (.slice py K.length cyv)) ∧ W.cell? ⟨pb, 0, none⟩ = some (.int .i64 qa) ∧ W.cell? ⟨pb, 1, none⟩ = some (.string (M.bs TT))) w5 := ⟨⟨bc5.cells.1.2, bd5.cells.1.2⟩, e5.cells.1⟩
      refine HX.out _ _ ⟨fun _ => hS5, ?_⟩
      clear HX
      simp only [Act.put, List.setIfInBounds_toArray]
      have bz5 := bb5.size
      refine take_first (i := 10) rfl (by kernel_rfl) (by kernel_rfl) (by kernel_rfl) (fun _ _ _ h => absurd h.1 (by simp)) (.one ⟨_, rfl, ⟨10, .data⟩, by simp, rfl, rfl⟩) (((((((((Kept.begin.next (j := 0) (by kernel_rfl)).next (j := 2) (by kernel_rfl)).next (j := 5) (by kernel_rfl)).next (j := 7) (by kernel_rfl)).next (j := 1) (by kernel_rfl)).next (j := 6) (by kernel_rfl)).next (j := 3) (by kernel_rfl)).next (j := 8) (by kernel_rfl)).next (j := 4) (by kernel_rfl)) (v := .pointer (some ⟨cb, 1, none⟩)) (Or.inl ⟨by rfl, fun w hSw => by obtain ⟨⟨h1, h2⟩, h3, h4⟩ := hSw; go_simp⟩) hS5 ?_
      simp only [Act.put]
      refine until_ready (rs := [9]) (by kernel_rfl) (by simp) ?_
      intro jj hjj
      simp only [List.mem_cons, List.not_mem_nil, or_false] at hjj
      subst hjj
      refine wpOp_step rfl (fun KX hKX => ?_)
      have HX := hid hKX
      clear hKX
      refine appS50 (by rfl) _ _ (by rfl) W1.heap.size (.slice py K.length cyv) K (by rfl) (by exact hy5) qa TT _ (by rfl) (by refine ⟨?_, ?_⟩ <;> (rw [r5.cell_far _ (by first | (simp; done) | (simp; omega)) (farx _ (by first | (simp; done) | (simp; omega)))]; go_simp)) hcl (by first | omega | (simp; omega)) ?_
      intro v2 w6 o6 r6
      obtain ⟨oa6, bc6, bd6, e6, bb6⟩ := after_two rfl (Below.refl _ _) o5 hy5 bc5 bd5 e5 bb5 r6
      obtain ⟨ao6, cp6, hv6, _⟩ := id o6.vals
      subst hv6
      refine HX.out _ _ ⟨fun _ => ⟨⟨bc6.cells.1.2, bd6.cells.1.2⟩, e6.cells.1⟩, ?_⟩
      clear HX
      simp only [Act.put]
      obtain ⟨⟨_, y36⟩, _, f36⟩ := bc6.cells
      obtain ⟨⟨_, y46⟩, _, f46⟩ := bd6.cells
      have FIN := hid (after_stores rfl hcd hcb hdb oa6 o6 bc6 bd6 bb6)
      clear oa6 o6 bc6 bd6 bb6 e6 o5 hy5 bc5 bd5 e5 bb5 ox2 oy2 bc2 bd2 e0 bb2 hx hy hSa hS hS5 r5 r6
      have hdc : ¬ db = cb := fun e => hcd e.symm
      have hcd' : ¬ cb = db := hcd
      refine until_ready (rs := [11]) (by kernel_rfl) (by simp) ?_
      intro jj hjj
      simp only [List.mem_cons, List.not_mem_nil, or_false] at hjj
      subst hjj
      refine wpOp_step rfl (fun KX hKX => ?_)
      have HX := hid hKX
      clear hKX
      go_simp
      refine HX.out _ _ ⟨(fun h => by cases (Eq.trans (Eq.symm (show _ = true by kernel_rfl)) h)), ?_⟩
      clear HX
      refine until_ready (rs := [12]) (by kernel_rfl) (by simp) ?_
      intro jj hjj
      simp only [List.mem_cons, List.not_mem_nil, or_false] at hjj
      subst hjj
      refine wpOp_step rfl (fun KX hKX => ?_)
      have HX := hid hKX
      clear hKX
      go_simp
      refine HX.out _ _ ⟨(fun h => by cases (Eq.trans (Eq.symm (show _ = true by kernel_rfl)) h)), ?_⟩
      clear HX
      refine until_ready (rs := [13]) (by kernel_rfl) (by simp) ?_
      intro jj hjj
      simp only [List.mem_cons, List.not_mem_nil, or_false] at hjj
      subst hjj
      refine wpOp_step rfl (fun KX hKX => ?_)
      have HX := hid hKX
      clear hKX
      go_simp
      refine HX.out _ _ ⟨(fun h => by cases (Eq.trans (Eq.symm (show _ = true by kernel_rfl)) h)), ?_⟩
      clear HX
      refine until_done (by kernel_rfl) ⟨rfl, ?_⟩ _
      obtain ⟨f1, f2, f3, f4, f5⟩ := FIN.out
      simp only [List.length_append, List.length_cons, List.length_nil, Nat.zero_add] at f1 f2 f3 f4 f5
      exact hK _ _ _ _ _ _ _ _ _ _ _ _ _ ⟨_, _, _, _, f1, f2, f3, f4, f5⟩
  · refine wpOp_step rfl (fun KX hKX => ?_)
    have HX := hid hKX
    clear hKX
    go_simp
    refine HX.out _ _ ⟨fun _ => hSa _, ?_⟩
    clear HX
    refine until_ready (rs := [3]) (by kernel_rfl) (by simp) ?_
    intro jj hjj
    simp only [List.mem_cons, List.not_mem_nil, or_false] at hjj
    subst hjj
    refine wpOp_step rfl (fun KX hKX => ?_)
    have HX := hid hKX
    clear hKX
    go_simp
    refine HX.out _ _ ⟨fun _ => ⟨⟨(bc2.bel (Bel.al (Bel.al (Below.refl _ _) _) _).dr).cells.1.2, (bd2.bel (Bel.al (Bel.al (Below.refl _ _) _) _).dr).cells.1.2⟩, (e0.bel (Bel.al (Bel.al (Below.refl _ _) _) _).dr).cells.1⟩, ?_⟩
    clear HX
    refine until_ready (rs := [4]) (by kernel_rfl) (by simp) ?_
    intro jj hjj
    simp only [List.mem_cons, List.not_mem_nil, or_false] at hjj
    subst hjj
    refine wpOp_step rfl (fun KX hKX => ?_)
    have HX := hid hKX
    clear hKX
    refine appS48 (by rfl) _ _ (by rfl) W1.heap.size (.slice px K.length cxv) K (by rfl) (by exact (ox2.al _).al _) qa TT _ (by rfl) (by refine ⟨?_, ?_⟩ <;> go_simp) hcl (by first | (simp; done) | (simp; omega)) ?_
    intro v1 w5 o5 r5
    obtain ⟨hy5, bc5, bd5, e5, bb5, sz5⟩ := after_one rfl ((Bel.al (Bel.al (Below.refl _ _) _) _).dr) ox2 oy2 bc2 bd2 e0 bb2 r5
    obtain ⟨ao5, cp5, hv5, _⟩ := id o5.vals
    subst hv5
    have hS5 : (fun W : World => (W.cell? ⟨cb, 1, none⟩ = some (.slice px K.length cxv) ∧ W.cell? ⟨db, 1, none⟩ = some (.slice py K.length cyv)) ∧ W.cell? ⟨pb, 0, none⟩ = some (.int .i64 qa) ∧ W.cell? ⟨pb, 1, none⟩ = some (.string (M.bs TT))) w5 := ⟨⟨bc5.cells.1.2, bd5.cells.1.2⟩, e5.cells.1⟩
    refine HX.out _ _ ⟨fun _ => hS5, ?_⟩
    clear HX
    simp only [Act.put, List.setIfInBounds_toArray]
    have bz5 := bb5.size
    refine take_first (i := 10) rfl (by kernel_rfl) (by kernel_rfl) (by kernel_rfl) (fun _ _ _ h => absurd h.1 (by simp)) (.one ⟨_, rfl, ⟨10, .data⟩, by simp, rfl, rfl⟩) (((((((((Kept.begin.next (j := 0) (by kernel_rfl)).next (j := 2) (by kernel_rfl)).next (j := 5) (by kernel_rfl)).next (j := 7) (by kernel_rfl)).next (j := 1) (by kernel_rfl)).next (j := 6) (by kernel_rfl)).next (j := 8) (by kernel_rfl)).next (j := 3) (by kernel_rfl)).next (j := 4) (by kernel_rfl)) (v := .pointer (some ⟨cb, 1, none⟩)) (Or.inl ⟨by rfl, fun w hSw => by obtain ⟨⟨h1, h2⟩, h3, h4⟩ := hSw; go_simp⟩) hS5 ?_
    simp only [Act.put]
    refine until_ready (rs := [9]) (by kernel_rfl) (by simp) ?_
    intro jj hjj
    simp only [List.mem_cons, List.not_mem_nil, or_false] at hjj
    subst hjj
    refine wpOp_step rfl (fun KX hKX => ?_)
    have HX := hid hKX
    clear hKX
    refine appS50 (by rfl) _ _ (by rfl) W1.heap.size (.slice py K.length cyv) K (by rfl) (by exact hy5) qa TT _ (by rfl) (by refine ⟨?_, ?_⟩ <;> (rw [r5.cell_far _ (by first | (simp; done) | (simp; omega)) (farx _ (by first | (simp; done) | (simp; omega)))]; go_simp)) hcl (by first | omega | (simp; omega)) ?_
    intro v2 w6 o6 r6
    obtain ⟨oa6, bc6, bd6, e6, bb6⟩ := after_two rfl (Below.refl _ _) o5 hy5 bc5 bd5 e5 bb5 r6
    obtain ⟨ao6, cp6, hv6, _⟩ := id o6.vals
    subst hv6
    refine HX.out _ _ ⟨fun _ => ⟨⟨bc6.cells.1.2, bd6.cells.1.2⟩, e6.cells.1⟩, ?_⟩
    clear HX
    simp only [Act.put]
    obtain ⟨⟨_, y36⟩, _, f36⟩ := bc6.cells
    obtain ⟨⟨_, y46⟩, _, f46⟩ := bd6.cells
    have FIN := hid (after_stores rfl hcd hcb hdb oa6 o6 bc6 bd6 bb6)
    clear oa6 o6 bc6 bd6 bb6 e6 o5 hy5 bc5 bd5 e5 bb5 ox2 oy2 bc2 bd2 e0 bb2 hx hy hSa hS hS5 r5 r6
    have hdc : ¬ db = cb := fun e => hcd e.symm
    have hcd' : ¬ cb = db := hcd
    refine until_ready (rs := [11]) (by kernel_rfl) (by simp) ?_
    intro jj hjj
    simp only [List.mem_cons, List.not_mem_nil, or_false] at hjj
    subst hjj
    refine wpOp_step rfl (fun KX hKX => ?_)
    have HX := hid hKX
    clear hKX
    go_simp
    refine HX.out _ _ ⟨(fun h => by cases (Eq.trans (Eq.symm (show _ = true by kernel_rfl)) h)), ?_⟩
    clear HX
    refine until_ready (rs := [12]) (by kernel_rfl) (by simp) ?_
    intro jj hjj
    simp only [List.mem_cons, List.not_mem_nil, or_false] at hjj
    subst hjj
    refine wpOp_step rfl (fun KX hKX => ?_)
    have HX := hid hKX
    clear hKX
    go_simp
    refine HX.out _ _ ⟨(fun h => by cases (Eq.trans (Eq.symm (show _ = true by kernel_rfl)) h)), ?_⟩
    clear HX
    refine until_ready (rs := [13]) (by kernel_rfl) (by simp) ?_
    intro jj hjj
    simp only [List.mem_cons, List.not_mem_nil, or_false] at hjj
    subst hjj
    refine wpOp_step rfl (fun KX hKX => ?_)
    have HX := hid hKX
    clear hKX
    go_simp
    refine HX.out _ _ ⟨(fun h => by cases (Eq.trans (Eq.symm (show _ = true by kernel_rfl)) h)), ?_⟩
    clear HX
    refine until_done (by kernel_rfl) ⟨rfl, ?_⟩ _
    obtain ⟨f1, f2, f3, f4, f5⟩ := FIN.out
    simp only [List.length_append, List.length_cons, List.length_nil, Nat.zero_add] at f1 f2 f3 f4 f5
    exact hK _ _ _ _ _ _ _ _ _ _ _ _ _ ⟨_, _, _, _, f1, f2, f3, f4, f5⟩
end Go.Proofs.Ytaepbmcmggnmpaa
