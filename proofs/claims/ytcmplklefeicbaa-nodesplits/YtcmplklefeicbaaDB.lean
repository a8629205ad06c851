/-
  The document's Insert, walked.
-/
import Derived.Test.YtcmplklefeicbaaDA
namespace Go.Proofs.Ytcmplklefeicbaa
open Go.RowKit
set_option maxRecDepth 100000

theorem run_head31 (b off n cap i : Nat) (h : i ≤ cap) (W : World) : (Instr.slice 31 (.slice (some ⟨b, off, none⟩) n cap) none (some (.int .i64 i)) none).run Try.prog W = .ok (.slice (some ⟨b, off, none⟩) i cap) W := by
  obtain ⟨i0, hi, hz0, hz1, hz2⟩ := info_parts info43
  have hu := Try.underlying31
  have e : (⟨b, off, none⟩ : Addr).add 0 = ⟨b, off, none⟩ := add_lit b off 0
  simp [Instr.slice, run_underlying hu, Instr.sliceBounds, Instr.sliceBound, asIntOf, sizeOf, typeInfo, hi, Sem.run_bind, h, e]
theorem run_rest31 (b off n cap i : Nat) (h : i ≤ n) (W : World) : (Instr.slice 31 (.slice (some ⟨b, off, none⟩) n cap) (some (.int .i64 i)) none none).run Try.prog W = .ok (.slice (if cap = i then some ⟨b, off, none⟩ else some ⟨b, off + i * 3, none⟩) (n - i) (cap - i)) W := by
  obtain ⟨i0, hi, hz0, hz1, hz2⟩ := info_parts info43
  have hu := Try.underlying31
  have e : (⟨b, off, none⟩ : Addr).add (i * i0.size) = ⟨b, off + i * 3, none⟩ := by rw [add_lit, hz1]
  simp [Instr.slice, run_underlying hu, Instr.sliceBounds, Instr.sliceBound, asIntOf, sizeOf, typeInfo, hi, Sem.run_bind, h, e]
theorem run_head31_nil (W : World) : (Instr.slice 31 (.slice none 0 0) none (some (.int .i64 0)) none).run Try.prog W = .ok (.slice none 0 0) W := by
  obtain ⟨i0, hi, hz0, hz1, hz2⟩ := info_parts info43
  have hu := Try.underlying31
  simp [Instr.slice, run_underlying hu, Instr.sliceBounds, Instr.sliceBound, asIntOf, sizeOf, typeInfo, hi, Sem.run_bind]
theorem run_rest31_nil (W : World) : (Instr.slice 31 (.slice none 0 0) (some (.int .i64 0)) none none).run Try.prog W = .ok (.slice none 0 0) W := by
  obtain ⟨i0, hi, hz0, hz1, hz2⟩ := info_parts info43
  have hu := Try.underlying31
  simp [Instr.slice, run_underlying hu, Instr.sliceBounds, Instr.sliceBound, asIntOf, sizeOf, typeInfo, hi, Sem.run_bind]
theorem cutV {x : Value} {L : List M.En} {w : World} (hv : Vs w x L) (i : Nat) (hi : i ≤ L.length) : ∃ a n c, (∀ W, (Instr.slice 31 x none (some (.int .i64 i)) none).run Try.prog W = .ok (.slice a n c) W) ∧ ∀ W, Bel w W → Vs W (.slice a n c) (L.take i) := by
  rcases hv with ⟨rfl, rfl⟩ | ⟨b, off, cap, rfl, hc, hb, hr⟩
  · simp only [List.length_nil] at hi
    obtain rfl : i = 0 := by omega
    exact ⟨_, _, _, run_head31_nil, fun W _ => .inl ⟨rfl, rfl⟩⟩
  · have hl : (L.take i).length = i := by rw [List.length_take]; omega
    exact ⟨_, _, _, fun W => run_head31 b off L.length cap i (by omega) W, fun W hW => .inr ⟨b, off, cap, by rw [hl], by omega, Nat.lt_of_lt_of_le hb hW.size, row3_take (hr.below hW hb) i⟩⟩
theorem restV {x : Value} {L : List M.En} {w : World} (hv : Vs w x L) (i : Nat) (hi : i ≤ L.length) : ∃ a n c, (∀ W, (Instr.slice 31 x (some (.int .i64 i)) none none).run Try.prog W = .ok (.slice a n c) W) ∧ ∀ W, Bel w W → Vs W (.slice a n c) (L.drop i) := by
  rcases hv with ⟨rfl, rfl⟩ | ⟨b, off, cap, rfl, hc, hb, hr⟩
  · simp only [List.length_nil] at hi
    obtain rfl : i = 0 := by omega
    exact ⟨_, _, _, run_rest31_nil, fun W _ => .inl ⟨rfl, rfl⟩⟩
  · obtain ⟨o, ho, hrd⟩ := drop_place b off L.length cap i hi hc L rfl w hr
    refine ⟨some ⟨b, o, none⟩, L.length - i, cap - i, fun W => by rw [run_rest31 b off L.length cap i hi W, ho], fun W hW => .inr ⟨b, o, cap - i, by rw [List.length_drop], by rw [List.length_drop]; omega, Nat.lt_of_lt_of_le hb hW.size, hrd.below hW hb⟩⟩
/-- 'append' of entries of the document's to a row of the call's own. -/
theorem app31 (w : World) (base : Nat) (v : Value) (n : Nat) (xs : List Value) (hown : w.ownsRow base 43 3 v n xs) (y : Value) (L : List M.En) (hv : Vs w y L) (hl : n + L.length ≤ 100000) (hb : base ≤ w.heap.size) :
    ∃ a c w', (Builtin.append_ #[31, 31] 31 #[v, y]).run Try.prog w = .ok (.slice a (n + L.length) c) w' ∧ w'.ownsRow base 43 3 (.slice a (n + L.length) c) (n + L.length) (xs ++ csE L) ∧ w.grownBy w' v.ownBlock := by
  obtain ⟨i0, hi, hz0, hz1, hz2⟩ := info_parts info43
  rcases hv with ⟨rfl, rfl⟩ | ⟨b, off, cap, rfl, hc, hb', hr⟩
  · have h := run_append_owned_none (P := Try.prog) w base 31 31 43 i0 3 Try.underlying31 hi v _ _ hown
    obtain ⟨a, c, rfl⟩ := row_form hown
    exact ⟨a, c, w, h, by simpa [csE] using hown, ⟨rfl, rfl, rfl, Nat.le_refl _, fun _ _ _ => rfl⟩⟩
  · obtain ⟨v2, w2, f1, f2, f3, _, f5⟩ := run_append_own_at (P := Try.prog) w base 31 31 43 i0 _ 3 40 Try.underlying31 hi hz0 hz1 hz2 rfl (by decide) v n xs hown ⟨b, off, none⟩ L.length cap (csE L) (csE_length L) (fun j u hj => by rw [add_lit]; exact row3_cells hr j u hj) (csE_one _) (by unfold maxLen; omega) (by omega) hb
    obtain ⟨a2, c2, rfl⟩ := row_form f2
    exact ⟨a2, c2, w2, f1, f2, f3⟩
/-- The boxes of a call of the document's Insert. -/
structure JB (w W : World) (p : M.Pg) (x : Value) (k v : List UInt8) (m : Bool) : Prop where
  b0 : Blk W w.heap.size #[.int .i64 p.lsn, .int .i64 p.kind, .int .i64 p.level, .int .i64 p.right, .string (M.bs p.high), x] 33
  b1 : Blk W (w.heap.size + 1) #[.string (M.bs k), .string (M.bs v), .bool m] 43
  b2 : Blk W (w.heap.size + 1 + 1) noC 33
  below : Bel w W
theorem JB.bel {w W W' : World} {p : M.Pg} {x : Value} {k v : List UInt8} {m : Bool} (h : JB w W p x k v m) (b : Bel W W') : JB w W' p x k v m :=
  ⟨h.b0.below b h.b0.lt, h.b1.below b h.b1.lt, h.b2.below b h.b2.lt, h.below.tr b⟩
theorem JB.start (w : World) (p : M.Pg) (x : Value) (k v : List UInt8) (m : Bool) :
    JB w (((w.alloc (.cells #[.int .i64 p.lsn, .int .i64 p.kind, .int .i64 p.level, .int .i64 p.right, .string (M.bs p.high), x] 33)).alloc (.cells #[.string (M.bs k), .string (M.bs v), .bool m] 43)).alloc (.cells noC 33)) p x k v m := by
  obtain ⟨h1, h2⟩ := heap_two w (.cells #[.int .i64 p.lsn, .int .i64 p.kind, .int .i64 p.level, .int .i64 p.right, .string (M.bs p.high), x] 33) (.cells #[.string (M.bs k), .string (M.bs v), .bool m] 43)
  have e : w.heap.size + 1 + 1 = ((w.alloc (.cells #[.int .i64 p.lsn, .int .i64 p.kind, .int .i64 p.level, .int .i64 p.right, .string (M.bs p.high), x] 33)).alloc (.cells #[.string (M.bs k), .string (M.bs v), .bool m] 43)).heap.size := by simp
  exact ⟨Blk.al (show Blk _ _ _ _ from h1) _, Blk.al (show Blk _ _ _ _ from h2) _, by rw [e]; exact Blk.new _ _ _, Bel.al (Bel.al (Bel.al (Below.refl _ _) _) _) _⟩
theorem JB.cells {w W : World} {p : M.Pg} {x : Value} {k v : List UInt8} {m : Bool} (h : JB w W p x k v m) :
    W.cell? ⟨w.heap.size, 0, none⟩ = some (.int .i64 p.lsn) ∧ W.cell? ⟨w.heap.size, 1, none⟩ = some (.int .i64 p.kind) ∧ W.cell? ⟨w.heap.size, 2, none⟩ = some (.int .i64 p.level) ∧ W.cell? ⟨w.heap.size, 3, none⟩ = some (.int .i64 p.right) ∧ W.cell? ⟨w.heap.size, 4, none⟩ = some (.string (M.bs p.high)) ∧ W.cell? ⟨w.heap.size, 5, none⟩ = some x ∧
    W.cell? ⟨w.heap.size + 1, 0, none⟩ = some (.string (M.bs k)) ∧ W.cell? ⟨w.heap.size + 1, 1, none⟩ = some (.string (M.bs v)) ∧ W.cell? ⟨w.heap.size + 1, 2, none⟩ = some (.bool m) :=
  ⟨by rw [h.b0.cell]; rfl, by rw [h.b0.cell]; rfl, by rw [h.b0.cell]; rfl, by rw [h.b0.cell]; rfl, by rw [h.b0.cell]; rfl, by rw [h.b0.cell]; rfl, by rw [h.b1.cell]; rfl, by rw [h.b1.cell]; rfl, by rw [h.b1.cell]; rfl⟩
theorem JB.out {w W : World} {p : M.Pg} {x : Value} {k v : List UInt8} {m : Bool} (h : JB w W p x k v m) :
    W.cell? ⟨w.heap.size + 1 + 1, 0, none⟩ = some (.int .i64 0) ∧ W.cell? ⟨w.heap.size + 1 + 1, 1, none⟩ = some (.int .i64 0) ∧ W.cell? ⟨w.heap.size + 1 + 1, 2, none⟩ = some (.int .i64 0) ∧ W.cell? ⟨w.heap.size + 1 + 1, 3, none⟩ = some (.int .i64 0) ∧ W.cell? ⟨w.heap.size + 1 + 1, 4, none⟩ = some (.string ⟨#[]⟩) ∧ W.cell? ⟨w.heap.size + 1 + 1, 5, none⟩ = some (.slice none 0 0) ∧ (∀ j, W.frozen? ⟨w.heap.size + 1 + 1, j, none⟩ = false) :=
  ⟨by rw [h.b2.cell]; rfl, by rw [h.b2.cell]; rfl, by rw [h.b2.cell]; rfl, by rw [h.b2.cell]; rfl, by rw [h.b2.cell]; rfl, by rw [h.b2.cell]; rfl, h.b2.frozen⟩
theorem JB.grown {w W W' : World} {p : M.Pg} {x : Value} {k v : List UInt8} {m : Bool} (h : JB w W p x k v m) {r : Option Nat} (g : W.grownBy W' r) (hr : ∀ j, r = some j → w.heap.size + 1 + 1 < j) : JB w W' p x k v m :=
  ⟨(g.block _ h.b0.lt (fun e => by have := hr _ e.symm; omega)).trans h.b0, (g.block _ h.b1.lt (fun e => by have := hr _ e.symm; omega)).trans h.b1, (g.block _ h.b2.lt (fun e => by have := hr _ e.symm; omega)).trans h.b2, Below.grown h.below g h.below.size (fun j hj => by have := hr j hj; omega)⟩
theorem own_vs43 {w : World} {base : Nat} {v : Value} {L : List M.En} (h : w.ownsRow base 43 3 v L.length (csE L)) : Vs w v L := by
  rcases h.2 with ⟨rfl, e⟩ | ⟨g, cap, cur, rfl, hb, hg, hn, _⟩
  · exact .inl ⟨rfl, List.length_eq_zero_iff.1 e⟩
  · refine .inr ⟨g, 0, cap, rfl, hn, (Array.getElem?_eq_some_iff.1 hg).1, fun j hj => ?_⟩
    obtain ⟨k0, k1, k2⟩ := csE_at L j hj
    have hlen := csE_length L
    refine ⟨?_, ?_, ?_⟩
    · rw [Nat.zero_add, h.cellAt _ (by omega), k0]
    · rw [Nat.zero_add, h.cellAt _ (by omega), k1]
    · rw [Nat.zero_add, h.cellAt _ (by omega), k2]
theorem bel43 {w w' : World} {base n : Nat} {v : Value} {xs : List Value} (h : w.ownsRow base 43 3 v n xs) (k : Bel w w') : w'.ownsRow base 43 3 v n xs :=
  World.ownsRow.kept (row := none) h ⟨k.os, k.tape, k.output, k.size, fun j hj _ => k.block j hj⟩ (by cases v.ownBlock with | none => exact .inl rfl | some k => exact .inr (by simp))
theorem base43 {W : World} {base base' n : Nat} {v : Value} {xs : List Value} (h : W.ownsRow base 43 3 v n xs) (hb : base' ≤ base) : W.ownsRow base' 43 3 v n xs := by
  refine ⟨h.1, h.2.imp id ?_⟩
  rintro ⟨g, cap, cur, hv, hg, rest⟩
  exact ⟨g, cap, cur, hv, by omega, rest⟩
theorem ownc43 {W : World} {base B n : Nat} {v : Value} {xs : List Value} (h : W.ownsRow base 43 3 v n xs) (hB : some B ≠ v.ownBlock) (c0 c1 c2 c3 c4 c5 : Value) : ((((((W.setCell ⟨B, 0, none⟩ c0).setCell ⟨B, 1, none⟩ c1).setCell ⟨B, 2, none⟩ c2).setCell ⟨B, 3, none⟩ c3).setCell ⟨B, 4, none⟩ c4).setCell ⟨B, 5, none⟩ c5).ownsRow base 43 3 v n xs := (ownsRow_setCell_other (ownsRow_setCell_other (ownsRow_setCell_other (ownsRow_setCell_other (ownsRow_setCell_other (ownsRow_setCell_other h (fun e => hB e.symm) _) (fun e => hB e.symm) _) (fun e => hB e.symm) _) (fun e => hB e.symm) _) (fun e => hB e.symm) _) (fun e => hB e.symm) _)

theorem mem_mid (L : List M.En) (i : Nat) (x : M.En) (h : ∀ e ∈ L, e.1.length ≤ 1000 ∧ e.2.1.length ≤ 1000) (h1 : x.1.length ≤ 1000) (h2 : x.2.1.length ≤ 1000) : ∀ e ∈ L.take i ++ x :: L.drop i, e.1.length ≤ 1000 ∧ e.2.1.length ≤ 1000 := fun e he => by
  rcases List.mem_append.1 he with he | he
  · exact h e (List.mem_of_mem_take he)
  · rcases List.mem_cons.1 he with rfl | he
    · exact ⟨h1, h2⟩
    · exact h e (List.mem_of_mem_drop he)
theorem szs_midD (L : List M.En) (i : Nat) (e : M.En) : M.szs (L.take i ++ e :: L.drop i) = M.szs L + M.szE e := by
  have h : M.szs L = M.szs (L.take i) + M.szs (L.drop i) := by rw [← M.szs_append, List.take_append_drop]
  rw [M.szs_append, M.szs, h]; omega
theorem row3_one (w : World) (e : M.En) (t : TypeId) : Row3 (w.alloc (.cells #[.string (M.bs e.1), .string (M.bs e.2.1), .bool e.2.2] t)) w.heap.size 0 [e] := by
  have hn := Blk.new w #[.string (M.bs e.1), .string (M.bs e.2.1), .bool e.2.2] t
  intro j hj
  have : j = 0 := by simpa using hj
  subst this
  exact ⟨by rw [hn.cell]; rfl, by rw [hn.cell]; rfl, by rw [hn.cell]; rfl⟩
set_option maxHeartbeats 4000000 in
theorem rins_any (p : M.Pg) (x : Value) (e : M.En) (w : World) (hs : Sm p) (h9 : p.es.length ≤ 900) (hv : Vs w x p.es) (hu : M.Up M.cfS p.es) (hk : e.1.length ≤ 100000) (hvl : e.2.1.length ≤ 100000) :
    Calls Try.prog 12 #[pv p x, ev e] w fun r w' => ∃ x', r = .returned (.tuple #[pv (M.insP p e) x', .int .i64 (M.insE p e)]) ∧ w'.ownsRow w.heap.size 43 3 x' (M.insP p e).es.length (csE (M.insP p e).es) ∧ Bel w w' := by
  obtain ⟨k, v, m⟩ := e
  simp only at hk hvl
  obtain ⟨a, n, c, rfl⟩ := slice_of hv
  have zk : (M.bs k).size = k.length := M.bs_size k
  have zv : (M.bs v).size = v.length := M.bs_size v
  have HV := hid hv
  clear hv
  by_cases h1 : 64 < k.length
  · have h1' : (64 : Int) < (k.length : Int) := by omega
    have HE : Hid (M.insE p (k, v, m) = 1 ∧ M.insP p (k, v, m) = M.noPg) := by
      have : M.insE p (k, v, m) = 1 := by simp [M.insE, h1]
      exact ⟨this, by simp [M.insP, this]⟩
    go_enter Try.func12, Try.ntmps12
    go_wp2_with fail
    refine bodyPost_ret (results_cell_row2 (p := 4) (ty := 33) (u := 5) rfl _ _ (w.heap.size + 1 + 1) _ rfl (load33 (cs := noC) (JB.start w p _ k v m).b2 rfl)) rfl ?_
    exact ⟨.slice none 0 0, by rw [HE.out.1, HE.out.2]; rfl, by rw [HE.out.2]; exact World.ownsRow_nil _ _ _ _, Bel.al (Bel.al (Bel.al (Below.refl _ _) _) _) _⟩
  · have h1' : ¬ (64 : Int) < (k.length : Int) := by omega
    by_cases h2 : 100 < v.length
    · have h2' : (100 : Int) < (v.length : Int) := by omega
      have HE : Hid (M.insE p (k, v, m) = 1 ∧ M.insP p (k, v, m) = M.noPg) := by
        have : M.insE p (k, v, m) = 1 := by simp [M.insE, h1, h2]
        exact ⟨this, by simp [M.insP, this]⟩
      go_enter Try.func12, Try.ntmps12
      go_wp2_with fail
      refine bodyPost_ret (results_cell_row2 (p := 4) (ty := 33) (u := 5) rfl _ _ (w.heap.size + 1 + 1) _ rfl (load33 (cs := noC) (JB.start w p _ k v m).b2 rfl)) rfl ?_
      exact ⟨.slice none 0 0, by rw [HE.out.1, HE.out.2]; rfl, by rw [HE.out.2]; exact World.ownsRow_nil _ _ _ _, Bel.al (Bel.al (Bel.al (Below.refl _ _) _) _) _⟩
    · have h2' : ¬ (100 : Int) < (v.length : Int) := by omega
      have z2 : (M.bs k).toList = k := M.bs_toList _
      by_cases h3 : p.high = []
      · have hc : M.cov p.high k = true := by rw [h3]; rfl
        have z3 : (M.bs p.high).toList = [] := by rw [M.bs_toList, h3]
        clear h3
        have hfind := fun W hW => place_any p (.slice a n c) k W hs (HV.out.bel hW).vals hu
        have hps := M.pos_le (cf := M.cfS) p.es k
        cases hh : M.has M.cfS p.es k with
        | true =>
          have HE : Hid (M.insE p (k, v, m) = 12 ∧ M.insP p (k, v, m) = M.noPg) := by
            have : M.insE p (k, v, m) = 12 := by simp [M.insE, h1, h2, hc, hh]
            exact ⟨this, by simp [M.insP, this]⟩
          rw [hh] at hfind
          have HF := hid hfind
          clear hfind
          go_enter Try.func12, Try.ntmps12
          go_wp2_with (go_at_call 27; refine (HF.out _ (JB.start w p _ k v m).below).mono ?_; rintro e w3 ⟨rfl, b3⟩; have I3 := hid ((JB.start w p _ k v m).bel b3); clear b3; obtain ⟨e0, e1, e2, e3, e4, e5, f0, f1, f2⟩ := I3.out.cells; obtain ⟨d0, d1, d2, d3, d4, d5, df⟩ := I3.out.out; have df0 := df 0; have df1 := df 1; have df2 := df 2; have df3 := df 3; have df4 := df 4; have df5 := df 5; clear df)
          refine bodyPost_ret (results_cell_row2 (p := 4) (ty := 33) (u := 5) rfl _ _ (w.heap.size + 1 + 1) _ rfl (load33 (cs := noC) (set6 I3.out.b2 _ _ _ _ _ _) rfl)) rfl ?_
          exact ⟨.slice none 0 0, by rw [HE.out.1, HE.out.2]; rfl, by rw [HE.out.2]; exact World.ownsRow_nil _ _ _ _, bel6 I3.out.below (by omega) _ _ _ _ _ _⟩
        | false =>
          rw [hh] at hfind
          have HF := hid hfind
          obtain ⟨pp, hpp⟩ : ∃ pp, pp = M.pos M.cfS p.es k := ⟨_, rfl⟩
          have HSET : Hid (M.set M.cfS p.es k (v, m) = p.es.take pp ++ (k, v, m) :: p.es.drop pp) := by show _ = _; rw [hpp]; exact M.set_new _ _ _ hh
          clear hfind
          rw [← hpp] at HF hps
          clear hpp
          obtain ⟨a1, n1, c1, cut, VC⟩ := cutV HV.out pp hps
          obtain ⟨a2, n2, c2, rst, VR⟩ := restV HV.out pp hps
          have htl : (p.es.take pp).length = pp := by rw [List.length_take]; omega
          have hdl : (p.es.drop pp).length = p.es.length - pp := List.length_drop
          have hQl : (p.es.take pp ++ (k, v, m) :: p.es.drop pp).length = p.es.length + 1 := by rw [List.length_append, List.length_cons, htl, hdl]; omega
          have HVC := hid VC
          have HVR := hid VR
          have HTL := hid htl
          have HDL := hid hdl
          clear VC VR htl hdl
          go_enter Try.func12, Try.ntmps12
          go_wp2_with (first
            | (go_at_call 27; refine (HF.out _ (JB.start w p _ k v m).below).mono ?_; rintro e w3 ⟨rfl, b3⟩; have I3 := hid ((JB.start w p _ k v m).bel b3); clear b3; obtain ⟨e0, e1, e2, e3, e4, e5, f0, f1, f2⟩ := I3.out.cells; have Z3 := hid I3.out.b2.lt; obtain ⟨a4, c4, w4, g1, g2, g3⟩ := app31 w3 w3.heap.size (.slice none 0 0) 0 [] (World.ownsRow_nil _ _ _ _) _ _ (HVC.out w3 I3.out.below) (by rw [HTL.out]; omega) (Nat.le_refl _); rw [HTL.out, Nat.zero_add, List.nil_append] at g2; rw [HTL.out, Nat.zero_add] at g1; have I4 := hid (I3.out.grown g3 (fun j hj => by cases hj)); have O4 := hid g2; have G4 := hid g3.size; clear g2 g3 I3)
            | (at_builtin; first
              | (refine appL rfl _ _ rfl rfl rfl g1 ?_; clear g1 e0 e1 e2 e3 e4 e5 f0 f1 f2; obtain ⟨e0, e1, e2, e3, e4, e5, f0, f1, f2⟩ := I4.out.cells; have kA : Bel w4 (w4.alloc (.cells #[.string (M.bs k), .string (M.bs v), .bool m] 43)) := Bel.al (Below.refl _ _) _; have O4' := hid (bel43 O4.out kA); obtain ⟨a5, c5, w5, j1, j2, j3⟩ := app31 (w4.alloc (.cells #[.string (M.bs k), .string (M.bs v), .bool m] 43)) w3.heap.size _ _ _ O4'.out (.slice (some ⟨w4.heap.size, 0, none⟩) 1 1) [(k, v, m)] (.inr ⟨w4.heap.size, 0, 1, rfl, by simp, by simp, row3_one w4 (k, v, m) 43⟩) (by simp; omega) (by have := G4.out; have := kA.size; omega); have I5 := hid ((I4.out.bel kA).grown j3 (fun j hj => by have := (O4'.out.lt j hj).1; have := Z3.out; omega)); have O5 := hid j2; have G5 := hid (Nat.le_trans (Nat.le_trans G4.out kA.size) j3.size); clear j2 j3 kA O4 O4')
              | (refine appL rfl _ _ rfl rfl rfl j1 ?_; clear j1 e0 e1 e2 e3 e4 e5 f0 f1 f2 I4; obtain ⟨e0, e1, e2, e3, e4, e5, f0, f1, f2⟩ := I5.out.cells; obtain ⟨a6, c6, w6, l1, l2, l3⟩ := app31 w5 w3.heap.size _ _ _ O5.out _ _ (HVR.out w5 I5.out.below) (by have z := HDL.out; have z1 : [(k, v, m)].length = 1 := rfl; omega) G5.out; have I6 := hid (I5.out.grown l3 (fun j hj => by have := (O5.out.lt j hj).1; have := Z3.out; omega)); have hql : pp + [(k, v, m)].length + (p.es.drop pp).length = (p.es.take pp ++ (k, v, m) :: p.es.drop pp).length := (by have z := HDL.out; have z1 : [(k, v, m)].length = 1 := rfl; omega); have hqs : csE (p.es.take pp) ++ csE [(k, v, m)] ++ csE (p.es.drop pp) = csE (p.es.take pp ++ (k, v, m) :: p.es.drop pp) := (by simp only [csE, List.flatMap_cons, List.flatMap_nil, List.flatMap_append, List.append_nil, List.append_assoc]); rw [hql, hqs] at l2; rw [hql] at l1; have O6 := hid l2; have hszq : M.szs (p.es.take pp ++ (k, v, m) :: p.es.drop pp) = M.szs p.es + M.szE (k, v, m) := szs_midD p.es pp (k, v, m); have hmem : ∀ e ∈ p.es.take pp ++ (k, v, m) :: p.es.drop pp, e.1.length ≤ 1000 ∧ e.2.1.length ≤ 1000 := mem_mid p.es pp (k, v, m) hs.each (by show k.length ≤ 1000; omega) (by show v.length ≤ 1000; omega); generalize p.es.take pp ++ (k, v, m) :: p.es.drop pp = Q at *; have HMEM := hid hmem; have HSZQ := hid hszq; have HQL := hid hQl; clear l2 l3 hql hqs I5 O5 hmem hszq hQl; have HW := hid (with_any p a n c a6 Q.length c6 w6))
              | (refine appL rfl _ _ rfl rfl rfl l1 ?_; clear l1 e0 e1 e2 e3 e4 e5 f0 f1 f2; obtain ⟨e0, e1, e2, e3, e4, e5, f0, f1, f2⟩ := I6.out.cells))
            | (go_at_call 28; refine HW.out.mono ?_; rintro e w7 ⟨rfl, b7⟩; have I7 := hid (I6.out.bel b7); have O7 := hid (bel43 O6.out b7); clear b7))
          have kB : Bel w7 (w7.alloc (.cells #[.int .i64 p.lsn, .int .i64 p.kind, .int .i64 p.level, .int .i64 p.right, .string (M.bs p.high), .slice a6 Q.length c6] 33)) := Bel.al (Below.refl _ _) _
          have I8 := hid (I7.out.bel kB)
          have O8 := hid (bel43 O7.out kB)
          have N8 := hid (Blk.new w7 #[.int .i64 p.lsn, .int .i64 p.kind, .int .i64 p.level, .int .i64 p.right, .string (M.bs p.high), .slice a6 Q.length c6] 33)
          have HFR := hid (rfree_any { p with es := Q } (.slice a6 Q.length c6) _ ⟨hs.high, by have := HQL.out; show Q.length ≤ 1000; omega, HMEM.out⟩ (own_vs43 O8.out).vals)
          have hfq : M.free { p with es := Q } = M.free p - (M.szE (k, v, m) : Int) := by simp only [M.free, HSZQ.out]; omega
          rw [hfq] at HFR
          have B7 := hid kB
          clear e0 e1 e2 e3 e4 e5 f0 f1 f2 I6 O6 HW I7 O7 kB hfq
          generalize w7.alloc (.cells #[.int .i64 p.lsn, .int .i64 p.kind, .int .i64 p.level, .int .i64 p.right, .string (M.bs p.high), .slice a6 Q.length c6] 33) = w8 at *
          refine HFR.out.mono ?_
          rintro e w9 ⟨rfl, b9⟩
          have I9 := hid (I8.out.bel b9)
          have O9 := hid (bel43 O8.out b9)
          have N9 := hid (N8.out.below b9 N8.out.lt)
          clear b9 I8 O8 N8 B7
          obtain ⟨e0, e1, e2, e3, e4, e5⟩ := blk_cells N9.out
          obtain ⟨d0, d1, d2, d3, d4, d5, df⟩ := I9.out.out
          have df0 := df 0
          have df1 := df 1
          have df2 := df 2
          have df3 := df 3
          have df4 := df 4
          have df5 := df 5
          clear df
          by_cases h5 : M.free p < (M.szE (k, v, m) : Int)
          · have HE : Hid (M.insE p (k, v, m) = 8 ∧ M.insP p (k, v, m) = M.noPg) := by
              have : M.insE p (k, v, m) = 8 := by simp [M.insE, h1, h2, hc, hh, h5]
              exact ⟨this, by simp [M.insP, this]⟩
            have h5' : M.free p - (M.szE (k, v, m) : Int) < 0 := by omega
            go_wp2_with fail
            refine bodyPost_ret (results_cell_row2 (p := 4) (ty := 33) (u := 5) rfl _ _ (w.heap.size + 1 + 1) _ rfl (load33 (cs := noC) (set6 I9.out.b2 _ _ _ _ _ _) rfl)) rfl ?_
            exact ⟨.slice none 0 0, by rw [HE.out.1, HE.out.2]; rfl, by rw [HE.out.2]; exact World.ownsRow_nil _ _ _ _, bel6 I9.out.below (by omega) _ _ _ _ _ _⟩
          · have HE : Hid (M.insE p (k, v, m) = 0 ∧ M.insP p (k, v, m) = { p with es := M.set M.cfS p.es k (v, m) }) := by
              have : M.insE p (k, v, m) = 0 := by simp [M.insE, h1, h2, hc, hh, h5]
              exact ⟨this, by simp [M.insP, this]⟩
            have h5' : ¬ M.free p - (M.szE (k, v, m) : Int) < 0 := by omega
            go_wp2_with fail
            refine bodyPost_ret (results_cell_row2 (p := 4) (ty := 33) (u := 5) rfl _ _ (w.heap.size + 1 + 1) _ rfl (load33 (cs := #[.int .i64 p.lsn, .int .i64 p.kind, .int .i64 p.level, .int .i64 p.right, .string (M.bs p.high), .slice a6 Q.length c6]) (set6 I9.out.b2 _ _ _ _ _ _) rfl)) rfl ?_
            refine ⟨_, by rw [HE.out.1, HE.out.2, HSET.out]; rfl, ?_, bel6 I9.out.below (by omega) _ _ _ _ _ _⟩
            rw [HE.out.2, HSET.out]
            exact base43 (ownc43 O9.out (row_ne O9.out I9.out.b2 (by decide)) _ _ _ _ _ _) (by have := Z3.out; omega)
      · obtain ⟨hx, hy, hxy⟩ : ∃ hx hy, p.high = hx :: hy := by
          cases hp : p.high with
          | nil => exact absurd hp h3
          | cons hx hy => exact ⟨hx, hy, rfl⟩
        have z3 : (M.bs p.high).toList = hx :: hy := by rw [M.bs_toList, hxy]
        cases hc : M.cov p.high k with
        | false =>
          have HE : Hid (M.insE p (k, v, m) = 1 ∧ M.insP p (k, v, m) = M.noPg) := by
            have : M.insE p (k, v, m) = 1 := by simp [M.insE, h1, h2, hc]
            exact ⟨this, by simp [M.insP, this]⟩
          have q1 : Op.bytesLess k (hx :: hy) = false := by
            simp only [M.cov, Bool.or_eq_false_iff] at hc
            rw [← hxy]
            exact hc.2
          clear h3 hxy
          go_enter Try.func12, Try.ntmps12
          go_wp2_with fail
          refine bodyPost_ret (results_cell_row2 (p := 4) (ty := 33) (u := 5) rfl _ _ (w.heap.size + 1 + 1) _ rfl (load33 (cs := noC) (JB.start w p _ k v m).b2 rfl)) rfl ?_
          exact ⟨.slice none 0 0, by rw [HE.out.1, HE.out.2]; rfl, by rw [HE.out.2]; exact World.ownsRow_nil _ _ _ _, Bel.al (Bel.al (Bel.al (Below.refl _ _) _) _) _⟩
        | true =>
          have q1 : Op.bytesLess k (hx :: hy) = true := by
            simp only [M.cov, Bool.or_eq_true, List.isEmpty_iff] at hc
            rw [← hxy]
            exact hc.resolve_left h3
          clear h3 hxy
          have hfind := fun W hW => place_any p (.slice a n c) k W hs (HV.out.bel hW).vals hu
          have hps := M.pos_le (cf := M.cfS) p.es k
          cases hh : M.has M.cfS p.es k with
          | true =>
            have HE : Hid (M.insE p (k, v, m) = 12 ∧ M.insP p (k, v, m) = M.noPg) := by
              have : M.insE p (k, v, m) = 12 := by simp [M.insE, h1, h2, hc, hh]
              exact ⟨this, by simp [M.insP, this]⟩
            rw [hh] at hfind
            have HF := hid hfind
            clear hfind
            go_enter Try.func12, Try.ntmps12
            go_wp2_with (go_at_call 27; refine (HF.out _ (JB.start w p _ k v m).below).mono ?_; rintro e w3 ⟨rfl, b3⟩; have I3 := hid ((JB.start w p _ k v m).bel b3); clear b3; obtain ⟨e0, e1, e2, e3, e4, e5, f0, f1, f2⟩ := I3.out.cells; obtain ⟨d0, d1, d2, d3, d4, d5, df⟩ := I3.out.out; have df0 := df 0; have df1 := df 1; have df2 := df 2; have df3 := df 3; have df4 := df 4; have df5 := df 5; clear df)
            refine bodyPost_ret (results_cell_row2 (p := 4) (ty := 33) (u := 5) rfl _ _ (w.heap.size + 1 + 1) _ rfl (load33 (cs := noC) (set6 I3.out.b2 _ _ _ _ _ _) rfl)) rfl ?_
            exact ⟨.slice none 0 0, by rw [HE.out.1, HE.out.2]; rfl, by rw [HE.out.2]; exact World.ownsRow_nil _ _ _ _, bel6 I3.out.below (by omega) _ _ _ _ _ _⟩
          | false =>
            rw [hh] at hfind
            have HF := hid hfind
            obtain ⟨pp, hpp⟩ : ∃ pp, pp = M.pos M.cfS p.es k := ⟨_, rfl⟩
            have HSET : Hid (M.set M.cfS p.es k (v, m) = p.es.take pp ++ (k, v, m) :: p.es.drop pp) := by show _ = _; rw [hpp]; exact M.set_new _ _ _ hh
            clear hfind
            rw [← hpp] at HF hps
            clear hpp
            obtain ⟨a1, n1, c1, cut, VC⟩ := cutV HV.out pp hps
            obtain ⟨a2, n2, c2, rst, VR⟩ := restV HV.out pp hps
            have htl : (p.es.take pp).length = pp := by rw [List.length_take]; omega
            have hdl : (p.es.drop pp).length = p.es.length - pp := List.length_drop
            have hQl : (p.es.take pp ++ (k, v, m) :: p.es.drop pp).length = p.es.length + 1 := by rw [List.length_append, List.length_cons, htl, hdl]; omega
            have HVC := hid VC
            have HVR := hid VR
            have HTL := hid htl
            have HDL := hid hdl
            clear VC VR htl hdl
            go_enter Try.func12, Try.ntmps12
            go_wp2_with (first
              | (go_at_call 27; refine (HF.out _ (JB.start w p _ k v m).below).mono ?_; rintro e w3 ⟨rfl, b3⟩; have I3 := hid ((JB.start w p _ k v m).bel b3); clear b3; obtain ⟨e0, e1, e2, e3, e4, e5, f0, f1, f2⟩ := I3.out.cells; have Z3 := hid I3.out.b2.lt; obtain ⟨a4, c4, w4, g1, g2, g3⟩ := app31 w3 w3.heap.size (.slice none 0 0) 0 [] (World.ownsRow_nil _ _ _ _) _ _ (HVC.out w3 I3.out.below) (by rw [HTL.out]; omega) (Nat.le_refl _); rw [HTL.out, Nat.zero_add, List.nil_append] at g2; rw [HTL.out, Nat.zero_add] at g1; have I4 := hid (I3.out.grown g3 (fun j hj => by cases hj)); have O4 := hid g2; have G4 := hid g3.size; clear g2 g3 I3)
              | (at_builtin; first
                | (refine appL rfl _ _ rfl rfl rfl g1 ?_; clear g1 e0 e1 e2 e3 e4 e5 f0 f1 f2; obtain ⟨e0, e1, e2, e3, e4, e5, f0, f1, f2⟩ := I4.out.cells; have kA : Bel w4 (w4.alloc (.cells #[.string (M.bs k), .string (M.bs v), .bool m] 43)) := Bel.al (Below.refl _ _) _; have O4' := hid (bel43 O4.out kA); obtain ⟨a5, c5, w5, j1, j2, j3⟩ := app31 (w4.alloc (.cells #[.string (M.bs k), .string (M.bs v), .bool m] 43)) w3.heap.size _ _ _ O4'.out (.slice (some ⟨w4.heap.size, 0, none⟩) 1 1) [(k, v, m)] (.inr ⟨w4.heap.size, 0, 1, rfl, by simp, by simp, row3_one w4 (k, v, m) 43⟩) (by simp; omega) (by have := G4.out; have := kA.size; omega); have I5 := hid ((I4.out.bel kA).grown j3 (fun j hj => by have := (O4'.out.lt j hj).1; have := Z3.out; omega)); have O5 := hid j2; have G5 := hid (Nat.le_trans (Nat.le_trans G4.out kA.size) j3.size); clear j2 j3 kA O4 O4')
                | (refine appL rfl _ _ rfl rfl rfl j1 ?_; clear j1 e0 e1 e2 e3 e4 e5 f0 f1 f2 I4; obtain ⟨e0, e1, e2, e3, e4, e5, f0, f1, f2⟩ := I5.out.cells; obtain ⟨a6, c6, w6, l1, l2, l3⟩ := app31 w5 w3.heap.size _ _ _ O5.out _ _ (HVR.out w5 I5.out.below) (by have z := HDL.out; have z1 : [(k, v, m)].length = 1 := rfl; omega) G5.out; have I6 := hid (I5.out.grown l3 (fun j hj => by have := (O5.out.lt j hj).1; have := Z3.out; omega)); have hql : pp + [(k, v, m)].length + (p.es.drop pp).length = (p.es.take pp ++ (k, v, m) :: p.es.drop pp).length := (by have z := HDL.out; have z1 : [(k, v, m)].length = 1 := rfl; omega); have hqs : csE (p.es.take pp) ++ csE [(k, v, m)] ++ csE (p.es.drop pp) = csE (p.es.take pp ++ (k, v, m) :: p.es.drop pp) := (by simp only [csE, List.flatMap_cons, List.flatMap_nil, List.flatMap_append, List.append_nil, List.append_assoc]); rw [hql, hqs] at l2; rw [hql] at l1; have O6 := hid l2; have hszq : M.szs (p.es.take pp ++ (k, v, m) :: p.es.drop pp) = M.szs p.es + M.szE (k, v, m) := szs_midD p.es pp (k, v, m); have hmem : ∀ e ∈ p.es.take pp ++ (k, v, m) :: p.es.drop pp, e.1.length ≤ 1000 ∧ e.2.1.length ≤ 1000 := mem_mid p.es pp (k, v, m) hs.each (by show k.length ≤ 1000; omega) (by show v.length ≤ 1000; omega); generalize p.es.take pp ++ (k, v, m) :: p.es.drop pp = Q at *; have HMEM := hid hmem; have HSZQ := hid hszq; have HQL := hid hQl; clear l2 l3 hql hqs I5 O5 hmem hszq hQl; have HW := hid (with_any p a n c a6 Q.length c6 w6))
                | (refine appL rfl _ _ rfl rfl rfl l1 ?_; clear l1 e0 e1 e2 e3 e4 e5 f0 f1 f2; obtain ⟨e0, e1, e2, e3, e4, e5, f0, f1, f2⟩ := I6.out.cells))
              | (go_at_call 28; refine HW.out.mono ?_; rintro e w7 ⟨rfl, b7⟩; have I7 := hid (I6.out.bel b7); have O7 := hid (bel43 O6.out b7); clear b7))
            have kB : Bel w7 (w7.alloc (.cells #[.int .i64 p.lsn, .int .i64 p.kind, .int .i64 p.level, .int .i64 p.right, .string (M.bs p.high), .slice a6 Q.length c6] 33)) := Bel.al (Below.refl _ _) _
            have I8 := hid (I7.out.bel kB)
            have O8 := hid (bel43 O7.out kB)
            have N8 := hid (Blk.new w7 #[.int .i64 p.lsn, .int .i64 p.kind, .int .i64 p.level, .int .i64 p.right, .string (M.bs p.high), .slice a6 Q.length c6] 33)
            have HFR := hid (rfree_any { p with es := Q } (.slice a6 Q.length c6) _ ⟨hs.high, by have := HQL.out; show Q.length ≤ 1000; omega, HMEM.out⟩ (own_vs43 O8.out).vals)
            have hfq : M.free { p with es := Q } = M.free p - (M.szE (k, v, m) : Int) := by simp only [M.free, HSZQ.out]; omega
            rw [hfq] at HFR
            have B7 := hid kB
            clear e0 e1 e2 e3 e4 e5 f0 f1 f2 I6 O6 HW I7 O7 kB hfq
            generalize w7.alloc (.cells #[.int .i64 p.lsn, .int .i64 p.kind, .int .i64 p.level, .int .i64 p.right, .string (M.bs p.high), .slice a6 Q.length c6] 33) = w8 at *
            refine HFR.out.mono ?_
            rintro e w9 ⟨rfl, b9⟩
            have I9 := hid (I8.out.bel b9)
            have O9 := hid (bel43 O8.out b9)
            have N9 := hid (N8.out.below b9 N8.out.lt)
            clear b9 I8 O8 N8 B7
            obtain ⟨e0, e1, e2, e3, e4, e5⟩ := blk_cells N9.out
            obtain ⟨d0, d1, d2, d3, d4, d5, df⟩ := I9.out.out
            have df0 := df 0
            have df1 := df 1
            have df2 := df 2
            have df3 := df 3
            have df4 := df 4
            have df5 := df 5
            clear df
            by_cases h5 : M.free p < (M.szE (k, v, m) : Int)
            · have HE : Hid (M.insE p (k, v, m) = 8 ∧ M.insP p (k, v, m) = M.noPg) := by
                have : M.insE p (k, v, m) = 8 := by simp [M.insE, h1, h2, hc, hh, h5]
                exact ⟨this, by simp [M.insP, this]⟩
              have h5' : M.free p - (M.szE (k, v, m) : Int) < 0 := by omega
              go_wp2_with fail
              refine bodyPost_ret (results_cell_row2 (p := 4) (ty := 33) (u := 5) rfl _ _ (w.heap.size + 1 + 1) _ rfl (load33 (cs := noC) (set6 I9.out.b2 _ _ _ _ _ _) rfl)) rfl ?_
              exact ⟨.slice none 0 0, by rw [HE.out.1, HE.out.2]; rfl, by rw [HE.out.2]; exact World.ownsRow_nil _ _ _ _, bel6 I9.out.below (by omega) _ _ _ _ _ _⟩
            · have HE : Hid (M.insE p (k, v, m) = 0 ∧ M.insP p (k, v, m) = { p with es := M.set M.cfS p.es k (v, m) }) := by
                have : M.insE p (k, v, m) = 0 := by simp [M.insE, h1, h2, hc, hh, h5]
                exact ⟨this, by simp [M.insP, this]⟩
              have h5' : ¬ M.free p - (M.szE (k, v, m) : Int) < 0 := by omega
              go_wp2_with fail
              refine bodyPost_ret (results_cell_row2 (p := 4) (ty := 33) (u := 5) rfl _ _ (w.heap.size + 1 + 1) _ rfl (load33 (cs := #[.int .i64 p.lsn, .int .i64 p.kind, .int .i64 p.level, .int .i64 p.right, .string (M.bs p.high), .slice a6 Q.length c6]) (set6 I9.out.b2 _ _ _ _ _ _) rfl)) rfl ?_
              refine ⟨_, by rw [HE.out.1, HE.out.2, HSET.out]; rfl, ?_, bel6 I9.out.below (by omega) _ _ _ _ _ _⟩
              rw [HE.out.2, HSET.out]
              exact base43 (ownc43 O9.out (row_ne O9.out I9.out.b2 (by decide)) _ _ _ _ _ _) (by have := Z3.out; omega)
end Go.Proofs.Ytcmplklefeicbaa
