/-
  The contract of node's Insert, walked.
-/
import Derived.Test.YtcmplklefeicbaaF
import Derived.Test.YtcmplklefeicbaaQU
import Derived.Test.YtcmplklefeicbaaL
import Derived.ArgAppend
import Derived.Laws.Rows
import Derived.Laws.ResultCell
import Derived.Laws.OwnMore
namespace Go.Proofs.Ytcmplklefeicbaa.M
def insE (p : Pg) (e : En) : Int := if 64 < e.1.length then 1 else if 100 < e.2.1.length then 1 else if cov p.high e.1 = false then 1 else if has cfS p.es e.1 = true then 12 else if free p < (szE e : Int) then 8 else 0
def noPg : Pg := ⟨0, 0, 0, 0, [], []⟩
def insP (p : Pg) (e : En) : Pg := if insE p e = 0 then { p with es := set cfS p.es e.1 e.2 } else noPg
end Go.Proofs.Ytcmplklefeicbaa.M
namespace Go.Proofs.Ytcmplklefeicbaa
open Go.RowKit
set_option maxRecDepth 100000

theorem info30 : (Try.prog.info? 30).map (·.size) = some 6 := by kernel_rfl
theorem results_cell_row2 {fn : Func} {p u : Tmp} {ty : TypeId} (h : fn.results = #[.cell p ty, .tmp u]) (tmps : Array Value) (w : World) (g : Nat) (cs : Array Value)
    (hp : tmps.getD p undef = .pointer (some ⟨g, 0, none⟩)) (hl : (loadVar ty ⟨g, 0, none⟩).run Try.prog w = .ok (.agg cs) w) :
    (results fn tmps).run Try.prog w = .ok (.tuple #[.agg cs, tmps.getD u undef]) w := by
  rw [results_cell_tmp h, hp]
  simp [asAddr, hl]
theorem load30 {w : World} {g : Nat} {cs : Array Value} (hg : w.heap[g]? = some (.cells cs 30 (0, 0))) (h6 : cs.size = 6) : (loadVar 30 ⟨g, 0, none⟩).run Try.prog w = .ok (.agg cs) w :=
  run_loadVar_row w g 30 30 cs (0, 0) _ hg (by rfl) rfl (by rw [info30, h6])
def csE (L : List M.En) : List Value := L.flatMap fun e => [.string (M.bs e.1), .string (M.bs e.2.1), .bool e.2.2]
theorem csE_length (L : List M.En) : (csE L).length = L.length * 3 := by
  induction L with
  | nil => rfl
  | cons v L ih => simp only [csE, List.flatMap_cons, List.length_append, List.length_cons, List.length_nil] at *; omega
theorem csE_append (L L' : List M.En) : csE (L ++ L') = csE L ++ csE L' := by simp [csE]
theorem csE_at : ∀ (L : List M.En) (j : Nat) (h : j < L.length), (csE L)[j * 3]? = some (.string (M.bs L[j].1)) ∧ (csE L)[j * 3 + 1]? = some (.string (M.bs L[j].2.1)) ∧ (csE L)[j * 3 + 2]? = some (.bool L[j].2.2)
  | v :: L, 0, _ => by simp [csE, List.flatMap_cons]
  | v :: L, j + 1, h => by
    have := csE_at L j (by simpa using h)
    have e1 : (j + 1) * 3 = j * 3 + 3 := by omega
    rw [e1]
    simpa [csE, List.flatMap_cons, show j * 3 + 3 + 1 = j * 3 + 1 + 3 by omega, show j * 3 + 3 + 2 = j * 3 + 2 + 3 by omega] using this
theorem csE_one (L : List M.En) : ∀ u ∈ csE L, u.oneCell' = true := by
  intro u hu
  simp only [csE, List.mem_flatMap] at hu
  obtain ⟨e, _, hu⟩ := hu
  simp at hu
  rcases hu with rfl | rfl | rfl <;> rfl
theorem row3_cells {w : World} {b off : Nat} {L : List M.En} (h : Row3 w b off L) : ∀ j u, (csE L)[j]? = some u → w.cell? ⟨b, off + j, none⟩ = some u := by
  intro j u hj
  have hjl : j < L.length * 3 := by rw [← csE_length]; exact (List.getElem?_eq_some_iff.1 hj).1
  obtain ⟨k0, k1, k2⟩ := csE_at L (j / 3) (by omega)
  obtain ⟨r0, r1, r2⟩ := h (j / 3) (by omega)
  rcases (show j % 3 = 0 ∨ j % 3 = 1 ∨ j % 3 = 2 by omega) with hm | hm | hm
  · have e : j / 3 * 3 = j := by omega
    rw [e] at k0 r0
    rw [r0, ← k0, hj]
  · have e : j / 3 * 3 + 1 = j := by omega
    rw [e] at k1
    rw [show off + j / 3 * 3 + 1 = off + j by omega] at r1
    rw [r1, ← k1, hj]
  · have e : j / 3 * 3 + 2 = j := by omega
    rw [e] at k2
    rw [show off + j / 3 * 3 + 2 = off + j by omega] at r2
    rw [r2, ← k2, hj]
theorem vals_own {w : World} {base : Nat} {v : Value} {L : List M.En} (h : w.ownsRow base 40 3 v L.length (csE L)) : Vals w v L := by
  rcases h.2 with ⟨rfl, e⟩ | ⟨g, cap, cur, rfl, _⟩
  · have : L = [] := List.length_eq_zero_iff.1 e
    subst this
    exact ⟨none, 0, rfl, .inl rfl⟩
  · refine ⟨_, cap, rfl, .inr ⟨g, 0, rfl, fun j hj => ?_⟩⟩
    obtain ⟨k0, k1, k2⟩ := csE_at L j hj
    have hlen := csE_length L
    refine ⟨?_, ?_, ?_⟩
    · rw [Nat.zero_add, h.cellAt _ (by omega), k0]
    · rw [Nat.zero_add, h.cellAt _ (by omega), k1]
    · rw [Nat.zero_add, h.cellAt _ (by omega), k2]
abbrev noC : Array Value := #[.int .i64 0, .int .i64 0, .int .i64 0, .int .i64 0, .string ⟨#[]⟩, .slice none 0 0]
/-- The boxes of a call of Insert. -/
structure IB (w W : World) (p : M.Pg) (x : Value) (k v : List UInt8) (m : Bool) : Prop where
  b0 : Blk W w.heap.size #[.int .i64 p.lsn, .int .i64 p.kind, .int .i64 p.level, .int .i64 p.right, .string (M.bs p.high), x] 30
  b1 : Blk W (w.heap.size + 1) #[.string (M.bs k), .string (M.bs v), .bool m] 40
  b2 : Blk W (w.heap.size + 1 + 1) noC 30
  below : Bel w W
theorem IB.bel {w W W' : World} {p : M.Pg} {x : Value} {k v : List UInt8} {m : Bool} (h : IB w W p x k v m) (b : Bel W W') : IB w W' p x k v m :=
  ⟨h.b0.below b h.b0.lt, h.b1.below b h.b1.lt, h.b2.below b h.b2.lt, h.below.tr b⟩
theorem IB.start (w : World) (p : M.Pg) (x : Value) (k v : List UInt8) (m : Bool) :
    IB w (((w.alloc (.cells #[.int .i64 p.lsn, .int .i64 p.kind, .int .i64 p.level, .int .i64 p.right, .string (M.bs p.high), x] 30)).alloc (.cells #[.string (M.bs k), .string (M.bs v), .bool m] 40)).alloc (.cells noC 30)) p x k v m := by
  obtain ⟨h1, h2⟩ := heap_two w (.cells #[.int .i64 p.lsn, .int .i64 p.kind, .int .i64 p.level, .int .i64 p.right, .string (M.bs p.high), x] 30) (.cells #[.string (M.bs k), .string (M.bs v), .bool m] 40)
  have e : w.heap.size + 1 + 1 = ((w.alloc (.cells #[.int .i64 p.lsn, .int .i64 p.kind, .int .i64 p.level, .int .i64 p.right, .string (M.bs p.high), x] 30)).alloc (.cells #[.string (M.bs k), .string (M.bs v), .bool m] 40)).heap.size := by simp
  exact ⟨Blk.al (show Blk _ _ _ _ from h1) _, Blk.al (show Blk _ _ _ _ from h2) _, by rw [e]; exact Blk.new _ _ _, Bel.al (Bel.al (Bel.al (Below.refl _ _) _) _) _⟩
theorem IB.cells {w W : World} {p : M.Pg} {x : Value} {k v : List UInt8} {m : Bool} (h : IB w W p x k v m) :
    W.cell? ⟨w.heap.size, 0, none⟩ = some (.int .i64 p.lsn) ∧ W.cell? ⟨w.heap.size, 1, none⟩ = some (.int .i64 p.kind) ∧ W.cell? ⟨w.heap.size, 2, none⟩ = some (.int .i64 p.level) ∧ W.cell? ⟨w.heap.size, 3, none⟩ = some (.int .i64 p.right) ∧ W.cell? ⟨w.heap.size, 4, none⟩ = some (.string (M.bs p.high)) ∧ W.cell? ⟨w.heap.size, 5, none⟩ = some x ∧
    W.cell? ⟨w.heap.size + 1, 0, none⟩ = some (.string (M.bs k)) ∧ W.cell? ⟨w.heap.size + 1, 1, none⟩ = some (.string (M.bs v)) ∧ W.cell? ⟨w.heap.size + 1, 2, none⟩ = some (.bool m) :=
  ⟨by rw [h.b0.cell]; rfl, by rw [h.b0.cell]; rfl, by rw [h.b0.cell]; rfl, by rw [h.b0.cell]; rfl, by rw [h.b0.cell]; rfl, by rw [h.b0.cell]; rfl, by rw [h.b1.cell]; rfl, by rw [h.b1.cell]; rfl, by rw [h.b1.cell]; rfl⟩
theorem IB.out {w W : World} {p : M.Pg} {x : Value} {k v : List UInt8} {m : Bool} (h : IB w W p x k v m) :
    W.cell? ⟨w.heap.size + 1 + 1, 0, none⟩ = some (.int .i64 0) ∧ W.cell? ⟨w.heap.size + 1 + 1, 1, none⟩ = some (.int .i64 0) ∧ W.cell? ⟨w.heap.size + 1 + 1, 2, none⟩ = some (.int .i64 0) ∧ W.cell? ⟨w.heap.size + 1 + 1, 3, none⟩ = some (.int .i64 0) ∧ W.cell? ⟨w.heap.size + 1 + 1, 4, none⟩ = some (.string ⟨#[]⟩) ∧ W.cell? ⟨w.heap.size + 1 + 1, 5, none⟩ = some (.slice none 0 0) ∧ (∀ j, W.frozen? ⟨w.heap.size + 1 + 1, j, none⟩ = false) :=
  ⟨by rw [h.b2.cell]; rfl, by rw [h.b2.cell]; rfl, by rw [h.b2.cell]; rfl, by rw [h.b2.cell]; rfl, by rw [h.b2.cell]; rfl, by rw [h.b2.cell]; rfl, h.b2.frozen⟩
theorem wp_normal {P : Program} {s : Code} {K : Go.Act → World → Prop} {Q : Exit → Go.Act → World → Prop} {a : Go.Act} {w : World} (h : s.wp P (fun e a w => e = .normal ∧ K a w) a w) : s.wp P (Exit.then K Q) a w :=
  wp_mono h (by rintro e a w ⟨rfl, h⟩; exact h)
theorem set6 {W : World} {B : Nat} {t : TypeId} {a0 a1 a2 a3 a4 a5 : Value} (h : Blk W B #[a0, a1, a2, a3, a4, a5] t) (c0 c1 c2 c3 c4 c5 : Value) : Blk ((((((W.setCell ⟨B, 0, none⟩ c0).setCell ⟨B, 1, none⟩ c1).setCell ⟨B, 2, none⟩ c2).setCell ⟨B, 3, none⟩ c3).setCell ⟨B, 4, none⟩ c4).setCell ⟨B, 5, none⟩ c5) B #[c0, c1, c2, c3, c4, c5] t := by
  have z := (((((h.set 0 c0).set 1 c1).set 2 c2).set 3 c3).set 4 c4).set 5 c5
  simpa using z
theorem bel6 {w W : World} {B : Nat} (h : Bel w W) (hB : w.heap.size ≤ B) (c0 c1 c2 c3 c4 c5 : Value) : Bel w ((((((W.setCell ⟨B, 0, none⟩ c0).setCell ⟨B, 1, none⟩ c1).setCell ⟨B, 2, none⟩ c2).setCell ⟨B, 3, none⟩ c3).setCell ⟨B, 4, none⟩ c4).setCell ⟨B, 5, none⟩ c5) :=
  (Below.setCell (Below.setCell (Below.setCell (Below.setCell (Below.setCell (Below.setCell h (by simpa using hB) _) (by simpa using hB) _) (by simpa using hB) _) (by simpa using hB) _) (by simpa using hB) _) (by simpa using hB) _)
theorem run_cut3 (b off n cap i : Nat) (h : i ≤ n) (hc : n ≤ cap) (W : World) : (Instr.slice 28 (.slice (some ⟨b, off, none⟩) n cap) none (some (.int .i64 i)) (some (.int .i64 i))).run Try.prog W = .ok (.slice (some ⟨b, off, none⟩) i i) W := by
  obtain ⟨i0, hi, hz0, hz1, hz2⟩ := info_parts info40
  have hu := Try.underlying28
  have h1 : i ≤ cap := by omega
  have e : (⟨b, off, none⟩ : Addr).add 0 = ⟨b, off, none⟩ := add_lit b off 0
  simp [Instr.slice, run_underlying hu, Instr.sliceBounds, Instr.sliceBound, asIntOf, sizeOf, typeInfo, hi, Sem.run_bind, h1, e]
theorem run_rest (b off n cap i : Nat) (h : i ≤ n) (_hc : n ≤ cap) (W : World) : (Instr.slice 28 (.slice (some ⟨b, off, none⟩) n cap) (some (.int .i64 i)) none none).run Try.prog W = .ok (.slice (if cap = i then some ⟨b, off, none⟩ else some ⟨b, off + i * 3, none⟩) (n - i) (cap - i)) W := by
  obtain ⟨i0, hi, hz0, hz1, hz2⟩ := info_parts info40
  have hu := Try.underlying28
  have e : (⟨b, off, none⟩ : Addr).add (i * i0.size) = ⟨b, off + i * 3, none⟩ := by rw [add_lit, hz1]
  simp [Instr.slice, run_underlying hu, Instr.sliceBounds, Instr.sliceBound, asIntOf, sizeOf, typeInfo, hi, Sem.run_bind, h, e]
theorem app_run_step {ops : Array Oper} {o : Oper} {a : Go.Act} {K : Go.Act → World → Prop} {Q : Exit → Go.Act → World → Prop} {E : Prop} {W W' : World} {v xv v' : Value} (hgd : o.guard = none) (s x : Operand) (t : TypeId)
    (ho : o.op = .call { callee := .builtin .append, args := #[s, x], argTypes := #[t, t] }) (hs : a.eval s = v) (hx : a.eval x = xv) (hr : (Builtin.append_ #[t, t] o.type #[v, xv]).run Try.prog W = .ok v' W')
    (h : K (a.put o.dst v') W') : if Region.wanted o (yielded ops a.tmps) = true then Oper.wp Try.prog o a W K Q else E := by
  have hw : Region.wanted o (yielded ops a.tmps) = true := by simp [Region.wanted, hgd]
  rw [if_pos hw]
  unfold Oper.wp execOp
  simp only [ho, resolve, invoke, builtin, Sem.run_bind, Sem.run_pure, Result.andThen_ok, List.map_toArray, List.map_cons, List.map_nil, hs, hx, hr]
  exact h
/-- A slice that shows entries: nil, or a row. -/
def Vs (w : World) (x : Value) (L : List M.En) : Prop := (x = .slice none 0 0 ∧ L = []) ∨ ∃ b off cap, x = .slice (some ⟨b, off, none⟩) L.length cap ∧ L.length ≤ cap ∧ b < w.heap.size ∧ Row3 w b off L
theorem Vs.vals {w : World} {x : Value} {L : List M.En} (h : Vs w x L) : Vals w x L := by
  rcases h with ⟨rfl, rfl⟩ | ⟨b, off, cap, rfl, _, _, hr⟩
  · exact ⟨none, 0, rfl, .inl rfl⟩
  · exact ⟨_, cap, rfl, .inr ⟨b, off, rfl, hr⟩⟩
theorem Vs.bel {w w' : World} {x : Value} {L : List M.En} (h : Vs w x L) (k : Bel w w') : Vs w' x L := by
  rcases h with h | ⟨b, off, cap, rfl, hc, hb, hr⟩
  · exact .inl h
  · exact .inr ⟨b, off, cap, rfl, hc, Nat.lt_of_lt_of_le hb k.size, hr.below k hb⟩
theorem own_vs {w : World} {base : Nat} {v : Value} {L : List M.En} (h : w.ownsRow base 40 3 v L.length (csE L)) : Vs w v L := by
  rcases h.2 with ⟨rfl, e⟩ | ⟨g, cap, cur, rfl, _, _, hc, _⟩
  · exact .inl ⟨rfl, List.length_eq_zero_iff.1 e⟩
  · obtain ⟨a', cap', e, h'⟩ := vals_own h
    cases e
    rcases h' with rfl | ⟨b, off, e, hr⟩
    · exact .inr ⟨g, 0, cap, rfl, by simp, (h.lt g rfl).2, fun j hj => by simp at hj⟩
    · cases e
      exact .inr ⟨g, 0, cap, rfl, by omega, (h.lt g rfl).2, hr⟩
/-- What an entry between the parts of a row gives. -/
theorem app_mid {w : World} {b off n cap i : Nat} {es : List M.En} (hn : es.length = n) (hi : i ≤ n) (_hc : n ≤ cap) (hb : b < w.heap.size) (hr : Row3 w b off es) (hsm : n ≤ 1000) (e : M.En) :
    ∃ v1 w1, (Builtin.append_ #[28, 28] 28 #[.slice (some ⟨b, off, none⟩) i i, .slice (some ⟨w.heap.size, 0, none⟩) 1 1]).run Try.prog (w.alloc (.cells #[.string (M.bs e.1), .string (M.bs e.2.1), .bool e.2.2] 40)) = .ok v1 w1 ∧ Bel w w1 ∧ v1.oneCell' = true ∧
      ∃ v2 w2, (Builtin.append_ #[28, 28] 28 #[v1, .slice (if cap = i then some ⟨b, off, none⟩ else some ⟨b, off + i * 3, none⟩) (n - i) (cap - i)]).run Try.prog w1 = .ok v2 w2 ∧ w2.ownsRow w.heap.size 40 3 v2 (n + 1) (csE (es.take i ++ e :: es.drop i)) ∧ Bel w w2 := by
  obtain ⟨i0, hinfo, hz0, hz1, hz2⟩ := info_parts info40
  have kA : Bel w (w.alloc (.cells #[.string (M.bs e.1), .string (M.bs e.2.1), .bool e.2.2] 40)) := Bel.al (Below.refl _ _) _
  have hcs := row3_cells (hr.below kA hb)
  have htk : ∀ j u, (csE (es.take i))[j]? = some u → (w.alloc (.cells #[.string (M.bs e.1), .string (M.bs e.2.1), .bool e.2.2] 40)).cell? ((⟨b, off, none⟩ : Addr).add j) = some u := fun j u hj => by
    rw [add_lit]
    refine hcs j u ?_
    rw [← List.take_append_drop i es, csE_append]
    rw [List.getElem?_append_left (by exact (List.getElem?_eq_some_iff.1 hj).1)]
    exact hj
  have hdr : ∀ w', Bel w w' → ∀ j u, (csE (es.drop i))[j]? = some u → w'.cell? (⟨b, off + i * 3 + j, none⟩ : Addr) = some u := fun w' k' j u hj => by
    have := row3_cells (hr.below k' hb) (i * 3 + j) u (by
      conv => lhs; rw [← List.take_append_drop i es, csE_append]
      rw [List.getElem?_append_right (by rw [csE_length, List.length_take]; omega), csE_length, List.length_take]
      rw [show i * 3 + j - min i es.length * 3 = j by rw [Nat.min_eq_left (by omega)]; omega]
      exact hj)
    rw [Nat.add_assoc]; exact this
  obtain ⟨v1, w1, h1, h2, h3⟩ := run_append_arg_grows (P := Try.prog) (w := w.alloc (.cells #[.string (M.bs e.1), .string (M.bs e.2.1), .bool e.2.2] 40)) 28 28 40 i0 _ 3 40 Try.underlying28 hinfo hz0 hz1 hz2 rfl (by decide) ⟨b, off, none⟩ i i (csE (es.take i)) (by rw [csE_length, List.length_take]; omega) htk ⟨w.heap.size, 0, none⟩ 1 1 (csE [e]) (by rw [csE_length]; rfl) (fun j u hj => by
    rw [add_lit, Nat.zero_add, World.cell?_alloc_at (hn := rfl)]
    simpa [csE] using hj) (by omega) (by unfold maxLen; omega) (by omega)
  have k1 : Bel w w1 := kA.grown h3 (by simp) (by intro k hk; cases hk)
  have o1 : v1.oneCell' = true := by rcases h2.2 with ⟨rfl, _⟩ | ⟨_, _, _, rfl, _⟩ <;> rfl
  have h2' : w1.ownsRow w.heap.size 40 3 v1 (i + 1) (csE (es.take i ++ [e])) := by
    rw [csE_append]
    refine ⟨h2.1, h2.2.imp id ?_⟩
    rintro ⟨g, cap, cur, hv, hg, rest⟩
    exact ⟨g, cap, cur, hv, by simp at hg; omega, rest⟩
  refine ⟨v1, w1, h1, k1, o1, ?_⟩
  have hfin : csE (es.take i ++ [e]) ++ csE (es.drop i) = csE (es.take i ++ e :: es.drop i) := by rw [← csE_append]; simp
  have hl : (csE (es.drop i)).length = (n - i) * 3 := by rw [csE_length, List.length_drop, hn]
  by_cases hci : cap = i
  · rw [if_pos hci]
    obtain ⟨v2, w2, g1, g2, g3, _, g5⟩ := run_append_own_at (P := Try.prog) w1 w.heap.size 28 28 40 i0 _ 3 40 Try.underlying28 hinfo hz0 hz1 hz2 rfl (by decide) v1 (i + 1) _ h2' ⟨b, off, none⟩ (n - i) (cap - i) (csE (es.drop i)) hl (fun j u hj => by
      have : es.drop i = [] := List.drop_eq_nil_of_le (by omega)
      rw [this] at hj; simp [csE] at hj) (csE_one _) (by unfold maxLen; omega) (by omega) k1.size
    refine ⟨v2, w2, g1, by rw [← hfin, show n + 1 = i + 1 + (n - i) by omega]; exact g2, k1.grown g3 k1.size (fun k hk => (h2'.lt k hk).1)⟩
  · rw [if_neg hci]
    obtain ⟨v2, w2, g1, g2, g3, _, g5⟩ := run_append_own_at (P := Try.prog) w1 w.heap.size 28 28 40 i0 _ 3 40 Try.underlying28 hinfo hz0 hz1 hz2 rfl (by decide) v1 (i + 1) _ h2' ⟨b, off + i * 3, none⟩ (n - i) (cap - i) (csE (es.drop i)) hl (fun j u hj => by
      rw [add_lit]; exact hdr w1 k1 j u hj) (csE_one _) (by unfold maxLen; omega) (by omega) k1.size
    refine ⟨v2, w2, g1, by rw [← hfin, show n + 1 = i + 1 + (n - i) by omega]; exact g2, k1.grown g3 k1.size (fun k hk => (h2'.lt k hk).1)⟩
end Go.Proofs.Ytcmplklefeicbaa
