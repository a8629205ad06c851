/-
  A raw node and an entry of the law's, as they come in.
-/
import Derived.Test.YtcmplklefeicbaaZ
namespace Go.Proofs.Ytcmplklefeicbaa
open Go.RowKit Go.ChangeShapes Go.WideShapes Go.ChangeAt
set_option maxRecDepth 100000

theorem cellsE24 : Try.prog.cellsOf 24 = 5 := by kernel_rfl
theorem cellsE22 : Try.prog.cellsOf 22 = 1 := by kernel_rfl
theorem cellsE3 : Try.prog.cellsOf 3 = 1 := by kernel_rfl
theorem five_of {l : List Value} (h : l.length = 5) : ∃ a b c d e, l = [a, b, c, d, e] := by
  rcases l with _ | ⟨a, _ | ⟨b, _ | ⟨c, _ | ⟨d, _ | ⟨e, _ | ⟨f, r⟩⟩⟩⟩⟩⟩ <;> first | (simp at h; done) | exact ⟨a, b, c, d, e, rfl⟩
theorem three_of {l : List Value} (h : l.length = 3) : ∃ a b c, l = [a, b, c] := by
  rcases l with _ | ⟨a, _ | ⟨b, _ | ⟨c, _ | ⟨d, r⟩⟩⟩⟩ <;> first | (simp at h; done) | exact ⟨a, b, c, rfl⟩
section
variable {H : Type} {enc : TypeId × Value → H} {W : World}
theorem open_raw {base : Nat} {r : Reach} {v : Value} {d : DataW H} {p : List MemPlace} (hv : Value.okWide Try.prog W r base 24 v)
    (h : DataW.Trod enc Try.prog W 0 (fun _ => true) true 24 v d p) : ∃ (L : Int × Int × List UInt8 × List M.En × Bool) (a : Option Addr) (cap : Nat),
      v = .agg #[.int .i64 L.1, .int .i64 L.2.1, .string (M.bs L.2.2.1), .slice a L.2.2.2.1.length cap, .bool L.2.2.2.2] ∧ Vals W (.slice a L.2.2.2.1.length cap) L.2.2.2.1 ∧ L.2.2.2.1.length ≤ maxLen ∧ (∀ e ∈ L.2.2.2.1, e.1.length ≤ maxLen ∧ e.2.1.length ≤ maxLen) ∧ L.2.2.1.length ≤ maxLen := by
  obtain ⟨cs, rfl, hcs⟩ := okWide_struct Try.underlying24 hv
  obtain ⟨fuel, hf⟩ := h
  have e : (Value.agg cs).cells.toList = cs.toList := rfl
  rw [e] at hf
  obtain ⟨xs, n, _, _, hl, hxl, hel⟩ := DataW.trod_struct Try.underlying24 hf
  rw [cellsE24] at hl
  obtain ⟨c0, c1, c2, c3, c4, hc⟩ := five_of hl
  have hxl : xs.length = 5 := hxl
  have t0 := hel 0 _ rfl
  have t1 := hel 1 _ rfl
  have t2 := hel 2 _ rfl
  have t3 := hel 3 _ rfl
  have t4 := hel 4 _ rfl
  rw [List.getElem?_eq_getElem (by omega)] at t0 t1 t2 t3 t4
  rw [hc] at t0 t1 t2 t3 t4
  have t0 : DataW.trod enc Try.prog W 0 (fun _ => true) true n 3 ([c0, c1, c2, c3, c4].drop 0 |>.take (Try.prog.cellsOf 3)) = some _ := t0
  have t1 : DataW.trod enc Try.prog W 0 (fun _ => true) true n 3 ([c0, c1, c2, c3, c4].drop 1 |>.take (Try.prog.cellsOf 3)) = some _ := t1
  have t2 : DataW.trod enc Try.prog W 0 (fun _ => true) true n 9 ([c0, c1, c2, c3, c4].drop 2 |>.take (Try.prog.cellsOf 9)) = some _ := t2
  have t3 : DataW.trod enc Try.prog W 0 (fun _ => true) true n 22 ([c0, c1, c2, c3, c4].drop 3 |>.take (Try.prog.cellsOf 22)) = some _ := t3
  have t4 : DataW.trod enc Try.prog W 0 (fun _ => true) true n 4 ([c0, c1, c2, c3, c4].drop 4 |>.take (Try.prog.cellsOf 4)) = some _ := t4
  rw [cellsE3] at t0 t1
  rw [cellsE9] at t2
  rw [cellsE22] at t3
  rw [cellsE4] at t4
  obtain ⟨n0, e0, _, _⟩ := DataW.trod_int Try.underlying3 t0
  obtain ⟨n1, e1, _, _⟩ := DataW.trod_int Try.underlying3 t1
  obtain ⟨s, e2, _, hs⟩ := DataW.trod_string Try.underlying9 t2
  obtain ⟨L, hV, hll, hle⟩ := open_el t3
  obtain ⟨b, e4, _⟩ := DataW.trod_bool Try.underlying4 t4
  obtain ⟨a', cap', hx, hV'⟩ := id hV
  have e0 := (List.cons.inj e0).1
  have e1 := (List.cons.inj e1).1
  have e2 := (List.cons.inj e2).1
  have e4 := (List.cons.inj e4).1
  rw [hx] at hV
  refine ⟨(n0, n1, s.data.toList, L, b), a', cap', ?_, hV, hll, hle, by rw [← Lib.size_eq]; exact hs⟩
  have hcs' : cs = #[c0, c1, c2, c3, c4] := by
    apply Array.toList_inj.1
    exact hc
  rw [hcs', e0, e1, e2, hx, e4, M.bs_of]
theorem open_ent {base : Nat} {r : Reach} {v : Value} {d : DataW H} {p : List MemPlace} (hv : Value.okWide Try.prog W r base 26 v)
    (h : DataW.Trod enc Try.prog W 0 (fun _ => true) true 26 v d p) : ∃ (L : M.En) (_ : Unit) (_ : Unit), v = .agg #[.string (M.bs L.1), .string (M.bs L.2.1), .bool L.2.2] ∧ L.1.length ≤ maxLen ∧ L.2.1.length ≤ maxLen := by
  obtain ⟨cs, rfl, hcs⟩ := okWide_struct Try.underlying26 hv
  obtain ⟨fuel, hf⟩ := h
  have e : (Value.agg cs).cells.toList = cs.toList := rfl
  rw [e] at hf
  obtain ⟨y0, y1, y2, k, _, hl, t0, t1, t2⟩ := Deep.trod_struct3 Try.underlying26 hf
  rw [cellsE26] at hl
  obtain ⟨c0, c1, c2, hc⟩ := three_of hl
  rw [hc] at t0 t1 t2
  obtain ⟨s, e0, _, hs⟩ := DataW.trod_string Try.underlying9 t0
  obtain ⟨s', e1, _, hs'⟩ := DataW.trod_string Try.underlying9 t1
  obtain ⟨b, e2, _⟩ := DataW.trod_bool Try.underlying4 t2
  simp only [cellsE9, cellsE4, List.drop_zero, List.drop_succ_cons, List.take_succ_cons, List.take_zero, List.cons.injEq, and_true] at e0 e1 e2
  have hcs' : cs = #[c0, c1, c2] := by
    apply Array.toList_inj.1
    exact hc
  refine ⟨(s.data.toList, s'.data.toList, b), (), (), ?_, by rw [← Lib.size_eq]; exact hs, by rw [← Lib.size_eq]; exact hs'⟩
  rw [hcs', e0, e1, e2, M.bs_of, M.bs_of]
end
end Go.Proofs.Ytcmplklefeicbaa
