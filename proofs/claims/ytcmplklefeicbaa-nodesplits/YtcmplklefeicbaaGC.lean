/-
  The document's Mark, where it marks, walked.
-/
import Derived.Test.YtcmplklefeicbaaGB
namespace Go.Proofs.Ytcmplklefeicbaa
open Go.RowKit
set_option maxRecDepth 100000

set_option maxHeartbeats 8000000 in
theorem rmark_yes (p : M.Pg) (b off cap : Nat) (k : List UInt8) (w : World) (hs : Sm p) (hcap : p.es.length ≤ cap) (hb : b < w.heap.size) (hr : Row3 w b off p.es) (hu : M.Up M.cfS p.es) (hh : M.has M.cfS p.es k = true) (i : Nat) (hi : i = M.pos M.cfS p.es k) (hlt : i < p.es.length) (mk : Bool) (hmk : mk = (p.es[i]'hlt).2.2) :
    Calls Try.prog 15 #[pv p (.slice (some ⟨b, off, none⟩) p.es.length cap), .string (M.bs k), .bool (!mk)] w fun e w' => ∃ x', e = .returned (.tuple #[pv { p with es := M.mark p.es i (!mk) } x', .int .i64 0]) ∧ w'.ownsRow w.heap.size 43 3 x' p.es.length (csE (M.mark p.es i (!mk))) ∧ Bel w w' := by
  have hv : Vals w (.slice (some ⟨b, off, none⟩) p.es.length cap) p.es := ⟨_, cap, rfl, .inr ⟨b, off, rfl, hr⟩⟩
  have hfind := fun W hW => place_any p (.slice (some ⟨b, off, none⟩) p.es.length cap) k W hs (hv.bel hW) hu
  have hes := hs.es
  rw [hh, ← hi] at hfind
  have HVV : Hid (∀ W, Bel w W → Vs W (.slice (some ⟨b, off, none⟩) p.es.length cap) p.es) := fun W hW => .inr ⟨b, off, cap, rfl, hcap, Nat.lt_of_lt_of_le hb hW.size, hr.below hW hb⟩
  have HF := hid hfind
  have I0 := hid (RC.start w #[.int .i64 p.lsn, .int .i64 p.kind, .int .i64 p.level, .int .i64 p.right, .string (M.bs p.high), .slice (some ⟨b, off, none⟩) p.es.length cap])
  have hii : (i : Int) < (p.es.length : Int) := by omega
  have HC : Hid (∀ W, Bel w W → W.cell? ⟨b, off + i * 3 + 2, none⟩ = some (.bool mk)) := fun W hW => by rw [hmk]; exact ((hr.below hW hb) i hlt).2.2
  clear hmk hv hr hfind hi
  cases mk with
  | true =>
    simp only [Bool.not_true]
    go_enter Try.func15, Try.ntmps15
    go_wp2_with (first
      | (go_at_call 27; refine (HF.out _ I0.out.below).mono ?_; rintro e w3 ⟨rfl, b3⟩; have I3 := hid (I0.out.bel b3); clear b3; obtain ⟨e0, e1, e2, e3, e4, e5⟩ := blk_cells I3.out.b0; have ec := HC.out w3 I3.out.below; have e9 : (w3.alloc (.cells #[] 43)).cell? ⟨w.heap.size, 5, none⟩ = some (.slice (some ⟨b, off, none⟩) p.es.length cap) := (bel_cell (Bel.al (Below.refl _ _) _) I3.out.b0.lt 5).trans e5; have ZB := hid I3.out.b1.lt; obtain ⟨g4, c4, w4, w6, g1, I4, J6, K6, B6, O6, HC5, HF5, HW6⟩ := rmark_world p #[.int .i64 p.lsn, .int .i64 p.kind, .int .i64 p.level, .int .i64 p.right, .string (M.bs p.high), .slice (some ⟨b, off, none⟩) p.es.length cap] w w3 I3.out ZB.out i hlt false (HVV.out w3 I3.out.below) (by omega); clear I3)
      | (at_builtin; refine appL rfl _ _ rfl rfl rfl g1 ?_; clear g1 e0 e1 e2 e3 e4 e5 e9; obtain ⟨e0, e1, e2, e3, e4, e5⟩ := blk_cells I4.out.b0)
      | (refine store1 rfl 4 _ _ rfl g4 (i * 3 + 2) (.bool false) rfl rfl _ HC5.out HF5.out info4 rfl w6 HW6.out ?_; clear e0 e1 e2 e3 e4 e5; obtain ⟨e0, e1, e2, e3, e4, e5⟩ := blk_cells J6.out)
      | (go_at_call 28; refine (with_any p (some ⟨b, off, none⟩) p.es.length cap (some ⟨g4, 0, none⟩) p.es.length c4 w6).mono ?_; rintro e w7 ⟨rfl, b7⟩; have K7 := hid (K6.out.below b7 K6.out.lt); have B7 := hid (B6.out.tr b7); have O7 := hid (bel43 O6.out b7); clear b7; obtain ⟨d0, d1, d2, d3, d4, d5⟩ := blk_cells K7.out; have df0 := K7.out.frozen 0; have df1 := K7.out.frozen 1; have df2 := K7.out.frozen 2; have df3 := K7.out.frozen 3; have df4 := K7.out.frozen 4; have df5 := K7.out.frozen 5))
    refine bodyPost_ret (results_cell_row2 (p := 6) (ty := 33) (u := 7) rfl _ _ (w.heap.size + 1) _ rfl (load33 (cs := #[.int .i64 p.lsn, .int .i64 p.kind, .int .i64 p.level, .int .i64 p.right, .string (M.bs p.high), .slice (some ⟨g4, 0, none⟩) p.es.length c4]) (set6 K7.out _ _ _ _ _ _) rfl)) rfl ?_
    refine ⟨_, rfl, ?_, bel6 B7.out (by omega) _ _ _ _ _ _⟩
    exact base43 (base' := w.heap.size) (ownc43 O7.out (row_ne O7.out K7.out (by decide)) _ _ _ _ _ _) (by have := ZB.out; omega)
  | false =>
    simp only [Bool.not_false]
    go_enter Try.func15, Try.ntmps15
    go_wp2_with (first
      | (go_at_call 27; refine (HF.out _ I0.out.below).mono ?_; rintro e w3 ⟨rfl, b3⟩; have I3 := hid (I0.out.bel b3); clear b3; obtain ⟨e0, e1, e2, e3, e4, e5⟩ := blk_cells I3.out.b0; have ec := HC.out w3 I3.out.below; have e9 : (w3.alloc (.cells #[] 43)).cell? ⟨w.heap.size, 5, none⟩ = some (.slice (some ⟨b, off, none⟩) p.es.length cap) := (bel_cell (Bel.al (Below.refl _ _) _) I3.out.b0.lt 5).trans e5; have ZB := hid I3.out.b1.lt; obtain ⟨g4, c4, w4, w6, g1, I4, J6, K6, B6, O6, HC5, HF5, HW6⟩ := rmark_world p #[.int .i64 p.lsn, .int .i64 p.kind, .int .i64 p.level, .int .i64 p.right, .string (M.bs p.high), .slice (some ⟨b, off, none⟩) p.es.length cap] w w3 I3.out ZB.out i hlt true (HVV.out w3 I3.out.below) (by omega); clear I3)
      | (at_builtin; refine appL rfl _ _ rfl rfl rfl g1 ?_; clear g1 e0 e1 e2 e3 e4 e5 e9; obtain ⟨e0, e1, e2, e3, e4, e5⟩ := blk_cells I4.out.b0)
      | (refine store1 rfl 4 _ _ rfl g4 (i * 3 + 2) (.bool true) rfl rfl _ HC5.out HF5.out info4 rfl w6 HW6.out ?_; clear e0 e1 e2 e3 e4 e5; obtain ⟨e0, e1, e2, e3, e4, e5⟩ := blk_cells J6.out)
      | (go_at_call 28; refine (with_any p (some ⟨b, off, none⟩) p.es.length cap (some ⟨g4, 0, none⟩) p.es.length c4 w6).mono ?_; rintro e w7 ⟨rfl, b7⟩; have K7 := hid (K6.out.below b7 K6.out.lt); have B7 := hid (B6.out.tr b7); have O7 := hid (bel43 O6.out b7); clear b7; obtain ⟨d0, d1, d2, d3, d4, d5⟩ := blk_cells K7.out; have df0 := K7.out.frozen 0; have df1 := K7.out.frozen 1; have df2 := K7.out.frozen 2; have df3 := K7.out.frozen 3; have df4 := K7.out.frozen 4; have df5 := K7.out.frozen 5))
    refine bodyPost_ret (results_cell_row2 (p := 6) (ty := 33) (u := 7) rfl _ _ (w.heap.size + 1) _ rfl (load33 (cs := #[.int .i64 p.lsn, .int .i64 p.kind, .int .i64 p.level, .int .i64 p.right, .string (M.bs p.high), .slice (some ⟨g4, 0, none⟩) p.es.length c4]) (set6 K7.out _ _ _ _ _ _) rfl)) rfl ?_
    refine ⟨_, rfl, ?_, bel6 B7.out (by omega) _ _ _ _ _ _⟩
    exact base43 (base' := w.heap.size) (ownc43 O7.out (row_ne O7.out K7.out (by decide)) _ _ _ _ _ _) (by have := ZB.out; omega)
end Go.Proofs.Ytcmplklefeicbaa
