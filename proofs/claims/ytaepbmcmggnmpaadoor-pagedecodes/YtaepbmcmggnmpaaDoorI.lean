/-
  The law of page's own example: speaks.
-/
import Derived.Test.YtaepbmcmggnmpaaDoorH
namespace Go.Proofs.YtaepbmcmggnmpaaDoor
open Go.RowKit
namespace M
def exP : Pg := { lsn := 0, kind := 1, level := 0, right := 0, high := [], es := [([97, 98], [], false)] }
set_option maxRecDepth 100000 in
theorem ex1 : ((encode exP).2 == 0 && (encode exP).1.length == 512 && !noughts (encode exP).1 && whole (encode exP).1) = true := by decide +kernel
set_option maxRecDepth 100000 in
theorem ex2 : ((pageN (bodyL (encode exP).1)).2 && (pageN (bodyL (encode exP).1)).1.es.length == 1 && (pageN (bodyL (encode exP).1)).1.high.length == 0 && szs (pageN (bodyL (encode exP).1)).1.es == 5) = true := by decide +kernel
theorem pageN_inB (b : List UInt8) (h : (pageN b).2 = true) : inB (pageN b).1 = true := by
  unfold pageN at *
  split at h
  · cases h
  · rename_i es r e
    simp only [Bool.and_eq_true] at h
    simp only
    exact h.2
end M
set_option maxRecDepth 100000 in
set_option maxHeartbeats 4000000 in
theorem speaks_any (w : World) (hT : Tab w) : Calls Tryd.prog 11 #[] w fun e w' => e = .returned (.bool true) ∧ Bel w w' := by
  have e1 := M.ex1
  have e2 := M.ex2
  simp only [Bool.and_eq_true, beq_iff_eq, Bool.not_eq_true'] at e1 e2
  obtain ⟨⟨⟨x1, x2⟩, x3⟩, x4⟩ := e1
  obtain ⟨⟨⟨y1, y2⟩, y3⟩, y4⟩ := e2
  have QE := fun W v hv h => encode_any M.exP v W ⟨by decide, by decide, by decide⟩ hv h ⟨by decide, by decide⟩
  rw [x1] at QE
  have QD := fun W h => decode_good (M.encode M.exP).1 W h x2 x3 x4 y1
  have QW := fun W h => whole_any (M.encode M.exP).1 W h (by omega)
  rw [x4] at QW
  have QZ := fun W => free_any M.zeroP (.slice none 0 0) W ⟨by decide, by decide, by decide⟩ ⟨none, 0, rfl, .inl rfl⟩
  have hz : M.free M.zeroP = 489 := by decide
  rw [hz] at QZ
  have bE : M.bs [] = ⟨#[]⟩ := rfl
  simp only [M.zeroP, pv, bE] at QZ
  have QE' : ∀ W v, Vals W v [([97, 98], [], false)] → Tab W → Calls Tryd.prog 13 #[.agg #[.int .i64 0, .int .i64 1, .int .i64 0, .int .i64 0, .string ⟨#[]⟩, v]] W fun e w' => e = .returned (.tuple #[.string (M.bs (M.encode M.exP).1), .int .i64 0]) ∧ Bel W w' := QE
  clear QE
  have hsm : Sm (M.pageN (M.bodyL (M.encode M.exP).1)).1 := by
    have := M.inB_parts (M.pageN_inB _ y1)
    exact ⟨by omega, by omega, fun e he => by have := this.2.2.2.2.2 e he; omega⟩
  generalize (M.encode M.exP).1 = E at *
  obtain ⟨p, hp⟩ : ∃ p, (M.pageN (M.bodyL E)).1 = p := ⟨_, rfl⟩
  rw [hp] at QD y2 y3 y4 hsm
  clear hp
  obtain ⟨p0, p1, p2, p3, p4, p5⟩ := p
  generalize M.lsnL E = ln at *
  have QF := fun W v hv => free_any { lsn := ln, kind := p1, level := p2, right := p3, high := p4, es := p5 } v W ⟨hsm.high, hsm.es, hsm.each⟩ hv
  have hf : M.free { lsn := ln, kind := p1, level := p2, right := p3, high := p4, es := p5 } = 484 := by unfold M.free; simp only at y3 y4 ⊢; rw [y3, y4]; rfl
  rw [hf] at QF
  simp only [pv] at QD QF
  simp only at y2
  clear hsm hf y3 y4 x1 x2 x3 x4 y1
  go_enter Tryd.func11, Tryd.ntmps11
  go_wp2_with fail
  have bW : Bel w (w.alloc (.cells #[.string ⟨#[97, 98]⟩, .string ⟨#[]⟩, .bool false] 71)) := Bel.al (Below.refl _ _) _
  have hv : Vals (w.alloc (.cells #[.string ⟨#[97, 98]⟩, .string ⟨#[]⟩, .bool false] 71)) (.slice (some ⟨w.heap.size, 0, none⟩) 1 1) [([97, 98], [], false)] := by
    refine ⟨_, _, rfl, .inr ⟨_, _, rfl, ?_⟩⟩
    have := cells3_of (heap_alloc_new w (.cells #[.string ⟨#[97, 98]⟩, .string ⟨#[]⟩, .bool false] 71))
    intro j hj
    obtain rfl : j = 0 := by simp at hj; omega
    exact this
  generalize w.alloc (.cells #[.string ⟨#[97, 98]⟩, .string ⟨#[]⟩, .bool false] 71) = W0 at *
  refine (QE' _ _ hv (hT.bel bW)).mono ?_
  rintro e w1 ⟨rfl, b1⟩
  have bb1 := bW.tr b1
  clear bW b1 hv
  go_wp2_with fail
  refine (QD _ (hT.bel bb1)).mono ?_
  rintro e w2 ⟨v, rfl, hv, b2⟩
  have bb2 := bb1.tr b2
  clear bb1 b2
  obtain ⟨ao, cp, hvf, _⟩ := id hv
  subst hvf
  rw [y2] at *
  go_wp2_with fail
  have bA : Bel w2 (w2.alloc (.cells #[.int .i64 (ln : Int), .int .i64 p1, .int .i64 p2, .int .i64 p3, .string (M.bs p4), .slice ao 1 cp] 29)) := Bel.al (Below.refl _ _) _
  refine (QF _ _ (hv.bel bA)).mono ?_
  rintro e w3 ⟨rfl, b3⟩
  have bb3 := bb2.tr (bA.tr b3)
  clear bA b3 bb2 hv
  go_wp2_with fail
  refine (QZ _).mono ?_
  rintro e w4 ⟨rfl, b4⟩
  have bb4 := bb3.tr b4
  clear bb3 b4
  go_wp2_with fail
  refine (QW _ (hT.bel bb4)).mono ?_
  rintro e w5 ⟨rfl, b5⟩
  have bb5 := bb4.tr b5
  clear bb4 b5
  go_wp2_with fail
  go_ret
  exact ⟨rfl, bb5⟩
end Go.Proofs.YtaepbmcmggnmpaaDoor
