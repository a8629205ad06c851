/-
  The contract of the law's 'speaks', walked.
-/
import Derived.Test.YtaepbmcmggnmpaaGC
namespace Go.Proofs.Ytaepbmcmggnmpaa
open Go.RowKit
set_option maxRecDepth 100000

def opS : List UInt8 := [0, 2, 0, 1, 97, 0, 0]
def opR : M.Rec := ⟨5, 0, 2, [], 0, []⟩
def opB : List UInt8 := [0, 0, 0, 0, 0, 5, 0, 0, 0, 0, 0, 0, 2, 0, 0, 0, 0, 0]
theorem op1 : M.split opS = ([[97], []], 0) := by decide +kernel
theorem op2 : (M.putR opR).1 = opB ∧ (M.putR opR).2 = 0 := by decide +kernel
theorem op3 : (M.getR opB).1.lsn = 5 ∧ (M.getR opB).2 = 0 := by decide +kernel
theorem op4 : M.joinL [[97], []] = opS := by decide +kernel
set_option maxHeartbeats 2000000 in
theorem speaks_any (w : World) : Calls Try.prog 7 #[] w fun e w' => e = .returned (.bool true) ∧ Bel w w' := by
  have H1 : ∀ W, Calls Try.prog 15 #[.string ⟨#[0, 2, 0, 1, 97, 0, 0]⟩] W fun e w' => ∃ x, e = .returned (.tuple #[x, .int .i64 0]) ∧ OwnT w' W.heap.size x [[97], []] ∧ Bel W w' := fun W => by
    have := split_any opS W (by decide)
    rw [op1] at this
    exact this
  have H2 : ∀ W, Calls Try.prog 9 #[.agg #[.int .i64 5, .int .i64 0, .int .i64 2, .string ⟨#[]⟩, .int .i64 0, .slice none 0 0]] W fun e w' => e = .returned (.tuple #[.string (M.bs opB), .int .i64 0]) ∧ Bel W w' := fun W => by
    have := putR_any opR (.slice none 0 0) W ⟨by decide, by decide, fun c hc => by simp [opR] at hc⟩ ⟨none, 0, rfl, .inl rfl⟩
    rw [op2.1, op2.2] at this
    exact this
  have H3 : ∀ W, Calls Try.prog 11 #[.string (M.bs opB)] W fun e w' => ∃ rr x, e = .returned (.tuple #[rv rr x, .int .i64 0]) ∧ rr.lsn = 5 ∧ (∃ a n c, x = .slice a n c) ∧ Bel W w' := fun W => by
    have := getR_any opB W (by decide)
    rw [op3.2] at this
    refine this.mono ?_
    rintro e w' ⟨x, Q, he, _, ho, _, b⟩
    obtain ⟨a, c, hx⟩ := ho.form
    exact ⟨_, x, he, op3.1, ⟨a, _, c, hx⟩, b⟩
  have H4 : ∀ W x, ValT W x [[97], []] → Calls Try.prog 14 #[x] W fun e w' => e = .returned (.string ⟨#[0, 2, 0, 1, 97, 0, 0]⟩) ∧ Bel W w' := fun W x hv => by
    have := join_any [[97], []] x W hv (by decide) (by decide)
    rw [op4] at this
    exact this
  have hz : (M.bs opB).size = 18 := by decide +kernel
  generalize M.bs opB = SB at *
  go_enter Try.func7, Try.ntmps7
  go_wp2_with fail
  refine (H1 _).mono ?_
  rintro e w1 ⟨x, rfl, o1, b1⟩
  go_wp2_with fail
  refine (H2 _).mono ?_
  rintro e w2 ⟨rfl, b2⟩
  go_wp2_with fail
  refine (H3 _).mono ?_
  rintro e w3 ⟨rr, x3, rfl, hl, ⟨xa, xn, xc, rfl⟩, b3⟩
  obtain ⟨lsn, txn, kind, undo, undone, pages⟩ := rr
  simp only at hl
  subst hl
  have hv := (o1.vals.bel (b2.tr b3)).bel (Bel.al (Below.refl _ w3) (.cells #[.int .i64 5, .int .i64 txn, .int .i64 kind, .string (M.bs undo), .int .i64 undone, .slice xa xn xc] 29))
  obtain ⟨a, cap, rfl, h0⟩ := id hv
  obtain ⟨b, off, rfl, hr⟩ := h0.resolve_left (by simp)
  have c0 : (w3.alloc (.cells #[.int .i64 5, .int .i64 txn, .int .i64 kind, .string (M.bs undo), .int .i64 undone, .slice xa xn xc] 29)).cell? ⟨b, off, none⟩ = some (.string ⟨#[97]⟩) := hr 0 (by simp)
  have bb := (b1.tr (b2.tr b3)).al (.cells #[.int .i64 5, .int .i64 txn, .int .i64 kind, .string (M.bs undo), .int .i64 undone, .slice xa xn xc] 29)
  have hbk : (w3.alloc (.cells #[.int .i64 5, .int .i64 txn, .int .i64 kind, .string (M.bs undo), .int .i64 undone, .slice xa xn xc] 29)).heap[w3.heap.size]? = some (.cells #[.int .i64 5, .int .i64 txn, .int .i64 kind, .string (M.bs undo), .int .i64 undone, .slice xa xn xc] 29 (0, 0)) := heap_alloc_new w3 _
  clear H1 H2 H3 o1 b1 b2 b3 hr h0
  go_wp2_with fail
  refine (H4 _ _ hv).mono ?_
  rintro e w5 ⟨rfl, b5⟩
  have d0 := (cells6_of ((b5.block _ (by simp)).trans hbk)).1
  go_wp2_with fail
  go_ret
  exact ⟨rfl, bb.tr b5⟩
end Go.Proofs.Ytaepbmcmggnmpaa
