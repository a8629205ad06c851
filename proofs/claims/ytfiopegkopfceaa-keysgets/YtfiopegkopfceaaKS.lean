/-
  The contract of the laws' 'speaks', walked.
-/
import Derived.Test.YtfiopegkopfceaaKQ
import Derived.Deep.RegionHeld3
namespace Go.Proofs.Ytfiopegkopfceaa
open Go.RowKit

abbrev L0 : List M.V := [([], 1, false), ([97], 0, true)]
theorem sp12 (W : World) (x : Value) (hv : Vals W x L0) : Calls Try.prog 12 #[x] W fun e w' => e = .returned (.tuple #[.string ⟨#[16, 1, 0, 0, 0, 0, 1, 32, 97, 0, 1]⟩, .int .i64 0]) ∧ Bel W w' := by
  have h := put_any L0 x W hv (by decide) (by decide)
  have e : M.put L0 = ([16, 1, 0, 0, 0, 0, 1, 32, 97, 0, 1], 0) := by decide +kernel
  rw [e] at h
  exact h
theorem sp14 (W : World) : Calls Try.prog 14 #[.string ⟨#[16, 1, 0, 0, 0, 0, 1, 32, 97, 0, 1]⟩] W fun e w' => ∃ x, e = .returned (.tuple #[x, .int .i64 0]) ∧ OwnV 36 w' W.heap.size x L0 ∧ Bel W w' := by
  have h := get_any [16, 1, 0, 0, 0, 0, 1, 32, 97, 0, 1] W (by decide)
  have e : M.get [16, 1, 0, 0, 0, 0, 1, 32, 97, 0, 1] = (L0, 0) := by decide +kernel
  rw [e] at h
  exact h
theorem OwnV.two {w : World} {base : Nat} {x : Value} (h : OwnV 36 w base x L0) : ∃ g cap, x = .slice (some ⟨g, 0, none⟩) 2 cap ∧ g < w.heap.size ∧ Row3 w g 0 L0 := by
  obtain ⟨a, cap, hx, h0 | ⟨b, off, ha, hr⟩⟩ := h.vals
  · cases h0
  · obtain ⟨_, ⟨h1, h2⟩ | ⟨g, cap', cur, hv, hg, hh, _⟩⟩ := h
    · cases h2
    · rw [hx, ha] at hv
      injection hv with h3 h4 h5
      injection h3 with h3
      injection h3 with h6 h7
      subst h6 h7 h5
      exact ⟨b, cap, by rw [hx, ha]; rfl, hr.lt (by decide), hr⟩
theorem bel_cell {W w' : World} (b : Bel W w') {g : Nat} (hg : g < W.heap.size) : ∀ o, w'.cell? ⟨g, o, none⟩ = W.cell? ⟨g, o, none⟩ := fun o => b.cell (p := ⟨g, o, none⟩) hg
theorem bel_lt {W w' : World} (b : Bel W w') {g : Nat} (hg : g < W.heap.size) : g < w'.heap.size := Nat.lt_of_lt_of_le hg b.size
set_option maxHeartbeats 1000000 in
theorem speaks_any (w : World) : Calls Try.prog 10 #[] w fun e w' => e = .returned (.bool true) ∧ Bel w w' := by
  have qa : ((M.bs [97]).toList == (⟨#[97]⟩ : ByteArray).toList) = true := by decide +kernel
  have f36 : ∀ W, (Op.equalIn 10000 36 (.agg #[.string (M.bs [97]), .int .i64 0, .bool true]) (.agg #[.string ⟨#[97]⟩, .int .i64 0, .bool true])).run Try.prog W = .ok true W := fun W => by
    rw [run_eqFields36, qa]; rfl
  have k36 : ∀ W, (binOp .eql 36 (.agg #[.string (M.bs [97]), .int .i64 0, .bool true]) (.agg #[.string ⟨#[97]⟩, .int .i64 0, .bool true])).run Try.prog W = .ok (.bool true) W := fun W => by
    rw [eql36, qa]; rfl
  have g36 := guard36
  clear qa
  go_enter Try.func10, Try.ntmps10
  go_wp2_with fail
  refine (number_any _ _).mono ?_
  rintro e w1 ⟨rfl, b1⟩
  go_wp2_with fail
  refine (text_any _ _).mono ?_
  rintro e w2 ⟨rfl, b2⟩
  go_wp2_with fail
  refine (sp12 _ _ ?_).mono ?_
  · refine ⟨_, _, rfl, .inr ⟨w2.heap.size, 0, rfl, fun j hj => ?_⟩⟩
    match j, hj with
    | 0, _ => simp [World.cell?_alloc_at]
    | 1, _ => simp [World.cell?_alloc_at, M.bs]
  rintro e w3 ⟨rfl, b3⟩
  go_wp2_with fail
  refine (sp14 _).mono ?_
  rintro e w4 ⟨x, rfl, ho, b4⟩
  obtain ⟨g, cap, rfl, hg, hr⟩ := ho.two
  obtain ⟨c0, c1, c2⟩ := hr 0 (by decide)
  obtain ⟨c3, c4, c5⟩ := hr 1 (by decide)
  simp at c0 c1 c2 c3 c4 c5
  clear ho hr
  go_wp2_with fail
  go_region_held3 (fun w' => w'.cell? ⟨g, 0, none⟩ = some (.string (M.bs [])) ∧ w'.cell? ⟨g, 1, none⟩ = some (.int .i64 1) ∧ w'.cell? ⟨g, 2, none⟩ = some (.bool false) ∧
      w'.cell? ⟨g, 3, none⟩ = some (.string (M.bs [97])) ∧ w'.cell? ⟨g, 4, none⟩ = some (.int .i64 0) ∧ w'.cell? ⟨g, 5, none⟩ = some (.bool true)) (go_keep)
    (first
      | (go_at_call 22; refine (text_any _ _).mono ?_; rintro e w5 ⟨rfl, b5⟩; have hc5 := bel_cell b5 hg; have hg5 := bel_lt b5 hg)
      | (go_at_call 16; refine (compare_any _ _ _ _ _ _ _).mono ?_; rintro e w6 ⟨rfl, b6⟩; have hc6 := bel_cell b6 (by assumption)))
  have hcmp : (cmpV ((M.bs []).data.toList, 1, false) ((M.bs [97]).data.toList, 0, true) == -1) = true := by decide +kernel
  go_wp2
  go_ret
  exact ⟨rfl, ((Bel.tr (Bel.al (b1.tr b2) _) b3).tr b4).tr (Bel.tr (Bel.dr (Below.refl _ _)) (b5.tr b6))⟩
end Go.Proofs.Ytfiopegkopfceaa
