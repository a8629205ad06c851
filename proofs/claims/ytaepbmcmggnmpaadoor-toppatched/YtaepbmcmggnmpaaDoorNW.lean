/-
  The contracts of the document's own answers for layer 5: Nothing, Whole, walked.
-/
import Derived.Test.YtaepbmcmggnmpaaDoorRE
import Derived.Test.YtaepbmcmggnmpaaDoorR
import Derived.Test.YtaepbmcmggnmpaaDoorOU
import Derived.Test.YtaepbmcmggnmpaaDoorG
namespace Go.Proofs.YtaepbmcmggnmpaaDoor
open Go.RowKit
set_option maxRecDepth 100000

theorem M.noughts_snoc (l : List UInt8) (c : UInt8) : M.noughts (l ++ [c]) = (M.noughts l && (c == 0)) := by simp [M.noughts]
theorem M.noughts_no (l : List UInt8) (k : Nat) (h : M.noughts (l.take k) = false) : M.noughts l = false := by
  rw [Bool.eq_false_iff] at h ⊢
  intro e
  apply h
  have := M.noughts_take e 0 k
  rwa [List.drop_zero] at this
set_option maxHeartbeats 400000 in
theorem rnothing_bytes (s : ByteArray) (w : World) (hs : s.size ≤ maxLen) :
    Calls Tryd.prog 24 #[.string s] w fun e w' => e = .returned (.bool (M.noughts s.data.toList)) ∧ w = w' := by
  unfold maxLen at hs
  go_enter Tryd.func24, Tryd.ntmps24
  go_wp2
  go_loop [3] (fun i => ∃ k : Nat, k ≤ s.size ∧ i = .int .i64 k ∧ M.noughts (s.data.toList.take k) = true) (fun i => s.size - (intOf i).toNat)
  case atStart => exact ⟨0, Nat.zero_le _, rfl, rfl⟩
  case round =>
    obtain ⟨k, hk, rfl, hno⟩ := hrel
    have HN := hid hno
    clear hno
    by_cases hlt : k < s.size
    · have HS : Hid (M.noughts (s.data.toList.take (k + 1)) = (s[k] == 0)) := by
        show _ = _; rw [M.take_snoc s k hlt, M.noughts_snoc, HN.out, Bool.true_and]
      by_cases hc : s[k] = 0
      · have HS2 : Hid (M.noughts (s.data.toList.take (k + 1)) = true) := by show _ = _; rw [HS.out, hc]; rfl
        have hcn : s[k].toNat = 0 := by rw [hc]; rfl
        clear HS hc
        have q : ((s[k].toNat : Int) != 0) = false := by rw [bne_eq_false_iff_eq]; omega
        go_wp2
        go_round
        case rel => exact ⟨k + 1, by omega, by go_num, HS2.out⟩
        case measure => simp [intOf]; omega
      · have HF : Hid (M.noughts s.data.toList = false) := M.noughts_no _ (k + 1) (by rw [HS.out]; simpa using hc)
        have hcn : ¬ s[k].toNat = 0 := fun e => hc (UInt8.toNat_inj.1 e)
        clear HS hc
        have q : ((s[k].toNat : Int) != 0) = true := by rw [bne_iff_ne]; omega
        have q2 : ¬ ((s[k].toNat : Int) = 0) := by omega
        go_wp2
        go_ret
        exact ⟨by rw [HF.out]; rfl, rfl⟩
    · have HF : Hid (M.noughts s.data.toList = true) := by
        have h := HN.out
        rw [List.take_of_length_le (by simp; omega)] at h
        exact h
      go_wp2
      go_ret
      exact ⟨by rw [HF.out]; rfl, rfl⟩
theorem rnothing_any (l : List UInt8) (w : World) (hl : l.length ≤ 100000) :
    Calls Tryd.prog 24 #[.string (M.bs l)] w fun e w' => e = .returned (.bool (M.noughts l)) ∧ w = w' :=
  rnothing_bytes (M.bs l) w (by rw [M.bs_size]; unfold maxLen; omega)
def M.wholeR (l : List UInt8) : Bool := M.good l && (l.take 6 == (l.drop 502).take 6)
theorem M.whole_R (l : List UInt8) (h : l.length = 512) : M.whole l = (M.noughts l || M.wholeR l) := by
  unfold M.whole M.wholeR; simp [h]
/-- A call of the document's Seal at a step of a region that draws its order. -/
theorem stepL {ops : Array Oper} {o : Oper} {a : Act} {K : Act → World → Prop} {Q : Exit → Act → World → Prop} {E : Prop} {W : World} (hw : Region.wanted o (yielded ops a.tmps) = true) (t : Tmp)
    (ho : o.op = .call { callee := .value (.func 44), args := #[.tmp t], argTypes := #[9] }) (x : Value) (hx : a.eval (.tmp t) = x) {R : Ending → World → Prop}
    (H : Calls Tryd.prog 44 #[x] W R) (h : ∀ e w', R e w' → ∃ v, e = .returned v ∧ K (a.put o.dst v) w') :
    if Region.wanted o (yielded ops a.tmps) = true then Oper.wp Tryd.prog o a W K Q else E := by
  rw [if_pos hw]
  have hx' : a.tmps[t]?.getD undef = x := by rw [← hx]; simp [Act.eval]
  clear hx hw
  obtain ⟨dst, op, type, pos, after, guard⟩ := o
  simp only at ho h ⊢
  subst ho
  go_simp
  refine H.mono ?_
  intro e w' hR
  obtain ⟨v, rfl, hv⟩ := h e w' hR
  exact hv
set_option maxHeartbeats 2000000 in
theorem rwhole_any (l : List UInt8) (w : World) (hl : l.length = 512) :
    Calls Tryd.prog 25 #[.string (M.bs l)] w fun e w' => e = .returned (.bool (M.wholeR l)) ∧ Bel w w' := by
  have zl : (M.bs l).size = 512 := by rw [M.bs_size, hl]
  have e1 : (M.bs l).extract 0 508 = M.bs (l.take 508) := by rw [M.extract_bs, M.bs_data, List.drop_zero]
  have H := fun W => rseal_any (l.take 508) W (by rw [List.length_take]; omega)
  rw [← e1] at H
  clear e1
  have hg := M.good_seal l (by omega)
  rw [hl] at hg
  have g1 : ((M.bs (M.sealL (l.take 508))).toList == (M.bs l).toList) = M.good l := by rw [M.bs_toList, M.bs_toList]; exact hg
  have g2 : (((M.bs l).extract 0 6).toList == ((M.bs l).extract 502 508).toList) = (l.take 6 == (l.drop 502).take 6) := by
    rw [M.extract_bs, M.extract_bs, M.bs_toList, M.bs_toList, M.bs_data, List.drop_zero]
  have HE : Hid (M.wholeR l = (M.good l && (l.take 6 == (l.drop 502).take 6))) := rfl
  generalize M.bs (M.sealL (l.take 508)) = SL at *
  generalize M.good l = x1 at *
  generalize (l.take 6 == (l.drop 502).take 6) = x2 at *
  clear hg
  generalize M.bs l = T at *
  cases x1
  · go_enter Tryd.func25, Tryd.ntmps25
    go_wp2_with fail
    refine wp_normal ?_
    refine region_until (S := fun _ => True) (m := 12) (by kernel_rfl) ?_
    refine take_next (i := 0) (.string T) [12] (by kernel_rfl) (by kernel_rfl) rfl (by kernel_rfl) (by kernel_rfl) (by kernel_rfl) (by kernel_rfl) (fun _ _ _ h => absurd h.1 (by simp)) (Or.inl ⟨by rfl, fun w' _ => by go_simp⟩) trivial ?_
    simp only [Act.put]
    refine take_next (i := 1) (.string (T.extract 0 508)) [12] (by kernel_rfl) (by kernel_rfl) rfl (by kernel_rfl) (by kernel_rfl) (by kernel_rfl) (by kernel_rfl) (fun _ _ _ h => absurd h.1 (by simp)) (Or.inl ⟨by rfl, fun w' _ => by go_simp⟩) trivial ?_
    simp only [Act.put]
    refine take_next (i := 3) (.string T) [12] (by kernel_rfl) (by kernel_rfl) rfl (by kernel_rfl) (by kernel_rfl) (by kernel_rfl) (by kernel_rfl) (fun _ _ _ h => absurd h.1 (by simp)) (Or.inl ⟨by rfl, fun w' _ => by go_simp⟩) trivial ?_
    simp only [Act.put]
    refine until_ready (rs := [2]) (by kernel_rfl) (by simp) ?_
    intro jj hjj
    simp only [List.mem_cons, List.not_mem_nil, or_false] at hjj
    subst hjj
    refine wpOp_step rfl (fun KX hKX => ?_)
    have HX := hid hKX
    clear hKX
    refine stepL (by simp [Region.wanted]) 4 (by rfl) (.string (T.extract 0 508)) (by simp [Act.eval]) (H _) ?_
    rintro e w4 ⟨rfl, b4⟩
    refine ⟨_, rfl, ?_⟩
    refine HX.out _ _ ⟨fun _ => trivial, ?_⟩
    clear HX
    simp only [Act.put]
    refine take_next (i := 4) (.bool false) [12] (by kernel_rfl) (by kernel_rfl) rfl (by kernel_rfl) (by kernel_rfl) (by kernel_rfl) (by kernel_rfl) (fun _ _ _ h => absurd h.1 (by simp)) (Or.inl ⟨by rfl, fun w' _ => by go_simp⟩) trivial ?_
    simp only [Act.put]
    refine take_next (i := 5) (.bool false) [12] (by kernel_rfl) (by kernel_rfl) rfl (by kernel_rfl) (by kernel_rfl) (by kernel_rfl) (by kernel_rfl) (fun _ _ _ h => absurd h.1 (by simp)) (Or.inl ⟨by rfl, fun w' _ => by go_simp⟩) trivial ?_
    simp only [Act.put]
    refine take_next (i := 6) (undef) [12] (by kernel_rfl) (by kernel_rfl) rfl (by kernel_rfl) (by kernel_rfl) (by kernel_rfl) (by kernel_rfl) (fun _ _ _ h => absurd h.1 (by simp)) (Or.inr ⟨by kernel_rfl, rfl⟩) trivial ?_
    simp only [Act.put]
    refine take_next (i := 7) (undef) [12] (by kernel_rfl) (by kernel_rfl) rfl (by kernel_rfl) (by kernel_rfl) (by kernel_rfl) (by kernel_rfl) (fun _ _ _ h => absurd h.1 (by simp)) (Or.inr ⟨by kernel_rfl, rfl⟩) trivial ?_
    simp only [Act.put]
    refine take_next (i := 8) (undef) [12] (by kernel_rfl) (by kernel_rfl) rfl (by kernel_rfl) (by kernel_rfl) (by kernel_rfl) (by kernel_rfl) (fun _ _ _ h => absurd h.1 (by simp)) (Or.inr ⟨by kernel_rfl, rfl⟩) trivial ?_
    simp only [Act.put]
    refine take_next (i := 9) (undef) [12] (by kernel_rfl) (by kernel_rfl) rfl (by kernel_rfl) (by kernel_rfl) (by kernel_rfl) (by kernel_rfl) (fun _ _ _ h => absurd h.1 (by simp)) (Or.inr ⟨by kernel_rfl, rfl⟩) trivial ?_
    simp only [Act.put]
    refine take_next (i := 10) (undef) [12] (by kernel_rfl) (by kernel_rfl) rfl (by kernel_rfl) (by kernel_rfl) (by kernel_rfl) (by kernel_rfl) (fun _ _ _ h => absurd h.1 (by simp)) (Or.inr ⟨by kernel_rfl, rfl⟩) trivial ?_
    simp only [Act.put]
    refine take_next (i := 11) (.bool false) [12] (by kernel_rfl) (by kernel_rfl) rfl (by kernel_rfl) (by kernel_rfl) (by kernel_rfl) (by kernel_rfl) (fun _ _ _ h => absurd h.1 (by simp)) (Or.inl ⟨by rfl, fun w' _ => by go_simp⟩) trivial ?_
    simp only [Act.put]
    refine until_ready (rs := [12]) (by kernel_rfl) (by simp) ?_
    intro jj hjj
    simp only [List.mem_cons, List.not_mem_nil, or_false] at hjj
    subst hjj
    refine wpOp_step rfl (fun KX hKX => ?_)
    have HX := hid hKX
    clear hKX
    go_simp
    refine HX.out _ _ ⟨fun _ => trivial, ?_⟩
    clear HX
    refine until_done (by kernel_rfl) ⟨rfl, ?_⟩ _
    go_wp2_with fail
    go_ret
    exact ⟨by rw [HE.out]; rfl, Bel.tr (Bel.dr (Below.refl _ _)) b4⟩
  · cases x2
    all_goals
      go_enter Tryd.func25, Tryd.ntmps25
      go_wp2
      go_region_held3 (fun _ => True) (trivial) (first | (go_at_call 44; refine (H _).mono ?_; rintro e w' ⟨rfl, hb⟩))
      all_goals
        go_wp2
        go_ret
        exact ⟨by rw [HE.out]; rfl, Bel.tr (Bel.dr (Below.refl _ _)) hb⟩
end Go.Proofs.YtaepbmcmggnmpaaDoor
