/-
  The contract of the reference's Without, walked.
-/
import Derived.Test.YtoelaemneoabfabS
namespace Go.Proofs.Ytoelaemneoabfab
open Go.RowKit

/-- Without x. -/
def wo (L : List Int) (x : Int) : List Int := L.filter fun y => y != x
theorem wo_snoc (L : List Int) (y x : Int) : wo (L ++ [y]) x = wo L x ++ if y = x then [] else [y] := by
  unfold wo
  rw [List.filter_append]
  by_cases h : y = x <;> simp [h]
theorem wo_length (L : List Int) (x : Int) : (wo L x).length ≤ L.length := List.length_filter_le _ _
theorem wo_erase : ∀ (L : List Int) (x : Int), L.Nodup → wo L x = L.erase x
  | [], x, _ => rfl
  | a :: r, x, h => by
    have h' := List.nodup_cons.1 h
    have ih := wo_erase r x h'.2
    unfold wo at *
    by_cases e : a = x
    · subst e
      have : r.erase a = r := List.erase_of_not_mem h'.1
      rw [this] at ih
      simp [ih]
    · rw [List.erase_cons_tail (by simpa using e), List.filter_cons_of_pos (by simpa using e), ih]
set_option maxHeartbeats 2000000 in
theorem without_some (L : List Int) (x : Int) (g off cap : Nat) (w : World) (hL : L.length ≤ 1000) (hr : RowN w g off L) (hL0 : 0 < L.length) :
    Calls Try.prog 18 #[.slice (some ⟨g, off, none⟩) L.length cap, .int .i64 x] w fun e w' => ∃ v, e = .returned v ∧ w'.ownsRow w.heap.size 3 1 v (wo L x).length (csN (wo L x)) ∧ Bel w w' := by
  obtain ⟨i0, hi, hz0, hz1, hz2⟩ := info_parts info3
  go_enter Try.func18, Try.ntmps18
  go_wp2_with fail
  go_loopw [5, 6] (fun ov i wr => ∃ k : Nat, k ≤ L.length ∧ i = .int .i64 k ∧ Hid (wr.ownsRow w.heap.size 3 1 ov (wo (L.take k) x).length (csN (wo (L.take k) x))) ∧ Bel w wr) (fun _ i _ => L.length - (intOf i).toNat)
  case atStart => exact ⟨0, Nat.zero_le _, rfl, World.ownsRow_nil _ _ _ _, Below.refl _ _⟩
  case round =>
    obtain ⟨k, hk, rfl, HO, hb⟩ := hrel
    by_cases hlt : k < L.length
    · have c := (hr.bel hb) k hlt
      have HS : Hid (wo (L.take (k + 1)) x = wo (L.take k) x ++ if L[k] = x then [] else [L[k]]) := by
        show _ = _
        rw [List.take_succ_eq_append_getElem hlt, wo_snoc]
      have hwl := wo_length (L.take k) x
      have hwl2 : (L.take k).length ≤ L.length := by rw [List.length_take]; omega
      generalize L[k] = lk at *
      by_cases he : lk = x
      · subst he
        go_wp2_with fail
        go_roundw
        case rel => exact ⟨k + 1, by omega, by go_num, by unfold Hid; rw [HS.out]; simpa using HO.out, hb⟩
        case measure => simp [intOf]; omega
      · have he' : (lk != x) = true := by rw [bne_iff_ne]; exact he
        have hbz := hb.size
        have HOa := hid (World.ownsRow.alloc HO.out (.cells #[.int .i64 lk] 3))
        go_wp2_with (at_builtin; refine wpList_append_own _ rfl _ _ 28 rfl w.heap.size 3 i0 (.int .i64 0) 1 8 Try.underlying28 hi hz0 hz1 hz2 rfl (by decide) _ _ _ rfl HOa.out ⟨wr.heap.size, 0, none⟩ 1 1 [.int .i64 lk] rfl rfl (one_new _ _) (by intro u hu; simp at hu; subst hu; rfl) (by unfold maxLen; omega) (by omega) (by simp; omega) ?_)
        intro v' w2 h1 h2 _
        have H1 := hid h1
        have b2 : Hid (Bel w w2) := (Bel.al hb _).grown h2 (by simp; omega) (fun j hj => (HO.out.lt j hj).1)
        clear h1 h2 HOa HO
        go_wp2_with fail
        go_roundw
        case rel => exact ⟨k + 1, by omega, by go_num, by unfold Hid; rw [HS.out, if_neg he]; have := H1.out; simpa [csN] using this, b2.out⟩
        case measure => simp [intOf]; omega
    · have HF : Hid (wr.ownsRow w.heap.size 3 1 u5 (wo L x).length (csN (wo L x))) := by have := HO.out; rw [List.take_of_length_le (by omega)] at this; exact this
      go_wp2_with fail
      go_ret
      exact ⟨_, rfl, HF.out, hb⟩
set_option maxHeartbeats 1000000 in
theorem without_none (x : Int) (a : Option Addr) (cap : Nat) (w : World) :
    Calls Try.prog 18 #[.slice a 0 cap, .int .i64 x] w fun e w' => ∃ v, e = .returned v ∧ w'.ownsRow w.heap.size 3 1 v 0 [] ∧ Bel w w' := by
  go_enter Try.func18, Try.ntmps18
  go_wp2_with fail
  refine wp_loop_rounds 1 ?_
  rw [rounds_succ]
  go_wp2_with fail
  go_ret
  exact ⟨_, rfl, World.ownsRow_nil _ _ _ _, Below.refl _ _⟩
theorem without_any (L : List Int) (x : Int) (v : Value) (w : World) (hL : L.length ≤ 1000) (hs : ShowsN w v L) :
    Calls Try.prog 18 #[v, .int .i64 x] w fun e w' => ∃ v', e = .returned v' ∧ w'.ownsRow w.heap.size 3 1 v' (wo L x).length (csN (wo L x)) ∧ Bel w w' := by
  obtain ⟨a, cap, rfl, h⟩ := hs
  by_cases h0 : 0 < L.length
  · rcases h with rfl | ⟨g, off, rfl, hr⟩
    · simp at h0
    · exact without_some L x g off cap w hL hr h0
  · have := List.length_eq_zero_iff.1 (show L.length = 0 by omega)
    subst this
    exact without_none x a cap w
end Go.Proofs.Ytoelaemneoabfab
