/-
  The contract of record's Join, walked.
-/
import Derived.Test.YtaepbmcmggnmpaaT
namespace Go.Proofs.Ytaepbmcmggnmpaa
open Go.RowKit
set_option maxRecDepth 100000

theorem long_any (t : List UInt8) (w : World) (ht : t.length ≤ 65535) : Calls Try.prog 38 #[.string (M.bs t)] w fun e w' => e = .returned (.bool false) ∧ w = w' := by
  have hz : (M.bs t).size = t.length := M.bs_size t
  have d : decide ((65535 : Int) < (t.length : Int)) = false := by apply decide_eq_false; omega
  go_enter Try.func38, Try.ntmps38
  go_wp2
  go_ret
  exact ⟨rfl, rfl⟩
theorem index_some (L : List (List UInt8)) (b off cap : Nat) (w : World) (hv : Row1 w b off L) (h3 : ∀ e ∈ L, e.length ≤ 65535) (hL2 : L.length ≤ 65535) :
    Calls Try.prog 50 #[.slice (some ⟨b, off, none⟩) L.length cap, .func (.func 38) #[] #[]] w fun e w' => e = .returned (.int .i64 (-1)) ∧ w = w' := by
  go_enter Try.func50, Try.ntmps50
  go_wp2_with fail
  go_loopw [8] (fun i wr => ∃ k : Nat, k ≤ L.length ∧ i = .int .i64 k ∧ w = wr) (fun i _ => L.length - (intOf i).toNat)
  case atStart => exact ⟨0, Nat.zero_le _, rfl, rfl⟩
  case round =>
    obtain ⟨k, hk, rfl, rfl⟩ := hrel
    by_cases hlt : k < L.length
    · have c1 := hv k hlt
      have H := fun W => long_any L[k] W (h3 L[k] (List.getElem_mem hlt))
      generalize L[k] = v at *
      go_wp2_with fail
      refine (H _).mono ?_
      rintro e w1 ⟨rfl, rfl⟩
      go_wp2_with fail
      go_roundw
      case rel => exact ⟨k + 1, by omega, by go_num, by simp⟩
      case measure => simp [intOf]; omega
    · go_wp2_with fail
      go_ret
      exact ⟨rfl, rfl⟩
theorem index_nil (a : Option Addr) (cap : Nat) (w : World) :
    Calls Try.prog 50 #[.slice a 0 cap, .func (.func 38) #[] #[]] w fun e w' => e = .returned (.int .i64 (-1)) ∧ w = w' := by
  go_enter Try.func50, Try.ntmps50
  go_wp2_with fail
  refine wp_loop_rounds 1 ?_
  rw [rounds_succ]
  go_wp2_with fail
  go_ret
  exact ⟨rfl, rfl⟩
theorem contains_any (L : List (List UInt8)) (x : Value) (w : World) (hv : ValT w x L) (h3 : ∀ e ∈ L, e.length ≤ 65535) (hL2 : L.length ≤ 65535) :
    Calls Try.prog 39 #[x, .func (.func 38) #[] #[]] w fun e w' => e = .returned (.bool false) ∧ w = w' := by
  have H : Calls Try.prog 50 #[x, .func (.func 38) #[] #[]] w fun e w' => e = .returned (.int .i64 (-1)) ∧ w = w' := by
    obtain ⟨a, cap, rfl, hv⟩ := hv
    by_cases h0 : L = []
    · subst h0; exact index_nil a cap w
    · obtain ⟨b, off, rfl, hr⟩ := hv.resolve_left h0
      exact index_some L b off cap w hr h3 hL2
  clear hv h3
  go_enter Try.func39, Try.ntmps39
  go_wp2_with fail
  refine H.mono ?_
  rintro e w1 ⟨rfl, rfl⟩
  go_wp2_with fail
  go_ret
  exact ⟨rfl, rfl⟩
theorem flat_le (K : List (List UInt8)) (h : ∀ t ∈ K, t.length ≤ 17000) : (K.flatMap M.frm).length ≤ K.length * 17002 := by
  induction K with
  | nil => simp
  | cons t K ih =>
    have h1 := h t (by simp)
    have := ih (fun q hq => h q (by simp [hq]))
    rw [List.flatMap_cons, List.length_append, List.length_cons, M.frm_length t (by omega)]
    omega
set_option maxHeartbeats 2000000 in
theorem join_some (L : List (List UInt8)) (b off cap : Nat) (w : World) (hv : Row1 w b off L) (hL : 0 < L.length) (hL2 : L.length ≤ 5000) (hs : ∀ t ∈ L, t.length ≤ 17000) :
    Calls Try.prog 14 #[.slice (some ⟨b, off, none⟩) L.length cap] w fun e w' => e = .returned (.string (M.bs (M.joinL L))) ∧ Bel w w' := by
  have hbw := hv.lt hL
  have Hc := contains_any L _ w ⟨_, cap, rfl, .inr ⟨b, off, rfl, hv⟩⟩ (fun e he => by have := hs e he; omega) (by omega)
  have Hn := fun W => put_any (L.length : Int) 2 W (by omega) (by omega)
  have hpl := M.put_two_len (L.length : Int) (by omega) (by omega)
  have HP : Hid (M.joinL L = M.put (L.length : Int) 2 ++ L.flatMap M.frm) := rfl
  generalize M.put (L.length : Int) 2 = P0 at *
  go_enter Try.func14, Try.ntmps14
  go_wp2_with fail
  refine Hc.mono ?_
  rintro e w1 ⟨rfl, rfl⟩
  clear Hc
  go_wp2_with fail
  refine (Hn _).mono ?_
  rintro e w2 ⟨rfl, b2⟩
  have hz2 := b2.size
  simp only [World.size_alloc] at hz2
  have hbd2 := (Bd.new w).bel b2
  go_wp2_with fail
  refine (writeString_any w.heap.size w.heap.size [] P0 w2 hbd2 (by simp; omega) (by omega)).mono ?_
  rintro e w3 ⟨rfl, hbd3, b3, k3⟩
  have hz3 := b3.size
  have HB3 : Hid (Bel w w3) := (Bel.al (Below.refl _ w) _).tr b2 |>.trans (b3.mono (by omega))
  have HB := hid hbd3
  clear hbd3 hbd2 Hn
  go_wp2_with fail
  go_loopw [21] (fun i wr => ∃ (k : Nat), k ≤ L.length ∧ i = .int .i64 k ∧ Bd wr w.heap.size w.heap.size (P0 ++ (L.take k).flatMap M.frm) ∧ Bel w wr ∧ w.heap.size < wr.heap.size) (fun i _ => L.length - (intOf i).toNat)
  case atStart => exact ⟨0, Nat.zero_le _, rfl, by simpa using HB.out, HB3.out, by omega⟩
  case round =>
    obtain ⟨k, hk, rfl, hbd, hbel, hzr⟩ := hrel
    by_cases hlt : k < L.length
    · have c1 := (hv.below hbel hbw) k hlt
      have htl := hs L[k] (List.getElem_mem hlt)
      have HT : Hid ((L.take (k + 1)).flatMap M.frm = (L.take k).flatMap M.frm ++ M.frm L[k]) := by show _ = _; rw [List.take_succ_eq_append_getElem hlt, List.flatMap_append, List.flatMap_cons, List.flatMap_nil, List.append_nil]
      have hacc : (P0 ++ (L.take k).flatMap M.frm).length ≤ 90000000 := by
        have h5 := flat_le (L.take k) (fun p hp => hs p (List.mem_of_mem_take hp))
        simp only [List.length_append, hpl]
        have : (L.take k).length * 17002 ≤ 5000 * 17002 := Nat.mul_le_mul_right _ (by rw [List.length_take]; omega)
        omega
      have HW := hid hv
      clear hv hs
      generalize L[k] = t at *
      have hone := M.frm_length t (by omega)
      have Hf := fun W => framed_any t W (by omega)
      have Hw := fun W (h : Bd W w.heap.size w.heap.size (P0 ++ (L.take k).flatMap M.frm)) (hW : w.heap.size ≤ W.heap.size) => writeString_any w.heap.size w.heap.size _ (M.frm t) W h (by omega) hW
      go_wp2_with fail
      refine (Hf _).mono ?_
      rintro e w4 ⟨rfl, b4⟩
      have z4 := b4.size
      go_wp2_with fail
      refine (Hw _ (hbd.bel b4) (by omega)).mono ?_
      rintro e w5 ⟨rfl, hbd5, b5, k5⟩
      have z5 := b5.size
      go_wp2_with fail
      go_roundw
      case rel => exact ⟨k + 1, by omega, by go_num, by rw [HT.out, ← List.append_assoc]; exact hbd5, (hbel.tr b4).trans (b5.mono (by omega)), by omega⟩
      case measure => simp [intOf]; omega
    · have HF : Hid (L.take k = L) := by show _ = _; rw [List.take_of_length_le (by omega)]
      have hne : P0 ++ (L.take k).flatMap M.frm ≠ [] := by
        intro e
        have := congrArg List.length e
        rw [List.length_append, hpl] at this; simp at this
      have Hs := string_any w.heap.size w.heap.size _ wr hbd hne
      clear hbd hne
      go_wp2_with fail
      refine Hs.mono ?_
      rintro e w4 ⟨rfl, _, b4, _⟩
      go_wp2_with fail
      go_ret
      exact ⟨by rw [HP.out, HF.out]; rfl, hbel.trans (b4.mono (by omega))⟩
theorem join_nil (a : Option Addr) (cap : Nat) (w : World) :
    Calls Try.prog 14 #[.slice a 0 cap] w fun e w' => e = .returned (.string (M.bs (M.joinL []))) ∧ Bel w w' := by
  have Hc := contains_any [] (.slice a 0 cap) w ⟨_, cap, rfl, .inl rfl⟩ (by simp) (by simp)
  have e2 : M.joinL [] = M.put 0 2 := by decide +kernel
  rw [e2]
  have Hn := fun W => put_any 0 2 W (by omega) (by omega)
  have hpl := M.put_two_len 0 (by omega) (by omega)
  generalize M.put 0 2 = P0 at *
  clear e2
  go_enter Try.func14, Try.ntmps14
  go_wp2_with fail
  refine Hc.mono ?_
  rintro e w1 ⟨rfl, rfl⟩
  clear Hc
  go_wp2_with fail
  refine (Hn _).mono ?_
  rintro e w2 ⟨rfl, b2⟩
  have hz2 := b2.size
  simp only [World.size_alloc] at hz2
  have hbd2 := (Bd.new w).bel b2
  go_wp2_with fail
  refine (writeString_any w.heap.size w.heap.size [] P0 w2 hbd2 (by simp; omega) (by omega)).mono ?_
  rintro e w3 ⟨rfl, hbd3, b3, k3⟩
  have hz3 := b3.size
  have HB3 : Hid (Bel w w3) := (Bel.al (Below.refl _ w) _).tr b2 |>.trans (b3.mono (by omega))
  have Hs := string_any w.heap.size w.heap.size _ w3 hbd3 (by intro e; have := congrArg List.length e; rw [List.length_append, hpl] at this; simp at this)
  clear hbd3 hbd2 Hn
  go_wp2_with fail
  refine wp_loop_rounds 1 ?_
  rw [rounds_succ]
  go_wp2_with fail
  refine Hs.mono ?_
  rintro e w4 ⟨rfl, _, b4, _⟩
  go_wp2_with fail
  go_ret
  exact ⟨rfl, HB3.out.trans (b4.mono (by omega))⟩
theorem join_any (L : List (List UInt8)) (x : Value) (w : World) (hv : ValT w x L) (hL2 : L.length ≤ 5000) (hs : ∀ t ∈ L, t.length ≤ 17000) :
    Calls Try.prog 14 #[x] w fun e w' => e = .returned (.string (M.bs (M.joinL L))) ∧ Bel w w' := by
  obtain ⟨a, cap, rfl, hv⟩ := hv
  by_cases h0 : L = []
  · subst h0; exact join_nil a cap w
  · obtain ⟨b, off, rfl, hr⟩ := hv.resolve_left h0
    refine join_some L b off cap w hr ?_ hL2 hs
    have : L.length ≠ 0 := fun h => h0 (List.length_eq_zero_iff.1 h)
    omega
end Go.Proofs.Ytaepbmcmggnmpaa
