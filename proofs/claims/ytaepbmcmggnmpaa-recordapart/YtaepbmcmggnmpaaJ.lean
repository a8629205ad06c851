/-
  The contract of the document's own Put (concordanceref06), walked.
-/
import Derived.Test.YtaepbmcmggnmpaaH
namespace Go.Proofs.Ytaepbmcmggnmpaa
open Go.RowKit
set_option maxRecDepth 100000

theorem flat_len (K : List M.Pc) (h : ∀ p ∈ K, 0 ≤ p.1 ∧ p.1 ≤ 65535 ∧ p.2.length ≤ 17000) : (K.flatMap M.one).length ≤ K.length * 17004 := by
  induction K with
  | nil => simp
  | cons p K ih =>
    obtain ⟨h1, h2, h3⟩ := h p (by simp)
    have := ih (fun q hq => h q (by simp [hq]))
    have h4 := M.one_length p h1 h2 (by omega)
    simp only [List.flatMap_cons, List.length_append, List.length_cons, h4]; omega
set_option maxHeartbeats 4000000 in
theorem rput_some (L : List M.Pc) (b off cap : Nat) (w : World) (hv : Row2 w b off L) (hL : 0 < L.length) (hL2 : L.length ≤ 5000) (hs : ∀ p ∈ L, p.2.length ≤ 17000) :
    Calls Try.prog 27 #[.slice (some ⟨b, off, none⟩) L.length cap] w fun e w' => e = .returned (.string (M.bs (M.putP L))) ∧ Bel w w' := by
  have hbw := hv.lt hL
  have Hr := rright_some L b off cap w hv hL (by omega) (fun p hp => by have := hs p hp; omega)
  have Hn := fun W => rput_any (L.length : Int) 2 W (by omega)
  by_cases hR : M.right L = true
  · have hall := M.right_all hR
    rw [hR] at Hr
    have HP : Hid (M.putP L = M.put L.length 2 ++ L.flatMap M.one) := by show _ = _; unfold M.putP; rw [if_pos ⟨hR, by omega⟩]
    have hpl := M.put_two_len (L.length : Int) (by omega) (by omega)
    generalize M.put (L.length : Int) 2 = P0 at *
    clear hR
    go_enter Try.func27, Try.ntmps27
    go_wp2_with fail
    refine Hr.mono ?_
    rintro e w1 ⟨rfl, b1⟩
    clear Hr
    go_wp2_with fail
    refine (Hn _).mono ?_
    rintro e w2 ⟨rfl, b2⟩
    have HB3 := hid (b1.tr b2)
    clear Hn
    go_wp2_with fail
    go_loopw [3, 4] (fun sv i wr => ∃ (k : Nat), k ≤ L.length ∧ i = .int .i64 k ∧ sv = .string (M.bs (P0 ++ (L.take k).flatMap M.one)) ∧ Bel w wr) (fun _ i _ => L.length - (intOf i).toNat)
    case atStart => exact ⟨0, Nat.zero_le _, rfl, by simp, HB3.out⟩
    case round =>
      obtain ⟨k, hk, rfl, rfl, hbel⟩ := hrel
      by_cases hlt : k < L.length
      · obtain ⟨c1, c2⟩ := (hv.below hbel hbw) k hlt
        obtain ⟨ha0, ha1, _, htl⟩ := hall L[k] (List.getElem_mem hlt)
        have htl2 := hs L[k] (List.getElem_mem hlt)
        have HT : Hid ((L.take (k + 1)).flatMap M.one = (L.take k).flatMap M.one ++ M.one L[k]) := by show _ = _; rw [List.take_succ_eq_append_getElem hlt, List.flatMap_append, List.flatMap_cons, List.flatMap_nil, List.append_nil]
        have hacc : (P0 ++ (L.take k).flatMap M.one).length ≤ 90000000 := by
          have h5 := flat_len (L.take k) (fun p hp => by have hm := List.mem_of_mem_take hp; have := hall p hm; have := hs p hm; omega)
          simp only [List.length_append, hpl]
          have : (L.take k).length * 17004 ≤ 5000 * 17004 := Nat.mul_le_mul_right _ (by rw [List.length_take]; omega)
          omega
        have hbr : b < wr.drew.heap.size := Nat.lt_of_lt_of_le hbw hbel.size
        have hbx := hbel.dr
        clear hv hall hs
        generalize L[k] = v at *
        obtain ⟨a, t⟩ := v
        simp only at ha0 ha1 htl htl2 c1 c2
        have hzt : (M.bs t).size = t.length := M.bs_size t
        have Hp : ∀ n : Int, (n = a ∨ n = (t.length : Int)) → ∀ W, Calls Try.prog 25 #[.int .i64 n, .int .i64 2] W fun e w' => e = .returned (.string (M.bs (M.put n 2))) ∧ Bel W w' := fun n hn W => rput_any n 2 W (by omega)
        have z1 : (M.bs (M.put a 2)).size = 2 := by rw [M.bs_size, M.put_two_len a ha0 ha1]
        have z2 : (M.bs (M.put (t.length : Int) 2)).size = 2 := by rw [M.bs_size, M.put_two_len _ (by omega) (by omega)]
        have z12 : (M.bs (M.put a 2) ++ M.bs (M.put (t.length : Int) 2)).size = 4 := by rw [M.bs_append, M.bs_size, List.length_append, M.put_two_len a ha0 ha1, M.put_two_len _ (by omega) (by omega)]
        have z3 : (M.bs (M.put a 2) ++ M.bs (M.put (t.length : Int) 2) ++ M.bs t).size = 4 + t.length := by rw [M.bs_append, M.bs_append, M.bs_size, List.length_append, List.length_append, M.put_two_len a ha0 ha1, M.put_two_len _ (by omega) (by omega)]
        have z4 : (M.bs (P0 ++ (L.take k).flatMap M.one)).size = (P0 ++ (L.take k).flatMap M.one).length := M.bs_size _
        have HE : Hid (M.bs (P0 ++ (L.take k).flatMap M.one) ++ (M.bs (M.put a 2) ++ M.bs (M.put (t.length : Int) 2) ++ M.bs t) = M.bs (P0 ++ ((L.take k).flatMap M.one ++ M.one (a, t)))) := by
          show _ = _; rw [M.bs_append, M.bs_append, M.bs_append, List.append_assoc]; rfl
        generalize M.bs (P0 ++ (L.take k).flatMap M.one) = S0 at *
        generalize (P0 ++ (L.take k).flatMap M.one).length = m at *
        have hq4 : ¬ 9223372036854775807 < 4 + t.length := by omega
        have hq5 : ¬ 9223372036854775807 < m + (4 + t.length) := by omega
        go_wp2_with fail
        go_region_held3 (fun w' => w'.cell? ⟨b, off + k * 2, none⟩ = some (.int .i64 a) ∧ w'.cell? ⟨b, off + k * 2 + 1, none⟩ = some (.string (M.bs t))) (go_keep)
          (first
            | (go_at_call 25; refine (Hp _ (by first | exact .inl rfl | exact .inr rfl) _).mono ?_; rintro e w4 ⟨rfl, b4⟩; have hc0 := bel_cell b4 (g := b) hbr; have hbx := hbx.tr b4; have hbr := Nat.lt_of_lt_of_le hbr b4.size))
        go_wp2_with fail
        go_roundw
        case rel => exact ⟨k + 1, by omega, by go_num, by rw [HT.out, ← HE.out], hbx⟩
        case measure => simp [intOf]; omega
      · have HF : Hid (L.take k = L) := by show _ = _; rw [List.take_of_length_le (by omega)]
        go_wp2_with fail
        go_ret
        exact ⟨by rw [HP.out, HF.out]; rfl, hbel⟩
  · have e0 : M.putP L = [] := by unfold M.putP; rw [if_neg (fun h => hR h.1)]
    rw [e0]
    rw [Bool.not_eq_true] at hR
    rw [hR] at Hr
    clear e0 hR
    go_enter Try.func27, Try.ntmps27
    go_wp2_with fail
    refine Hr.mono ?_
    rintro e w1 ⟨rfl, b1⟩
    go_wp2_with fail
    go_ret
    exact ⟨rfl, b1⟩
theorem rput_nilP (a : Option Addr) (cap : Nat) (w : World) :
    Calls Try.prog 27 #[.slice a 0 cap] w fun e w' => e = .returned (.string (M.bs (M.putP []))) ∧ Bel w w' := by
  have Hr := rright_nil a cap w
  have e1 : M.right [] = true := rfl
  have e2 : M.putP [] = M.put 0 2 := by decide +kernel
  rw [e1] at Hr
  rw [e2]
  have Hn := fun W => rput_any 0 2 W (by omega)
  generalize M.put 0 2 = P0 at *
  clear e1 e2
  go_enter Try.func27, Try.ntmps27
  go_wp2_with fail
  refine Hr.mono ?_
  rintro e w1 ⟨rfl, b1⟩
  clear Hr
  go_wp2_with fail
  refine (Hn _).mono ?_
  rintro e w2 ⟨rfl, b2⟩
  clear Hn
  go_wp2_with fail
  refine wp_loop_rounds 1 ?_
  rw [rounds_succ]
  go_wp2_with fail
  go_ret
  exact ⟨rfl, b1.tr b2⟩
/-- The document's 'Put' of any pieces. -/
theorem rputP_any (L : List M.Pc) (x : Value) (w : World) (hv : Vals w x L) (hL2 : L.length ≤ 5000) (hs : ∀ p ∈ L, p.2.length ≤ 17000) :
    Calls Try.prog 27 #[x] w fun e w' => e = .returned (.string (M.bs (M.putP L))) ∧ Bel w w' := by
  obtain ⟨a, cap, rfl, hv⟩ := hv
  by_cases h0 : L = []
  · subst h0; exact rput_nilP a cap w
  · obtain h | ⟨b, off, rfl, hr⟩ := hv
    · exact absurd h h0
    · refine rput_some L b off cap w hr ?_ hL2 hs
      have : L.length ≠ 0 := fun h => h0 (List.length_eq_zero_iff.1 h)
      omega
end Go.Proofs.Ytaepbmcmggnmpaa
