/-
  The contract of patch.Put, walked.
-/
import Derived.Test.YtaepbmcmggnmpaaDoorXE
namespace Go.Proofs.YtaepbmcmggnmpaaDoor.Pt
open Go.RowKit
set_option maxRecDepth 100000

theorem kept_cell {b k : Nat} {w w' : World} {cs : Array Value} {t : TypeId} {fr : Nat × Nat} (h : Lib.OthersKept 5 (some b) w w') (hk : w.heap[k]? = some (.cells cs t fr)) (hb : k ≠ b) (ht : t ≠ 5) : w'.heap[k]? = some (.cells cs t fr) :=
  h k _ hk (by simpa using hb) (fun c fz e => ht (by injection e))
theorem Bd.dr {w : World} {B b : Nat} {l : List UInt8} (h : Bd w B b l) : Bd w.drew B b l := h

set_option maxHeartbeats 4000000 in
theorem put_some (L : List M.Pc) (b off cap : Nat) (w : World) (hv : Row2 w b off L) (hL : 0 < L.length) (hL2 : L.length ≤ 2000) (hs : ∀ p ∈ L, p.2.length ≤ 2000) :
    Calls Tryd.prog 39 #[.slice (some ⟨b, off, none⟩) L.length cap] w fun e w' => e = .returned (.string (M.bs (M.putP L))) ∧ Bel w w' := by
  have hbw := hv.lt hL
  have Hr := right_some L b off cap w hv hL (by omega) (fun p hp => by have := hs p hp; omega)
  have Hn := fun W => put_any (L.length : Int) 2 W (by omega) (by omega)
  by_cases hR : M.right L = true
  · have hall := M.right_all hR
    rw [hR] at Hr
    have HP : Hid (M.putP L = M.put L.length 2 ++ L.flatMap M.one) := by show _ = _; unfold M.putP; rw [if_pos ⟨hR, by omega⟩]
    have hpl := M.put_two_len (L.length : Int) (by omega) (by omega)
    generalize M.put (L.length : Int) 2 = P0 at *
    clear hR
    go_enter Tryd.func39, Tryd.ntmps39
    go_wp2_with fail
    refine Hr.mono ?_
    rintro e w1 ⟨rfl, b1⟩
    clear Hr
    have hz1 := b1.size
    go_wp2_with fail
    refine (Hn _).mono ?_
    rintro e w2 ⟨rfl, b2⟩
    have hz2 := b2.size
    simp only [World.size_alloc] at hz2
    have hbd2 := (Bd.new w1).bel b2
    go_wp2_with fail
    refine (writeString_any w1.heap.size w1.heap.size [] P0 w2 hbd2 (by simp; omega) (by omega)).mono ?_
    rintro e w3 ⟨rfl, hbd3, b3, k3⟩
    have hz3 := b3.size
    have HB3 : Hid (Bel w w3) := (b1.al _).tr b2 |>.trans (b3.mono (by omega))
    have HB := hid hbd3
    clear hbd3 hbd2 Hn
    go_wp2_with fail
    go_loopw [20] (fun i wr => ∃ (k : Nat), k ≤ L.length ∧ i = .int .i64 k ∧ Bd wr w1.heap.size w1.heap.size (P0 ++ (L.take k).flatMap M.one) ∧ Bel w wr ∧ w1.heap.size < wr.heap.size) (fun i _ => L.length - (intOf i).toNat)
    case atStart => exact ⟨0, Nat.zero_le _, rfl, by simpa using HB.out, HB3.out, by omega⟩
    case round =>
      obtain ⟨k, hk, rfl, hbd, hbel, hzr⟩ := hrel
      by_cases hlt : k < L.length
      · obtain ⟨c1, c2⟩ := (hv.below hbel hbw) k hlt
        obtain ⟨ha0, ha1, _, htl⟩ := hall L[k] (List.getElem_mem hlt)
        have htl2 := hs L[k] (List.getElem_mem hlt)
        have HT : Hid ((L.take (k + 1)).flatMap M.one = (L.take k).flatMap M.one ++ M.one L[k]) := by show _ = _; rw [List.take_succ_eq_append_getElem hlt, List.flatMap_append, List.flatMap_cons, List.flatMap_nil, List.append_nil]
        have hacc : (P0 ++ (L.take k).flatMap M.one).length ≤ 10000000 := by
          have : ∀ K : List M.Pc, (∀ p ∈ K, 0 ≤ p.1 ∧ p.1 ≤ 65535 ∧ p.2.length ≤ 2000) → (K.flatMap M.one).length ≤ K.length * 2004 := by
            intro K
            induction K with
            | nil => simp
            | cons p K ih =>
              intro h
              obtain ⟨h1, h2, h3⟩ := h p (by simp)
              have := ih (fun q hq => h q (by simp [hq]))
              have h4 := M.one_length p h1 h2 (by omega)
              simp only [List.flatMap_cons, List.length_append, List.length_cons, h4]; omega
          have h5 := this (L.take k) (fun p hp => by have hm := List.mem_of_mem_take hp; have := hall p hm; have := hs p hm; omega)
          have h6 := List.length_take_le k L
          simp only [List.length_append, hpl]
          have : (L.take k).length * 2004 ≤ 2000 * 2004 := Nat.mul_le_mul_right _ (by rw [List.length_take]; omega)
          omega
        have HW := hid hv
        clear hv hall hs
        generalize L[k] = v at *
        obtain ⟨a, t⟩ := v
        simp only at ha0 ha1 htl htl2 c1 c2
        have hone : (M.one (a, t)).length = 4 + t.length := M.one_length (a, t) ha0 ha1 htl
        have hzt : (M.bs t).size = t.length := M.bs_size t
        have Hp : ∀ n : Int, (n = a ∨ n = (t.length : Int)) → ∀ W, Calls Tryd.prog 36 #[.int .i64 n, .int .i64 2] W fun e w' => e = .returned (.string (M.bs (M.put n 2))) ∧ Bel W w' := fun n hn W => put_any n 2 W (by omega) (by omega)
        have z1 : (M.bs (M.put a 2)).size = 2 := by rw [M.bs_size, M.put_two_len a ha0 ha1]
        have z2 : (M.bs (M.put (t.length : Int) 2)).size = 2 := by rw [M.bs_size, M.put_two_len _ (by omega) (by omega)]
        have HE : Hid (M.bs (M.put a 2) ++ M.bs (M.put (t.length : Int) 2) ++ M.bs t = M.bs (M.one (a, t))) := by show _ = _; rw [M.bs_append, M.bs_append]; rfl
        have Hw := fun W (h : Bd W w1.heap.size w1.heap.size (P0 ++ (L.take k).flatMap M.one)) (hW : w1.heap.size ≤ W.heap.size) => writeString_any w1.heap.size w1.heap.size _ (M.one (a, t)) W h (by omega) hW
        rw [← HE.out] at Hw
        have z12 : (M.bs (M.put a 2) ++ M.bs (M.put (t.length : Int) 2)).size = 4 := by rw [M.bs_append, M.bs_size, List.length_append, M.put_two_len a ha0 ha1, M.put_two_len _ (by omega) (by omega)]
        have hq4 : ¬ 9223372036854775807 < 4 + t.length := by omega
        have hbd1 := Bd.dr (hbd.al (.cells #[.int .i64 a, .string (M.bs t)] 113))
        have hbk : (wr.alloc (.cells #[.int .i64 a, .string (M.bs t)] 113)).drew.heap[wr.heap.size]? = some (.cells #[.int .i64 a, .string (M.bs t)] 113 (0, 0)) := heap_alloc_new wr _
        have hbx := (Bel.al (Below.refl _ wr) (.cells #[.int .i64 a, .string (M.bs t)] 113)).dr
        have hzx : wr.heap.size < (wr.alloc (.cells #[.int .i64 a, .string (M.bs t)] 113)).drew.heap.size := by simp
        clear hbd
        go_wp2_with fail
        go_region_held3 (fun w' => w'.cell? ⟨wr.heap.size, 0, none⟩ = some (.int .i64 a) ∧ w'.cell? ⟨wr.heap.size, 1, none⟩ = some (.string (M.bs t))) (go_keep)
          (first
            | (go_at_call 36; refine (Hp _ (by first | exact .inl rfl | exact .inr rfl) _).mono ?_; rintro e w4 ⟨rfl, b4⟩; have hc0 := bel_cell b4 (g := wr.heap.size) hzx; have hbd1 := hbd1.bel b4; have hbx := hbx.tr b4; have hbk := (b4.block wr.heap.size hzx).trans hbk; have hzx := Nat.lt_of_lt_of_le hzx b4.size)
            | (go_at_call 67; refine (Hw _ hbd1 (by omega)).mono ?_; rintro e w5 ⟨rfl, hbd5, b5, k5⟩; have hz5 := b5.size; have hc0 : ∀ o, w5.cell? ⟨wr.heap.size, o, none⟩ = w4.cell? ⟨wr.heap.size, o, none⟩ := fun o => World.cell?_of_block (w := w4) (kept_cell k5 hbk (by omega) (by decide) |>.trans hbk.symm)))
        go_wp2_with fail
        go_roundw
        case rel => exact ⟨k + 1, by omega, by go_num, by rw [HT.out, ← List.append_assoc]; exact hbd5, (hbel.tr hbx).trans (b5.mono (by omega)), by omega⟩
        case measure => simp [intOf]; omega
      · have HF : Hid (L.take k = L) := by show _ = _; rw [List.take_of_length_le (by omega)]
        have hne : P0 ++ (L.take k).flatMap M.one ≠ [] := by
          intro e
          have := congrArg List.length e
          rw [List.length_append, hpl] at this; simp at this
        have Hs := string_any w1.heap.size w1.heap.size _ wr hbd hne
        clear hbd hne
        go_wp2_with fail
        refine Hs.mono ?_
        rintro e w4 ⟨rfl, _, b4, _⟩
        go_wp2_with fail
        go_ret
        exact ⟨by rw [HP.out, HF.out]; rfl, hbel.trans (b4.mono (by omega))⟩
  · have e0 : M.putP L = [] := by unfold M.putP; rw [if_neg (fun h => hR h.1)]
    rw [e0]
    rw [Bool.not_eq_true] at hR
    rw [hR] at Hr
    clear e0 hR
    go_enter Tryd.func39, Tryd.ntmps39
    go_wp2_with fail
    refine Hr.mono ?_
    rintro e w1 ⟨rfl, b1⟩
    go_wp2_with fail
    go_ret
    exact ⟨rfl, b1⟩
theorem put_nilP (a : Option Addr) (cap : Nat) (w : World) :
    Calls Tryd.prog 39 #[.slice a 0 cap] w fun e w' => e = .returned (.string (M.bs (M.putP []))) ∧ Bel w w' := by
  have Hr := right_nil a cap w
  have e1 : M.right [] = true := rfl
  have e2 : M.putP [] = M.put 0 2 := by decide +kernel
  rw [e1] at Hr
  rw [e2]
  have Hn := fun W => put_any 0 2 W (by omega) (by omega)
  have hpl := M.put_two_len 0 (by omega) (by omega)
  generalize M.put 0 2 = P0 at *
  clear e1 e2
  go_enter Tryd.func39, Tryd.ntmps39
  go_wp2_with fail
  refine Hr.mono ?_
  rintro e w1 ⟨rfl, b1⟩
  clear Hr
  have hz1 := b1.size
  go_wp2_with fail
  refine (Hn _).mono ?_
  rintro e w2 ⟨rfl, b2⟩
  have hz2 := b2.size
  simp only [World.size_alloc] at hz2
  have hbd2 := (Bd.new w1).bel b2
  go_wp2_with fail
  refine (writeString_any w1.heap.size w1.heap.size [] P0 w2 hbd2 (by simp; omega) (by omega)).mono ?_
  rintro e w3 ⟨rfl, hbd3, b3, k3⟩
  have hz3 := b3.size
  have HB3 : Hid (Bel w w3) := (b1.al _).tr b2 |>.trans (b3.mono (by omega))
  have Hs := string_any w1.heap.size w1.heap.size _ w3 hbd3 (by intro e; have := congrArg List.length e; rw [List.length_append, hpl] at this; simp at this)
  clear hbd3 hbd2 Hn
  go_wp2_with fail
  refine wp_loop_rounds 1 ?_
  rw [rounds_succ]
  go_wp2_with fail
  refine Hs.mono ?_
  rintro e w4 ⟨rfl, _, b4, _⟩
  go_wp2_with fail
  go_ret
  exact ⟨rfl, HB3.out.trans (b4.mono (by omega))⟩
/-- 'Put' of any pieces. -/
theorem putP_any (L : List M.Pc) (x : Value) (w : World) (hv : Vals w x L) (hL2 : L.length ≤ 2000) (hs : ∀ p ∈ L, p.2.length ≤ 2000) :
    Calls Tryd.prog 39 #[x] w fun e w' => e = .returned (.string (M.bs (M.putP L))) ∧ Bel w w' := by
  obtain ⟨a, cap, rfl, hv⟩ := hv
  by_cases h0 : L = []
  · subst h0; exact put_nilP a cap w
  · obtain h | ⟨b, off, rfl, hr⟩ := hv
    · exact absurd h h0
    · refine put_some L b off cap w hr ?_ hL2 hs
      have : L.length ≠ 0 := fun h => h0 (List.length_eq_zero_iff.1 h)
      omega
end Go.Proofs.YtaepbmcmggnmpaaDoor.Pt
