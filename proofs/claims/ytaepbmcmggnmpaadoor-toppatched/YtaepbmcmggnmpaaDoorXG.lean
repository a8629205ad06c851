/-
  The contracts of patch.first and patch.Get, walked.
-/
import Derived.Test.YtaepbmcmggnmpaaDoorXC
namespace Go.Proofs.YtaepbmcmggnmpaaDoor.Pt
open Go.RowKit
set_option maxRecDepth 100000

/-- The first piece, its length in bytes; none where the text ends within it. -/
def firstP (s : List UInt8) : M.Pc × Nat × Bool := if s.length < 4 then ((0, []), 0, false) else if s.length < 4 + M.getN ((s.drop 2).take 2) then ((0, []), 0, false) else
  (((M.getN (s.take 2) : Int), (s.drop 4).take (M.getN ((s.drop 2).take 2))), 4 + M.getN ((s.drop 2).take 2), true)
theorem sub_bs (s : List UInt8) (a b : Nat) : (M.bs s).extract a b = M.bs ((s.drop a).take (b - a)) := by rw [M.extract_bs, M.bs_data]
/-- A block of two cells that a call made ahead of another call. -/
theorem box2 {w w1 : World} {c0 c1 : Value} {t : TypeId} (b1 : Bel (w.alloc (.cells #[c0, c1] t)) w1) :
    (w1.cell? ⟨w.heap.size, 0, none⟩ = some c0 ∧ w1.cell? ⟨w.heap.size, 1, none⟩ = some c1) ∧
    (w1.frozen? ⟨w.heap.size, 0, none⟩ = false ∧ w1.frozen? ⟨w.heap.size, 1, none⟩ = false) ∧ w.heap.size < w1.heap.size := by
  have bz := b1.size
  simp at bz
  refine ⟨⟨?_, ?_⟩, ⟨?_, ?_⟩, by omega⟩
  · exact (b1.cell (p := ⟨w.heap.size, 0, none⟩) (by simp)).trans (by simp [World.cell?_alloc_at])
  · exact (b1.cell (p := ⟨w.heap.size, 1, none⟩) (by simp)).trans (by simp [World.cell?_alloc_at])
  · exact (b1.frozen (p := ⟨w.heap.size, 0, none⟩) (by simp)).trans (by simp [World.frozen?_alloc_at])
  · exact (b1.frozen (p := ⟨w.heap.size, 1, none⟩) (by simp)).trans (by simp [World.frozen?_alloc_at])
theorem getQ (s : List UInt8) (n : Nat) (hn : n ≤ 7) (h : s.length = n) (W : World) : Calls Tryd.prog 48 #[.string (M.bs s)] W fun e w' => e = .returned (.int .i64 ((M.getN s : Nat) : Int)) ∧ W = w' := by
  have := get_any (M.bs s) W (by rw [M.bs_size]; unfold maxLen; omega)
  rw [M.bs_data] at this
  unfold M.get at this
  rw [if_pos (by omega)] at this
  exact this
set_option maxHeartbeats 1000000 in
theorem first_any (s : List UInt8) (w : World) (hs : s.length ≤ 100000) :
    Calls Tryd.prog 65 #[.string (M.bs s)] w fun e w' => e = .returned (.tuple #[.agg #[.int .i64 (firstP s).1.1, .string (M.bs (firstP s).1.2)], .int .i64 ((firstP s).2.1 : Int), .bool (firstP s).2.2]) ∧ Bel w w' := by
  have hz : (M.bs s).size = s.length := M.bs_size s
  by_cases h4 : s.length < 4
  · have HF : Hid (firstP s = ((0, []), 0, false)) := by show _ = _; unfold firstP; rw [if_pos h4]
    go_enter Tryd.func65, Tryd.ntmps65
    go_wp2_with fail
    refine bodyPost_ret (v := .tuple #[.agg #[.int .i64 0, .string (M.bs [])], .int .i64 0, .bool false]) (by simp [results, Tryd.results65, go_sem, M.bs]) rfl ⟨by rw [HF.out]; rfl, Bel.al (Below.refl _ _) _⟩
  · have l2 : ((s.drop 2).take 2).length = 2 := by rw [List.length_take, List.length_drop]; omega
    have l0 : (s.take 2).length = 2 := by rw [List.length_take]; omega
    have hx1 : (M.bs s).extract 2 4 = M.bs ((s.drop 2).take 2) := sub_bs s 2 4
    have hx0 : (M.bs s).extract 0 2 = M.bs (s.take 2) := by rw [sub_bs, List.drop_zero]
    have H2 := fun W => getQ _ 2 (by omega) l2 W
    have H0 := fun W => getQ _ 2 (by omega) l0 W
    have g2 := M.getN_lt ((s.drop 2).take 2)
    rw [l2] at g2
    by_cases hk : s.length < 4 + M.getN ((s.drop 2).take 2)
    · have HF : Hid (firstP s = ((0, []), 0, false)) := by show _ = _; unfold firstP; rw [if_neg h4, if_pos hk]
      generalize M.getN ((s.drop 2).take 2) = k at *
      generalize M.bs ((s.drop 2).take 2) = S2 at *
      go_enter Tryd.func65, Tryd.ntmps65
      go_wp2_with fail
      refine (H2 _).mono ?_
      rintro e w1 ⟨rfl, rfl⟩
      go_wp2_with fail
      refine bodyPost_ret (v := .tuple #[.agg #[.int .i64 0, .string (M.bs [])], .int .i64 0, .bool false]) (by simp [results, Tryd.results65, go_sem, M.bs]) rfl ⟨by rw [HF.out]; rfl, Bel.al (Below.refl _ _) _⟩
    · have HF : Hid (firstP s = (((M.getN (s.take 2) : Int), (s.drop 4).take (M.getN ((s.drop 2).take 2))), 4 + M.getN ((s.drop 2).take 2), true)) := by show _ = _; unfold firstP; rw [if_neg h4, if_neg hk]
      have hx4 : (M.bs s).extract 4 (4 + M.getN ((s.drop 2).take 2)) = M.bs ((s.drop 4).take (M.getN ((s.drop 2).take 2))) := by rw [sub_bs, Nat.add_sub_cancel_left]
      have hD : ((s.drop 4).take (M.getN ((s.drop 2).take 2))).length ≤ 100000 := by rw [List.length_take, List.length_drop]; omega
      have g0 := M.getN_lt (s.take 2)
      rw [l0] at g0
      generalize M.getN ((s.drop 2).take 2) = k at *
      generalize M.bs ((s.drop 2).take 2) = S2 at *
      generalize M.getN (s.take 2) = n at *
      generalize M.bs (s.take 2) = S0 at *
      generalize (s.drop 4).take k = D at *
      have hc : ((4 + k : Nat) : Int) = 4 + (k : Int) := by omega
      have hc2 : ((4 : Int) + (k : Int)).toNat = 4 + k := by omega
      have hc3 : (4 : Int) + (k : Int) ≤ (s.length : Int) := by omega
      have hc4 : (4 : Int) ≤ 4 + (k : Int) := by omega
      go_enter Tryd.func65, Tryd.ntmps65
      go_wp2_with fail
      refine (H2 _).mono ?_
      rintro e w1 ⟨rfl, rfl⟩
      go_wp2_with fail
      go_region_with (go_at_call 48; refine (H0 _).mono ?_; rintro e w2 ⟨rfl, rfl⟩)
      all_goals
        go_wp2_with fail
        refine bodyPost_ret (v := .tuple #[.agg #[.int .i64 (n : Int), .string (M.bs D)], .int .i64 (4 + (k : Int)), .bool true]) (by simp [results, Tryd.results65, go_sem]) rfl ⟨by rw [HF.out, ← hc], Bel.dr (Bel.al (Below.refl _ _) _)⟩

theorem getF_step (n : Nat) (r : List UInt8) (acc : List M.Pc) (u : Nat) : M.getF (n + 1) r acc u = if (firstP r).2.2 = true then M.getF n (r.drop (firstP r).2.1) (acc ++ [(firstP r).1]) (u + (firstP r).2.1) else none := by
  simp only [M.getF, firstP]
  split
  · simp
  · split
    · simp
    · simp
theorem firstP_le (r : List UInt8) (h : (firstP r).2.2 = true) : (firstP r).2.1 ≤ r.length ∧ 4 ≤ (firstP r).2.1 ∧ (firstP r).1.2.length ≤ r.length := by
  unfold firstP at *
  split at h
  · cases h
  · split at h
    · cases h
    · rename_i h1 h2
      rw [if_neg h1, if_neg h2]
      simp only [List.length_take, List.length_drop]; omega
theorem getF_small (n : Nat) : ∀ (r : List UInt8) (acc : List M.Pc) (u : Nat) (L : List M.Pc) (v m : Nat), M.getF n r acc u = some (L, v) → r.length ≤ m → (∀ p ∈ acc, p.2.length ≤ m) → ∀ p ∈ L, p.2.length ≤ m := by
  induction n with
  | zero => intro r acc u L v m h _ ha; simp [M.getF] at h; obtain ⟨rfl, rfl⟩ := h; exact ha
  | succ n ih =>
    intro r acc u L v m h hr ha
    rw [getF_step] at h
    split at h
    · rename_i hf
      have hl := firstP_le r hf
      refine ih _ _ _ _ _ m h (by rw [List.length_drop]; omega) (fun p hp => ?_)
      rcases List.mem_append.1 hp with hp | hp
      · exact ha p hp
      · simp at hp; subst hp; omega
    · cases h
set_option maxHeartbeats 2000000 in
theorem getP_any (s : List UInt8) (w : World) (hs : s.length ≤ 10000) :
    Calls Tryd.prog 38 #[.string (M.bs s)] w fun e w' => ∃ x, e = .returned (.tuple #[x, .int .i64 ((M.getP s).2.1 : Int), .int .i64 ((M.getP s).2.2 : Int)]) ∧ OwnP 113 w' w.heap.size x (M.getP s).1 ∧ Bel w w' := by
  have hz : (M.bs s).size = s.length := M.bs_size s
  by_cases h2 : s.length < 2
  · have HF : Hid (M.getP s = ([], 0, 3)) := by show _ = _; unfold M.getP; rw [if_pos h2]
    go_enter Tryd.func38, Tryd.ntmps38
    go_wp2_with fail
    go_ret3
    exact ⟨_, by rw [HF.out]; rfl, by rw [HF.out]; exact OwnP.nil _ _ _, Below.refl _ _⟩
  · have l0 : (s.take 2).length = 2 := by rw [List.length_take]; omega
    have hx0 : (M.bs s).extract 0 2 = M.bs (s.take 2) := by rw [sub_bs, List.drop_zero]
    have H0 := fun W => getQ _ 2 (by omega) l0 W
    have g0 := M.getN_lt (s.take 2)
    rw [l0] at g0
    have HG : Hid (M.getP s = match M.getF (M.getN (s.take 2)) (s.drop 2) [] 2 with
      | none => ([], 0, 3)
      | some (L, u) => if M.right L = true then (L, u, 0) else ([], 0, 2)) := by show _ = _; unfold M.getP; rw [if_neg h2]; rfl
    generalize M.getN (s.take 2) = n at *
    generalize M.bs (s.take 2) = S0 at *
    obtain ⟨R, hR⟩ : ∃ R, R = M.getF n (s.drop 2) [] 2 := ⟨_, rfl⟩
    rw [← hR] at HG
    have HR : Hid (M.getF n (s.drop 2) [] 2 = R) := hR.symm
    clear hR
    go_enter Tryd.func38, Tryd.ntmps38
    go_wp2_with fail
    refine (H0 _).mono ?_
    rintro e w1 ⟨rfl, rfl⟩
    go_wp2_with fail
    go_loopw [5, 6, 16] (fun lv uv i wr => ∃ (k u : Nat) (acc : List M.Pc), k ≤ n ∧ i = .int .i64 k ∧ uv = .int .i64 u ∧ u ≤ s.length ∧ 2 ≤ u ∧ OwnP 113 wr w.heap.size lv acc ∧ acc.length ≤ u ∧ (∀ p ∈ acc, p.2.length ≤ 10000) ∧ M.getF (n - k) (s.drop u) acc u = R ∧ Bel w wr) (fun _ _ i _ => n - (intOf i).toNat)
    case atStart => exact ⟨0, 2, [], Nat.zero_le _, rfl, rfl, by omega, by omega, OwnP.nil _ _ _, by simp, by simp, HR.out, Below.refl _ _⟩
    case round =>
      obtain ⟨k, u, acc, hk, rfl, rfl, hu, hu2, hown, hacc, hsm, hget, hb⟩ := hrel
      have HO := hid hown
      have hbz := hb.size
      clear hown
      by_cases hlt : k < n
      · rw [show n - k = (n - (k + 1)) + 1 by omega, getF_step] at hget
        have hxu : (M.bs s).extract u s.length = M.bs (s.drop u) := by rw [sub_bs, List.take_of_length_le (by rw [List.length_drop]; omega)]
        have H1 := fun W => first_any (s.drop u) W (by rw [List.length_drop]; omega)
        by_cases hf : (firstP (s.drop u)).2.2 = true
        · rw [if_pos hf, List.drop_drop] at hget
          obtain ⟨f1, f2, f3⟩ := firstP_le _ hf
          rw [List.length_drop] at f1 f3
          rw [hf] at H1
          have HN := hid hget
          have HSm : Hid (∀ p ∈ acc ++ [(firstP (s.drop u)).1], p.2.length ≤ 10000) := fun p hp => by
            rcases List.mem_append.1 hp with hp | hp
            · exact hsm p hp
            · simp at hp; subst hp; omega
          clear hget hf hsm
          generalize (firstP (s.drop u)).1 = q at *
          generalize (firstP (s.drop u)).2.1 = z at *
          obtain ⟨a, t⟩ := q
          generalize M.bs (s.drop u) = SU at *
          go_wp2_with fail
          refine (H1 _).mono ?_
          rintro e w2 ⟨rfl, b2⟩
          have ho := HO.out.bel b2
          have hz2 := b2.size
          clear H1
          go_wp2_with (first
            | (at_builtin; refine app48 rfl _ _ rfl w.heap.size _ _ rfl (ho.al _) a t (w2.heap.size + 1) (by simp) rfl (by omega) (by simp; omega) ?_; intro v1 w3 o3 b3; clear ho))
          go_roundw
          case rel => exact ⟨k + 1, u + z, acc ++ [(a, t)], by omega, by go_num, by go_num, by omega, by omega, o3, by simp; omega, HSm.out, HN.out, Below.trans (Bel.al (hb.tr b2) _) b3⟩
          case measure => simp [intOf]; omega
        · rw [if_neg hf] at hget
          rw [Bool.not_eq_true] at hf
          rw [hf] at H1
          have HN : Hid (M.getP s = ([], 0, 3)) := by show _ = _; rw [HG.out, ← hget]
          clear hget hf
          generalize (firstP (s.drop u)).1 = q at *
          generalize (firstP (s.drop u)).2.1 = z at *
          obtain ⟨a, t⟩ := q
          generalize M.bs (s.drop u) = SU at *
          go_wp2_with fail
          refine (H1 _).mono ?_
          rintro e w2 ⟨rfl, b2⟩
          go_wp2_with fail
          go_ret3
          exact ⟨_, by rw [HN.out]; rfl, by rw [HN.out]; exact OwnP.nil _ _ _, Bel.al (hb.tr b2) _⟩
      · obtain rfl : k = n := by omega
        rw [Nat.sub_self] at hget
        have HN : Hid (M.getP s = if M.right acc = true then (acc, u, 0) else ([], 0, 2)) := by show _ = _; rw [HG.out, ← hget]; rfl
        have Hr := fun W hv => right_any acc u5 W hv (by omega) (fun p hp => by have := hsm p hp; omega)
        have hv := HO.out.vals
        clear hget hsm
        by_cases hr : M.right acc = true
        · rw [hr] at Hr
          have HN2 : Hid (M.getP s = (acc, u, 0)) := by show _ = _; rw [HN.out, if_pos hr]
          clear hr HN
          go_wp2_with fail
          refine (Hr _ hv).mono ?_
          rintro e w2 ⟨rfl, b2⟩
          go_wp2_with fail
          go_ret3
          exact ⟨_, by rw [HN2.out]; rfl, by rw [HN2.out]; exact HO.out.bel b2, hb.tr b2⟩
        · have HN2 : Hid (M.getP s = ([], 0, 2)) := by show _ = _; rw [HN.out, if_neg hr]
          rw [Bool.not_eq_true] at hr
          rw [hr] at Hr
          clear hr HN
          go_wp2_with fail
          refine (Hr _ hv).mono ?_
          rintro e w2 ⟨rfl, b2⟩
          go_wp2_with fail
          go_ret3
          exact ⟨_, by rw [HN2.out]; rfl, by rw [HN2.out]; exact OwnP.nil _ _ _, hb.tr b2⟩
end Go.Proofs.YtaepbmcmggnmpaaDoor.Pt
