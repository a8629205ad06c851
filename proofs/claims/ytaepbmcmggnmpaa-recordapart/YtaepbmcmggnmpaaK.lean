/-
  The contract of the document's own Get (concordanceref06), walked.
-/
import Derived.Test.YtaepbmcmggnmpaaXA
import Derived.Test.YtaepbmcmggnmpaaG
namespace Go.Proofs.Ytaepbmcmggnmpaa
open Go.RowKit
set_option maxRecDepth 100000

theorem rgetQ (s : List UInt8) (n : Nat) (hn : n ≤ 7) (h : s.length = n) (W : World) : Calls Try.prog 49 #[.string (M.bs s)] W fun e w' => e = .returned (.int .i64 ((M.getN s : Nat) : Int)) ∧ W = w' := by
  have := rget_any (M.bs s) W (by rw [M.bs_size]; unfold maxLen; omega)
  rw [M.bs_data] at this
  unfold M.get at this
  rw [if_pos (by omega)] at this
  exact this
set_option maxHeartbeats 4000000 in
theorem rgetP_any (s : List UInt8) (w : World) (hs : s.length ≤ 20000) :
    Calls Try.prog 37 #[.string (M.bs s)] w fun e w' => ∃ x, e = .returned (.tuple #[x, .int .i64 ((M.getP s).2.1 : Int), .int .i64 ((M.getP s).2.2 : Int)]) ∧ OwnP 67 w' w.heap.size x (M.getP s).1 ∧ Bel w w' := by
  have hz : (M.bs s).size = s.length := M.bs_size s
  by_cases h2 : s.length < 2
  · have HF : Hid (M.getP s = ([], 0, 3)) := by show _ = _; unfold M.getP; rw [if_pos h2]
    go_enter Try.func37, Try.ntmps37
    go_wp2_with fail
    go_ret3
    exact ⟨_, by rw [HF.out]; rfl, by rw [HF.out]; exact OwnP.nil _ _ _, Below.refl _ _⟩
  · have l0 : (s.take 2).length = 2 := by rw [List.length_take]; omega
    have hx0 : (M.bs s).extract 0 2 = M.bs (s.take 2) := by rw [sub_bs, List.drop_zero]
    have H0 := fun W => rgetQ _ 2 (by omega) l0 W
    have g0 := M.getN_lt (s.take 2)
    rw [l0] at g0
    have HG : Hid (M.getP s = match M.getF (M.getN (s.take 2)) (s.drop 2) [] 2 with
      | none => ([], 0, 3)
      | some (L, u) => if M.right L = true then (L, u, 0) else ([], 0, 2)) := by show _ = _; unfold M.getP; rw [if_neg h2]; rfl
    generalize M.getN (s.take 2) = n at *
    generalize M.bs (s.take 2) = S0 at *
    obtain ⟨R, hR⟩ : ∃ R, R = M.getF n (s.drop 2) [] 2 := ⟨_, rfl⟩
    rw [← hR] at HG
    have HR : Hid (M.getF n (s.drop 2) [] 2 = R) := hR.symm
    clear hR
    go_enter Try.func37, Try.ntmps37
    go_wp2_with fail
    refine (H0 _).mono ?_
    rintro e w1 ⟨rfl, rfl⟩
    go_wp2_with fail
    go_loopw [6, 7, 8] (fun lv uv i wr => ∃ (k u : Nat) (acc : List M.Pc), k ≤ n ∧ i = .int .i64 k ∧ uv = .int .i64 u ∧ u ≤ s.length ∧ 2 ≤ u ∧ OwnP 67 wr w.heap.size lv acc ∧ acc.length ≤ u ∧ (∀ p ∈ acc, p.2.length ≤ 20000) ∧ M.getF (n - k) (s.drop u) acc u = R ∧ Bel w wr) (fun _ _ i _ => n - (intOf i).toNat)
    case atStart => exact ⟨0, 2, [], Nat.zero_le _, rfl, rfl, by omega, by omega, OwnP.nil _ _ _, by simp, by simp, HR.out, Below.refl _ _⟩
    case round =>
      obtain ⟨k, u, acc, hk, rfl, rfl, hu, hu2, hown, hacc, hsm, hget, hb⟩ := hrel
      have HO := hid hown
      have hbz := hb.size
      clear hown
      by_cases hlt : k < n
      · rw [show n - k = (n - (k + 1)) + 1 by omega] at hget
        simp only [M.getF] at hget
        by_cases h4 : (s.drop u).length < 4
        · rw [if_pos h4] at hget
          have HN : Hid (M.getP s = ([], 0, 3)) := by show _ = _; rw [HG.out, ← hget]
          rw [List.length_drop] at h4
          clear hget hsm
          go_wp2_with fail
          go_ret3
          exact ⟨_, by rw [HN.out]; rfl, by rw [HN.out]; exact OwnP.nil _ _ _, hb⟩
        · rw [if_neg h4] at hget
          have l2 : (((s.drop u).drop 2).take 2).length = 2 := by rw [List.length_take, List.length_drop]; omega
          have la : ((s.drop u).take 2).length = 2 := by rw [List.length_take]; omega
          have hx2 : (M.bs s).extract (u + 2) (u + 4) = M.bs (((s.drop u).drop 2).take 2) := by rw [sub_bs, List.drop_drop, show u + 4 - (u + 2) = 2 by omega]
          have hxa : (M.bs s).extract u (u + 2) = M.bs ((s.drop u).take 2) := by rw [sub_bs, show u + 2 - u = 2 by omega]
          have H2 := fun W => rgetQ _ 2 (by omega) l2 W
          have Ha := fun W => rgetQ _ 2 (by omega) la W
          have g2 := M.getN_lt (((s.drop u).drop 2).take 2)
          rw [l2] at g2
          by_cases hk2 : (s.drop u).length < 4 + M.getN (((s.drop u).drop 2).take 2)
          · rw [if_pos hk2] at hget
            have HN : Hid (M.getP s = ([], 0, 3)) := by show _ = _; rw [HG.out, ← hget]
            rw [List.length_drop] at h4 hk2
            clear hget hsm Ha hxa
            generalize M.getN (((s.drop u).drop 2).take 2) = z at *
            generalize M.bs (((s.drop u).drop 2).take 2) = S2 at *
            go_wp2_with fail
            refine (H2 _).mono ?_
            rintro e w2 ⟨rfl, rfl⟩
            go_wp2_with fail
            go_ret3
            exact ⟨_, by rw [HN.out]; rfl, by rw [HN.out]; exact OwnP.nil _ _ _, hb⟩
          · rw [if_neg hk2, List.drop_drop] at hget
            have hxd : (M.bs s).extract (u + 4) (u + 4 + M.getN (((s.drop u).drop 2).take 2)) = M.bs (((s.drop u).drop 4).take (M.getN (((s.drop u).drop 2).take 2))) := by
              have e4 : (s.drop u).drop 4 = s.drop (u + 4) := List.drop_drop ..
              rw [sub_bs, Nat.add_sub_cancel_left, e4]
            have hD : (((s.drop u).drop 4).take (M.getN (((s.drop u).drop 2).take 2))).length ≤ 20000 := by rw [List.length_take, List.length_drop, List.length_drop]; omega
            have HN := hid hget
            have HSm : Hid (∀ q : Int, ∀ p ∈ acc ++ [(q, ((s.drop u).drop 4).take (M.getN (((s.drop u).drop 2).take 2)))], p.2.length ≤ 20000) := fun q p hp => by
              rcases List.mem_append.1 hp with hp | hp
              · exact hsm p hp
              · rw [List.mem_singleton.1 hp]; exact hD
            rw [List.length_drop] at h4 hk2
            clear hget hsm
            generalize M.getN (((s.drop u).drop 2).take 2) = z at *
            generalize M.bs (((s.drop u).drop 2).take 2) = S2 at *
            generalize M.getN ((s.drop u).take 2) = q at *
            generalize M.bs ((s.drop u).take 2) = Sa at *
            generalize ((s.drop u).drop 4).take z = D at *
            go_wp2_with fail
            refine (H2 _).mono ?_
            rintro e w2 ⟨rfl, rfl⟩
            go_wp2_with fail
            refine (H2 _).mono ?_
            rintro e w2 ⟨rfl, rfl⟩
            have ho := HO.out
            have hr6 : ∀ j, u6.ownBlock = some j → w.heap.size ≤ j := fun j hj => (World.ownsRow.lt ho j hj).1
            have hcl : acc.length ≤ 100000 := by omega
            have p1 : ((u : Int) + 4 + (z : Int)).toNat = u + 4 + z := by omega
            have p2 : (u : Int) + 4 + (z : Int) ≤ (s.length : Int) := by omega
            have p3 : (u : Int) + 4 ≤ (u : Int) + 4 + (z : Int) := by omega
            have p4 : ((u : Int) + 4).toNat = u + 4 := by omega
            have p5 : ((u : Int) + 2).toNat = u + 2 := by omega
            have p6 : (u : Int) + 2 ≤ (s.length : Int) := by omega
            have p7 : (0 : Int) ≤ (u : Int) + 2 := by omega
            have p8 : (u : Int) ≤ (u : Int) + 2 := by omega
            have p9 : (0 : Int) ≤ (u : Int) + 4 := by omega
            have p10 : (0 : Int) ≤ (u : Int) + 4 + (z : Int) := by omega
            have p11 : (0 : Int) ≤ (u : Int) := by omega
            have p12 : (u : Int) + 4 ≤ (s.length : Int) := by omega
            have v1 : IntKind.i64.wrap ((u : Int) + 2) = (u : Int) + 2 := by rw [IntKind.wrap_i64]; omega
            have v2 : IntKind.i64.wrap ((u : Int) + 4) = (u : Int) + 4 := by rw [IntKind.wrap_i64]; omega
            have v3 : IntKind.i64.wrap ((u : Int) + 4 + (z : Int)) = (u : Int) + 4 + (z : Int) := by rw [IntKind.wrap_i64]; omega
            go_wp2_with fail
            go_region_held3 (fun _ => True) (trivial)
              ((first
                | (go_at_call 49; refine (Ha _).mono ?_; rintro e w3 ⟨rfl, rfl⟩)
                | (refine appS50 (by rfl) _ _ (by rfl) w.heap.size u6 acc (by rfl) (by exact ho.al _) (q : Int) D _ (by rfl) (by refine ⟨?_, ?_⟩ <;> go_simp) hcl (by first | (simp; done) | (simp; omega)) ?_; intro v5 w4 o4 g4)))
            have bA : Below w.heap.size w w4 := Below.grown (Bel.dr (hb.al _)) g4 (by simp; omega) hr6
            clear g4 hr6 ho H2 Ha hx2 hxa hxd
            go_wp2_with fail
            go_roundw
            case rel => exact ⟨k + 1, u + (4 + z), acc ++ [((q : Int), D)], by omega, by go_num, by go_num, by omega, by omega, o4, by simp; omega, HSm.out _, HN.out, bA⟩
            case measure => simp [intOf]; omega
      · obtain rfl : k = n := by omega
        rw [Nat.sub_self] at hget
        have HN : Hid (M.getP s = if M.right acc = true then (acc, u, 0) else ([], 0, 2)) := by show _ = _; rw [HG.out, ← hget]; rfl
        have Hr := fun W hv => rright_any acc u6 W hv (by omega) (fun p hp => by have := hsm p hp; omega)
        have hv := HO.out.vals
        clear hget hsm
        by_cases hr : M.right acc = true
        · rw [hr] at Hr
          have HN2 : Hid (M.getP s = (acc, u, 0)) := by show _ = _; rw [HN.out, if_pos hr]
          clear hr HN
          go_wp2_with fail
          refine (Hr _ hv).mono ?_
          rintro e w2 ⟨rfl, b2⟩
          go_wp2_with fail
          go_ret3
          exact ⟨_, by rw [HN2.out]; rfl, by rw [HN2.out]; exact HO.out.bel b2, hb.tr b2⟩
        · have HN2 : Hid (M.getP s = ([], 0, 2)) := by show _ = _; rw [HN.out, if_neg hr]
          rw [Bool.not_eq_true] at hr
          rw [hr] at Hr
          clear hr HN
          go_wp2_with fail
          refine (Hr _ hv).mono ?_
          rintro e w2 ⟨rfl, b2⟩
          go_wp2_with fail
          go_ret3
          exact ⟨_, by rw [HN2.out]; rfl, by rw [HN2.out]; exact OwnP.nil _ _ _, hb.tr b2⟩
end Go.Proofs.Ytaepbmcmggnmpaa
