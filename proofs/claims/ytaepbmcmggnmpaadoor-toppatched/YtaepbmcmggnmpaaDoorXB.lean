/-
  The contract of patch.Diff, walked.
-/
import Derived.Test.YtaepbmcmggnmpaaDoorXA
namespace Go.Proofs.YtaepbmcmggnmpaaDoor.Pt
open Go.RowKit
set_option maxRecDepth 100000

/-- The last piece's bytes, laid anew. -/
theorem OwnP.last {e : TypeId} {w : World} {base g cap : Nat} {L : List M.Pc} {a : Int} {t : List UInt8} (h : OwnP e w base (.slice (some ⟨g, 0, none⟩) (L.length + 1) cap) (L ++ [(a, t)])) (u : List UInt8) :
    OwnP e (w.setCell ⟨g, L.length * 2 + 1, none⟩ (.string (M.bs u))) base (.slice (some ⟨g, 0, none⟩) (L.length + 1) cap) (L ++ [(a, u)]) := by
  unfold OwnP at h ⊢
  simp only [List.length_append, List.length_cons, List.length_nil, Nat.zero_add] at h ⊢
  have h2 := (World.ownsRow.stored h (L.length * 2 + 1) (.string (M.bs u))).1
  have e : ((L ++ [(a, t)]).flatMap cells2).set (L.length * 2 + 1) (.string (M.bs u)) = (L ++ [(a, u)]).flatMap cells2 := by
    have hl := cells2_length L
    simp only [List.flatMap_append, List.flatMap_cons, List.flatMap_nil, cells2, List.append_nil]
    rw [List.set_append_right _ _ (by rw [hl]; omega), hl]
    simp
  rw [e] at h2
  exact h2
theorem OwnP.lastAt {e : TypeId} {w : World} {base : Nat} {v : Value} {L : List M.Pc} {a : Int} {t : List UInt8} (h : OwnP e w base v (L ++ [(a, t)])) :
    ∃ g cap, v = .slice (some ⟨g, 0, none⟩) (L.length + 1) cap ∧ base ≤ g ∧ w.cell? ⟨g, L.length * 2, none⟩ = some (.int .i64 a) ∧ w.cell? ⟨g, L.length * 2 + 1, none⟩ = some (.string (M.bs t)) ∧ w.frozen? ⟨g, L.length * 2 + 1, none⟩ = false := by
  have h' := h
  unfold OwnP at h
  simp only [List.length_append, List.length_cons, List.length_nil, Nat.zero_add] at h
  obtain ⟨hlen, ⟨h1, h2⟩ | ⟨g, cap, cur, hv, hg, _⟩⟩ := id h
  · omega
  · refine ⟨g, cap, hv, hg, ?_, ?_, ?_⟩
    · subst hv
      rw [World.ownsRow.cellAt h _ (by omega)]
      have := (cells2_at (L ++ [(a, t)]) L.length (by simp)).1
      simpa using this
    · subst hv
      rw [World.ownsRow.cellAt h _ (by omega)]
      have := (cells2_at (L ++ [(a, t)]) L.length (by simp)).2
      simpa using this
    · subst hv; exact World.ownsRow.frozenAt h _

theorem diff_neq (a b : List UInt8) (w : World) (h : a.length ≠ b.length ∨ (a.length = b.length ∧ 65535 < b.length)) (_ha : a.length ≤ 1000000000) (_hb : b.length ≤ 1000000000) :
    Calls Tryd.prog 37 #[.string (M.bs a), .string (M.bs b)] w fun e w' => e = .returned (.slice none 0 0) ∧ w = w' := by
  have za : (M.bs a).size = a.length := M.bs_size a
  have zb : (M.bs b).size = b.length := M.bs_size b
  rcases h with h | ⟨h, h2⟩
  · have q : (((a.length : Nat) : Int) != (b.length : Int)) = true := by rw [bne_iff_ne]; omega
    go_enter Tryd.func37, Tryd.ntmps37
    go_wp2_with fail
    go_ret
    exact ⟨rfl, rfl⟩
  · have q : (((a.length : Nat) : Int) != (b.length : Int)) = false := by rw [bne_eq_false_iff_eq]; omega
    go_enter Tryd.func37, Tryd.ntmps37
    go_wp2_with fail
    go_ret
    exact ⟨rfl, rfl⟩

set_option maxHeartbeats 2000000 in
theorem diff_same (a b : List UInt8) (w : World) (h : a.length = b.length) (hb : b.length ≤ 65535) :
    Calls Tryd.prog 37 #[.string (M.bs a), .string (M.bs b)] w fun e w' => ∃ v, e = .returned v ∧ OwnP 113 w' w.heap.size v (M.pcs b (M.ivs (M.dif a b) b.length)) ∧ Bel w w' := by
  have za : (M.bs a).size = b.length := by rw [M.bs_size]; exact h
  have zb : (M.bs b).size = b.length := M.bs_size b
  have q : (((M.bs a).size : Int) != ((M.bs b).size : Int)) = false := by rw [bne_eq_false_iff_eq, za, zb]
  go_enter Tryd.func37, Tryd.ntmps37
  go_wp2_with fail
  go_loopw [5, 20] (fun lv i wr => ∃ k : Nat, k ≤ b.length ∧ i = .int .i64 k ∧ OwnP 113 wr w.heap.size lv (M.pcs b (M.ivs (M.dif a b) k)) ∧ Bel w wr) (fun _ i _ => b.length - (intOf i).toNat)
  case atStart => exact ⟨0, Nat.zero_le _, rfl, OwnP.nil _ _ _, Below.refl _ _⟩
  case round =>
    obtain ⟨k, hk, rfl, hown, hbel⟩ := hrel
    by_cases hlt : k < b.length
    · have hok := (M.ivs_ok (M.dif a b) k).1
      have hln := M.ivs_length (M.dif a b) k
      have hka : k < (M.bs a).size := by rw [za]; exact hlt
      have hkb : k < (M.bs b).size := by rw [zb]; exact hlt
      have HD : Hid (M.dif a b k = ((M.bs a)[k] != (M.bs b)[k])) := by
        show _ = _
        unfold M.dif
        rw [List.getD_eq_getElem?_getD, List.getD_eq_getElem?_getD, List.getElem?_eq_getElem (by omega), List.getElem?_eq_getElem (by omega)]
        rfl
      have HI : Hid (M.ivs (M.dif a b) (k + 1) = if M.dif a b k = true then M.step (M.ivs (M.dif a b) k) k else M.ivs (M.dif a b) k) := rfl
      have hex : (M.bs b).extract k (k + 1) = M.bs (M.pc b (k, k + 1)).2 := by rw [M.extract_bs, M.bs_data]; rfl
      have HO := hid hown
      have hbz := hbel.size
      clear hown
      by_cases hxy : (M.bs a)[k] = (M.bs b)[k]
      · have q2 : (((M.bs a)[k].toNat : Int) == ((M.bs b)[k].toNat : Int)) = true := by rw [hxy]; simp
        have HE : Hid (M.ivs (M.dif a b) (k + 1) = M.ivs (M.dif a b) k) := by show _ = _; rw [HI.out, HD.out, hxy]; simp
        clear hxy HD HI
        go_wp2_with fail
        go_quiet (fail)
        go_wp2_with fail
        go_roundw
        case rel => exact ⟨k + 1, by omega, by go_num, by rw [HE.out]; exact HO.out, below_drewN hbel _⟩
        case measure => simp [intOf]; omega
      · have q2 : (((M.bs a)[k].toNat : Int) == ((M.bs b)[k].toNat : Int)) = false := by
          rw [beq_eq_false_iff_ne]; intro e; apply hxy; apply UInt8.toNat_inj.1; omega
        have HE : Hid (M.ivs (M.dif a b) (k + 1) = M.step (M.ivs (M.dif a b) k) k) := by show _ = _; rw [HI.out, HD.out, if_pos (by simpa using hxy)]
        clear hxy HD HI
        match hr : M.ivs (M.dif a b) k with
        | [] =>
          rw [hr] at HE
          have HO2 : Hid (OwnP 113 wr w.heap.size u5 []) := by have := HO.out; rw [hr] at this; exact this
          clear HO hr hok hln
          obtain ⟨ao, cap, rfl⟩ : ∃ ao cap, u5 = .slice ao 0 cap := by
            obtain ⟨ao, cap, h1, _⟩ := HO2.out.vals
            exact ⟨ao, cap, h1⟩
          go_wp2_with fail
          go_quiet (fail)
          have b0 : Bel wr (wr.drewN nq) := below_drewN (Below.refl _ _) _
          generalize wr.drewN nq = W1 at b0 ⊢
          have ho := HO2.out.bel b0
          have hz1 := b0.size
          go_wp2_with (first
            | (at_builtin; refine app48 rfl _ _ rfl w.heap.size _ [] rfl ho (k : Int) (M.pc b (k, k + 1)).2 W1.heap.size rfl rfl (by simp) (by omega) ?_; intro v1 w2 o2 b2))
          go_roundw
          case rel => exact ⟨k + 1, by omega, by go_num, by rw [HE.out]; exact o2, Below.trans (hbel.tr b0) b2⟩
          case measure => simp [intOf]; omega
        | (s, e) :: R =>
          rw [hr] at HE hok hln
          obtain ⟨hs1, hs2, _⟩ := hok (s, e) (by simp)
          simp only at hs1 hs2
          simp only [List.length_cons] at hln
          have HO2 : Hid (OwnP 113 wr w.heap.size u5 (M.pcs b R ++ [((s : Int), (M.pc b (s, e)).2)])) := by have := HO.out; rw [hr, M.pcs_cons] at this; exact this
          have hlp := M.pc_length b (s, e) (by simp only; omega) hs1
          simp only at hlp
          have hRl : (M.pcs b R).length < k := by rw [M.pcs_length]; omega
          have HC : Hid (M.pcs b R ++ [((s : Int), (M.pc b (s, e)).2)] = M.pcs b ((s, e) :: R)) := by show _ = _; rw [M.pcs_cons]; rfl
          have hexs : (M.bs b).extract s (k + 1) = M.bs (M.pc b (s, k + 1)).2 := by rw [M.extract_bs, M.bs_data]; rfl
          have HC2 : Hid (M.pcs b R ++ [((s : Int), (M.pc b (s, k + 1)).2)] = M.pcs b ((s, k + 1) :: R)) := by show _ = _; rw [M.pcs_cons]; rfl
          clear HO hr hok
          have Hend := fun W => end_any (s : Int) (M.pc b (s, e)).2 W (by omega) (by omega)
          have eend : (s : Int) + (((M.pc b (s, e)).2.length : Nat) : Int) = (e : Int) := by rw [hlp]; omega
          rw [eend] at Hend
          generalize (M.pc b (s, e)).2 = D at *
          generalize M.pcs b R = L0 at *
          obtain ⟨g, cap, rfl, hg, c1, c2, fz⟩ := HO2.out.lastAt
          have hglt : g < wr.heap.size := block_lt_of_cell c1
          by_cases hnear : k < e + 4
          · have HE2 : Hid (M.ivs (M.dif a b) (k + 1) = (s, k + 1) :: R) := by show _ = _; rw [HE.out]; simp only [M.step]; rw [if_pos hnear]
            go_wp2_with fail
            go_quiet (fail)
            have b0 : Bel wr (wr.drewN nq) := below_drewN (Below.refl _ _) _
            generalize wr.drewN nq = W1 at b0 ⊢
            have ho := HO2.out.bel b0
            have hz1 := b0.size
            have d1 := (bel_cell b0 hglt _).trans c1
            have d2 := (bel_cell b0 hglt _).trans c2
            go_wp2_with fail
            refine (Hend _).mono ?_
            rintro e1 w2 ⟨rfl, b2⟩
            have hg2 : g < W1.heap.size := by omega
            have e1 := (bel_cell b2 hg2 _).trans d1
            have e2 := (bel_cell b2 hg2 _).trans d2
            have ho2 := hid (ho.bel b2)
            have fz2 : w2.frozen? ⟨g, L0.length * 2 + 1, none⟩ = false := (b2.frozen (p := ⟨g, L0.length * 2 + 1, none⟩) hg2).trans ((b0.frozen (p := ⟨g, L0.length * 2 + 1, none⟩) hglt).trans fz)
            clear ho d1 d2 c1 c2 fz Hend
            go_wp2_with fail
            go_roundw
            case rel => exact ⟨k + 1, by omega, by go_num, by rw [HE2.out, ← HC2.out]; exact ho2.out.last _, Below.setCell ((hbel.tr b0).tr b2) hg _⟩
            case measure => simp [intOf]; omega
          · have HE2 : Hid (M.ivs (M.dif a b) (k + 1) = (k, k + 1) :: (s, e) :: R) := by show _ = _; rw [HE.out]; simp only [M.step]; rw [if_neg hnear]
            have HC3 : Hid (M.pcs b ((k, k + 1) :: (s, e) :: R) = M.pcs b ((s, e) :: R) ++ [((k : Int), (M.pc b (k, k + 1)).2)]) := by show _ = _; rw [M.pcs_cons]; rfl
            go_wp2_with fail
            go_quiet (fail)
            have b0 : Bel wr (wr.drewN nq) := below_drewN (Below.refl _ _) _
            generalize wr.drewN nq = W1 at b0 ⊢
            have ho := hid (HO2.out.bel b0)
            have hz1 := b0.size
            have d1 := (bel_cell b0 hglt _).trans c1
            have d2 := (bel_cell b0 hglt _).trans c2
            go_wp2_with fail
            refine (Hend _).mono ?_
            rintro e1 w2 ⟨rfl, b2⟩
            have ho2 := ho.out.bel b2
            have hz2 := b2.size
            clear d1 d2 c1 c2 fz Hend
            go_wp2_with (first
              | (at_builtin; refine app48 rfl _ _ rfl w.heap.size _ _ rfl ho2 (k : Int) (M.pc b (k, k + 1)).2 w2.heap.size rfl rfl (by simp; omega) (by omega) ?_; intro v1 w3 o3 b3; clear ho2))
            go_roundw
            case rel => exact ⟨k + 1, by omega, by go_num, by rw [HE2.out, HC3.out, ← HC.out]; exact o3, Below.trans ((hbel.tr b0).tr b2) b3⟩
            case measure => simp [intOf]; omega
    · obtain rfl : k = b.length := by omega
      go_wp2_with fail
      go_ret
      exact ⟨_, rfl, hown, hbel⟩
/-- 'Diff' of any two texts. -/
theorem diff_any (a b : List UInt8) (w : World) (ha : a.length ≤ 1000000000) (hb : b.length ≤ 1000000000) :
    Calls Tryd.prog 37 #[.string (M.bs a), .string (M.bs b)] w fun e w' => ∃ v, e = .returned v ∧ OwnP 113 w' w.heap.size v (M.diff a b) ∧ Bel w w' := by
  unfold M.diff
  split
  · rename_i h
    exact diff_same a b w h.1 h.2
  · rename_i h
    refine (diff_neq a b w (by omega) ha hb).mono ?_
    rintro e w' ⟨rfl, rfl⟩
    exact ⟨_, rfl, OwnP.nil _ _ _, Below.refl _ _⟩
end Go.Proofs.YtaepbmcmggnmpaaDoor.Pt
