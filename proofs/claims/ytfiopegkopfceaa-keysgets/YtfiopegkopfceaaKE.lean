/-
  The contract of concordanceref01.Get, walked.
-/
import Derived.Test.YtfiopegkopfceaaKB
namespace Go.Proofs.Ytfiopegkopfceaa
open Go.RowKit

/-- 'append(l, v)' of one value, l the call's own (the types 25, 40). -/
theorem appV40 {ops : Array Oper} {rest : List Oper} {o : Oper} {a : Act} {Q : Exit → Act → World → Prop} {w : World} (hgd : o.guard = none) (s x : Operand)
    (ho : o.op = .call { callee := .builtin .append, args := #[s, x], argTypes := #[25, 25] }) (base : Nat) (v : Value) (L : List M.V) (hs : a.eval s = v) (hown : OwnV 40 w base v L) (t : List UInt8) (n : Int) (b : Bool)
    (g : Nat) (hg : g = w.heap.size) (hx : a.eval x = .slice (some ⟨g, 0, none⟩) 1 1) (hlen : L.length ≤ 100000) (hbase : base ≤ w.heap.size)
    (h : ∀ v' w', OwnV 40 w' base v' (L ++ [(t, n, b)]) → (w.alloc (.cells #[.string (M.bs t), .int .i64 n, .bool b] 40)).grownBy w' v.ownBlock → Below base w w' → wpList Try.prog ops Q rest (a.put o.dst v') w') :
    wpList Try.prog ops Q (o :: rest) a (w.alloc (.cells #[.string (M.bs t), .int .i64 n, .bool b] 40)) := by
  obtain ⟨i0, hi, hz0, hz1, hz2⟩ := info_parts info40
  subst hg
  refine wpList_append_own _ hgd s x 25 ho base 40 i0 _ 3 32 Try.underlying25 hi hz0 hz1 hz2 rfl (by decide) v L.length _ hs (World.ownsRow.alloc hown _) ⟨w.heap.size, 0, none⟩ 1 1 (cells3 (t, n, b)) hx rfl (cell_three_new _ _ _ _ _) ?_ (by unfold maxLen; omega) (by omega) (by simp; omega) ?_
  · intro u hu; simp [cells3] at hu; rcases hu with rfl | rfl | rfl <;> rfl
  · intro v' w' h1 h2 _
    refine h v' w' ?_ h2 ?_
    · unfold OwnV; simpa using h1
    · refine ((Below.refl base w).alloc hbase _).grown h2 (by simp; omega) (fun k hk => ?_)
      exact (World.ownsRow.lt hown k hk).1

/-- The call's own box behind a store of its text. -/
theorem set0 {wr wi : World} {B : Nat} {c0 c1 c2 : Value} (a : Value) (hb : Bel wr wi) (hB : wr.heap.size ≤ B) (hz : B < wi.heap.size) (h : wi.cell? ⟨B, 0, none⟩ = some c0 ∧ wi.cell? ⟨B, 1, none⟩ = some c1 ∧ wi.cell? ⟨B, 2, none⟩ = some c2) (hf : wi.frozen? ⟨B, 0, none⟩ = false) :
    Bel wr (wi.setCell ⟨B, 0, none⟩ a) ∧ B < (wi.setCell ⟨B, 0, none⟩ a).heap.size ∧
    ((wi.setCell ⟨B, 0, none⟩ a).cell? ⟨B, 0, none⟩ = some a ∧ (wi.setCell ⟨B, 0, none⟩ a).cell? ⟨B, 1, none⟩ = some c1 ∧ (wi.setCell ⟨B, 0, none⟩ a).cell? ⟨B, 2, none⟩ = some c2) ∧
    (wi.setCell ⟨B, 0, none⟩ a).frozen? ⟨B, 0, none⟩ = false := by
  obtain ⟨h0, h1, h2⟩ := h
  refine ⟨Below.setCell hb hB _, by simpa [World.setCell] using hz, ⟨?_, ?_, ?_⟩, by rw [World.frozen?_setCell]; exact hf⟩
  · rw [World.cell?_setCell_same _ _ _ h0]
  · rw [World.cell?_setCell_other _ _ _ _ (by simp)]; exact h1
  · rw [World.cell?_setCell_other _ _ _ _ (by simp)]; exact h2

set_option maxHeartbeats 4000000 in
set_option maxRecDepth 20000 in
theorem refGet_any (s : ByteArray) (w : World) (hs : s.size ≤ 600) :
    Calls Try.prog 15 #[.string s] w fun e w' => ∃ x, e = .returned (.tuple #[x, .int .i64 ((M.get s.data.toList).2 : Int)]) ∧ OwnV 40 w' w.heap.size x (M.get s.data.toList).1 ∧ Bel w w' := by
  have hl : Hid (s.size = s.data.toList.length) := Lib.size_eq s
  obtain ⟨R, hR⟩ : ∃ R, R = M.get s.data.toList := ⟨_, rfl⟩
  rw [← hR]
  have HR : Hid (M.getF (s.data.toList.drop 0).length (s.data.toList.drop 0) [] = R) := hR.symm
  clear hR
  go_enter Try.func15, Try.ntmps15
  go_wp2_with fail
  go_loopw [4, 5] (fun ov pv wr => ∃ (P : Nat) (acc : List M.V), P ≤ s.size ∧ pv = .int .i64 P ∧ acc.length ≤ P ∧ OwnV 40 wr w.heap.size ov acc ∧ M.getF (s.data.toList.drop P).length (s.data.toList.drop P) acc = R ∧ Bel w wr) (fun _ pv _ => s.size - (intOf pv).toNat)
  case atStart => exact ⟨0, [], by omega, rfl, by simp, World.ownsRow_nil _ _ _ _, HR.out, Below.refl _ _⟩
  case round =>
    obtain ⟨P, acc, hP, rfl, hacc, hown, hget, hb⟩ := hrel
    obtain ⟨W0, rfl⟩ : ∃ W0, W0 = wr := ⟨_, rfl⟩
    have HO : Hid (OwnV 40 W0 w.heap.size u4 acc) := hown
    have HG : Hid (M.getF (s.data.toList.drop P).length (s.data.toList.drop P) acc = R) := hget
    clear hown hget HR
    by_cases hlt : P < s.size
    · have hd := M.drop_at s P hlt
      have hne : s.data.toList.drop P ≠ [] := by rw [hd]; simp
      by_cases h16 : s[P] = 16
      · have q16 : ((s[P].toNat : Int) == 16) = true := by rw [h16]; rfl
        have HF : Hid (M.firstV (s.data.toList.drop P) = M.firstNum (s.data.toList.drop P)) := by
          show _ = _; rw [hd, h16]; simp only [M.firstV, if_pos]
        clear h16 hd
        by_cases h7 : s.size - P < 7
        · have HS : Hid (R = ([], 3)) := by
            show _ = _
            have e : M.firstNum (s.data.toList.drop P) = (M.zeroV, 0, 3) := by unfold M.firstNum; rw [if_pos (by rw [List.length_drop, ← hl.out]; omega)]
            rw [← HG.out, M.getF_stop _ acc hne (by rw [HF.out, e]; decide), HF.out, e]
          clear HG HF hne
          go_wp2_with fail
          go_ret2
          exact ⟨_, by rw [HS.out]; rfl, by rw [HS.out]; exact World.ownsRow_nil _ _ _ _, Bel.al hb _⟩
        · have HBig : Hid (2199023255552 < M.getN ((s.data.toList.drop (P + 1)).take 6) → R = ([], 2)) := by
            intro h
            have e : M.firstNum (s.data.toList.drop P) = (M.zeroV, 0, 2) := by
              unfold M.firstNum; rw [if_neg (by rw [List.length_drop, ← hl.out]; omega), List.drop_drop, if_pos h]
            rw [← HG.out, M.getF_stop _ acc hne (by rw [HF.out, e]; decide), HF.out, e]
          have HOk : Hid (¬ 2199023255552 < M.getN ((s.data.toList.drop (P + 1)).take 6) →
              M.getF (s.data.toList.drop (P + 7)).length (s.data.toList.drop (P + 7)) (acc ++ [([], (M.getN ((s.data.toList.drop (P + 1)).take 6) : Int) - 1099511627776, false)]) = R) := by
            intro h
            have e : M.firstNum (s.data.toList.drop P) = (([], (M.getN ((s.data.toList.drop (P + 1)).take 6) : Int) - 1099511627776, false), 7, 0) := by
              unfold M.firstNum; rw [if_neg (by rw [List.length_drop, ← hl.out]; omega), List.drop_drop, if_neg h]
            rw [← HG.out, M.getF_step _ acc hne (by rw [HF.out, e]), HF.out, e, List.drop_drop]
          clear HG HF hne
          go_wp2_with fail
          go_loop [7, 8] (fun nv iv => ∃ k : Nat, k ≤ 6 ∧ iv = .int .i64 ((k + 1 : Nat) : Int) ∧ nv = .int .i64 ((M.getN ((s.data.toList.drop (P + 1)).take k) : Nat) : Int)) (fun _ iv => 7 - (intOf iv).toNat)
          case atStart => exact ⟨0, by omega, rfl, rfl⟩
          case round =>
            obtain ⟨k, hk, rfl, rfl⟩ := hrel
            have hbn := M.getN_lt ((s.data.toList.drop (P + 1)).take k)
            rw [List.length_take_of_le (by rw [List.length_drop, ← hl.out]; omega)] at hbn
            by_cases hlt6 : k < 6
            · have hb5 : M.getN ((s.data.toList.drop (P + 1)).take k) < 1099511627776 := Nat.lt_of_lt_of_le hbn (show 256 ^ k ≤ 256 ^ 5 from Nat.pow_le_pow_right (by decide) (by omega))
              have hk1 : P + (k + 1) < s.size := by omega
              have HS : Hid (M.getN ((s.data.toList.drop (P + 1)).take (k + 1)) = M.getN ((s.data.toList.drop (P + 1)).take k) * 256 + s[P + (k + 1)].toNat) := by
                show _ = _
                rw [List.take_succ_eq_append_getElem (by rw [List.length_drop, ← hl.out]; omega), M.getN_snoc]
                congr 2
                rw [List.getElem_drop]
                have hi : P + 1 + k < s.size := by omega
                have e : s[P + (k + 1)] = s[P + 1 + k] := by simp only [show P + (k + 1) = P + 1 + k by omega]
                rw [e]; rfl
              clear hbn
              generalize M.getN ((s.data.toList.drop (P + 1)).take k) = N at *
              have hc := s[P + (k + 1)].toNat_lt
              have p1 : (0 : Int) ≤ (P : Int) + ((k : Int) + 1) := by omega
              have p2 : (P : Int) + ((k : Int) + 1) < (s.size : Int) := by omega
              go_wp2
              go_round
              case rel => exact ⟨k + 1, by omega, by go_num, by rw [HS.out]; go_num⟩
              case measure => simp [intOf]; omega
            · obtain rfl : k = 6 := by omega
              have hb6 : M.getN ((s.data.toList.drop (P + 1)).take 6) < 281474976710656 := hbn
              clear hbn
              generalize M.getN ((s.data.toList.drop (P + 1)).take 6) = N at *
              by_cases hbig : 2199023255552 < N
              · have HS : Hid (R = ([], 2)) := HBig.out hbig
                go_wp2_with fail
                go_ret2
                exact ⟨_, by rw [HS.out]; rfl, by rw [HS.out]; exact World.ownsRow_nil _ _ _ _, Bel.al hb _⟩
              · have HS : Hid (M.getF (s.data.toList.drop (P + 7)).length (s.data.toList.drop (P + 7)) (acc ++ [([], (N : Int) - 1099511627776, false)]) = R) := HOk.out hbig
                have hbz := hb.size
                go_wp2_with (first
                  | (at_builtin; refine appV40 rfl _ _ rfl w.heap.size _ _ rfl (OwnV.al HO.out _) [] ((N : Int) - 1099511627776) false (W0.heap.size + 1) (by simp) rfl (by omega) (by simp; omega) ?_; intro v1 w2 o2 g2 b2))
                go_roundw
                case rel => exact ⟨P + 7, _, by omega, by go_num, by simp; omega, o2, HS.out, Below.trans (Bel.al hb _) b2⟩
                case measure => simp [intOf]; omega
      · have q16 : ((s[P].toNat : Int) == 16) = false := by
          rw [beq_eq_false_iff_ne]; intro e; apply h16; apply UInt8.toNat_inj.1
          have : s[P].toNat = 16 := by omega
          rw [this]; rfl
        by_cases h32 : s[P] = 32
        · have q32 : ((s[P].toNat : Int) == 32) = true := by rw [h32]; rfl
          have HF : Hid (M.firstV (s.data.toList.drop P) = M.scan (s.data.toList.drop (P + 1)) [] 1) := by
            show _ = _; rw [hd, h32]; simp only [M.firstV]; rw [if_neg (by decide), if_pos trivial]
          have HBad : Hid ((M.firstV (s.data.toList.drop P)).2.2 ≠ 0 → R = ([], (M.firstV (s.data.toList.drop P)).2.2)) := fun h => by rw [← HG.out, M.getF_stop _ acc hne h]
          have HOk : Hid ((M.firstV (s.data.toList.drop P)).2.2 = 0 → M.getF (s.data.toList.drop (P + (M.firstV (s.data.toList.drop P)).2.1)).length (s.data.toList.drop (P + (M.firstV (s.data.toList.drop P)).2.1)) (acc ++ [(M.firstV (s.data.toList.drop P)).1]) = R) := fun h => by
            rw [← HG.out, M.getF_step _ acc hne h, List.drop_drop]
          clear HG hne hd h16 h32
          generalize M.firstV (s.data.toList.drop P) = F at *
          go_wp2_with fail
          go_loopw [5, 9] (fun pv dv wi => ∃ (Q : Nat) (T : List UInt8) (d : Bool), P + 1 ≤ Q ∧ Q ≤ s.size ∧ T.length ≤ Q ∧ pv = .int .i64 Q ∧ dv = .bool d ∧ Bel W0 wi ∧ W0.heap.size < wi.heap.size ∧
              (wi.cell? ⟨W0.heap.size, 0, none⟩ = some (.string (M.bs T)) ∧ wi.cell? ⟨W0.heap.size, 1, none⟩ = some (.int .i64 0) ∧ wi.cell? ⟨W0.heap.size, 2, none⟩ = some (.bool true)) ∧
              (wi.frozen? ⟨W0.heap.size, 0, none⟩ = false) ∧
              (d = false → F = M.scan (s.data.toList.drop Q) T (Q - P)) ∧ (d = true → F = if 20 < T.length then (M.zeroV, 0, 6) else ((T, 0, true), Q - P, 0))) (fun pv _ _ => s.size - (intOf pv).toNat)
          case atStart =>
            refine ⟨P + 1, [], false, by omega, by omega, by simp, by go_num, rfl, Bel.al (Below.refl _ _) _, by simp, ⟨?_, ?_, ?_⟩, ?_, fun _ => ?_, fun h => by cases h⟩
            · simp [World.cell?_alloc_at, M.bs]
            · simp [World.cell?_alloc_at]
            · simp [World.cell?_alloc_at]
            · simp [World.frozen?_alloc_at]
            · rw [HF.out, show P + 1 - P = 1 by omega]
          case round =>
            obtain ⟨Q, T, d, hQ1, hQ2, hT, rfl, rfl, hbi, hbz, hcells, f0, hF, hT2⟩ := hrel
            have hsz : (M.bs T).size = T.length := M.bs_size T
            have SET := fun a => set0 a hbi (Nat.le_refl _) hbz hcells f0
            obtain ⟨c0, c1, c2⟩ := hcells
            clear HF
            cases d
            · have HS : Hid (F = M.scan (s.data.toList.drop Q) T (Q - P)) := hF rfl
              clear hF hT2
              by_cases hQ : Q < s.size
              · rw [Hid, M.drop_at s Q hQ] at HS
                have p1 : (0 : Int) ≤ (Q : Int) := by omega
                have p2 : (Q : Int) < (s.size : Int) := by omega
                by_cases h0 : s[Q] = 0
                · have q0 : ((s[Q].toNat : Int) == 0) = true := by rw [h0]; rfl
                  have q0' : ((s[Q].toNat : Int) != 0) = false := by rw [h0]; rfl
                  rw [h0] at HS
                  by_cases hQ' : Q + 1 < s.size
                  · have p3 : (Q : Int) + 1 < (s.size : Int) := by omega
                    rw [M.drop_at s (Q + 1) hQ', M.scan_zero] at HS
                    by_cases h255 : s[Q + 1] = 255
                    · have q1 : ((s[Q + 1].toNat : Int) == 255) = true := by rw [h255]; rfl
                      rw [if_pos h255] at HS
                      have HS2 : Hid (F = M.scan (s.data.toList.drop (Q + 2)) (T ++ [0]) (Q + 2 - P)) := by show _ = _; rw [show Q + 2 - P = Q - P + 2 by omega]; exact HS
                      clear HS h255 h0
                      have HSET := SET (.string (M.bs (T ++ [0])))
                      clear SET
                      go_wp2_with fail
                      rw [show M.bs T ++ (⟨#[0]⟩ : ByteArray) = M.bs (T ++ [0]) from M.bs_append T [0]]
                      refine ⟨⟨Q + 2, T ++ [0], false, by omega, by omega, by simp; omega, by go_num, rfl, HSET.1, HSET.2.1, HSET.2.2.1, HSET.2.2.2, fun _ => HS2.out, fun h => by cases h⟩, ?_⟩
                      simp [intOf]; omega
                    · have q1 : ((s[Q + 1].toNat : Int) == 255) = false := by
                        rw [beq_eq_false_iff_ne]; intro e; apply h255; apply UInt8.toNat_inj.1
                        have : s[Q + 1].toNat = 255 := by omega
                        rw [this]; rfl
                      rw [if_neg h255] at HS
                      by_cases h1 : s[Q + 1] = 1
                      · have q2 : ((s[Q + 1].toNat : Int) == 1) = true := by rw [h1]; rfl
                        rw [if_pos h1] at HS
                        have HS2 : Hid (F = if 20 < T.length then (M.zeroV, 0, 6) else ((T, 0, true), Q + 2 - P, 0)) := by show _ = _; rw [show Q + 2 - P = Q - P + 2 by omega]; exact HS
                        clear HS h255 h0 h1 SET
                        go_wp2_with fail
                        refine ⟨⟨Q + 2, T, true, by omega, by omega, by omega, by go_num, rfl, hbi, hbz, ⟨c0, c1, c2⟩, f0, (fun h => by cases h), fun _ => HS2.out⟩, ?_⟩
                        simp [intOf]; omega
                      · have q2 : ((s[Q + 1].toNat : Int) == 1) = false := by
                          rw [beq_eq_false_iff_ne]; intro e; apply h1; apply UInt8.toNat_inj.1
                          have : s[Q + 1].toNat = 1 := by omega
                          rw [this]; rfl
                        rw [if_neg h1] at HS
                        have HR2 : Hid (R = ([], 2)) := by
                          have e : F = (M.zeroV, 0, 2) := HS
                          have := HBad.out (by rw [e]; decide)
                          rw [e] at this; exact this
                        clear HS h255 h0 h1 SET
                        go_wp2_with fail
                        go_ret2
                        exact ⟨_, by rw [HR2.out]; rfl, by rw [HR2.out]; exact World.ownsRow_nil _ _ _ _, hb.tr hbi⟩
                  · have p3 : (s.size : Int) ≤ (Q : Int) + 1 := by omega
                    rw [List.drop_eq_nil_of_le (by rw [← hl.out]; omega), M.scan_end] at HS
                    have HR2 : Hid (R = ([], 3)) := by
                      have e : F = (M.zeroV, 0, 3) := HS
                      have := HBad.out (by rw [e]; decide)
                      rw [e] at this; exact this
                    clear HS h0 SET
                    go_wp2_with fail
                    go_ret2
                    exact ⟨_, by rw [HR2.out]; rfl, by rw [HR2.out]; exact World.ownsRow_nil _ _ _ _, hb.tr hbi⟩
                · have q0 : ((s[Q].toNat : Int) == 0) = false := by
                    rw [beq_eq_false_iff_ne]; intro e; apply h0; apply UInt8.toNat_inj.1; simpa using e
                  have q0' : ((s[Q].toNat : Int) != 0) = true := by
                    rw [bne_iff_ne]; intro e; apply h0; apply UInt8.toNat_inj.1; simpa using e
                  rw [M.scan_ne _ _ _ _ h0] at HS
                  have HS2 : Hid (F = M.scan (s.data.toList.drop (Q + 1)) (T ++ [s[Q]]) (Q + 1 - P)) := by show _ = _; rw [show Q + 1 - P = Q - P + 1 by omega]; exact HS
                  have hx : s.extract Q (Q + 1) = M.bs [s[Q]] := by
                    rw [M.extract_bs, M.drop_at s Q hQ, show Q + 1 - Q = 1 by omega]; rfl
                  have hxs : (M.bs [s[Q]]).size = 1 := by rw [M.bs_size]; rfl
                  clear HS h0
                  have HSET := SET (.string (M.bs (T ++ [s[Q]])))
                  clear SET
                  go_wp2_with fail
                  go_region
                  all_goals go_wp2_with fail
                  all_goals rw [M.bs_append]
                  all_goals refine ⟨⟨Q + 1, T ++ [s[Q]], false, by omega, by omega, by simp; omega, by go_num, rfl, Bel.dr HSET.1, HSET.2.1, HSET.2.2.1, HSET.2.2.2, fun _ => HS2.out, fun h => by cases h⟩, ?_⟩
                  simp [intOf]; omega
              · have p2 : (s.size : Int) ≤ (Q : Int) := by omega
                have HR2 : Hid (R = ([], 3)) := by
                  have e : F = (M.zeroV, 0, 3) := by
                    rw [HS.out, List.drop_eq_nil_of_le (by rw [← hl.out]; omega)]; rfl
                  have := HBad.out (by rw [e]; decide)
                  rw [e] at this; exact this
                clear HS SET
                go_wp2_with fail
                go_ret2
                exact ⟨_, by rw [HR2.out]; rfl, by rw [HR2.out]; exact World.ownsRow_nil _ _ _ _, hb.tr hbi⟩
            · have HS : Hid (F = if 20 < T.length then (M.zeroV, 0, 6) else ((T, 0, true), Q - P, 0)) := hT2 rfl
              clear hF hT2 SET
              by_cases h20 : 20 < T.length
              · have HR2 : Hid (R = ([], 6)) := by
                  have e : F = (M.zeroV, 0, 6) := by rw [HS.out, if_pos h20]
                  have := HBad.out (by rw [e]; decide)
                  rw [e] at this; exact this
                go_wp2_with fail
                go_ret2
                exact ⟨_, by rw [HR2.out]; rfl, by rw [HR2.out]; exact World.ownsRow_nil _ _ _ _, hb.tr hbi⟩
              · have HG2 : Hid (M.getF (s.data.toList.drop Q).length (s.data.toList.drop Q) (acc ++ [(T, 0, true)]) = R) := by
                  have e : F = ((T, 0, true), Q - P, 0) := by rw [HS.out, if_neg h20]
                  have := HOk.out (by rw [e])
                  rw [e] at this
                  simp only [show P + (Q - P) = Q by omega] at this
                  exact this
                have hwz := hb.size
                have ho := HO.out.bel hbi
                go_wp2_with (first
                  | (at_builtin; refine appV40 rfl _ _ rfl w.heap.size _ _ rfl ho T 0 true wr.heap.size rfl rfl (by omega) (by omega) ?_; intro v1 w2 o2 g2 b2))
                go_roundw
                case rel => exact ⟨Q, _, by omega, by go_num, by simp; omega, o2, HG2.out, Below.trans (hb.tr hbi) b2⟩
                case measure => simp [intOf]; omega
        · have q32 : ((s[P].toNat : Int) == 32) = false := by
            rw [beq_eq_false_iff_ne]; intro e; apply h32; apply UInt8.toNat_inj.1
            have : s[P].toNat = 32 := by omega
            rw [this]; rfl
          have HS : Hid (R = ([], 2)) := by
            show _ = _
            have e : M.firstV (s.data.toList.drop P) = (M.zeroV, 0, 2) := by rw [hd]; simp only [M.firstV, if_neg h16, if_neg h32]
            rw [← HG.out, M.getF_stop _ acc hne (by rw [e]; decide), e]
          clear HG hne hd h16 h32
          go_wp2_with fail
          go_ret2
          exact ⟨_, by rw [HS.out]; rfl, by rw [HS.out]; exact World.ownsRow_nil _ _ _ _, Bel.al hb _⟩
    · have HS : Hid (R = (acc, 0)) := by
        show _ = _
        rw [← HG.out, List.drop_eq_nil_of_le (by rw [← hl.out]; omega)]; rfl
      go_wp2_with fail
      go_ret2
      exact ⟨_, by rw [HS.out]; rfl, by rw [HS.out]; exact HO.out, hb⟩
end Go.Proofs.Ytfiopegkopfceaa
