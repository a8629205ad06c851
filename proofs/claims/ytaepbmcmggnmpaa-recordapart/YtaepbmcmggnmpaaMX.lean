/-
  The contract of the law's 'made', walked.
-/
import Derived.Test.YtaepbmcmggnmpaaLP
import Derived.Test.YtaepbmcmggnmpaaMR
import Derived.Test.YtaepbmcmggnmpaaMT
import Derived.Deep.AppendLies
import Derived.Deep.CutRange
import Derived.Lib.MinMax
namespace Go.Proofs.Ytaepbmcmggnmpaa
open Go.RowKit
set_option maxRecDepth 100000

theorem OwnC.six {e : TypeId} {b : Nat} {w : World} {base : Nat} {v : Value} {Q : List (M.Ch × Value)} (h : OwnC e w base v Q) (hne : v.ownBlock ≠ some b) (x0 x1 x2 x3 x4 x5 : Value) : OwnC e (six w b x0 x1 x2 x3 x4 x5) base v Q :=
  World.ownsRow.kept h (Kp.six (Kp.refl b w) x0 x1 x2 x3 x4 x5).grown (.inr hne)
theorem wp_last {P : Program} {s : Code} {Q : Exit → Act → World → Prop} {a : Act} {w : World} (h : ∀ K : Act → World → Prop, (∀ a' w', Q .normal a' w' → K a' w') → s.wp P (Exit.then K Q) a w) : s.wp P Q a w := by
  refine wp_mono (h (Q .normal) (fun _ _ q => q)) ?_
  intro e a' w' hq
  cases e <;> exact hq
theorem cutM_eq (t : List UInt8) (n : Nat) : (M.bs t).extract 0 (min (t.length : Int) (n : Int)).toNat = M.bs (t.take n) := by
  rw [M.extract_bs, M.bs_data, List.drop_zero]
  congr 1
  by_cases h : t.length ≤ n
  · rw [List.take_of_length_le (by omega), List.take_of_length_le h]
  · congr 1; omega
theorem two_new (w : World) (o1 o2 : Obj) : ((w.alloc o1).alloc o2).drew.heap[w.heap.size]? = some o1 ∧ ((w.alloc o1).alloc o2).drew.heap[w.heap.size + 1]? = some o2 := by
  refine ⟨((Bel.al (Below.refl _ (w.alloc o1)) o2).dr.block w.heap.size (by simp)).trans (heap_alloc_new w o1), ?_⟩
  have := heap_alloc_new (w.alloc o1) o2
  rw [World.size_alloc] at this
  exact this
theorem cutL_step (L : List M.Pc) (k : Nat) (h : k < L.length) (h2 : k < 10) : cutL (L.take (k + 1)) = cutL (L.take k) ++ [cutP L[k]] := by
  unfold cutL
  rw [List.take_of_length_le (l := L.take (k + 1)) (by rw [List.length_take]; omega), List.take_of_length_le (l := L.take k) (by rw [List.length_take]; omega), List.take_succ_eq_append_getElem h, List.map_append]; rfl
theorem cutL_end (L : List M.Pc) (k : Nat) (h : L.length ≤ k ∨ 10 ≤ k) : cutL (L.take k) = cutL L := by
  rcases h with h | h
  · rw [List.take_of_length_le h]
  · unfold cutL
    rw [List.take_take, Nat.min_eq_left h]
theorem cutG_step (L : List M.Ch) (k : Nat) (h : k < L.length) (h2 : k < 300) : cutG (L.take (k + 1)) = cutG (L.take k) ++ [cutC L[k]] := by
  unfold cutG
  rw [List.take_of_length_le (l := L.take (k + 1)) (by rw [List.length_take]; omega), List.take_of_length_le (l := L.take k) (by rw [List.length_take]; omega), List.take_succ_eq_append_getElem h, List.map_append]; rfl
theorem cutG_end (L : List M.Ch) (k : Nat) (h : L.length ≤ k ∨ 300 ≤ k) : cutG (L.take k) = cutG L := by
  rcases h with h | h
  · rw [List.take_of_length_le h]
  · unfold cutG
    rw [List.take_take, Nat.min_eq_left h]
set_option maxHeartbeats 20000000 in
theorem made_any (n0 n1 n2 n3 : Int) (undo : List UInt8) (L : List M.Ch) (a0 : Option Addr) (cap : Nat) (w : World) (hv : ValC w (.slice a0 L.length cap) L) (hL : L.length ≤ maxLen) (hu : undo.length ≤ maxLen) (hs : ∀ c ∈ L, c.2.length ≤ maxLen ∧ ∀ p ∈ c.2, p.2.length ≤ maxLen) :
    Calls Try.prog 8 #[.agg #[.int .i64 n0, .int .i64 n1, .int .i64 n2, .int .i64 n3, .string (M.bs undo), .slice a0 L.length cap]] w fun e w' => ∃ x y Qx Qy,
      e = .returned (.tuple #[.agg #[.int .i64 n0, .int .i64 n1, .int .i64 n2, .string (M.bs (undo.take 20000)), .int .i64 n3, x], .agg #[.int .i64 n0, .int .i64 n1, .int .i64 n2, .string (M.bs (undo.take 20000)), .int .i64 n3, y]]) ∧
        (Qx.map (·.1) = cutG L ∧ OwnC 60 w' w.heap.size x Qx ∧ AllP 66 w' w.heap.size Qx) ∧ (Qy.map (·.1) = cutG L ∧ OwnC 63 w' w.heap.size y Qy ∧ AllP 67 w' w.heap.size Qy) ∧ Bel w w' := by
  unfold maxLen at hL hu hs
  have hz : (M.bs undo).size = undo.length := M.bs_size undo
  have hce : (M.bs undo).extract 0 (min (undo.length : Int) 20000).toNat = M.bs (undo.take 20000) := cutM_eq undo 20000
  have q1 : (0 : Int) ≤ min (undo.length : Int) 20000 := by omega
  have q2 : min (undo.length : Int) 20000 ≤ (undo.length : Int) := by omega
  have q3 : (0 : Int) ≤ min (undo.length : Int) 20000 ∧ min (undo.length : Int) 20000 ≤ (undo.length : Int) := ⟨q1, q2⟩
  generalize undo.take 20000 = H at *
  have HV := hid hv
  clear hv
  go_enter Try.func8, Try.ntmps8
  go_wp2_with fail
  obtain ⟨W0, hW0⟩ : ∃ W0, W0 = (((((w.alloc (.cells #[.int .i64 n0, .int .i64 n1, .int .i64 n2, .int .i64 n3, .string (M.bs undo), .slice a0 L.length cap] 25)).alloc (.cells #[.int .i64 0, .int .i64 0, .int .i64 0, .string ⟨#[]⟩, .int .i64 0, .slice none 0 0] 29)).alloc (.cells #[.int .i64 0, .int .i64 0, .int .i64 0, .string ⟨#[]⟩, .int .i64 0, .slice none 0 0] 32)).alloc (.cells #[.int .i64 n0, .int .i64 n1, .int .i64 n2, .string (M.bs H), .int .i64 n3, .slice none 0 0] 29)).alloc (.cells #[.int .i64 n0, .int .i64 n1, .int .i64 n2, .string (M.bs H), .int .i64 n3, .slice none 0 0] 32)) := ⟨_, rfl⟩
  rw [← hW0]
  have bW : Bel w W0 := by rw [hW0]; exact Bel.al (Bel.al (Bel.al (Bel.al (Bel.al (Below.refl _ _) _) _) _) _) _
  have a0' : Bt 25 W0 w.heap.size (.int .i64 n0) (.int .i64 n1) (.int .i64 n2) (.int .i64 n3) (.string (M.bs undo)) (.slice a0 L.length cap) := by
    rw [hW0]
    exact Bt.bel (heap_alloc_new w _) (Bel.al (Bel.al (Bel.al (Bel.al (Below.refl _ _) _) _) _) _)
  have a1 : Z6 29 W0 (w.heap.size + 1) := by
    rw [hW0]
    refine Bt.bel (w := (w.alloc _).alloc _) ?_ (Bel.al (Bel.al (Bel.al (Below.refl _ _) _) _) _)
    have := heap_alloc_new (w.alloc (.cells #[.int .i64 n0, .int .i64 n1, .int .i64 n2, .int .i64 n3, .string (M.bs undo), .slice a0 L.length cap] 25)) (.cells #[.int .i64 0, .int .i64 0, .int .i64 0, .string ⟨#[]⟩, .int .i64 0, .slice none 0 0] 29)
    rw [World.size_alloc] at this
    exact this
  have a2 : Z6 32 W0 (w.heap.size + 1 + 1) := by
    rw [hW0]
    refine Bt.bel (w := ((w.alloc _).alloc _).alloc _) ?_ (Bel.al (Bel.al (Below.refl _ _) _) _)
    have := heap_alloc_new ((w.alloc (.cells #[.int .i64 n0, .int .i64 n1, .int .i64 n2, .int .i64 n3, .string (M.bs undo), .slice a0 L.length cap] 25)).alloc (.cells #[.int .i64 0, .int .i64 0, .int .i64 0, .string ⟨#[]⟩, .int .i64 0, .slice none 0 0] 29)) (.cells #[.int .i64 0, .int .i64 0, .int .i64 0, .string ⟨#[]⟩, .int .i64 0, .slice none 0 0] 32)
    rw [World.size_alloc, World.size_alloc] at this
    exact this
  have a3 : Bt 29 W0 (w.heap.size + 1 + 1 + 1) (.int .i64 n0) (.int .i64 n1) (.int .i64 n2) (.string (M.bs H)) (.int .i64 n3) (.slice none 0 0) := by
    rw [hW0]
    refine Bt.bel (w := (((w.alloc _).alloc _).alloc _).alloc _) ?_ (Bel.al (Below.refl _ _) _)
    have := heap_alloc_new (((w.alloc (.cells #[.int .i64 n0, .int .i64 n1, .int .i64 n2, .int .i64 n3, .string (M.bs undo), .slice a0 L.length cap] 25)).alloc (.cells #[.int .i64 0, .int .i64 0, .int .i64 0, .string ⟨#[]⟩, .int .i64 0, .slice none 0 0] 29)).alloc (.cells #[.int .i64 0, .int .i64 0, .int .i64 0, .string ⟨#[]⟩, .int .i64 0, .slice none 0 0] 32)) (.cells #[.int .i64 n0, .int .i64 n1, .int .i64 n2, .string (M.bs H), .int .i64 n3, .slice none 0 0] 29)
    rw [World.size_alloc, World.size_alloc, World.size_alloc] at this
    exact this
  have a4 : Bt 32 W0 (w.heap.size + 1 + 1 + 1 + 1) (.int .i64 n0) (.int .i64 n1) (.int .i64 n2) (.string (M.bs H)) (.int .i64 n3) (.slice none 0 0) := by
    rw [hW0]
    have := heap_alloc_new ((((w.alloc (.cells #[.int .i64 n0, .int .i64 n1, .int .i64 n2, .int .i64 n3, .string (M.bs undo), .slice a0 L.length cap] 25)).alloc (.cells #[.int .i64 0, .int .i64 0, .int .i64 0, .string ⟨#[]⟩, .int .i64 0, .slice none 0 0] 29)).alloc (.cells #[.int .i64 0, .int .i64 0, .int .i64 0, .string ⟨#[]⟩, .int .i64 0, .slice none 0 0] 32)).alloc (.cells #[.int .i64 n0, .int .i64 n1, .int .i64 n2, .string (M.bs H), .int .i64 n3, .slice none 0 0] 29)) (.cells #[.int .i64 n0, .int .i64 n1, .int .i64 n2, .string (M.bs H), .int .i64 n3, .slice none 0 0] 32)
    rw [World.size_alloc, World.size_alloc, World.size_alloc, World.size_alloc] at this
    exact this
  clear hW0 hz hce q1 q2 q3
  go_loopw [7] (fun i wr => ∃ (k : Nat) (x y : Value) (Qx Qy : List (M.Ch × Value)), k ≤ L.length ∧ k ≤ 300 ∧ i = .int .i64 k ∧
      (Qx.map (·.1) = cutG (L.take k) ∧ OwnC 60 wr w.heap.size x Qx ∧ AllP 66 wr w.heap.size Qx) ∧ (Qy.map (·.1) = cutG (L.take k) ∧ OwnC 63 wr w.heap.size y Qy ∧ AllP 67 wr w.heap.size Qy) ∧
      Bt 25 wr w.heap.size (.int .i64 n0) (.int .i64 n1) (.int .i64 n2) (.int .i64 n3) (.string (M.bs undo)) (.slice a0 L.length cap) ∧ Z6 29 wr (w.heap.size + 1) ∧ Z6 32 wr (w.heap.size + 1 + 1) ∧
      Bt 29 wr (w.heap.size + 1 + 1 + 1) (.int .i64 n0) (.int .i64 n1) (.int .i64 n2) (.string (M.bs H)) (.int .i64 n3) x ∧ Bt 32 wr (w.heap.size + 1 + 1 + 1 + 1) (.int .i64 n0) (.int .i64 n1) (.int .i64 n2) (.string (M.bs H)) (.int .i64 n3) y ∧ Bel w wr) (fun i _ => 300 - (intOf i).toNat)
  case atStart => exact ⟨0, _, _, [], [], by omega, by omega, rfl, ⟨rfl, OwnC.nil _ _ _, fun q hq => by simp at hq⟩, ⟨rfl, OwnC.nil _ _ _, fun q hq => by simp at hq⟩, a0', a1, a2, a3, a4, bW⟩
  case round =>
    clear a0' a1 a2 a3 a4 bW
    obtain ⟨k, x, y, Qx, Qy, hk, hk3, rfl, ⟨hqx, hox, hax⟩, ⟨hqy, hoy, hay⟩, g0, g1, g2, g3, g4, hb⟩ := hrel
    obtain ⟨vx, cx, rfl⟩ := hox.form
    obtain ⟨vy, cy, rfl⟩ := hoy.form
    have s5 := g0.cells.2.2.2.2.2
    by_cases hlt : k < L.length
    · by_cases hlt2 : k < 300
      · obtain ⟨b, off, rfl, hr⟩ := (HV.out.bel hb).row (by omega)
        obtain ⟨xv, c1, c2, c3⟩ := hr k hlt
        obtain ⟨hs1, hs2⟩ := hs L[k] (List.getElem_mem hlt)
        have HC := hid (cutG_step L k hlt hlt2)
        clear hr hs
        generalize L[k] = c at *
        obtain ⟨pn, pl⟩ := c
        simp only at c1 c2 c3 hs1 hs2
        obtain ⟨xa, xc, rfl, _⟩ := id c3
        have C3 := hid c3
        clear c3
        have G0 := hid g0
        have G1 := hid g1
        have G2 := hid g2
        have G3 := hid g3
        have G4 := hid g4
        have HOX := hid hox
        have HOY := hid hoy
        have HAX := hid hax
        have HAY := hid hay
        have HQX := hid hqx
        have HQY := hid hqy
        have HB := hid hb
        have hbz := hb.size
        have hbl := block_lt_of_cell c2
        clear g0 g1 g2 g3 g4 hox hoy hax hay hqx hqy hb
        go_wp2_with fail
        go_cut [7, 8, 9] from 47 to 127 (fun s7 s8 s9 wx => s7 = .int .i64 (k : Int) ∧ ∃ cb db : Nat, s8 = .pointer (some ⟨cb, 0, none⟩) ∧ s9 = .pointer (some ⟨db, 0, none⟩) ∧ cb ≠ db ∧ wr.heap.size ≤ cb ∧ wr.heap.size ≤ db ∧ B2 wx cb 60 (.int .i64 pn) (.slice none 0 0) ∧ B2 wx db 63 (.int .i64 pn) (.slice none 0 0) ∧ Bel wr wx)
        case first =>
          have ne1 := World.new_ne wr ⟨w.heap.size, 5, none⟩ s5
          have ne2 := World.new_ne wr ⟨b, off + k * 2, none⟩ c1
          have ne3 := World.new_ne wr.drew ⟨w.heap.size, 5, none⟩ s5
          have ne4 := World.new_ne wr.drew ⟨b, off + k * 2, none⟩ c1
          simp only at ne1 ne2 ne3 ne4
          have ne5 : wr.heap.size + 1 ≠ w.heap.size := by omega
          have ne6 : wr.heap.size + 1 ≠ b := by omega
          go_region_held3 (fun w' => w'.cell? ⟨w.heap.size, 5, none⟩ = some (.slice (some ⟨b, off, none⟩) L.length cap) ∧ w'.cell? ⟨b, off + k * 2, none⟩ = some (.int .i64 pn)) (go_keep) (fail)
          all_goals
            go_wp2_with fail
            go_meet
            case rel =>
              first
                | exact ⟨rfl, wr.heap.size, wr.heap.size + 1, rfl, rfl, by omega, by omega, by omega, (two_new wr _ _).1, (two_new wr _ _).2, (Bel.al (Bel.al (Below.refl _ _) _) _).dr⟩
                | exact ⟨rfl, wr.heap.size + 1, wr.heap.size, rfl, rfl, by omega, by omega, by omega, (two_new wr _ _).2, (two_new wr _ _).1, (Bel.al (Bel.al (Below.refl _ _) _) _).dr⟩
        case rest =>
          obtain ⟨rfl, cb, db, rfl, rfl, hcd, hcb, hdb, bc, bd, hbw⟩ := hcut
          obtain ⟨W1, rfl⟩ : ∃ W1, W1 = wr := ⟨_, rfl⟩
          have S5 := hid s5
          have C2 := hid c2
          clear s5 c1 c2
          go_wp2_with fail
          go_loopw [10] (fun i w2 => ∃ (j : Nat) (xv yv : Value), j ≤ pl.length ∧ j ≤ 10 ∧ i = .int .i64 j ∧ OwnP 66 w2 W1.heap.size xv (cutL (pl.take j)) ∧ OwnP 67 w2 W1.heap.size yv (cutL (pl.take j)) ∧ B2 w2 cb 60 (.int .i64 pn) xv ∧ B2 w2 db 63 (.int .i64 pn) yv ∧ Bel W1 w2) (fun i _ => 10 - (intOf i).toNat)
          case atStart => exact ⟨0, _, _, by omega, by omega, rfl, OwnP.nil _ _ _, OwnP.nil _ _ _, bc, bd, hbw⟩
          case round =>
            clear bc bd hbw
            obtain ⟨j, xv, yv, hj, hj10, rfl, hox, hoy, bc, bd, hbj⟩ := hrel
            obtain ⟨px, cxv, rfl, _⟩ := id hox.vals
            obtain ⟨py, cyv, rfl, _⟩ := id hoy.vals
            have s5 := (G0.out.bel hbj).cells.2.2.2.2.2
            have c2 := cell_later hbj C2.out
            by_cases hjl : j < pl.length ∧ j < 10
            · obtain ⟨hjl, hjl2⟩ := hjl
              obtain ⟨b1, o1, rfl, r1⟩ := (C3.out.bel hbj).row (by omega)
              obtain ⟨p1, p2⟩ := r1 j hjl
              have ht := hs2 pl[j] (List.getElem_mem hjl)
              have HT := hid (cutL_step pl j hjl hjl2)
              clear r1
              generalize pl[j] = q at *
              obtain ⟨qa, t⟩ := q
              simp only at p1 p2 ht
              have zt : (M.bs t).size = t.length := M.bs_size t
              have hcut : (M.bs t).extract 0 (min (t.length : Int) 600).toNat = M.bs (t.take 600) := cutM_eq t 600
              have m1 : (0 : Int) ≤ min (t.length : Int) 600 := by omega
              have m2 : min (t.length : Int) 600 ≤ (t.length : Int) := by omega
              have m3 : (0 : Int) ≤ min (t.length : Int) 600 ∧ min (t.length : Int) 600 ≤ (t.length : Int) := ⟨m1, m2⟩
              have HQ : Hid (cutP (qa, t) = (qa, t.take 600)) := rfl
              generalize t.take 600 = TT at *
              have hcl : (cutL (pl.take j)).length ≤ 100000 := by have := cutL_length (pl.take j); omega
              generalize hK : cutL (pl.take j) = K at *
              clear hK
              go_wp2_with fail
              refine wp_last ?_
              intro KK hKK
              go_cut [10] from 72 to 115 (fun s10 wx => s10 = .int .i64 (j : Int) ∧ ∃ (ao5 ao6 : Option Addr) (cp5 cp6 : Nat), OwnP 66 wx W1.heap.size (.slice ao5 (K.length + 1) cp5) (K ++ [(qa, TT)]) ∧ OwnP 67 wx W1.heap.size (.slice ao6 (K.length + 1) cp6) (K ++ [(qa, TT)]) ∧ B2 wx cb 60 (.int .i64 pn) (.slice ao5 (K.length + 1) cp5) ∧ B2 wx db 63 (.int .i64 pn) (.slice ao6 (K.length + 1) cp6) ∧ Bel W1 wx)
              case first =>
                have b2 : Bel wr (wr.alloc (.cells #[.int .i64 qa, .string (M.bs TT)] 65)) := Bel.al (Below.refl _ _) _
                have e0 : B2 (wr.alloc (.cells #[.int .i64 qa, .string (M.bs TT)] 65)) wr.heap.size 65 (.int .i64 qa) (.string (M.bs TT)) := heap_alloc_new wr _
                refine reg13 _ _ _ _ _ _ _ _ _ _ _ _ _ _ _ _ _ _ _ _ _ _ _ _ _ _ _ _ _ _ _ _ _ _ _ _ _ _ _ _ _ _ _ _ _ _ _ _ _ _ _ _ _ _ _ _ _ _ _ _ _ _ _ _ _ _ _ _ _ _ _ _ _ _ _ _ _ _ _ _ _ _ _ _ _ _ _ _ _ _ _ _ _ _ _ _ _ _ _ _ _ _ _ _ _ _ _ _ _ _ _ _ _ _ _ _ _ _ _ _ _ _ _ _ _ _ _ cb db wr.heap.size qa TT K px py cxv cyv pn W1 _ hcl hcd hcb hdb (by have := bc.lt; omega) (by have := bd.lt; omega) (hox.bel b2) (hoy.bel b2) (bc.bel b2) (bd.bel b2) e0 (hbj.tr b2) _ _ ?_
                intro x104 x105 x106 x107 x108 x109 x110 x111 x112 x113 x114 x115 wx hrel
                go_wp2_with fail
                go_meet
                case rel => exact ⟨rfl, hrel⟩
              case rest =>
                obtain ⟨rfl, ao5, ao6, cp5, cp6, X, Y, P0, P1, PB⟩ := hcut
                refine hKK _ _ ?_
                go_wp2_with fail
                go_roundw
                case rel => exact ⟨j + 1, _, _, by omega, by omega, by go_num, by rw [HT.out, HQ.out]; exact X, by rw [HT.out, HQ.out]; exact Y, P0, P1, PB⟩
                case measure => simp [intOf]; omega
            · have hce := cutL_end pl j (by omega)
              rw [hce] at hox hoy
              have HCC : Hid (cutC (pn, pl) = (pn, cutL pl)) := rfl
              have hlen : (cutL (pl.take j)).length = (cutL pl).length := by rw [hce]
              rw [hlen] at bc bd
              clear hce hlen
              have hcs : pl.length ≤ j ∨ (j < pl.length ∧ 10 ≤ j) := by omega
              clear hjl
              have g0 := hid (G0.out.bel hbj)
              have g1 := hid (G1.out.bel hbj)
              have g2 := hid (G2.out.bel hbj)
              have g3 := hid (G3.out.bel hbj)
              have g4 := hid (G4.out.bel hbj)
              have oX := hid (HOX.out.bel hbj)
              have oY := hid (HOY.out.bel hbj)
              have aX := hid (HAX.out.kt (KT.of_bel hbj))
              have aY := hid (HAY.out.kt (KT.of_bel hbj))
              have bB := hid (HB.out.tr hbj)
              rcases hcs with hc1 | ⟨hc1, hc2⟩
              all_goals
                go_wp2_with fail
                refine wp_last ?_
                intro KK hKK
                go_cut [7] from 47 to 127 (fun s7 wx => s7 = .int .i64 (k : Int) ∧ ∃ (ao5 ao6 : Option Addr) (cp5 cp6 : Nat) (Qx' Qy' : List (M.Ch × Value)), (Qx'.map (·.1) = cutG (L.take (k + 1)) ∧ OwnC 60 wx w.heap.size (.slice ao5 Qx'.length cp5) Qx' ∧ AllP 66 wx w.heap.size Qx') ∧ (Qy'.map (·.1) = cutG (L.take (k + 1)) ∧ OwnC 63 wx w.heap.size (.slice ao6 Qy'.length cp6) Qy' ∧ AllP 67 wx w.heap.size Qy') ∧ Bt 25 wx w.heap.size (.int .i64 n0) (.int .i64 n1) (.int .i64 n2) (.int .i64 n3) (.string (M.bs undo)) (.slice (some ⟨b, off, none⟩) L.length cap) ∧ Z6 29 wx (w.heap.size + 1) ∧ Z6 32 wx (w.heap.size + 1 + 1) ∧ Bt 29 wx (w.heap.size + 1 + 1 + 1) (.int .i64 n0) (.int .i64 n1) (.int .i64 n2) (.string (M.bs H)) (.int .i64 n3) (.slice ao5 Qx'.length cp5) ∧ Bt 32 wx (w.heap.size + 1 + 1 + 1 + 1) (.int .i64 n0) (.int .i64 n1) (.int .i64 n2) (.string (M.bs H)) (.int .i64 n3) (.slice ao6 Qy'.length cp6) ∧ Bel w wx)
                case first =>
                  have ox := oX.out
                  have oy := oY.out
                  have lx : Qx.length ≤ 100000 := by have := congrArg List.length HQX.out; rw [List.length_map] at this; have := cutG_length (L.take k); omega
                  have ly : Qy.length ≤ 100000 := by have := congrArg List.length HQY.out; rw [List.length_map] at this; have := cutG_length (L.take k); omega
                  have fx : ∀ i, W1.heap.size ≤ i → some i ≠ (Value.slice vx Qx.length cx).ownBlock := fun i hi e => by have := (World.ownsRow.lt HOX.out i e.symm).2; omega
                  have fy : ∀ i, W1.heap.size ≤ i → some i ≠ (Value.slice vy Qy.length cy).ownBlock := fun i hi e => by have := (World.ownsRow.lt HOY.out i e.symm).2; omega
                  have wz := HB.out.size
                  refine reg14 _ _ _ _ _ _ _ _ _ _ _ _ _ _ _ _ _ _ _ _ _ _ _ _ _ _ _ _ _ _ _ _ _ _ _ _ _ _ _ _ _ _ _ _ _ _ _ _ _ _ _ _ _ _ _ _ _ _ _ _ _ _ _ _ _ _ _ _ _ _ _ _ _ _ _ _ _ _ _ _ _ _ _ _ _ _ _ _ _ _ _ _ _ _ _ _ _ _ _ _ _ _ _ _ _ _ _ _ _ _ _ _ _ _ _ _ _ _ _ _ _ _ _ _ _ _ (w.heap.size + 1 + 1 + 1) (w.heap.size + 1 + 1 + 1 + 1) cb db pn px py (cutL pl).length (cutL pl).length cxv cyv vx vy Qx.length Qy.length cx cy (Qx.flatMap cellsC) (Qy.flatMap cellsC) _ _ w.heap.size wr lx ly (by omega) (by omega) (by omega) ox oy g3.out g4.out rfl rfl bc (fx _ hcb) (fy _ hcb) bd (fx _ hdb) (fy _ hdb) _ _ ?_
                  intro x116 x117 x118 x119 x120 x121 x122 x123 x124 x125 x126 x127 wx hrel
                  obtain ⟨ao5, ao6, cp5, cp6, f1, f2, f3, f4, f5⟩ := hrel
                  have k1 : KT 66 wr wx := f5.kt ox oy g3.out g4.out (by decide) (by decide) (by decide) (by decide)
                  have k2 : KT 67 wr wx := f5.kt ox oy g3.out g4.out (by decide) (by decide) (by decide) (by decide)
                  obtain ⟨X1, X2⟩ := glueX f1 rfl aX.out hox wz k1
                  obtain ⟨Y1, Y2⟩ := glueX f2 rfl aY.out hoy wz k2
                  have e0 := f5.bt ox oy g0.out (by decide) (by decide) (by omega) (by omega)
                  have e1 := f5.bt ox oy g1.out (by decide) (by decide) (by omega) (by omega)
                  have e2 := f5.bt ox oy g2.out (by decide) (by decide) (by omega) (by omega)
                  have eb := bB.out.trans f5.below
                  have hX : (Qx ++ [((pn, cutL pl), Value.slice px (cutL pl).length cxv)]).map (·.1) = cutG (L.take (k + 1)) := by rw [List.map_append, HQX.out, HC.out, HCC.out]; rfl
                  have hY : (Qy ++ [((pn, cutL pl), Value.slice py (cutL pl).length cyv)]).map (·.1) = cutG (L.take (k + 1)) := by rw [List.map_append, HQY.out, HC.out, HCC.out]; rfl
                  have RR := hid (And.intro (And.intro hX (And.intro X1 X2)) (And.intro (And.intro hY (And.intro Y1 Y2)) (And.intro e0 (And.intro e1 (And.intro e2 (And.intro f3 (And.intro f4 eb)))))))
                  clear hX hY X1 X2 Y1 Y2 e0 e1 e2 eb f1 f2 f3 f4 f5 k1 k2
                  go_wp2_with fail
                  go_meet
                  case rel =>
                    obtain ⟨r1, r2, r3, r4, r5, r6, r7, r8⟩ := RR.out
                    refine ⟨rfl, ao5, ao6, cp5, cp6, _, _, r1, r2, r3, r4, r5, ?_, ?_, r8⟩
                    · rw [List.length_append]; exact r6
                    · rw [List.length_append]; exact r7
                case rest =>
                  obtain ⟨rfl, ao5, ao6, cp5, cp6, Qx', Qy', X, Y, P0, P1, P2, P3, P4, PB⟩ := hcut
                  refine hKK _ _ ?_
                  go_wp2_with fail
                  go_roundw
                  case rel => exact ⟨k + 1, _, _, Qx', Qy', by omega, by omega, by go_num, X, Y, P0, P1, P2, P3, P4, PB⟩
                  case measure => simp [intOf]; omega
      · have HE := hid (cutG_end L k (by omega))
        have nx1 := hox.ne g1 (by decide)
        have nx2 := hox.ne g2 (by decide)
        have ny1 := hoy.ne g1 (by decide)
        have ny2 := hoy.ne g2 (by decide)
        obtain ⟨s30, s31, s32, s33, s34, s35⟩ := g3.cells
        obtain ⟨s40, s41, s42, s43, s44, s45⟩ := g4.cells
        obtain ⟨s10, s11, s12, s13, s14, s15⟩ := g1.cells
        obtain ⟨s20, s21, s22, s23, s24, s25⟩ := g2.cells
        have f10 := g1.froz 0
        have f20 := g2.froz 0
        have f11 := g1.froz 1
        have f21 := g2.froz 1
        have f12 := g1.froz 2
        have f22 := g2.froz 2
        have f13 := g1.froz 3
        have f23 := g2.froz 3
        have f14 := g1.froz 4
        have f24 := g2.froz 4
        have f15 := g1.froz 5
        have f25 := g2.froz 5
        have HXX := hid hox
        have HYY := hid hoy
        have HPX := hid hax
        have HPY := hid hay
        have HG1 := hid g1
        have HG2 := hid g2
        have HBB := hid hb
        have NX1 := hid nx1
        have NX2 := hid nx2
        have NY1 := hid ny1
        have NY2 := hid ny2
        have HQX := hid (hqx.trans HE.out)
        have HQY := hid (hqy.trans HE.out)
        clear hox hoy hax hay hqx hqy g0 g1 g2 g3 g4 hs HV hb nx1 nx2 ny1 ny2 HE
        go_wp2_with fail
        go_region
        all_goals
          clear s5 s30 s31 s32 s33 s34 s35 s40 s41 s42 s43 s44 s45 s10 s11 s12 s13 s14 s15 s20 s21 s22 s23 s24 s25 f10 f11 f12 f13 f14 f15 f20 f21 f22 f23 f24 f25
          go_wp2_with fail
          have X := hid ((HXX.out.six NX1.out (.int .i64 n0) (.int .i64 n1) (.int .i64 n2) (.string (M.bs H)) (.int .i64 n3) (.slice vx Qx.length cx)).six NX2.out (.int .i64 n0) (.int .i64 n1) (.int .i64 n2) (.string (M.bs H)) (.int .i64 n3) (.slice vy Qy.length cy))
          have Y := hid ((HYY.out.six NY1.out (.int .i64 n0) (.int .i64 n1) (.int .i64 n2) (.string (M.bs H)) (.int .i64 n3) (.slice vx Qx.length cx)).six NY2.out (.int .i64 n0) (.int .i64 n1) (.int .i64 n2) (.string (M.bs H)) (.int .i64 n3) (.slice vy Qy.length cy))
          have g2' := HG2.out.sixOther (show w.heap.size + 1 + 1 ≠ w.heap.size + 1 by omega) (.int .i64 n0) (.int .i64 n1) (.int .i64 n2) (.string (M.bs H)) (.int .i64 n3) (.slice vx Qx.length cx)
          have PX := hid ((HPX.out.kt (KT.six HG1.out (by decide) (.int .i64 n0) (.int .i64 n1) (.int .i64 n2) (.string (M.bs H)) (.int .i64 n3) (.slice vx Qx.length cx))).kt (KT.six g2' (by decide) (.int .i64 n0) (.int .i64 n1) (.int .i64 n2) (.string (M.bs H)) (.int .i64 n3) (.slice vy Qy.length cy)))
          have PY := hid ((HPY.out.kt (KT.six HG1.out (by decide) (.int .i64 n0) (.int .i64 n1) (.int .i64 n2) (.string (M.bs H)) (.int .i64 n3) (.slice vx Qx.length cx))).kt (KT.six g2' (by decide) (.int .i64 n0) (.int .i64 n1) (.int .i64 n2) (.string (M.bs H)) (.int .i64 n3) (.slice vy Qy.length cy)))
          have P1 := hid ((HG1.out.six (.int .i64 n0) (.int .i64 n1) (.int .i64 n2) (.string (M.bs H)) (.int .i64 n3) (.slice vx Qx.length cx)).sixOther (show w.heap.size + 1 ≠ w.heap.size + 1 + 1 by omega) (.int .i64 n0) (.int .i64 n1) (.int .i64 n2) (.string (M.bs H)) (.int .i64 n3) (.slice vy Qy.length cy))
          have P2 := hid (g2'.six (.int .i64 n0) (.int .i64 n1) (.int .i64 n2) (.string (M.bs H)) (.int .i64 n3) (.slice vy Qy.length cy))
          have PB := hid ((HBB.out.six (show w.heap.size ≤ w.heap.size + 1 by omega) (.int .i64 n0) (.int .i64 n1) (.int .i64 n2) (.string (M.bs H)) (.int .i64 n3) (.slice vx Qx.length cx)).six (show w.heap.size ≤ w.heap.size + 1 + 1 by omega) (.int .i64 n0) (.int .i64 n1) (.int .i64 n2) (.string (M.bs H)) (.int .i64 n3) (.slice vy Qy.length cy))
          have x := X.out
          have y := Y.out
          have px := PX.out
          have py := PY.out
          have p1 := P1.out
          have p2 := P2.out
          have pb := PB.out
          rw [six, six] at x y px py p1 p2 pb
          clear X Y PX PY P1 P2 PB g2'
          generalize World.setCell _ ⟨w.heap.size + 1 + 1, 5, none⟩ (.slice vy Qy.length cy) = W9 at *
          obtain ⟨z0, z1, z2, z3, z4, z5⟩ := p1.cells
          obtain ⟨v0, v1, v2, v3, v4, v5⟩ := p2.cells
          refine bodyPost_ret (v := .tuple #[.agg #[.int .i64 n0, .int .i64 n1, .int .i64 n2, .string (M.bs H), .int .i64 n3, .slice vx Qx.length cx], .agg #[.int .i64 n0, .int .i64 n1, .int .i64 n2, .string (M.bs H), .int .i64 n3, .slice vy Qy.length cy]]) (by simp [results, Try.results8, go_sem, z0, z1, z2, z3, z4, z5, v0, v1, v2, v3, v4, v5]) rfl ?_
          exact ⟨_, _, Qx, Qy, rfl, ⟨HQX.out, x, px⟩, ⟨HQY.out, y, py⟩, pb.dr⟩
    · have HE := hid (cutG_end L k (by omega))
      have nx1 := hox.ne g1 (by decide)
      have nx2 := hox.ne g2 (by decide)
      have ny1 := hoy.ne g1 (by decide)
      have ny2 := hoy.ne g2 (by decide)
      obtain ⟨s30, s31, s32, s33, s34, s35⟩ := g3.cells
      obtain ⟨s40, s41, s42, s43, s44, s45⟩ := g4.cells
      obtain ⟨s10, s11, s12, s13, s14, s15⟩ := g1.cells
      obtain ⟨s20, s21, s22, s23, s24, s25⟩ := g2.cells
      have f10 := g1.froz 0
      have f20 := g2.froz 0
      have f11 := g1.froz 1
      have f21 := g2.froz 1
      have f12 := g1.froz 2
      have f22 := g2.froz 2
      have f13 := g1.froz 3
      have f23 := g2.froz 3
      have f14 := g1.froz 4
      have f24 := g2.froz 4
      have f15 := g1.froz 5
      have f25 := g2.froz 5
      have HXX := hid hox
      have HYY := hid hoy
      have HPX := hid hax
      have HPY := hid hay
      have HG1 := hid g1
      have HG2 := hid g2
      have HBB := hid hb
      have NX1 := hid nx1
      have NX2 := hid nx2
      have NY1 := hid ny1
      have NY2 := hid ny2
      have HQX := hid (hqx.trans HE.out)
      have HQY := hid (hqy.trans HE.out)
      clear hox hoy hax hay hqx hqy g0 g1 g2 g3 g4 hs HV hb nx1 nx2 ny1 ny2 HE
      go_wp2_with fail
      go_region
      all_goals
        clear s5 s30 s31 s32 s33 s34 s35 s40 s41 s42 s43 s44 s45 s10 s11 s12 s13 s14 s15 s20 s21 s22 s23 s24 s25 f10 f11 f12 f13 f14 f15 f20 f21 f22 f23 f24 f25
        go_wp2_with fail
        have X := hid ((HXX.out.six NX1.out (.int .i64 n0) (.int .i64 n1) (.int .i64 n2) (.string (M.bs H)) (.int .i64 n3) (.slice vx Qx.length cx)).six NX2.out (.int .i64 n0) (.int .i64 n1) (.int .i64 n2) (.string (M.bs H)) (.int .i64 n3) (.slice vy Qy.length cy))
        have Y := hid ((HYY.out.six NY1.out (.int .i64 n0) (.int .i64 n1) (.int .i64 n2) (.string (M.bs H)) (.int .i64 n3) (.slice vx Qx.length cx)).six NY2.out (.int .i64 n0) (.int .i64 n1) (.int .i64 n2) (.string (M.bs H)) (.int .i64 n3) (.slice vy Qy.length cy))
        have g2' := HG2.out.sixOther (show w.heap.size + 1 + 1 ≠ w.heap.size + 1 by omega) (.int .i64 n0) (.int .i64 n1) (.int .i64 n2) (.string (M.bs H)) (.int .i64 n3) (.slice vx Qx.length cx)
        have PX := hid ((HPX.out.kt (KT.six HG1.out (by decide) (.int .i64 n0) (.int .i64 n1) (.int .i64 n2) (.string (M.bs H)) (.int .i64 n3) (.slice vx Qx.length cx))).kt (KT.six g2' (by decide) (.int .i64 n0) (.int .i64 n1) (.int .i64 n2) (.string (M.bs H)) (.int .i64 n3) (.slice vy Qy.length cy)))
        have PY := hid ((HPY.out.kt (KT.six HG1.out (by decide) (.int .i64 n0) (.int .i64 n1) (.int .i64 n2) (.string (M.bs H)) (.int .i64 n3) (.slice vx Qx.length cx))).kt (KT.six g2' (by decide) (.int .i64 n0) (.int .i64 n1) (.int .i64 n2) (.string (M.bs H)) (.int .i64 n3) (.slice vy Qy.length cy)))
        have P1 := hid ((HG1.out.six (.int .i64 n0) (.int .i64 n1) (.int .i64 n2) (.string (M.bs H)) (.int .i64 n3) (.slice vx Qx.length cx)).sixOther (show w.heap.size + 1 ≠ w.heap.size + 1 + 1 by omega) (.int .i64 n0) (.int .i64 n1) (.int .i64 n2) (.string (M.bs H)) (.int .i64 n3) (.slice vy Qy.length cy))
        have P2 := hid (g2'.six (.int .i64 n0) (.int .i64 n1) (.int .i64 n2) (.string (M.bs H)) (.int .i64 n3) (.slice vy Qy.length cy))
        have PB := hid ((HBB.out.six (show w.heap.size ≤ w.heap.size + 1 by omega) (.int .i64 n0) (.int .i64 n1) (.int .i64 n2) (.string (M.bs H)) (.int .i64 n3) (.slice vx Qx.length cx)).six (show w.heap.size ≤ w.heap.size + 1 + 1 by omega) (.int .i64 n0) (.int .i64 n1) (.int .i64 n2) (.string (M.bs H)) (.int .i64 n3) (.slice vy Qy.length cy))
        have x := X.out
        have y := Y.out
        have px := PX.out
        have py := PY.out
        have p1 := P1.out
        have p2 := P2.out
        have pb := PB.out
        rw [six, six] at x y px py p1 p2 pb
        clear X Y PX PY P1 P2 PB g2'
        generalize World.setCell _ ⟨w.heap.size + 1 + 1, 5, none⟩ (.slice vy Qy.length cy) = W9 at *
        obtain ⟨z0, z1, z2, z3, z4, z5⟩ := p1.cells
        obtain ⟨v0, v1, v2, v3, v4, v5⟩ := p2.cells
        refine bodyPost_ret (v := .tuple #[.agg #[.int .i64 n0, .int .i64 n1, .int .i64 n2, .string (M.bs H), .int .i64 n3, .slice vx Qx.length cx], .agg #[.int .i64 n0, .int .i64 n1, .int .i64 n2, .string (M.bs H), .int .i64 n3, .slice vy Qy.length cy]]) (by simp [results, Try.results8, go_sem, z0, z1, z2, z3, z4, z5, v0, v1, v2, v3, v4, v5]) rfl ?_
        exact ⟨_, _, Qx, Qy, rfl, ⟨HQX.out, x, px⟩, ⟨HQY.out, y, py⟩, pb.dr⟩
end Go.Proofs.Ytaepbmcmggnmpaa
