/-
  The contract of the document's own From for layer 4, walked.
-/
import Derived.Test.YtoelaemneoabfabQS
import Derived.BigQuiet
import Derived.Deep.QuietTactic
import Derived.Laws.OwnMore
import Derived.Maps.AppendAt
namespace Go.Proofs.Ytoelaemneoabfab
open Go.RowKit
set_option maxRecDepth 100000

theorem M.ins1_length (O : List M.Tk) (x : M.Tk) : (M.ins1 O x).length = O.length + 1 := by
  unfold M.ins1
  simp only [List.length_append, List.length_take, List.length_drop, List.length_cons, List.length_nil]
  have := M.cnt_le O x
  omega
theorem M.rfrom_snoc (K : List M.Tk) (k x : M.Tk) : M.rfrom (K ++ [x]) k = if M.ltS x k = true then M.rfrom K k else M.ins1 (M.rfrom K k) x := by
  unfold M.rfrom
  rw [List.foldl_append]; rfl
theorem M.rfrom_len (k : M.Tk) : ∀ (K : List M.Tk) (O : List M.Tk), (K.foldl (fun out x => if M.ltS x k = true then out else M.ins1 out x) O).length ≤ O.length + K.length
  | [], O => by simp
  | x :: K, O => by
    rw [List.foldl_cons]
    split
    · have := M.rfrom_len k K O
      simp; omega
    · have := M.rfrom_len k K (M.ins1 O x)
      rw [M.ins1_length] at this
      simp; omega
theorem M.rfrom_length (K : List M.Tk) (k : M.Tk) : (M.rfrom K k).length ≤ K.length := by
  have := M.rfrom_len k K []
  unfold M.rfrom; simp at this; exact this
theorem M.cnt_lt : ∀ (l : List M.Tk) (x : M.Tk) (t : Nat) (h : t < l.length), t < M.cnt l x → M.ltS l[t] x = true
  | y :: ys, x, 0, _, ht => by
    rw [M.cnt] at ht
    split at ht
    · assumption
    · omega
  | y :: ys, x, t + 1, h, ht => by
    rw [M.cnt] at ht
    split at ht
    · exact M.cnt_lt ys x t (by simpa using h) (by omega)
    · omega
theorem M.cnt_ge : ∀ (l : List M.Tk) (x : M.Tk) (h : M.cnt l x < l.length), M.ltS l[M.cnt l x] x = false
  | y :: ys, x, h => by
    by_cases hy : M.ltS y x = true
    · have e : M.cnt (y :: ys) x = M.cnt ys x + 1 := by rw [M.cnt, if_pos hy]
      simp only [e, List.getElem_cons_succ]
      exact M.cnt_ge ys x (by rw [e] at h; simpa using h)
    · have e : M.cnt (y :: ys) x = 0 := by rw [M.cnt, if_neg hy]
      simp only [e, List.getElem_cons_zero]
      simpa using hy
theorem csT_app (a b : List Tx) : csT (a ++ b) = csT a ++ csT b := by simp [csT]
theorem csT_one (l : List Tx) : ∀ u ∈ csT l, u.oneCell' = true := by
  intro u hu
  simp only [csT, List.mem_map] at hu
  obtain ⟨e, _, rfl⟩ := hu
  rfl
/-- Texts are appended to a row of one's own. -/
theorem appTs {w : World} {base n m c : Nat} {v : Value} {xs : List Value} (hown : w.ownsRow base 9 1 v n xs) (ad : Addr) (news : List Tx) (hm : news.length = m) (hc : ∀ j u, (csT news)[j]? = some u → w.cell? (ad.add j) = some u) (hn : n + m ≤ 100000) (hb : base ≤ w.heap.size) :
    ∃ v' w', (Builtin.append_ #[27, 27] 27 #[v, .slice (some ad) m c]).run Try.prog w = .ok v' w' ∧ w'.ownsRow base 9 1 v' (n + m) (xs ++ csT news) ∧ w.grownBy w' v.ownBlock ∧ (v'.ownBlock = v.ownBlock ∨ v'.ownBlock = some w.heap.size) := by
  obtain ⟨i0, hi, hz0, hz1, hz2⟩ := info_parts info9
  obtain ⟨v', w', h1, h2, h3, _, h4⟩ := run_append_own_at (P := Try.prog) w base 27 27 9 i0 _ 1 16 Try.underlying27 hi hz0 hz1 hz2 rfl (by decide) v n xs hown ad m c (csT news) (by rw [csT_length]; omega) hc (csT_one _) (by unfold maxLen; omega) (by omega) hb
  exact ⟨v', w', h1, h2, h3, h4⟩
theorem appNone {w : World} {base n : Nat} {v : Value} {xs : List Value} (hown : w.ownsRow base 9 1 v n xs) : (Builtin.append_ #[27, 27] 27 #[v, .slice none 0 0]).run Try.prog w = .ok v w := by
  obtain ⟨i0, hi, hz0, hz1, hz2⟩ := info_parts info9
  exact run_append_owned_none (P := Try.prog) w base 27 27 9 i0 1 Try.underlying27 hi v n xs hown
theorem appL {ops : Array Oper} {rest : List Oper} {o : Oper} {a : Act} {Q : Exit → Act → World → Prop} {W W' : World} {v xv v' : Value} (hgd : o.guard = none) (s x : Operand)
    (ho : o.op = .call { callee := .builtin .append, args := #[s, x], argTypes := #[27, 27] }) (hs : a.eval s = v) (hx : a.eval x = xv) (hr : (Builtin.append_ #[27, 27] o.type #[v, xv]).run Try.prog W = .ok v' W')
    (h : wpList Try.prog ops Q rest (a.put o.dst v') W') : wpList Try.prog ops Q (o :: rest) a W :=
  wpList_plain hgd fun _ hK => by
    unfold Oper.wp execOp
    simp only [ho, resolve, invoke, builtin, Sem.run_bind, Sem.run_pure, Result.andThen_ok, List.map_toArray, List.map_cons, List.map_nil, hs, hx, hr]
    exact hK _ _ h
theorem rowT_cells {w : World} {g off : Nat} {L : List Tx} (h : RowT w g off L) (d m : Nat) (hd : d + m ≤ L.length) : ∀ j u, (csT ((L.drop d).take m))[j]? = some u → w.cell? ((⟨g, off + d, none⟩ : Addr).add j) = some u := by
  intro j u hj
  obtain ⟨hjl, hj2⟩ := List.getElem?_eq_some_iff.1 hj
  have hjm : j < m := by rw [csT_length, List.length_take, List.length_drop] at hjl; omega
  rw [add_lit, Nat.add_assoc, h (d + j) (by omega), ← hj2]
  simp [csT, List.getElem_take, List.getElem_drop]
theorem own_kept {w w' : World} {base n : Nat} {e : TypeId} {v : Value} {xs : List Value} (h : w.ownsRow base e 1 v n xs) (k : Bel w w') : w'.ownsRow base e 1 v n xs :=
  World.ownsRow.kept h (grown_of k) (by cases v.ownBlock with | none => exact .inl rfl | some k => exact .inr (by simp))
theorem own_rowT {w : World} {base : Nat} {v : Value} {L : List Tx} (h : w.ownsRow base 9 1 v L.length (csT L)) : v = .slice none 0 0 ∧ L = [] ∨ ∃ g cap, v = .slice (some ⟨g, 0, none⟩) L.length cap ∧ base ≤ g ∧ RowT w g 0 L := by
  rcases rowT_of (X := fun _ => False) ⟨row_base h (Nat.zero_le _), fun _ _ h => h⟩ with h1 | ⟨g, cap, rfl, h2⟩
  · exact .inl h1
  · exact .inr ⟨g, cap, rfl, (World.ownsRow.lt h g rfl).1, h2⟩
theorem own_lt {w : World} {base n g cap : Nat} {e : TypeId} {xs : List Value} (h : w.ownsRow base e 1 (.slice (some ⟨g, 0, none⟩) n cap) n xs) : g < w.heap.size := (World.ownsRow.lt h g rfl).2
theorem own_cap {w : World} {base n g cap : Nat} {e : TypeId} {xs : List Value} (h : w.ownsRow base e 1 (.slice (some ⟨g, 0, none⟩) n cap) n xs) : n ≤ cap := by
  rcases h.2 with ⟨hv, _⟩ | ⟨g', cap', cur, hv, _, _, hn, _⟩
  · simp at hv
  · simp only [Value.slice.injEq] at hv
    obtain ⟨_, _, rfl⟩ := hv
    exact hn
set_option maxHeartbeats 16000000 in
theorem rfromS (R : M.Rm) (k : M.Tk) (kv vv : Value) (w : World) (hR : R.length ≤ 1000) (h : ShowM w kv vv R) :
    Calls Try.prog 34 #[.agg #[kv, vv], .string (M.bs k)] w fun e w' => ∃ x, e = .returned x ∧ w'.ownsRow w.heap.size 9 1 x (M.rfrom (R.map (·.1)) k).length (csT (M.rfrom (R.map (·.1)) k)) ∧ Bel w w' := by
  obtain ⟨a, c, a', c', rfl, rfl, hs⟩ := h
  have b1 : Bel w (w.alloc (.cells #[.slice a R.length c, .slice a' R.length c'] 30)) := Bel.al (Below.refl _ _) _
  have gm : C2 (w.alloc (.cells #[.slice a R.length c, .slice a' R.length c'] 30)) w.heap.size (.slice a R.length c) (.slice a' R.length c') := heap_alloc_new w _
  go_enter Try.func34, Try.ntmps34
  go_wp2_with fail
  generalize w.alloc (.cells #[.slice a R.length c, .slice a' R.length c'] 30) = W0 at *
  go_loopw [5, 6] (fun a5 a6 wr => ∃ (j : Nat) (x : Value), j ≤ R.length ∧ a6 = .int .i64 j ∧ a5 = x ∧ wr.ownsRow w.heap.size 9 1 x (M.rfrom ((R.take j).map (·.1)) k).length (csT (M.rfrom ((R.take j).map (·.1)) k)) ∧ C2 wr w.heap.size (.slice a R.length c) (.slice a' R.length c') ∧ Bel w wr) (fun _ a6 _ => R.length - (intOf a6).toNat)
  case atStart => exact ⟨0, _, Nat.zero_le _, rfl, rfl, World.ownsRow_nil _ _ _ _, gm, b1⟩
  case round =>
    clear gm b1
    obtain ⟨j, x, hj, rfl, rfl, hown, gm, hb⟩ := hrel
    have m0 := cell_of (i := 0) gm rfl
    have m1 := cell_of (i := 1) gm rfl
    by_cases hlt : j < R.length
    · rcases hs with rfl | ⟨g, off, g', off', rfl, rfl, h3, h4⟩
      · simp at hlt
      have hgw := h3.lt (by simp; omega)
      have hgl := Nat.lt_of_lt_of_le hgw hb.size
      have e1 := (h3.bel hb) j (by simpa using hlt)
      rw [(map_get R j hlt).1] at e1
      have HS : Hid (M.rfrom ((R.take (j + 1)).map (·.1)) k = if M.ltS R[j].1 k = true then M.rfrom ((R.take j).map (·.1)) k else M.ins1 (M.rfrom ((R.take j).map (·.1)) k) R[j].1) := by
        show _ = _
        rw [List.take_succ_eq_append_getElem hlt, List.map_append]; exact M.rfrom_snoc _ _ _
      have hol : (M.rfrom ((R.take j).map (·.1)) k).length ≤ 1000 := by
        have := M.rfrom_length ((R.take j).map (·.1)) k
        rw [List.length_map, List.length_take] at this; omega
      clear h3 h4
      generalize M.rfrom ((R.take j).map (·.1)) k = O at *
      generalize R[j] = E at *
      obtain ⟨ek, ev⟩ := E
      simp only at e1
      by_cases hk : M.ltS ek k = true
      · have hq : Op.bytesLess (M.bs ek).toList (M.bs k).toList = true := by rw [M.bs_toList, M.bs_toList]; exact hk
        rw [if_pos hk] at HS
        have OW := hid hown
        have GM := hid gm
        clear hown gm
        go_wp2_with fail
        go_roundw
        case rel => exact ⟨j + 1, _, by omega, by go_num, rfl, by rw [HS.out]; exact OW.out, GM.out, hb⟩
        case measure => simp [intOf]; omega
      · have hq : Op.bytesLess (M.bs ek).toList (M.bs k).toList = false := by rw [M.bs_toList, M.bs_toList]; exact eq_false_of_ne_true hk
        rw [if_neg hk] at HS
        have GM := hid gm
        have HBz := hb.size
        obtain ⟨wo, rfl⟩ : ∃ W, W = wr := ⟨_, rfl⟩
        rcases own_rowT hown with ⟨rfl, rfl⟩ | ⟨g0, cx, rfl, hg0, hrow⟩
        · clear gm hown
          go_wp2_with fail
          go_loopw [7] (fun a7 wr => a7 = .int .i64 0 ∧ Bel wo wr) (fun _ _ => 0)
          case atStart => exact ⟨rfl, Below.refl _ _⟩
          case round =>
            obtain ⟨rfl, hbi⟩ := hrel
            have d0 : decide ((0 : Int) < 0) = false := rfl
            go_wp2_with fail
            go_quiet (fail)
            have b5 : Bel wo (wr.drewN nq) := hbi.tr (below_drewN (Below.refl _ _) _)
            generalize wr.drewN nq = W5 at b5 ⊢
            have n5 : W5.ownsRow w.heap.size 9 1 (.slice none 0 0) 0 (csT []) := World.ownsRow_nil _ _ _ _
            have q1 := appNone n5
            have b6 : Bel W5 (W5.alloc (.cells #[.string (M.bs ek)] 9)) := Bel.al (Below.refl _ _) _
            have hz5 := (hb.tr b5).size
            obtain ⟨v6, W6, q2, n6, g6, _⟩ := appTs (m := 1) (c := 1) (own_kept n5 b6) ⟨W5.heap.size, 0, none⟩ [ek] rfl (one_newT W5 _) (by omega) (by have := b6.size; omega)
            have q3 := appNone n6
            have e5 := (bel_cell b5 hgl _).trans e1
            have c5 := cell_of (i := 0) (show C2 W5 _ _ _ from GM.out.bel b5) rfl
            have bb6 : Bel w W6 := Below.grown ((hb.tr b5).tr b6) g6 (by have := b6.size; omega) (by intro k hk; simp [Value.ownBlock] at hk)
            have GM6 := hid (show C2 W6 _ _ _ from (g6.block _ ((GM.out.bel b5).bel b6).lt (by simp [Value.ownBlock])).trans ((GM.out.bel b5).bel b6))
            have N6 := hid n6
            clear n5 n6 g6
            go_wp2_with (first | (at_builtin; refine appL (v := .slice none 0 0) (xv := .slice none 0 0) rfl (.tmp 41) (.tmp 44) rfl rfl rfl q1 ?_) | (at_builtin; refine appL (v := .slice none 0 0) (xv := .slice (some ⟨W5.heap.size, 0, none⟩) 1 1) rfl (.tmp 46) (.tmp 52) rfl rfl rfl q2 ?_) | (at_builtin; refine appL (v := v6) (xv := .slice none 0 0) rfl (.tmp 54) (.tmp 57) rfl rfl rfl q3 ?_))
            go_roundw
            case rel => exact ⟨j + 1, _, by omega, by go_num, rfl, by rw [HS.out]; exact N6.out, GM6.out, bb6⟩
            case measure => simp [intOf]; omega
        · have hcl := M.cnt_le O ek
          have HCL := fun t h ht => M.cnt_lt O ek t h ht
          have HCG := M.cnt_ge O ek
          have HI : Hid (M.ins1 O ek = O.take (M.cnt O ek) ++ [ek] ++ O.drop (M.cnt O ek)) := rfl
          generalize M.cnt O ek = ct at *
          have OW := hid hown
          have HROW := hid hrow
          have hg0l := hrow
          clear gm hown hrow
          go_wp2_with fail
          go_loopw [7] (fun a7 wr => ∃ t : Nat, t ≤ ct ∧ a7 = .int .i64 t ∧ Bel wo wr) (fun a7 _ => ct - (intOf a7).toNat)
          case atStart => exact ⟨0, Nat.zero_le _, rfl, Below.refl _ _⟩
          case round =>
            obtain ⟨t, ht, rfl, hbi⟩ := hrel
            have e5 := (bel_cell hbi hgl _).trans e1
            have c5 := cell_of (i := 0) (show C2 wr _ _ _ from GM.out.bel hbi) rfl
            by_cases htc : t < ct
            · have hto : t < O.length := by omega
              have e6 := (HROW.out.bel hbi) t hto
              have hl := HCL t hto htc
              generalize O[t] = ot at *
              rw [Nat.zero_add] at e6
              have hq2 : Op.bytesLess (M.bs ot).toList (M.bs ek).toList = true := by rw [M.bs_toList, M.bs_toList]; exact hl
              have d0 : decide ((t : Int) < (O.length : Int)) = true := decide_eq_true (by omega)
              go_wp2_with fail
              go_quiet (fail)
              have b7 : Bel wo (wr.drewN nq) := hbi.tr (below_drewN (Below.refl _ _) _)
              generalize wr.drewN nq = W5 at b7 ⊢
              go_wp2_with fail
              go_roundw
              case rel => exact ⟨t + 1, by omega, by go_num, b7⟩
              case measure => simp [intOf]; omega
            · obtain rfl : t = ct := by omega
              by_cases hto : t < O.length
              case pos =>
                have e6 := (HROW.out.bel hbi) t hto
                have hl := HCG hto
                generalize O[t] = ot at *
                rw [Nat.zero_add] at e6
                have hq2 : Op.bytesLess (M.bs ot).toList (M.bs ek).toList = false := by rw [M.bs_toList, M.bs_toList]; exact hl
                have d0 : decide ((t : Int) < (O.length : Int)) = true := decide_eq_true (by omega)
                go_wp2_with fail
                go_quiet (fail)
                have b7 : Bel wo (wr.drewN nq) := hbi.tr (below_drewN (Below.refl _ _) _)
                generalize wr.drewN nq = W5 at b7 ⊢
                clear e5 c5 e6 hq2
                have e5 := (bel_cell b7 hgl _).trans e1
                have n5 : W5.ownsRow w.heap.size 9 1 (.slice none 0 0) 0 (csT []) := World.ownsRow_nil _ _ _ _
                have hz5 := (hb.tr b7).size
                have row5 := HROW.out.bel b7
                have hg05 : g0 < W5.heap.size := Nat.lt_of_lt_of_le (own_lt OW.out) b7.size
                obtain ⟨v1, W1, q1, n1, gr1, o1⟩ := appTs (m := t) (c := cx) n5 ⟨g0, 0, none⟩ (O.take t) (by rw [List.length_take]; omega) (by have := rowT_cells row5 0 t (by omega); simpa using this) (by omega) hz5
                have f1 : v1.ownBlock = none ∨ v1.ownBlock = some W5.heap.size := o1
                have b1 : Bel W5 W1 := (Below.refl _ _).grown gr1 (Nat.le_refl _) (by intro k hk; simp [Value.ownBlock] at hk)
                have b1a : Bel W1 (W1.alloc (.cells #[.string (M.bs ek)] 9)) := Bel.al (Below.refl _ _) _
                obtain ⟨v2, W2, q2, n2, gr2, o2⟩ := appTs (m := 1) (c := 1) (own_kept n1 b1a) ⟨W1.heap.size, 0, none⟩ [ek] rfl (one_newT W1 _) (by omega) (by have := b1.size; have := b1a.size; omega)
                have b2 : Bel W5 W2 := Below.grown (b1.tr b1a) gr2 (by have := b1.size; have := b1a.size; omega) (by
                  intro k hk
                  rcases f1 with f | f
                  · rw [f] at hk; cases hk
                  · rw [f] at hk; injection hk with hk; omega)
                have f2 : ∀ k, v2.ownBlock = some k → W5.heap.size ≤ k := by
                  intro k hk
                  rcases o2 with o | o
                  · rw [o] at hk
                    rcases f1 with f | f
                    · rw [f] at hk; cases hk
                    · rw [f] at hk; injection hk with hk; omega
                  · rw [o] at hk; injection hk with hk
                    have := b1.size; have := b1a.size; omega
                have row2 := row5.bel b2
                obtain ⟨v3, W3, q3, n3, gr3, _⟩ := appTs (m := O.length - t) (c := cx - t) n2 ⟨g0, t, none⟩ (O.drop t) (by rw [List.length_drop]) (by have := rowT_cells row2 t (O.length - t) (by omega); rw [List.take_of_length_le (by rw [List.length_drop]; omega)] at this; simpa using this) (by omega) (by have := b2.size; omega)
                have b3 : Bel W5 W3 := b2.grown gr3 b2.size f2
                have N3 : Hid (W3.ownsRow w.heap.size 9 1 v3 (M.ins1 O ek).length (csT (M.ins1 O ek))) := by
                  show World.ownsRow _ _ _ _ _ _ _
                  rw [M.ins1_length, HI.out, csT_app, csT_app]
                  have e : 0 + t + 1 + (O.length - t) = O.length + 1 := by omega
                  rw [e] at n3
                  simpa [csT] using n3
                have c5 := cell_of (i := 0) (show C2 W5 _ _ _ from GM.out.bel b7) rfl
                have c6 := (bel_cell b1 (show w.heap.size < W5.heap.size from (show C2 W5 _ _ _ from GM.out.bel b7).lt) 0).trans c5
                have e6 := (bel_cell b1 (Nat.lt_of_lt_of_le hgl b7.size) _).trans e5
                have GM3 := hid (show C2 W3 _ _ _ from ((GM.out.bel b7).bel b3))
                have B3 := hid ((hb.tr b7).tr b3)
                have hcx : O.length ≤ cx := own_cap OW.out
                clear n1 n2 n3 n5 gr1 gr2 gr3 o1 o2 f1 f2 row2 row5 b1 b1a b2 b3
                go_wp2_with (first | (at_builtin; refine appL (v := .slice none 0 0) (xv := .slice (some ⟨g0, 0, none⟩) t cx) rfl (.tmp 41) (.tmp 44) rfl rfl rfl q1 ?_) | (at_builtin; refine appL (v := v1) (xv := .slice (some ⟨W1.heap.size, 0, none⟩) 1 1) rfl (.tmp 46) (.tmp 52) rfl rfl rfl q2 ?_) | (at_builtin; refine appL (v := v2) (xv := .slice (some ⟨g0, t, none⟩) (O.length - t) (cx - t)) rfl (.tmp 54) (.tmp 57) rfl rfl rfl q3 ?_))
                go_roundw
                case rel => exact ⟨j + 1, _, by omega, by go_num, rfl, by rw [HS.out]; exact N3.out, GM3.out, B3.out⟩
                case measure => simp [intOf]; omega
              case neg =>
                have hcx0 : O.length ≤ cx := own_cap OW.out
                by_cases hcc : cx = t
                case neg =>
                  have hlt3 : t < cx := by omega
                  have d0 : decide ((t : Int) < (O.length : Int)) = false := decide_eq_false (by omega)
                  go_wp2_with fail
                  go_quiet (fail)
                  have b7 : Bel wo (wr.drewN nq) := hbi.tr (below_drewN (Below.refl _ _) _)
                  generalize wr.drewN nq = W5 at b7 ⊢
                  clear e5 c5
                  have e5 := (bel_cell b7 hgl _).trans e1
                  have n5 : W5.ownsRow w.heap.size 9 1 (.slice none 0 0) 0 (csT []) := World.ownsRow_nil _ _ _ _
                  have hz5 := (hb.tr b7).size
                  have row5 := HROW.out.bel b7
                  have hg05 : g0 < W5.heap.size := Nat.lt_of_lt_of_le (own_lt OW.out) b7.size
                  obtain ⟨v1, W1, q1, n1, gr1, o1⟩ := appTs (m := t) (c := cx) n5 ⟨g0, 0, none⟩ (O.take t) (by rw [List.length_take]; omega) (by have := rowT_cells row5 0 t (by omega); simpa using this) (by omega) hz5
                  have f1 : v1.ownBlock = none ∨ v1.ownBlock = some W5.heap.size := o1
                  have b1 : Bel W5 W1 := (Below.refl _ _).grown gr1 (Nat.le_refl _) (by intro k hk; simp [Value.ownBlock] at hk)
                  have b1a : Bel W1 (W1.alloc (.cells #[.string (M.bs ek)] 9)) := Bel.al (Below.refl _ _) _
                  obtain ⟨v2, W2, q2, n2, gr2, o2⟩ := appTs (m := 1) (c := 1) (own_kept n1 b1a) ⟨W1.heap.size, 0, none⟩ [ek] rfl (one_newT W1 _) (by omega) (by have := b1.size; have := b1a.size; omega)
                  have b2 : Bel W5 W2 := Below.grown (b1.tr b1a) gr2 (by have := b1.size; have := b1a.size; omega) (by
                    intro k hk
                    rcases f1 with f | f
                    · rw [f] at hk; cases hk
                    · rw [f] at hk; injection hk with hk; omega)
                  have f2 : ∀ k, v2.ownBlock = some k → W5.heap.size ≤ k := by
                    intro k hk
                    rcases o2 with o | o
                    · rw [o] at hk
                      rcases f1 with f | f
                      · rw [f] at hk; cases hk
                      · rw [f] at hk; injection hk with hk; omega
                    · rw [o] at hk; injection hk with hk
                      have := b1.size; have := b1a.size; omega
                  have row2 := row5.bel b2
                  obtain ⟨v3, W3, q3, n3, gr3, _⟩ := appTs (m := O.length - t) (c := cx - t) n2 ⟨g0, t, none⟩ (O.drop t) (by rw [List.length_drop]) (by have := rowT_cells row2 t (O.length - t) (by omega); rw [List.take_of_length_le (by rw [List.length_drop]; omega)] at this; simpa using this) (by omega) (by have := b2.size; omega)
                  have b3 : Bel W5 W3 := b2.grown gr3 b2.size f2
                  have N3 : Hid (W3.ownsRow w.heap.size 9 1 v3 (M.ins1 O ek).length (csT (M.ins1 O ek))) := by
                    show World.ownsRow _ _ _ _ _ _ _
                    rw [M.ins1_length, HI.out, csT_app, csT_app]
                    have e : 0 + t + 1 + (O.length - t) = O.length + 1 := by omega
                    rw [e] at n3
                    simpa [csT] using n3
                  have c5 := cell_of (i := 0) (show C2 W5 _ _ _ from GM.out.bel b7) rfl
                  have c6 := (bel_cell b1 (show w.heap.size < W5.heap.size from (show C2 W5 _ _ _ from GM.out.bel b7).lt) 0).trans c5
                  have e6 := (bel_cell b1 (Nat.lt_of_lt_of_le hgl b7.size) _).trans e5
                  have GM3 := hid (show C2 W3 _ _ _ from ((GM.out.bel b7).bel b3))
                  have B3 := hid ((hb.tr b7).tr b3)
                  have hcx : O.length ≤ cx := own_cap OW.out
                  clear n1 n2 n3 n5 gr1 gr2 gr3 o1 o2 f1 f2 row2 row5 b1 b1a b2 b3
                  go_wp2_with (first | (at_builtin; refine appL (v := .slice none 0 0) (xv := .slice (some ⟨g0, 0, none⟩) t cx) rfl (.tmp 41) (.tmp 44) rfl rfl rfl q1 ?_) | (at_builtin; refine appL (v := v1) (xv := .slice (some ⟨W1.heap.size, 0, none⟩) 1 1) rfl (.tmp 46) (.tmp 52) rfl rfl rfl q2 ?_) | (at_builtin; refine appL (v := v2) (xv := .slice (some ⟨g0, t, none⟩) (O.length - t) (cx - t)) rfl (.tmp 54) (.tmp 57) rfl rfl rfl q3 ?_))
                  go_roundw
                  case rel => exact ⟨j + 1, _, by omega, by go_num, rfl, by rw [HS.out]; exact N3.out, GM3.out, B3.out⟩
                  case measure => simp [intOf]; omega
                case pos =>
                  subst hcc
                  have d0 : decide ((cx : Int) < (O.length : Int)) = false := decide_eq_false (by omega)
                  go_wp2_with fail
                  go_quiet (fail)
                  have b7 : Bel wo (wr.drewN nq) := hbi.tr (below_drewN (Below.refl _ _) _)
                  generalize wr.drewN nq = W5 at b7 ⊢
                  clear e5 c5
                  have e5 := (bel_cell b7 hgl _).trans e1
                  have n5 : W5.ownsRow w.heap.size 9 1 (.slice none 0 0) 0 (csT []) := World.ownsRow_nil _ _ _ _
                  have hz5 := (hb.tr b7).size
                  have row5 := HROW.out.bel b7
                  have hg05 : g0 < W5.heap.size := Nat.lt_of_lt_of_le (own_lt OW.out) b7.size
                  obtain ⟨v1, W1, q1, n1, gr1, o1⟩ := appTs (m := cx) (c := cx) n5 ⟨g0, 0, none⟩ (O.take cx) (by rw [List.length_take]; omega) (by have := rowT_cells row5 0 cx (by omega); simpa using this) (by omega) hz5
                  have f1 : v1.ownBlock = none ∨ v1.ownBlock = some W5.heap.size := o1
                  have b1 : Bel W5 W1 := (Below.refl _ _).grown gr1 (Nat.le_refl _) (by intro k hk; simp [Value.ownBlock] at hk)
                  have b1a : Bel W1 (W1.alloc (.cells #[.string (M.bs ek)] 9)) := Bel.al (Below.refl _ _) _
                  obtain ⟨v2, W2, q2, n2, gr2, o2⟩ := appTs (m := 1) (c := 1) (own_kept n1 b1a) ⟨W1.heap.size, 0, none⟩ [ek] rfl (one_newT W1 _) (by omega) (by have := b1.size; have := b1a.size; omega)
                  have b2 : Bel W5 W2 := Below.grown (b1.tr b1a) gr2 (by have := b1.size; have := b1a.size; omega) (by
                    intro k hk
                    rcases f1 with f | f
                    · rw [f] at hk; cases hk
                    · rw [f] at hk; injection hk with hk; omega)
                  have f2 : ∀ k, v2.ownBlock = some k → W5.heap.size ≤ k := by
                    intro k hk
                    rcases o2 with o | o
                    · rw [o] at hk
                      rcases f1 with f | f
                      · rw [f] at hk; cases hk
                      · rw [f] at hk; injection hk with hk; omega
                    · rw [o] at hk; injection hk with hk
                      have := b1.size; have := b1a.size; omega
                  have row2 := row5.bel b2
                  obtain ⟨v3, W3, q3, n3, gr3, _⟩ := appTs (m := 0) (c := 0) n2 ⟨g0, 0, none⟩ (O.drop cx) (by rw [List.length_drop]; omega) (by rw [List.drop_eq_nil_of_le (by omega)]; intro j u hj; simp [csT] at hj) (by omega) (by have := b2.size; omega)
                  have b3 : Bel W5 W3 := b2.grown gr3 b2.size f2
                  have N3 : Hid (W3.ownsRow w.heap.size 9 1 v3 (M.ins1 O ek).length (csT (M.ins1 O ek))) := by
                    show World.ownsRow _ _ _ _ _ _ _
                    rw [M.ins1_length, HI.out, csT_app, csT_app]
                    have e : 0 + cx + 1 + 0 = O.length + 1 := by omega
                    rw [e] at n3
                    simpa [csT] using n3
                  have c5 := cell_of (i := 0) (show C2 W5 _ _ _ from GM.out.bel b7) rfl
                  have c6 := (bel_cell b1 (show w.heap.size < W5.heap.size from (show C2 W5 _ _ _ from GM.out.bel b7).lt) 0).trans c5
                  have e6 := (bel_cell b1 (Nat.lt_of_lt_of_le hgl b7.size) _).trans e5
                  have GM3 := hid (show C2 W3 _ _ _ from ((GM.out.bel b7).bel b3))
                  have B3 := hid ((hb.tr b7).tr b3)
                  have hcx : O.length ≤ cx := own_cap OW.out
                  clear n1 n2 n3 n5 gr1 gr2 gr3 o1 o2 f1 f2 row2 row5 b1 b1a b2 b3
                  go_wp2_with (first | (at_builtin; refine appL (v := .slice none 0 0) (xv := .slice (some ⟨g0, 0, none⟩) cx cx) rfl (.tmp 41) (.tmp 44) rfl rfl rfl q1 ?_) | (at_builtin; refine appL (v := v1) (xv := .slice (some ⟨W1.heap.size, 0, none⟩) 1 1) rfl (.tmp 46) (.tmp 52) rfl rfl rfl q2 ?_) | (at_builtin; refine appL (v := v2) (xv := .slice (some ⟨g0, 0, none⟩) 0 0) rfl (.tmp 54) (.tmp 57) rfl rfl rfl q3 ?_))
                  go_roundw
                  case rel => exact ⟨j + 1, _, by omega, by go_num, rfl, by rw [HS.out]; exact N3.out, GM3.out, B3.out⟩
                  case measure => simp [intOf]; omega
    · have HF : Hid (M.rfrom ((R.take j).map (·.1)) k = M.rfrom (R.map (·.1)) k) := by show _ = _; rw [List.take_of_length_le (by omega)]
      rw [HF.out] at hown
      have OW := hid hown
      clear hown hs HF
      go_wp2_with fail
      go_ret
      exact ⟨_, rfl, OW.out, hb⟩
end Go.Proofs.Ytoelaemneoabfab
