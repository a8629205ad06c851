/-
  The contract of page.pageOf, walked.
-/
import Derived.Test.YtaepbmcmggnmpaaDoorTA
namespace Go.Proofs.YtaepbmcmggnmpaaDoor
open Go.RowKit
namespace M
/-- An entry read: its mark, the entry, what is left. -/
def ent (r : Rd) : Nat × En × Rd :=
  let m := rnum r 1
  let k := rnum m.2 1
  let v := rnum k.2 1
  let a := rtext v.2 k.1
  let b := rtext a.2 v.1
  (m.1, (a.1, b.1, decide (m.1 = 1)), b.2)
def ents : Nat → Rd → List En → Option (List En × Rd)
  | 0, r, acc => some (acc, r)
  | n + 1, r, acc => if (ent r).2.2.2 = true ∨ 1 < (ent r).1 then none else ents n (ent r).2.2 (acc ++ [(ent r).2.1])
def headN (b : List UInt8) : (Nat × Nat × Nat × List UInt8) × Nat × Rd :=
  let k := rnum (b, false) 1
  let l := rnum k.2 1
  let r := rnum l.2 2
  let h := rnum r.2 1
  let c := rnum h.2 2
  let t := rtext c.2 h.1
  ((k.1, l.1, r.1, t.1), c.1, t.2)
def pgN (b : List UInt8) (es : List En) : Pg := { lsn := 0, kind := (headN b).1.1, level := (headN b).1.2.1, right := (headN b).1.2.2.1, high := (headN b).1.2.2.2, es := es }
def pageN (b : List UInt8) : Pg × Bool :=
  match ents (headN b).2.1 (headN b).2.2 [] with
  | none => (zeroP, false)
  | some (es, r) => (pgN b es, !r.2 && noughts r.1 && inB (pgN b es))
end M
theorem stepS {ops : Array Oper} {o : Oper} {a : Act} {K : Act → World → Prop} {Q : Exit → Act → World → Prop} {E : Prop} {W : World} (hw : Region.wanted o (yielded ops a.tmps) = true) (t : Tmp)
    (ho : o.op = .call { callee := .value (.func 77), args := #[.tmp t], argTypes := #[130] }) (x : Value) (hx : a.eval (.tmp t) = x) {R : Ending → World → Prop}
    (H : Calls Tryd.prog 77 #[x] W R) (h : ∀ e w', R e w' → ∃ v, e = .returned v ∧ K (a.put o.dst v) w') :
    if Region.wanted o (yielded ops a.tmps) = true then Oper.wp Tryd.prog o a W K Q else E := by
  rw [if_pos hw]
  have hx' : a.tmps[t]?.getD undef = x := by rw [← hx]; simp [Act.eval]
  clear hx hw
  obtain ⟨dst, op, type, pos, after, guard⟩ := o
  simp only at ho h ⊢
  subst ho
  go_simp
  refine H.mono ?_
  intro e w' hR
  obtain ⟨v, rfl, hv⟩ := h e w' hR
  exact hv
theorem stepR {ops : Array Oper} {o : Oper} {a : Act} {K : Act → World → Prop} {Q : Exit → Act → World → Prop} {E : Prop} {W : World} (hw : Region.wanted o (yielded ops a.tmps) = true) (t : Tmp)
    (ho : o.op = .call { callee := .value (.func 78), args := #[.tmp t], argTypes := #[130] }) (x : Value) (hx : a.eval (.tmp t) = x) {R : Ending → World → Prop}
    (H : Calls Tryd.prog 78 #[x] W R) (h : ∀ e w', R e w' → ∃ v, e = .returned v ∧ K (a.put o.dst v) w') :
    if Region.wanted o (yielded ops a.tmps) = true then Oper.wp Tryd.prog o a W K Q else E := by
  rw [if_pos hw]
  have hx' : a.tmps[t]?.getD undef = x := by rw [← hx]; simp [Act.eval]
  clear hx hw
  obtain ⟨dst, op, type, pos, after, guard⟩ := o
  simp only at ho h ⊢
  subst ho
  go_simp
  refine H.mono ?_
  intro e w' hR
  obtain ⟨v, rfl, hv⟩ := h e w' hR
  exact hv

/-- 'append(l, e)' of one entry, l the call's own. -/
theorem app71 {ops : Array Oper} {rest : List Oper} {o : Oper} {a : Act} {Q : Exit → Act → World → Prop} {W : World} (hgd : o.guard = none) (s x : Operand)
    (ho : o.op = .call { callee := .builtin .append, args := #[s, x], argTypes := #[27, 27] }) (base : Nat) (v : Value) (L : List M.En) (hs : a.eval s = v) (hown : OwnE 71 W base v L) (e : M.En)
    (g : Nat) (hx : a.eval x = .slice (some ⟨g, 0, none⟩) 1 1) (hc : W.heap[g]? = some (.cells #[.string (M.bs e.1), .string (M.bs e.2.1), .bool e.2.2] 71 (0, 0))) (hlen : L.length ≤ 100000) (hbase : base ≤ W.heap.size)
    (h : ∀ v' w', OwnE 71 w' base v' (L ++ [e]) → W.grownBy w' v.ownBlock → wpList Tryd.prog ops Q rest (a.put o.dst v') w') :
    wpList Tryd.prog ops Q (o :: rest) a W := by
  obtain ⟨i0, hi, hz0, hz1, hz2⟩ := info_parts info71
  refine wpList_append_own _ hgd s x 27 ho base 71 i0 _ 3 40 Tryd.underlying27 hi hz0 hz1 hz2 rfl (by decide) v L.length _ hs hown ⟨g, 0, none⟩ 1 1 (cells3 e) hx rfl (news_of hc) ?_ (by unfold maxLen; omega) (by omega) hbase ?_
  · intro u hu; simp [cells3] at hu; rcases hu with rfl | rfl | rfl <;> rfl
  · intro v' w' h1 h2 _
    exact h v' w' (by unfold OwnE; simpa using h1) h2
theorem rtext_len2 (r : M.Rd) (n : Nat) : (M.rtext r n).1.length ≤ r.1.length := by
  unfold M.rtext
  split
  · simp
  · simp only [List.length_take]; omega
theorem wp_normal {P : Program} {s : Code} {K : Act → World → Prop} {Q : Exit → Act → World → Prop} {a : Act} {w : World} (h : s.wp P (fun e a w => e = .normal ∧ K a w) a w) : s.wp P (Exit.then K Q) a w :=
  wp_mono h (by rintro e a w ⟨rfl, h⟩; exact h)
theorem of_eq (s : List UInt8) (w : World) : Calls Tryd.prog 74 #[.string (M.bs s)] w fun e w' => e = .returned (.pointer (some ⟨w.heap.size, 0, none⟩)) ∧ w' = w.alloc (.cells #[.string (M.bs s), .bool false] 152) := by
  go_enter Tryd.func74, Tryd.ntmps74
  go_wp2
  go_ret
  exact ⟨rfl, rfl⟩
theorem RdAt.bt {w : World} {g b j : Nat} {u : Value} {r : M.Rd} (h : RdAt w g r) (hne : g ≠ b) : RdAt (w.setCell ⟨b, j, none⟩ u) g r := (Below.heap_setCell _ _ _ _ (by simpa using hne)).trans h
theorem ent_len (r : M.Rd) (h : (M.ent r).2.2.2 = false) : (M.ent r).2.2.1.length + 3 ≤ r.1.length ∧ (M.ent r).2.1.1.length ≤ r.1.length ∧ (M.ent r).2.1.2.1.length ≤ r.1.length := by
  have h5 := rtext_ok _ _ h
  have h4 := rtext_ok _ _ h5.1
  have h3 := rnum_ok _ _ h4.1
  have h2 := rnum_ok _ _ h3.1
  have h1 := rnum_ok _ _ h2.1
  have t4 := (rtext_len (M.rnum (M.rnum (M.rnum r 1).2 1).2 1).2 (M.rnum (M.rnum r 1).2 1).1).1
  have t5 := (rtext_len (M.rtext (M.rnum (M.rnum (M.rnum r 1).2 1).2 1).2 (M.rnum (M.rnum r 1).2 1).1).2 (M.rnum (M.rnum (M.rnum r 1).2 1).2 1).1).1
  refine ⟨?_, ?_, ?_⟩
  · show (M.rtext _ _).2.1.length + 3 ≤ _
    omega
  · show (M.rtext _ _).1.length ≤ _
    omega
  · show (M.rtext _ _).1.length ≤ _
    omega
set_option maxRecDepth 100000 in
set_option maxHeartbeats 3000000 in
theorem pageOf_any (l : List UInt8) (w : World) (hl : l.length ≤ 600) :
    Calls Tryd.prog 46 #[.string (M.bs l)] w fun e w' => ∃ v, e = .returned (.tuple #[pv (M.pageN l).1 v, .bool (M.pageN l).2]) ∧ OwnE 71 w' w.heap.size v (M.pageN l).1.es ∧ Bel w w' := by
  obtain ⟨k, rk, hk⟩ : ∃ k rk, M.rnum (l, false) 1 = (k, rk) := ⟨_, _, rfl⟩
  obtain ⟨lv, rl, hlv⟩ : ∃ lv rl, M.rnum rk 1 = (lv, rl) := ⟨_, _, rfl⟩
  obtain ⟨rt, rr, hrt⟩ : ∃ rt rr, M.rnum rl 2 = (rt, rr) := ⟨_, _, rfl⟩
  obtain ⟨h, rh, hh⟩ : ∃ h rh, M.rnum rr 1 = (h, rh) := ⟨_, _, rfl⟩
  obtain ⟨c, rc, hc⟩ : ∃ c rc, M.rnum rh 2 = (c, rc) := ⟨_, _, rfl⟩
  obtain ⟨ht, rt2, hht⟩ : ∃ ht rt2, M.rtext rc h = (ht, rt2) := ⟨_, _, rfl⟩
  have hP : M.headN l = ((k, lv, rt, ht), c, rt2) := by
    unfold M.headN
    simp only [hk, hlv, hrt, hh, hc, hht]
  have hN : Hid (M.ents c rt2 [] = none → M.pageN l = (M.zeroP, false)) := fun e => by unfold M.pageN; rw [hP]; simp only; rw [e]
  have hY : Hid (∀ es r, M.ents c rt2 [] = some (es, r) → M.pageN l = ({ lsn := 0, kind := k, level := lv, right := rt, high := ht, es := es }, !r.2 && M.noughts r.1 && M.inB { lsn := 0, kind := k, level := lv, right := rt, high := ht, es := es })) := fun es r e => by
    unfold M.pageN; rw [hP]; simp only; rw [e]; unfold M.pgN; rw [hP]
  have n1 := rnum_lt (l, false) 1 (by omega)
  have n2 := rnum_lt rk 1 (by omega)
  have n3 := rnum_lt rl 2 (by omega)
  have n4 := rnum_lt rr 1 (by omega)
  have n5 := rnum_lt rh 2 (by omega)
  have n6 := rtext_len rc h
  have n6' := rtext_len2 rc h
  rw [hk] at n1
  rw [hlv] at n2
  rw [hrt] at n3
  rw [hh] at n4
  rw [hc] at n5
  rw [hht] at n6 n6'
  simp only at n1 n2 n3 n4 n5 n6 n6'
  have Q1 := fun g W h => rnum_any g (l, false) 1 W h (by omega) (by simp only; omega)
  have Q2 := fun g W h => rnum_any g rk 1 W h (by omega) (by omega)
  have Q3 := fun g W h => rnum_any g rl 2 W h (by omega) (by omega)
  have Q4 := fun g W h => rnum_any g rr 1 W h (by omega) (by omega)
  have Q5 := fun g W h => rnum_any g rh 2 W h (by omega) (by omega)
  have Q6 := fun g W x => rtext_any g rc h W x (by omega) (by omega)
  rw [hk] at Q1
  rw [hlv] at Q2
  rw [hrt] at Q3
  rw [hh] at Q4
  rw [hc] at Q5
  rw [hht] at Q6
  simp only at Q1 Q2 Q3 Q4 Q5 Q6
  clear hk hlv hrt hh hc hht hP
  have hne1 : w.heap.size ≠ w.heap.size + 1 := by omega
  have hne2 : w.heap.size + 1 + 1 ≠ w.heap.size + 1 := by omega
  have Q0 := fun W => of_eq l W
  go_enter Tryd.func46, Tryd.ntmps46
  go_wp2_with fail
  refine (Q0 _).mono ?_
  rintro e w0 ⟨rfl, rfl⟩
  go_wp2_with fail
  obtain ⟨W0, hW0⟩ : ∃ W0, W0 = (((w.alloc (.cells #[.int .i64 0, .int .i64 0, .int .i64 0, .int .i64 0, .string ⟨#[]⟩, .slice none 0 0] 29)).alloc (.cells #[.string (M.bs l), .bool false] 152)).alloc (.cells #[.int .i64 0, .int .i64 0, .int .i64 0, .int .i64 0, .string ⟨#[]⟩, .slice none 0 0] 29)) := ⟨_, rfl⟩
  rw [← hW0]
  have bW : Bel w W0 := by rw [hW0]; exact Bel.al (Bel.al (Bel.al (Below.refl _ _) _) _) _
  have r0 : B6 W0 w.heap.size (.int .i64 0) (.int .i64 0) (.int .i64 0) (.int .i64 0) (.string ⟨#[]⟩) (.slice none 0 0) := by
    rw [hW0]
    exact B6.bel (B6.bel (heap_alloc_new w _) (Bel.al (Below.refl _ _) _)) (Bel.al (Below.refl _ _) _)
  have g0 : RdAt W0 (w.heap.size + 1) (l, false) := by
    rw [hW0]
    have := heap_alloc_new (w.alloc (.cells #[.int .i64 0, .int .i64 0, .int .i64 0, .int .i64 0, .string ⟨#[]⟩, .slice none 0 0] 29)) (.cells #[.string (M.bs l), .bool false] 152)
    rw [World.size_alloc] at this
    exact RdAt.bel this (Bel.al (Below.refl _ _) _)
  have p0 : B6 W0 (w.heap.size + 1 + 1) (.int .i64 0) (.int .i64 0) (.int .i64 0) (.int .i64 0) (.string ⟨#[]⟩) (.slice none 0 0) := by
    rw [hW0]
    have := heap_alloc_new ((w.alloc (.cells #[.int .i64 0, .int .i64 0, .int .i64 0, .int .i64 0, .string ⟨#[]⟩, .slice none 0 0] 29)).alloc (.cells #[.string (M.bs l), .bool false] 152)) (.cells #[.int .i64 0, .int .i64 0, .int .i64 0, .int .i64 0, .string ⟨#[]⟩, .slice none 0 0] 29)
    rw [World.size_alloc, World.size_alloc] at this
    exact this
  clear hW0 Q0
  refine (Q1 _ _ g0).mono ?_
  rintro e w1 ⟨rfl, g1, k1⟩
  go_wp2_with fail
  refine (Q2 _ _ g1).mono ?_
  rintro e w2 ⟨rfl, g2, k2⟩
  go_wp2_with fail
  refine (Q3 _ _ g2).mono ?_
  rintro e w3 ⟨rfl, g3, k3⟩
  have kk := (k1.tr k2).tr k3
  have r3 := r0.kp kk hne1
  have p3 := p0.kp kk hne2
  have b3 : Bel w w3 := Kp.bel bW (by omega) kk
  have f3 := p3.froz
  obtain ⟨c0, c1, c2, c3, c4, c5⟩ := p3.cells
  have F1 := f3 1
  have F2 := f3 2
  have F3 := f3 3
  clear f3 k1 k2 k3 kk g0 g1 g2 r0 p0 bW
  go_wp2_with fail
  have p4 := p3.three (.int .i64 (k : Int)) (.int .i64 (lv : Int)) (.int .i64 (rt : Int))
  have g4 : RdAt (((w3.setCell ⟨w.heap.size + 1 + 1, 1, none⟩ (.int .i64 (k : Int))).setCell ⟨w.heap.size + 1 + 1, 2, none⟩ (.int .i64 (lv : Int))).setCell ⟨w.heap.size + 1 + 1, 3, none⟩ (.int .i64 (rt : Int))) (w.heap.size + 1) rr := ((g3.bt (by omega)).bt (by omega)).bt (by omega)
  have r4 : B6 (((w3.setCell ⟨w.heap.size + 1 + 1, 1, none⟩ (.int .i64 (k : Int))).setCell ⟨w.heap.size + 1 + 1, 2, none⟩ (.int .i64 (lv : Int))).setCell ⟨w.heap.size + 1 + 1, 3, none⟩ (.int .i64 (rt : Int))) w.heap.size (.int .i64 0) (.int .i64 0) (.int .i64 0) (.int .i64 0) (.string ⟨#[]⟩) (.slice none 0 0) := ((r3.other (by omega)).other (by omega)).other (by omega)
  have b4 : Bel w (((w3.setCell ⟨w.heap.size + 1 + 1, 1, none⟩ (.int .i64 (k : Int))).setCell ⟨w.heap.size + 1 + 1, 2, none⟩ (.int .i64 (lv : Int))).setCell ⟨w.heap.size + 1 + 1, 3, none⟩ (.int .i64 (rt : Int))) := Below.setCell (Below.setCell (Below.setCell b3 (by show _ ≤ w.heap.size + 1 + 1; omega) _) (by show _ ≤ w.heap.size + 1 + 1; omega) _) (by show _ ≤ w.heap.size + 1 + 1; omega) _
  clear c0 c1 c2 c3 c4 c5 F1 F2 F3 p3 g3 r3 b3
  generalize (((w3.setCell ⟨w.heap.size + 1 + 1, 1, none⟩ (.int .i64 (k : Int))).setCell ⟨w.heap.size + 1 + 1, 2, none⟩ (.int .i64 (lv : Int))).setCell ⟨w.heap.size + 1 + 1, 3, none⟩ (.int .i64 (rt : Int))) = W4 at *
  refine (Q4 _ _ g4).mono ?_
  rintro e w5 ⟨rfl, g5, k5⟩
  go_wp2_with fail
  refine (Q5 _ _ g5).mono ?_
  rintro e w6 ⟨rfl, g6, k6⟩
  go_wp2_with fail
  refine (Q6 _ _ g6).mono ?_
  rintro e w7 ⟨rfl, g7, k7⟩
  have kk := (k5.tr k6).tr k7
  have r7 := r4.kp kk hne1
  have p7 := p4.kp kk hne2
  have b7 : Bel w w7 := Kp.bel b4 (by omega) kk
  have F4 := p7.froz 4
  obtain ⟨c0, c1, c2, c3, c4, c5⟩ := p7.cells
  clear k5 k6 k7 kk g4 g5 g6 r4 p4 b4
  have p8 := hid (p7.four (.string (M.bs ht)))
  have g8 := hid (RdAt.bt (j := 4) (u := .string (M.bs ht)) g7 (show w.heap.size + 1 ≠ w.heap.size + 1 + 1 by omega))
  have r8 := hid (B6.other (j := 4) (u := .string (M.bs ht)) r7 (show w.heap.size ≠ w.heap.size + 1 + 1 by omega))
  have b8 : Hid (Bel w (w7.setCell ⟨w.heap.size + 1 + 1, 4, none⟩ (.string (M.bs ht)))) := Below.setCell b7 (by show _ ≤ w.heap.size + 1 + 1; omega) _
  clear p7 g7 r7 b7 Q1 Q2 Q3 Q4 Q5 Q6
  go_wp2_with fail
  clear c0 c1 c2 c3 c4 c5 F4
  generalize w7.setCell ⟨w.heap.size + 1 + 1, 4, none⟩ (.string (M.bs ht)) = W8 at *
  have hrl : rt2.1.length ≤ 600 := by omega
  have hhl : ht.length ≤ 1000 := by have := n6'; omega
  go_loopw [32] (fun i wr => ∃ (j : Nat) (acc : List M.En) (r : M.Rd) (v : Value), j ≤ c ∧ i = .int .i64 j ∧ M.ents (c - j) r acc = M.ents c rt2 [] ∧ RdAt wr (w.heap.size + 1) r ∧ 3 * acc.length + r.1.length ≤ 600 ∧
      (∀ e ∈ acc, e.1.length ≤ 1000 ∧ e.2.1.length ≤ 1000) ∧ OwnE 71 wr w.heap.size v acc ∧ B6 wr (w.heap.size + 1 + 1) (.int .i64 0) (.int .i64 (k : Int)) (.int .i64 (lv : Int)) (.int .i64 (rt : Int)) (.string (M.bs ht)) v ∧
      B6 wr w.heap.size (.int .i64 0) (.int .i64 0) (.int .i64 0) (.int .i64 0) (.string ⟨#[]⟩) (.slice none 0 0) ∧ Bel w wr) (fun i _ => c - (intOf i).toNat)
  case atStart => exact ⟨0, [], rt2, _, Nat.zero_le _, rfl, rfl, g8.out, by simpa using hrl, by simp, OwnE.nil _ _ _, p8.out, r8.out, b8.out⟩
  case round =>
    clear p8 g8 r8 b8 hrl
    obtain ⟨j, acc, r, v, hj, rfl, hrs, hg, hsz, hsm, how, hp, hr0, hb⟩ := hrel
    by_cases hlt : j < c
    · rw [show c - j = (c - (j + 1)) + 1 by omega] at hrs
      simp only [M.ents] at hrs
      have hE1 := ent_len r
      obtain ⟨m, rm, hm⟩ : ∃ m rm, M.rnum r 1 = (m, rm) := ⟨_, _, rfl⟩
      obtain ⟨ky, rk2, hky⟩ : ∃ ky rk2, M.rnum rm 1 = (ky, rk2) := ⟨_, _, rfl⟩
      obtain ⟨va, rv2, hva⟩ : ∃ va rv2, M.rnum rk2 1 = (va, rv2) := ⟨_, _, rfl⟩
      obtain ⟨tk, ra, htk⟩ : ∃ tk ra, M.rtext rv2 ky = (tk, ra) := ⟨_, _, rfl⟩
      obtain ⟨tv, rb, htv⟩ : ∃ tv rb, M.rtext ra va = (tv, rb) := ⟨_, _, rfl⟩
      have hE : M.ent r = (m, (tk, tv, decide (m = 1)), rb) := by unfold M.ent; simp only [hm, hky, hva, htk, htv]
      rw [hE] at hrs hE1
      simp only at hrs hE1
      have n1 := rnum_lt r 1 (by omega)
      have n2 := rnum_lt rm 1 (by omega)
      have n3 := rnum_lt rk2 1 (by omega)
      have n4 := rtext_len rv2 ky
      have n5 := rtext_len ra va
      rw [hm] at n1
      rw [hky] at n2
      rw [hva] at n3
      rw [htk] at n4
      rw [htv] at n5
      simp only at n1 n2 n3 n4 n5
      have Q1 := fun g W h => rnum_any g r 1 W h (by omega) (by omega)
      have Q2 := fun g W h => rnum_any g rm 1 W h (by omega) (by omega)
      have Q3 := fun g W h => rnum_any g rk2 1 W h (by omega) (by omega)
      have Q4 := fun g W x => rtext_any g rv2 ky W x (by omega) (by omega)
      have Q5 := fun g W x => rtext_any g ra va W x (by omega) (by omega)
      rw [hm] at Q1
      rw [hky] at Q2
      rw [hva] at Q3
      rw [htk] at Q4
      rw [htv] at Q5
      simp only at Q1 Q2 Q3 Q4 Q5
      clear hm hky hva htk htv hE
      have HRs := hid hrs
      have HSM := hid hsm
      clear hrs hsm
      obtain ⟨ao, cp, hvf, _⟩ := id how.vals
      subst hvf
      go_wp2_with fail
      refine (Q1 _ _ hg).mono ?_
      rintro e w1 ⟨rfl, g1, k1⟩
      go_wp2_with fail
      refine (Q2 _ _ g1).mono ?_
      rintro e w2 ⟨rfl, g2, k2⟩
      go_wp2_with fail
      refine (Q3 _ _ g2).mono ?_
      rintro e w3 ⟨rfl, g3, k3⟩
      go_wp2_with fail
      refine (Q4 _ _ g3).mono ?_
      rintro e w4 ⟨rfl, g4, k4⟩
      go_wp2_with fail
      refine (Q5 _ _ g4).mono ?_
      rintro e w5 ⟨rfl, g5, k5⟩
      have kk := (((k1.tr k2).tr k3).tr k4).tr k5
      have hp5 := hp.kp kk hne2
      have hr5 := hr0.kp kk hne1
      have ho5 := how.kp kk (how.ne hg (by decide))
      have hb5 : Bel w w5 := Kp.bel hb (by omega) kk
      clear g1 g2 g3 g4 k1 k2 k3 k4 k5 kk Q1 Q2 Q3 Q4 Q5 hp hr0 how hb hg
      obtain ⟨mb, hmb⟩ : ∃ mb, decide (m = 1) = mb := ⟨_, rfl⟩
      have hmq : ((m : Int) == 1) = mb := by rw [← hmb]; by_cases h : m = 1 <;> simp [h] <;> omega
      have hmq2 : decide ((m : Int) = 1) = mb := by rw [← hmq]; rfl
      rw [hmb] at HRs
      clear hmb
      have bA : Bel w5 (w5.alloc (.cells #[.string (M.bs tk), .string (M.bs tv), .bool mb] 71)) := Bel.al (Below.refl _ _) _
      have ee : B3 (w5.alloc (.cells #[.string (M.bs tk), .string (M.bs tv), .bool mb] 71)) w5.heap.size 71 (.string (M.bs tk)) (.string (M.bs tv)) (.bool mb) := heap_alloc_new w5 _
      have EE := hid ee
      have QS := fun W h => short_any (w.heap.size + 1) rb W h
      have BA := hid bA
      have g6 := g5.bel bA
      have HX := hid (And.intro hp5 (And.intro hr5 (And.intro ho5 hb5)))
      clear hp5 hr5 ho5 hb5 ee bA
      by_cases hsh : rb.2 = true
      · rw [hsh] at QS
        have HF : Hid (M.pageN l = (M.zeroP, false)) := hN.out (by rw [← HRs.out, if_pos (.inl hsh)])
        go_wp2_with fail
        refine (QS _ g6).mono ?_
        rintro e w6 ⟨rfl, rfl⟩
        obtain ⟨x1, x2, x3, x4⟩ := HX.out
        have r6 := x2.bel BA.out
        have b6 := x4.tr BA.out
        have F0 := r6.froz 0
        have F1 := r6.froz 1
        have F2 := r6.froz 2
        have F3 := r6.froz 3
        have F4 := r6.froz 4
        have F5 := r6.froz 5
        obtain ⟨d0, d1, d2, d3, d4, d5⟩ := r6.cells
        have R6 := hid r6
        have B6' := hid b6
        clear HX BA EE g5 g6 HRs HSM QS x1 x2 x3 x4 r6 b6
        generalize w5.alloc (.cells #[.string (M.bs tk), .string (M.bs tv), .bool mb] 71) = W6 at *
        go_wp2_with fail
        have q := R6.out.six (.int .i64 0) (.int .i64 0) (.int .i64 0) (.int .i64 0) (.string ⟨#[]⟩) (.slice none 0 0)
        have b7 := B6'.out.six (Nat.le_refl _) (.int .i64 0) (.int .i64 0) (.int .i64 0) (.int .i64 0) (.string ⟨#[]⟩) (.slice none 0 0)
        rw [six] at q b7
        generalize World.setCell _ ⟨w.heap.size, 5, none⟩ (.slice none 0 0) = W9 at *
        obtain ⟨t0, t1, t2, t3, t4, t5⟩ := q.cells
        refine bodyPost_ret (v := .tuple #[pv M.zeroP (.slice none 0 0), .bool false]) (by simp [results, Tryd.results46, go_sem, pv, M.zeroP, t0, t1, t2, t3, t4, t5]; rfl) rfl ?_
        rw [HF.out]
        exact ⟨_, rfl, OwnE.nil _ _ _, b7⟩
      · have hsf : rb.2 = false := by simpa using hsh
        rw [hsf] at QS
        by_cases hm1 : 1 < m
        · have HF : Hid (M.pageN l = (M.zeroP, false)) := hN.out (by rw [← HRs.out, if_pos (.inr hm1)])
          have qm : ((1 : Int) < (m : Int)) := by omega
          go_wp2_with fail
          refine (QS _ g6).mono ?_
          rintro e w6 ⟨rfl, rfl⟩
          obtain ⟨x1, x2, x3, x4⟩ := HX.out
          have r6 := x2.bel BA.out
          have b6 := x4.tr BA.out
          have F0 := r6.froz 0
          have F1 := r6.froz 1
          have F2 := r6.froz 2
          have F3 := r6.froz 3
          have F4 := r6.froz 4
          have F5 := r6.froz 5
          obtain ⟨d0, d1, d2, d3, d4, d5⟩ := r6.cells
          have R6 := hid r6
          have B6' := hid b6
          clear HX BA EE g5 g6 HRs HSM QS x1 x2 x3 x4 r6 b6
          generalize w5.alloc (.cells #[.string (M.bs tk), .string (M.bs tv), .bool mb] 71) = W6 at *
          go_wp2_with fail
          have q := R6.out.six (.int .i64 0) (.int .i64 0) (.int .i64 0) (.int .i64 0) (.string ⟨#[]⟩) (.slice none 0 0)
          have b7 := B6'.out.six (Nat.le_refl _) (.int .i64 0) (.int .i64 0) (.int .i64 0) (.int .i64 0) (.string ⟨#[]⟩) (.slice none 0 0)
          rw [six] at q b7
          generalize World.setCell _ ⟨w.heap.size, 5, none⟩ (.slice none 0 0) = W9 at *
          obtain ⟨t0, t1, t2, t3, t4, t5⟩ := q.cells
          refine bodyPost_ret (v := .tuple #[pv M.zeroP (.slice none 0 0), .bool false]) (by simp [results, Tryd.results46, go_sem, pv, M.zeroP, t0, t1, t2, t3, t4, t5]; rfl) rfl ?_
          rw [HF.out]
          exact ⟨_, rfl, OwnE.nil _ _ _, b7⟩
        · have HG : Hid (M.ents (c - (j + 1)) rb (acc ++ [(tk, tv, mb)]) = M.ents c rt2 []) := by show _ = _; rw [← HRs.out, if_neg (by rintro (h | h); exact hsh h; exact hm1 h)]
          obtain ⟨e1, e2, e3⟩ := hE1 hsf
          have HS : Hid (∀ e ∈ acc ++ [(tk, tv, mb)], e.1.length ≤ 1000 ∧ e.2.1.length ≤ 1000) := fun e he => by
            rcases List.mem_append.1 he with he | he
            · exact HSM.out e he
            · rw [List.mem_singleton.1 he]; exact ⟨by simp only; omega, by simp only; omega⟩
          have qm : ¬ ((1 : Int) < (m : Int)) := by omega
          go_wp2_with fail
          refine (QS _ g6).mono ?_
          rintro e w6 ⟨rfl, rfl⟩
          obtain ⟨x1, x2, x3, x4⟩ := HX.out
          have p6 := x1.bel BA.out
          have r6 := x2.bel BA.out
          have o6 := x3.bel BA.out
          have b6 := x4.tr BA.out
          have y5 := p6.cells.2.2.2.2.2
          obtain ⟨⟨z1, z2, z3⟩, _⟩ := EE.out.cells
          have hal : acc.length ≤ 100000 := by omega
          have hbz := b6.size
          have n1' := o6.ne p6 (by decide)
          have n2' := o6.ne g6 (by decide)
          have n3' := o6.ne r6 (by decide)
          have hlow : ∀ i, (Value.slice ao acc.length cp).ownBlock = some i → w.heap.size ≤ i := fun i hi => (World.ownsRow.lt o6 i hi).1
          clear HX BA EE g5 HRs HSM QS x1 x2 x3 x4
          generalize w5.alloc (.cells #[.string (M.bs tk), .string (M.bs tv), .bool mb] 71) = W6 at *
          go_wp2_with (first
            | (at_builtin; refine app71 rfl _ _ rfl w.heap.size _ acc rfl (o6.al _) (tk, tv, mb) _ rfl (by exact heap_alloc_new W6 _) hal (by simp; omega) ?_; intro v1 w7 o7 g7; obtain ⟨a7, c7, hv7, _⟩ := id o7.vals; subst hv7; have p7 := (p6.bel (Bel.al (Below.refl _ _) _)).grown g7 n1'; have f75 := p7.froz 5; have y75 := p7.cells.2.2.2.2.2))
          have U := hid (show (acc ++ [(tk, tv, mb)]).length = acc.length + 1 by simp)
          have p8 := p7.five (.slice a7 (acc ++ [(tk, tv, mb)]).length c7)
          have o8 := OwnE.set (j := 5) (u := .slice a7 (acc ++ [(tk, tv, mb)]).length c7) o7 (o7.ne p7 (by decide))
          have g8 := RdAt.bt (j := 5) (u := .slice a7 (acc ++ [(tk, tv, mb)]).length c7) ((g6.bel (Bel.al (Below.refl _ _) _)).grown g7 n2') (show w.heap.size + 1 ≠ w.heap.size + 1 + 1 by omega)
          have r8 := B6.other (j := 5) (u := .slice a7 (acc ++ [(tk, tv, mb)]).length c7) ((r6.bel (Bel.al (Below.refl _ _) _)).grown g7 n3') (show w.heap.size ≠ w.heap.size + 1 + 1 by omega)
          have b8 : Bel w (w7.setCell ⟨w.heap.size + 1 + 1, 5, none⟩ (.slice a7 (acc ++ [(tk, tv, mb)]).length c7)) := Below.setCell (Below.grown (b6.al _) g7 (by simp; omega) hlow) (by show _ ≤ w.heap.size + 1 + 1; omega) _
          go_roundw
          case rel =>
            rw [U.out] at g8 o8 p8 r8 b8
            exact ⟨j + 1, acc ++ [(tk, tv, mb)], rb, _, by omega, by go_num, HG.out, g8, by rw [U.out]; omega, HS.out, o8, p8, r8, b8⟩
          case measure => simp [intOf]; omega
    · obtain rfl : j = c := by omega
      rw [Nat.sub_self] at hrs
      simp only [M.ents] at hrs
      have HE := hid (hY.out acc r hrs.symm)
      clear hrs hN hY
      have hSm : Sm { lsn := 0, kind := k, level := lv, right := rt, high := ht, es := acc } := ⟨hhl, by simp only; omega, hsm⟩
      have Qs := fun W h => short_any (w.heap.size + 1) r W h
      have Qr := fun W h => rest_any (w.heap.size + 1) r W h
      have Qn := fun W => noughts_any r.1 W (by omega)
      have Qi := fun W hv => inBounds_any { lsn := 0, kind := k, level := lv, right := rt, high := ht, es := acc } v W hSm hv
      simp only at Qi
      have hpd : B6 wr.drew (w.heap.size + 1 + 1) (.int .i64 0) (.int .i64 (k : Int)) (.int .i64 (lv : Int)) (.int .i64 (rt : Int)) (.string (M.bs ht)) v := hp
      have hgd : RdAt wr.drew (w.heap.size + 1) r := hg
      have hrd : B6 wr.drew w.heap.size (.int .i64 0) (.int .i64 0) (.int .i64 0) (.int .i64 0) (.string ⟨#[]⟩) (.slice none 0 0) := hr0
      have hod : OwnE 71 wr.drew w.heap.size v acc := how
      have hbd : Bel w wr.drew := hb.dr
      have hbW := hb
      have hvv : Vals wr.drew v acc := hod.vals
      clear hp hg hr0 how hb hsm hSm
      obtain ⟨ao, cp, hvf, _⟩ := id hvv
      subst hvf
      have HC : ∀ W, Bel wr.drew W → (W.cell? ⟨w.heap.size + 1 + 1, 0, none⟩ = some (.int .i64 0) ∧ W.cell? ⟨w.heap.size + 1 + 1, 1, none⟩ = some (.int .i64 (k : Int)) ∧ W.cell? ⟨w.heap.size + 1 + 1, 2, none⟩ = some (.int .i64 (lv : Int)) ∧ W.cell? ⟨w.heap.size + 1 + 1, 3, none⟩ = some (.int .i64 (rt : Int)) ∧ W.cell? ⟨w.heap.size + 1 + 1, 4, none⟩ = some (.string (M.bs ht)) ∧ W.cell? ⟨w.heap.size + 1 + 1, 5, none⟩ = some (.slice ao acc.length cp)) := fun W hW => (hpd.bel hW).cells
      have hb0' : Bel wr.drew wr.drew := Below.refl _ _
      have hS := HC _ hb0'
      have q1 := (hrd.bel hb0').cells
      have q2 := (hrd.bel hb0').froz
      generalize M.inB { lsn := 0, kind := k, level := lv, right := rt, high := ht, es := acc } = ib at *
      generalize hnn : M.noughts r.1 = nn at *
      obtain ⟨rr1, sh⟩ := r
      simp only at Qs Qr Qn HE hnn
      clear hnn
      have hw3 : sh = true ∨ (sh = false ∧ nn = false) ∨ (sh = false ∧ nn = true) := by cases sh <;> cases nn <;> simp
      obtain ⟨s0, s1, s2, s3, s4, s5⟩ := hS
      obtain ⟨z0, z1, z2, z3, z4, z5⟩ := q1
      have y0 := q2 0
      have y1 := q2 1
      have y2 := q2 2
      have y3 := q2 3
      have y4 := q2 4
      have y5 := q2 5
      clear q2
      clear z0 z1 z2 z3 z4 z5 y0 y1 y2 y3 y4 y5 s0 s1 s2 s3 s4 s5
      have hS := HC _ hb0'
      rcases hw3 with rfl | ⟨rfl, rfl⟩ | ⟨rfl, rfl⟩
      · have HE : Hid (M.pageN l = ({ lsn := 0, kind := k, level := lv, right := rt, high := ht, es := acc }, false)) := by rw [HE.out]; rfl
        go_wp2_with fail
        refine wp_normal ?_
        refine region_until (S := (fun W : World => W.cell? ⟨w.heap.size + 1 + 1, 0, none⟩ = some (.int .i64 0) ∧ W.cell? ⟨w.heap.size + 1 + 1, 1, none⟩ = some (.int .i64 (k : Int)) ∧ W.cell? ⟨w.heap.size + 1 + 1, 2, none⟩ = some (.int .i64 (lv : Int)) ∧ W.cell? ⟨w.heap.size + 1 + 1, 3, none⟩ = some (.int .i64 (rt : Int)) ∧ W.cell? ⟨w.heap.size + 1 + 1, 4, none⟩ = some (.string (M.bs ht)) ∧ W.cell? ⟨w.heap.size + 1 + 1, 5, none⟩ = some (.slice ao acc.length cp))) (m := 13) (by kernel_rfl) ?_
        refine take_first (i := 0) rfl (by kernel_rfl) (by kernel_rfl) (by kernel_rfl) (fun _ _ _ h => absurd h.1 (by simp)) (.one ⟨_, rfl, ⟨0, .data⟩, by simp, rfl, rfl⟩) Kept.begin (v := .agg #[.int .i64 0, .int .i64 (k : Int), .int .i64 (lv : Int), .int .i64 (rt : Int), .string (M.bs ht), .slice ao acc.length cp]) (Or.inl ⟨by rfl, fun w hSw => by obtain ⟨h1, h2, h3, h4, h5, h6⟩ := hSw; go_simp⟩) hS ?_
        simp only [Act.put]
        refine until_ready (rs := [1]) (by kernel_rfl) (by simp) ?_
        intro jj hjj
        simp only [List.mem_cons, List.not_mem_nil, or_false] at hjj
        subst hjj
        refine wpOp_step rfl (fun KX hKX => ?_)
        have HX := hid hKX
        clear hKX
        go_simp
        refine HX.out _ _ ⟨fun _ => hS, ?_⟩
        clear HX
        refine until_ready (rs := [2]) (by kernel_rfl) (by simp) ?_
        intro jj hjj
        simp only [List.mem_cons, List.not_mem_nil, or_false] at hjj
        subst hjj
        refine wpOp_step rfl (fun KX hKX => ?_)
        have HX := hid hKX
        clear hKX
        refine stepS (by simp [Region.wanted]) _ (by rfl) _ (by rfl) (Qs _ hgd) ?_
        rintro e w4 ⟨rfl, rfl⟩
        refine ⟨_, rfl, ?_⟩
        refine HX.out _ _ ⟨fun _ => hS, ?_⟩
        clear HX
        simp only [Act.put]
        refine until_ready (rs := [3]) (by kernel_rfl) (by simp) ?_
        intro jj hjj
        simp only [List.mem_cons, List.not_mem_nil, or_false] at hjj
        subst hjj
        refine wpOp_step rfl (fun KX hKX => ?_)
        have HX := hid hKX
        clear hKX
        go_simp
        refine HX.out _ _ ⟨fun _ => hS, ?_⟩
        clear HX
        refine until_ready (rs := [4]) (by kernel_rfl) (by simp) ?_
        intro jj hjj
        simp only [List.mem_cons, List.not_mem_nil, or_false] at hjj
        subst hjj
        refine wpOp_step rfl (fun KX hKX => ?_)
        have HX := hid hKX
        clear hKX
        go_simp
        refine HX.out _ _ ⟨fun _ => hS, ?_⟩
        clear HX
        refine until_ready (rs := [5]) (by kernel_rfl) (by simp) ?_
        intro jj hjj
        simp only [List.mem_cons, List.not_mem_nil, or_false] at hjj
        subst hjj
        refine wpOp_step rfl (fun KX hKX => ?_)
        have HX := hid hKX
        clear hKX
        go_simp
        refine HX.out _ _ ⟨fun _ => hS, ?_⟩
        clear HX
        refine until_ready (rs := [6]) (by kernel_rfl) (by simp) ?_
        intro jj hjj
        simp only [List.mem_cons, List.not_mem_nil, or_false] at hjj
        subst hjj
        refine wpOp_step rfl (fun KX hKX => ?_)
        have HX := hid hKX
        clear hKX
        go_simp
        refine HX.out _ _ ⟨fun _ => hS, ?_⟩
        clear HX
        refine until_ready (rs := [7]) (by kernel_rfl) (by simp) ?_
        intro jj hjj
        simp only [List.mem_cons, List.not_mem_nil, or_false] at hjj
        subst hjj
        refine wpOp_step rfl (fun KX hKX => ?_)
        have HX := hid hKX
        clear hKX
        go_simp
        refine HX.out _ _ ⟨fun _ => hS, ?_⟩
        clear HX
        refine until_ready (rs := [8]) (by kernel_rfl) (by simp) ?_
        intro jj hjj
        simp only [List.mem_cons, List.not_mem_nil, or_false] at hjj
        subst hjj
        refine wpOp_step rfl (fun KX hKX => ?_)
        have HX := hid hKX
        clear hKX
        go_simp
        refine HX.out _ _ ⟨fun _ => hS, ?_⟩
        clear HX
        refine until_ready (rs := [9]) (by kernel_rfl) (by simp) ?_
        intro jj hjj
        simp only [List.mem_cons, List.not_mem_nil, or_false] at hjj
        subst hjj
        refine wpOp_step rfl (fun KX hKX => ?_)
        have HX := hid hKX
        clear hKX
        go_simp
        refine HX.out _ _ ⟨fun _ => hS, ?_⟩
        clear HX
        refine until_ready (rs := [10]) (by kernel_rfl) (by simp) ?_
        intro jj hjj
        simp only [List.mem_cons, List.not_mem_nil, or_false] at hjj
        subst hjj
        refine wpOp_step rfl (fun KX hKX => ?_)
        have HX := hid hKX
        clear hKX
        go_simp
        refine HX.out _ _ ⟨fun _ => hS, ?_⟩
        clear HX
        refine until_ready (rs := [11]) (by kernel_rfl) (by simp) ?_
        intro jj hjj
        simp only [List.mem_cons, List.not_mem_nil, or_false] at hjj
        subst hjj
        refine wpOp_step rfl (fun KX hKX => ?_)
        have HX := hid hKX
        clear hKX
        go_simp
        refine HX.out _ _ ⟨fun _ => hS, ?_⟩
        clear HX
        have hrw : B6 wr w.heap.size (.int .i64 0) (.int .i64 0) (.int .i64 0) (.int .i64 0) (.string ⟨#[]⟩) (.slice none 0 0) := hrd
        have how : OwnE 71 wr w.heap.size (.slice ao acc.length cp) acc := hod
        have hbw : Bel w wr := hbW
        obtain ⟨z0, z1, z2, z3, z4, z5⟩ := hrw.cells
        have q2 := hrw.froz
        have y0 := q2 0
        have y1 := q2 1
        have y2 := q2 2
        have y3 := q2 3
        have y4 := q2 4
        have y5 := q2 5
        clear q2
        refine until_ready (rs := [12, 13]) (by kernel_rfl) (by simp) ?_
        intro jj hjj
        simp only [List.mem_cons, List.not_mem_nil, or_false] at hjj
        rcases hjj with rfl | rfl
        · refine wpOp_step rfl (fun KX hKX => ?_)
          have HX := hid hKX
          clear hKX
          go_simp
          refine HX.out _ _ ⟨fun _ => hS, ?_⟩
          clear HX
          refine until_ready (rs := [13]) (by kernel_rfl) (by simp) ?_
          intro jj hjj
          simp only [List.mem_cons, List.not_mem_nil, or_false] at hjj
          subst hjj
          refine wpOp_step rfl (fun KX hKX => ?_)
          have HX := hid hKX
          clear hKX
          go_simp
          refine HX.out _ _ ⟨(fun h => by cases (Eq.trans (Eq.symm (show _ = true by kernel_rfl)) h)), ?_⟩
          clear HX
          refine until_ready (rs := [14]) (by kernel_rfl) (by simp) ?_
          intro jj hjj
          simp only [List.mem_cons, List.not_mem_nil, or_false] at hjj
          subst hjj
          refine wpOp_step rfl (fun KX hKX => ?_)
          have HX := hid hKX
          clear hKX
          go_simp
          refine HX.out _ _ ⟨(fun h => by cases (Eq.trans (Eq.symm (show _ = true by kernel_rfl)) h)), ?_⟩
          clear HX
          clear z0 z1 z2 z3 z4 z5 y0 y1 y2 y3 y4 y5
          refine until_done (by kernel_rfl) ⟨rfl, ?_⟩ _
          go_wp2_with fail
          have q := hrw.six (.int .i64 0) (.int .i64 (k : Int)) (.int .i64 (lv : Int)) (.int .i64 (rt : Int)) (.string (M.bs ht)) (.slice ao acc.length cp)
          have o6 := how.six (hod.ne hrd (by decide)) (.int .i64 0) (.int .i64 (k : Int)) (.int .i64 (lv : Int)) (.int .i64 (rt : Int)) (.string (M.bs ht)) (.slice ao acc.length cp)
          have b6 := hbw.six (Nat.le_refl _) (.int .i64 0) (.int .i64 (k : Int)) (.int .i64 (lv : Int)) (.int .i64 (rt : Int)) (.string (M.bs ht)) (.slice ao acc.length cp)
          rw [six] at q o6 b6
          generalize World.setCell _ ⟨w.heap.size, 5, none⟩ (.slice ao acc.length cp) = W9 at *
          obtain ⟨z0, z1, z2, z3, z4, z5⟩ := q.cells
          refine bodyPost_ret (v := .tuple #[pv { lsn := 0, kind := k, level := lv, right := rt, high := ht, es := acc } (.slice ao acc.length cp), .bool false]) (by simp [results, Tryd.results46, go_sem, pv, z0, z1, z2, z3, z4, z5]) rfl ?_
          rw [HE.out]
          exact ⟨_, rfl, o6, b6.dr⟩
        · refine wpOp_step rfl (fun KX hKX => ?_)
          have HX := hid hKX
          clear hKX
          go_simp
          refine HX.out _ _ ⟨(fun h => by cases (Eq.trans (Eq.symm (show _ = true by kernel_rfl)) h)), ?_⟩
          clear HX
          refine until_ready (rs := [12]) (by kernel_rfl) (by simp) ?_
          intro jj hjj
          simp only [List.mem_cons, List.not_mem_nil, or_false] at hjj
          subst hjj
          refine wpOp_step rfl (fun KX hKX => ?_)
          have HX := hid hKX
          clear hKX
          go_simp
          refine HX.out _ _ ⟨(fun h => by cases (Eq.trans (Eq.symm (show _ = true by kernel_rfl)) h)), ?_⟩
          clear HX
          refine until_ready (rs := [14]) (by kernel_rfl) (by simp) ?_
          intro jj hjj
          simp only [List.mem_cons, List.not_mem_nil, or_false] at hjj
          subst hjj
          refine wpOp_step rfl (fun KX hKX => ?_)
          have HX := hid hKX
          clear hKX
          go_simp
          refine HX.out _ _ ⟨(fun h => by cases (Eq.trans (Eq.symm (show _ = true by kernel_rfl)) h)), ?_⟩
          clear HX
          clear z0 z1 z2 z3 z4 z5 y0 y1 y2 y3 y4 y5
          refine until_done (by kernel_rfl) ⟨rfl, ?_⟩ _
          go_wp2_with fail
          have q := hrw.six (.int .i64 0) (.int .i64 (k : Int)) (.int .i64 (lv : Int)) (.int .i64 (rt : Int)) (.string (M.bs ht)) (.slice ao acc.length cp)
          have o6 := how.six (hod.ne hrd (by decide)) (.int .i64 0) (.int .i64 (k : Int)) (.int .i64 (lv : Int)) (.int .i64 (rt : Int)) (.string (M.bs ht)) (.slice ao acc.length cp)
          have b6 := hbw.six (Nat.le_refl _) (.int .i64 0) (.int .i64 (k : Int)) (.int .i64 (lv : Int)) (.int .i64 (rt : Int)) (.string (M.bs ht)) (.slice ao acc.length cp)
          rw [six] at q o6 b6
          generalize World.setCell _ ⟨w.heap.size, 5, none⟩ (.slice ao acc.length cp) = W9 at *
          obtain ⟨z0, z1, z2, z3, z4, z5⟩ := q.cells
          refine bodyPost_ret (v := .tuple #[pv { lsn := 0, kind := k, level := lv, right := rt, high := ht, es := acc } (.slice ao acc.length cp), .bool false]) (by simp [results, Tryd.results46, go_sem, pv, z0, z1, z2, z3, z4, z5]) rfl ?_
          rw [HE.out]
          exact ⟨_, rfl, o6, b6.dr⟩
      · have HE : Hid (M.pageN l = ({ lsn := 0, kind := k, level := lv, right := rt, high := ht, es := acc }, false)) := by rw [HE.out]; rfl
        go_wp2_with fail
        refine wp_normal ?_
        refine region_until (S := (fun W : World => W.cell? ⟨w.heap.size + 1 + 1, 0, none⟩ = some (.int .i64 0) ∧ W.cell? ⟨w.heap.size + 1 + 1, 1, none⟩ = some (.int .i64 (k : Int)) ∧ W.cell? ⟨w.heap.size + 1 + 1, 2, none⟩ = some (.int .i64 (lv : Int)) ∧ W.cell? ⟨w.heap.size + 1 + 1, 3, none⟩ = some (.int .i64 (rt : Int)) ∧ W.cell? ⟨w.heap.size + 1 + 1, 4, none⟩ = some (.string (M.bs ht)) ∧ W.cell? ⟨w.heap.size + 1 + 1, 5, none⟩ = some (.slice ao acc.length cp))) (m := 13) (by kernel_rfl) ?_
        refine take_first (i := 0) rfl (by kernel_rfl) (by kernel_rfl) (by kernel_rfl) (fun _ _ _ h => absurd h.1 (by simp)) (.one ⟨_, rfl, ⟨0, .data⟩, by simp, rfl, rfl⟩) Kept.begin (v := .agg #[.int .i64 0, .int .i64 (k : Int), .int .i64 (lv : Int), .int .i64 (rt : Int), .string (M.bs ht), .slice ao acc.length cp]) (Or.inl ⟨by rfl, fun w hSw => by obtain ⟨h1, h2, h3, h4, h5, h6⟩ := hSw; go_simp⟩) hS ?_
        simp only [Act.put]
        refine until_ready (rs := [1]) (by kernel_rfl) (by simp) ?_
        intro jj hjj
        simp only [List.mem_cons, List.not_mem_nil, or_false] at hjj
        subst hjj
        refine wpOp_step rfl (fun KX hKX => ?_)
        have HX := hid hKX
        clear hKX
        go_simp
        refine HX.out _ _ ⟨fun _ => hS, ?_⟩
        clear HX
        refine until_ready (rs := [2]) (by kernel_rfl) (by simp) ?_
        intro jj hjj
        simp only [List.mem_cons, List.not_mem_nil, or_false] at hjj
        subst hjj
        refine wpOp_step rfl (fun KX hKX => ?_)
        have HX := hid hKX
        clear hKX
        refine stepS (by simp [Region.wanted]) _ (by rfl) _ (by rfl) (Qs _ hgd) ?_
        rintro e w4 ⟨rfl, rfl⟩
        refine ⟨_, rfl, ?_⟩
        refine HX.out _ _ ⟨fun _ => hS, ?_⟩
        clear HX
        simp only [Act.put]
        refine until_ready (rs := [3]) (by kernel_rfl) (by simp) ?_
        intro jj hjj
        simp only [List.mem_cons, List.not_mem_nil, or_false] at hjj
        subst hjj
        refine wpOp_step rfl (fun KX hKX => ?_)
        have HX := hid hKX
        clear hKX
        go_simp
        refine HX.out _ _ ⟨fun _ => hS, ?_⟩
        clear HX
        refine until_ready (rs := [4]) (by kernel_rfl) (by simp) ?_
        intro jj hjj
        simp only [List.mem_cons, List.not_mem_nil, or_false] at hjj
        subst hjj
        refine wpOp_step rfl (fun KX hKX => ?_)
        have HX := hid hKX
        clear hKX
        go_simp
        refine HX.out _ _ ⟨fun _ => hS, ?_⟩
        clear HX
        refine until_ready (rs := [5]) (by kernel_rfl) (by simp) ?_
        intro jj hjj
        simp only [List.mem_cons, List.not_mem_nil, or_false] at hjj
        subst hjj
        refine wpOp_step rfl (fun KX hKX => ?_)
        have HX := hid hKX
        clear hKX
        go_simp
        refine HX.out _ _ ⟨fun _ => hS, ?_⟩
        clear HX
        refine until_ready (rs := [6]) (by kernel_rfl) (by simp) ?_
        intro jj hjj
        simp only [List.mem_cons, List.not_mem_nil, or_false] at hjj
        subst hjj
        refine wpOp_step rfl (fun KX hKX => ?_)
        have HX := hid hKX
        clear hKX
        refine stepR (by simp [Region.wanted, yielded]) _ (by rfl) _ (by rfl) (Qr _ hgd) ?_
        rintro e w4 ⟨rfl, rfl⟩
        refine ⟨_, rfl, ?_⟩
        refine HX.out _ _ ⟨fun _ => hS, ?_⟩
        clear HX
        simp only [Act.put]
        refine until_ready (rs := [7]) (by kernel_rfl) (by simp) ?_
        intro jj hjj
        simp only [List.mem_cons, List.not_mem_nil, or_false] at hjj
        subst hjj
        refine wpOp_step rfl (fun KX hKX => ?_)
        have HX := hid hKX
        clear hKX
        refine stepN (by simp [Region.wanted, yielded]) _ (by rfl) _ (by rfl) (Qn _) ?_
        rintro e w4 ⟨rfl, rfl⟩
        refine ⟨_, rfl, ?_⟩
        refine HX.out _ _ ⟨fun _ => hS, ?_⟩
        clear HX
        simp only [Act.put]
        refine until_ready (rs := [8]) (by kernel_rfl) (by simp) ?_
        intro jj hjj
        simp only [List.mem_cons, List.not_mem_nil, or_false] at hjj
        subst hjj
        refine wpOp_step rfl (fun KX hKX => ?_)
        have HX := hid hKX
        clear hKX
        go_simp
        refine HX.out _ _ ⟨fun _ => hS, ?_⟩
        clear HX
        refine until_ready (rs := [9]) (by kernel_rfl) (by simp) ?_
        intro jj hjj
        simp only [List.mem_cons, List.not_mem_nil, or_false] at hjj
        subst hjj
        refine wpOp_step rfl (fun KX hKX => ?_)
        have HX := hid hKX
        clear hKX
        go_simp
        refine HX.out _ _ ⟨fun _ => hS, ?_⟩
        clear HX
        refine until_ready (rs := [10]) (by kernel_rfl) (by simp) ?_
        intro jj hjj
        simp only [List.mem_cons, List.not_mem_nil, or_false] at hjj
        subst hjj
        refine wpOp_step rfl (fun KX hKX => ?_)
        have HX := hid hKX
        clear hKX
        go_simp
        refine HX.out _ _ ⟨fun _ => hS, ?_⟩
        clear HX
        refine until_ready (rs := [11]) (by kernel_rfl) (by simp) ?_
        intro jj hjj
        simp only [List.mem_cons, List.not_mem_nil, or_false] at hjj
        subst hjj
        refine wpOp_step rfl (fun KX hKX => ?_)
        have HX := hid hKX
        clear hKX
        go_simp
        refine HX.out _ _ ⟨fun _ => hS, ?_⟩
        clear HX
        have hrw : B6 wr w.heap.size (.int .i64 0) (.int .i64 0) (.int .i64 0) (.int .i64 0) (.string ⟨#[]⟩) (.slice none 0 0) := hrd
        have how : OwnE 71 wr w.heap.size (.slice ao acc.length cp) acc := hod
        have hbw : Bel w wr := hbW
        obtain ⟨z0, z1, z2, z3, z4, z5⟩ := hrw.cells
        have q2 := hrw.froz
        have y0 := q2 0
        have y1 := q2 1
        have y2 := q2 2
        have y3 := q2 3
        have y4 := q2 4
        have y5 := q2 5
        clear q2
        refine until_ready (rs := [12, 13]) (by kernel_rfl) (by simp) ?_
        intro jj hjj
        simp only [List.mem_cons, List.not_mem_nil, or_false] at hjj
        rcases hjj with rfl | rfl
        · refine wpOp_step rfl (fun KX hKX => ?_)
          have HX := hid hKX
          clear hKX
          go_simp
          refine HX.out _ _ ⟨fun _ => hS, ?_⟩
          clear HX
          refine until_ready (rs := [13]) (by kernel_rfl) (by simp) ?_
          intro jj hjj
          simp only [List.mem_cons, List.not_mem_nil, or_false] at hjj
          subst hjj
          refine wpOp_step rfl (fun KX hKX => ?_)
          have HX := hid hKX
          clear hKX
          go_simp
          refine HX.out _ _ ⟨(fun h => by cases (Eq.trans (Eq.symm (show _ = true by kernel_rfl)) h)), ?_⟩
          clear HX
          refine until_ready (rs := [14]) (by kernel_rfl) (by simp) ?_
          intro jj hjj
          simp only [List.mem_cons, List.not_mem_nil, or_false] at hjj
          subst hjj
          refine wpOp_step rfl (fun KX hKX => ?_)
          have HX := hid hKX
          clear hKX
          go_simp
          refine HX.out _ _ ⟨(fun h => by cases (Eq.trans (Eq.symm (show _ = true by kernel_rfl)) h)), ?_⟩
          clear HX
          clear z0 z1 z2 z3 z4 z5 y0 y1 y2 y3 y4 y5
          refine until_done (by kernel_rfl) ⟨rfl, ?_⟩ _
          go_wp2_with fail
          have q := hrw.six (.int .i64 0) (.int .i64 (k : Int)) (.int .i64 (lv : Int)) (.int .i64 (rt : Int)) (.string (M.bs ht)) (.slice ao acc.length cp)
          have o6 := how.six (hod.ne hrd (by decide)) (.int .i64 0) (.int .i64 (k : Int)) (.int .i64 (lv : Int)) (.int .i64 (rt : Int)) (.string (M.bs ht)) (.slice ao acc.length cp)
          have b6 := hbw.six (Nat.le_refl _) (.int .i64 0) (.int .i64 (k : Int)) (.int .i64 (lv : Int)) (.int .i64 (rt : Int)) (.string (M.bs ht)) (.slice ao acc.length cp)
          rw [six] at q o6 b6
          generalize World.setCell _ ⟨w.heap.size, 5, none⟩ (.slice ao acc.length cp) = W9 at *
          obtain ⟨z0, z1, z2, z3, z4, z5⟩ := q.cells
          refine bodyPost_ret (v := .tuple #[pv { lsn := 0, kind := k, level := lv, right := rt, high := ht, es := acc } (.slice ao acc.length cp), .bool false]) (by simp [results, Tryd.results46, go_sem, pv, z0, z1, z2, z3, z4, z5]) rfl ?_
          rw [HE.out]
          exact ⟨_, rfl, o6, b6.dr⟩
        · refine wpOp_step rfl (fun KX hKX => ?_)
          have HX := hid hKX
          clear hKX
          go_simp
          refine HX.out _ _ ⟨(fun h => by cases (Eq.trans (Eq.symm (show _ = true by kernel_rfl)) h)), ?_⟩
          clear HX
          refine until_ready (rs := [12]) (by kernel_rfl) (by simp) ?_
          intro jj hjj
          simp only [List.mem_cons, List.not_mem_nil, or_false] at hjj
          subst hjj
          refine wpOp_step rfl (fun KX hKX => ?_)
          have HX := hid hKX
          clear hKX
          go_simp
          refine HX.out _ _ ⟨(fun h => by cases (Eq.trans (Eq.symm (show _ = true by kernel_rfl)) h)), ?_⟩
          clear HX
          refine until_ready (rs := [14]) (by kernel_rfl) (by simp) ?_
          intro jj hjj
          simp only [List.mem_cons, List.not_mem_nil, or_false] at hjj
          subst hjj
          refine wpOp_step rfl (fun KX hKX => ?_)
          have HX := hid hKX
          clear hKX
          go_simp
          refine HX.out _ _ ⟨(fun h => by cases (Eq.trans (Eq.symm (show _ = true by kernel_rfl)) h)), ?_⟩
          clear HX
          clear z0 z1 z2 z3 z4 z5 y0 y1 y2 y3 y4 y5
          refine until_done (by kernel_rfl) ⟨rfl, ?_⟩ _
          go_wp2_with fail
          have q := hrw.six (.int .i64 0) (.int .i64 (k : Int)) (.int .i64 (lv : Int)) (.int .i64 (rt : Int)) (.string (M.bs ht)) (.slice ao acc.length cp)
          have o6 := how.six (hod.ne hrd (by decide)) (.int .i64 0) (.int .i64 (k : Int)) (.int .i64 (lv : Int)) (.int .i64 (rt : Int)) (.string (M.bs ht)) (.slice ao acc.length cp)
          have b6 := hbw.six (Nat.le_refl _) (.int .i64 0) (.int .i64 (k : Int)) (.int .i64 (lv : Int)) (.int .i64 (rt : Int)) (.string (M.bs ht)) (.slice ao acc.length cp)
          rw [six] at q o6 b6
          generalize World.setCell _ ⟨w.heap.size, 5, none⟩ (.slice ao acc.length cp) = W9 at *
          obtain ⟨z0, z1, z2, z3, z4, z5⟩ := q.cells
          refine bodyPost_ret (v := .tuple #[pv { lsn := 0, kind := k, level := lv, right := rt, high := ht, es := acc } (.slice ao acc.length cp), .bool false]) (by simp [results, Tryd.results46, go_sem, pv, z0, z1, z2, z3, z4, z5]) rfl ?_
          rw [HE.out]
          exact ⟨_, rfl, o6, b6.dr⟩
      · have HE : Hid (M.pageN l = ({ lsn := 0, kind := k, level := lv, right := rt, high := ht, es := acc }, ib)) := by rw [HE.out]; rfl
        go_wp2_with fail
        refine wp_normal ?_
        refine region_until (S := (fun W : World => W.cell? ⟨w.heap.size + 1 + 1, 0, none⟩ = some (.int .i64 0) ∧ W.cell? ⟨w.heap.size + 1 + 1, 1, none⟩ = some (.int .i64 (k : Int)) ∧ W.cell? ⟨w.heap.size + 1 + 1, 2, none⟩ = some (.int .i64 (lv : Int)) ∧ W.cell? ⟨w.heap.size + 1 + 1, 3, none⟩ = some (.int .i64 (rt : Int)) ∧ W.cell? ⟨w.heap.size + 1 + 1, 4, none⟩ = some (.string (M.bs ht)) ∧ W.cell? ⟨w.heap.size + 1 + 1, 5, none⟩ = some (.slice ao acc.length cp))) (m := 13) (by kernel_rfl) ?_
        refine take_first (i := 0) rfl (by kernel_rfl) (by kernel_rfl) (by kernel_rfl) (fun _ _ _ h => absurd h.1 (by simp)) (.one ⟨_, rfl, ⟨0, .data⟩, by simp, rfl, rfl⟩) Kept.begin (v := .agg #[.int .i64 0, .int .i64 (k : Int), .int .i64 (lv : Int), .int .i64 (rt : Int), .string (M.bs ht), .slice ao acc.length cp]) (Or.inl ⟨by rfl, fun w hSw => by obtain ⟨h1, h2, h3, h4, h5, h6⟩ := hSw; go_simp⟩) hS ?_
        simp only [Act.put]
        refine until_ready (rs := [1]) (by kernel_rfl) (by simp) ?_
        intro jj hjj
        simp only [List.mem_cons, List.not_mem_nil, or_false] at hjj
        subst hjj
        refine wpOp_step rfl (fun KX hKX => ?_)
        have HX := hid hKX
        clear hKX
        go_simp
        refine HX.out _ _ ⟨fun _ => hS, ?_⟩
        clear HX
        refine until_ready (rs := [2]) (by kernel_rfl) (by simp) ?_
        intro jj hjj
        simp only [List.mem_cons, List.not_mem_nil, or_false] at hjj
        subst hjj
        refine wpOp_step rfl (fun KX hKX => ?_)
        have HX := hid hKX
        clear hKX
        refine stepS (by simp [Region.wanted]) _ (by rfl) _ (by rfl) (Qs _ hgd) ?_
        rintro e w4 ⟨rfl, rfl⟩
        refine ⟨_, rfl, ?_⟩
        refine HX.out _ _ ⟨fun _ => hS, ?_⟩
        clear HX
        simp only [Act.put]
        refine until_ready (rs := [3]) (by kernel_rfl) (by simp) ?_
        intro jj hjj
        simp only [List.mem_cons, List.not_mem_nil, or_false] at hjj
        subst hjj
        refine wpOp_step rfl (fun KX hKX => ?_)
        have HX := hid hKX
        clear hKX
        go_simp
        refine HX.out _ _ ⟨fun _ => hS, ?_⟩
        clear HX
        refine until_ready (rs := [4]) (by kernel_rfl) (by simp) ?_
        intro jj hjj
        simp only [List.mem_cons, List.not_mem_nil, or_false] at hjj
        subst hjj
        refine wpOp_step rfl (fun KX hKX => ?_)
        have HX := hid hKX
        clear hKX
        go_simp
        refine HX.out _ _ ⟨fun _ => hS, ?_⟩
        clear HX
        refine until_ready (rs := [5]) (by kernel_rfl) (by simp) ?_
        intro jj hjj
        simp only [List.mem_cons, List.not_mem_nil, or_false] at hjj
        subst hjj
        refine wpOp_step rfl (fun KX hKX => ?_)
        have HX := hid hKX
        clear hKX
        go_simp
        refine HX.out _ _ ⟨fun _ => hS, ?_⟩
        clear HX
        refine until_ready (rs := [6]) (by kernel_rfl) (by simp) ?_
        intro jj hjj
        simp only [List.mem_cons, List.not_mem_nil, or_false] at hjj
        subst hjj
        refine wpOp_step rfl (fun KX hKX => ?_)
        have HX := hid hKX
        clear hKX
        refine stepR (by simp [Region.wanted, yielded]) _ (by rfl) _ (by rfl) (Qr _ hgd) ?_
        rintro e w4 ⟨rfl, rfl⟩
        refine ⟨_, rfl, ?_⟩
        refine HX.out _ _ ⟨fun _ => hS, ?_⟩
        clear HX
        simp only [Act.put]
        refine until_ready (rs := [7]) (by kernel_rfl) (by simp) ?_
        intro jj hjj
        simp only [List.mem_cons, List.not_mem_nil, or_false] at hjj
        subst hjj
        refine wpOp_step rfl (fun KX hKX => ?_)
        have HX := hid hKX
        clear hKX
        refine stepN (by simp [Region.wanted, yielded]) _ (by rfl) _ (by rfl) (Qn _) ?_
        rintro e w4 ⟨rfl, rfl⟩
        refine ⟨_, rfl, ?_⟩
        refine HX.out _ _ ⟨fun _ => hS, ?_⟩
        clear HX
        simp only [Act.put]
        refine until_ready (rs := [8]) (by kernel_rfl) (by simp) ?_
        intro jj hjj
        simp only [List.mem_cons, List.not_mem_nil, or_false] at hjj
        subst hjj
        refine wpOp_step rfl (fun KX hKX => ?_)
        have HX := hid hKX
        clear hKX
        go_simp
        refine HX.out _ _ ⟨fun _ => hS, ?_⟩
        clear HX
        refine until_ready (rs := [9]) (by kernel_rfl) (by simp) ?_
        intro jj hjj
        simp only [List.mem_cons, List.not_mem_nil, or_false] at hjj
        subst hjj
        refine wpOp_step rfl (fun KX hKX => ?_)
        have HX := hid hKX
        clear hKX
        go_simp
        refine HX.out _ _ ⟨fun _ => hS, ?_⟩
        clear HX
        refine until_ready (rs := [10]) (by kernel_rfl) (by simp) ?_
        intro jj hjj
        simp only [List.mem_cons, List.not_mem_nil, or_false] at hjj
        subst hjj
        refine wpOp_step rfl (fun KX hKX => ?_)
        have HX := hid hKX
        clear hKX
        go_simp
        refine HX.out _ _ ⟨fun _ => hS, ?_⟩
        clear HX
        refine until_ready (rs := [11]) (by kernel_rfl) (by simp) ?_
        intro jj hjj
        simp only [List.mem_cons, List.not_mem_nil, or_false] at hjj
        subst hjj
        refine wpOp_step rfl (fun KX hKX => ?_)
        have HX := hid hKX
        clear hKX
        refine stepI (by simp [Region.wanted, yielded]) _ (by rfl) _ (by rfl) (Qi _ hvv) ?_
        rintro e w4 ⟨rfl, b4⟩
        refine ⟨_, rfl, ?_⟩
        have hS4 := HC _ b4
        have hb0' := hb0'.tr b4
        refine HX.out _ _ ⟨fun _ => hS4, ?_⟩
        clear HX
        simp only [Act.put]
        have hrw := hrd.bel hb0'
        obtain ⟨z0, z1, z2, z3, z4, z5⟩ := hrw.cells
        have q2 := hrw.froz
        have y0 := q2 0
        have y1 := q2 1
        have y2 := q2 2
        have y3 := q2 3
        have y4 := q2 4
        have y5 := q2 5
        clear q2
        refine until_ready (rs := [12, 13]) (by kernel_rfl) (by simp) ?_
        intro jj hjj
        simp only [List.mem_cons, List.not_mem_nil, or_false] at hjj
        rcases hjj with rfl | rfl
        · refine wpOp_step rfl (fun KX hKX => ?_)
          have HX := hid hKX
          clear hKX
          go_simp
          refine HX.out _ _ ⟨fun _ => hS4, ?_⟩
          clear HX
          refine until_ready (rs := [13]) (by kernel_rfl) (by simp) ?_
          intro jj hjj
          simp only [List.mem_cons, List.not_mem_nil, or_false] at hjj
          subst hjj
          refine wpOp_step rfl (fun KX hKX => ?_)
          have HX := hid hKX
          clear hKX
          go_simp
          refine HX.out _ _ ⟨(fun h => by cases (Eq.trans (Eq.symm (show _ = true by kernel_rfl)) h)), ?_⟩
          clear HX
          refine until_ready (rs := [14]) (by kernel_rfl) (by simp) ?_
          intro jj hjj
          simp only [List.mem_cons, List.not_mem_nil, or_false] at hjj
          subst hjj
          refine wpOp_step rfl (fun KX hKX => ?_)
          have HX := hid hKX
          clear hKX
          go_simp
          refine HX.out _ _ ⟨(fun h => by cases (Eq.trans (Eq.symm (show _ = true by kernel_rfl)) h)), ?_⟩
          clear HX
          clear z0 z1 z2 z3 z4 z5 y0 y1 y2 y3 y4 y5
          refine until_done (by kernel_rfl) ⟨rfl, ?_⟩ _
          go_wp2_with fail
          have q := (hrd.bel hb0').six (.int .i64 0) (.int .i64 (k : Int)) (.int .i64 (lv : Int)) (.int .i64 (rt : Int)) (.string (M.bs ht)) (.slice ao acc.length cp)
          have o6 := (hod.bel hb0').six (hod.ne hrd (by decide)) (.int .i64 0) (.int .i64 (k : Int)) (.int .i64 (lv : Int)) (.int .i64 (rt : Int)) (.string (M.bs ht)) (.slice ao acc.length cp)
          have b6 := (hbd.tr hb0').six (Nat.le_refl _) (.int .i64 0) (.int .i64 (k : Int)) (.int .i64 (lv : Int)) (.int .i64 (rt : Int)) (.string (M.bs ht)) (.slice ao acc.length cp)
          rw [six] at q o6 b6
          generalize World.setCell _ ⟨w.heap.size, 5, none⟩ (.slice ao acc.length cp) = W9 at *
          obtain ⟨z0, z1, z2, z3, z4, z5⟩ := q.cells
          refine bodyPost_ret (v := .tuple #[pv { lsn := 0, kind := k, level := lv, right := rt, high := ht, es := acc } (.slice ao acc.length cp), .bool ib]) (by simp [results, Tryd.results46, go_sem, pv, z0, z1, z2, z3, z4, z5]) rfl ?_
          rw [HE.out]
          exact ⟨_, rfl, o6, b6⟩
        · refine wpOp_step rfl (fun KX hKX => ?_)
          have HX := hid hKX
          clear hKX
          go_simp
          refine HX.out _ _ ⟨(fun h => by cases (Eq.trans (Eq.symm (show _ = true by kernel_rfl)) h)), ?_⟩
          clear HX
          refine until_ready (rs := [12]) (by kernel_rfl) (by simp) ?_
          intro jj hjj
          simp only [List.mem_cons, List.not_mem_nil, or_false] at hjj
          subst hjj
          refine wpOp_step rfl (fun KX hKX => ?_)
          have HX := hid hKX
          clear hKX
          go_simp
          refine HX.out _ _ ⟨(fun h => by cases (Eq.trans (Eq.symm (show _ = true by kernel_rfl)) h)), ?_⟩
          clear HX
          refine until_ready (rs := [14]) (by kernel_rfl) (by simp) ?_
          intro jj hjj
          simp only [List.mem_cons, List.not_mem_nil, or_false] at hjj
          subst hjj
          refine wpOp_step rfl (fun KX hKX => ?_)
          have HX := hid hKX
          clear hKX
          go_simp
          refine HX.out _ _ ⟨(fun h => by cases (Eq.trans (Eq.symm (show _ = true by kernel_rfl)) h)), ?_⟩
          clear HX
          clear z0 z1 z2 z3 z4 z5 y0 y1 y2 y3 y4 y5
          refine until_done (by kernel_rfl) ⟨rfl, ?_⟩ _
          go_wp2_with fail
          have q := (hrd.bel hb0').six (.int .i64 0) (.int .i64 (k : Int)) (.int .i64 (lv : Int)) (.int .i64 (rt : Int)) (.string (M.bs ht)) (.slice ao acc.length cp)
          have o6 := (hod.bel hb0').six (hod.ne hrd (by decide)) (.int .i64 0) (.int .i64 (k : Int)) (.int .i64 (lv : Int)) (.int .i64 (rt : Int)) (.string (M.bs ht)) (.slice ao acc.length cp)
          have b6 := (hbd.tr hb0').six (Nat.le_refl _) (.int .i64 0) (.int .i64 (k : Int)) (.int .i64 (lv : Int)) (.int .i64 (rt : Int)) (.string (M.bs ht)) (.slice ao acc.length cp)
          rw [six] at q o6 b6
          generalize World.setCell _ ⟨w.heap.size, 5, none⟩ (.slice ao acc.length cp) = W9 at *
          obtain ⟨z0, z1, z2, z3, z4, z5⟩ := q.cells
          refine bodyPost_ret (v := .tuple #[pv { lsn := 0, kind := k, level := lv, right := rt, high := ht, es := acc } (.slice ao acc.length cp), .bool ib]) (by simp [results, Tryd.results46, go_sem, pv, z0, z1, z2, z3, z4, z5]) rfl ?_
          rw [HE.out]
          exact ⟨_, rfl, o6, b6⟩
end Go.Proofs.YtaepbmcmggnmpaaDoor
