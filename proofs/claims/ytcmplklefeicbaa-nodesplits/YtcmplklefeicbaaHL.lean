/-
  The law NodeHolds, walked.
-/
import Derived.Test.YtcmplklefeicbaaHM
import Derived.Test.YtcmplklefeicbaaY
import Derived.Carry
namespace Go.Proofs.Ytcmplklefeicbaa
open Go.RowKit
set_option maxRecDepth 100000

theorem cutN (t : List UInt8) (n : Nat) : (M.bs t).extract 0 (min (t.length : Int) n).toNat = M.bs (t.take n) := by
  rw [M.extract_bs, M.bs_data, List.drop_zero]
  congr 1
  by_cases h : t.length ≤ n
  · rw [List.take_of_length_le (by omega), List.take_of_length_le h]
  · congr 1; omega
abbrev pgC (p : M.Pg) (x : Value) : Array Value := #[.int .i64 p.lsn, .int .i64 p.kind, .int .i64 p.level, .int .i64 p.right, .string (M.bs p.high), x]
/-- The page and the map of the law. -/
structure HB (w wr : World) (B n : Nat) (F : List UInt8 → Bool) (s : Nat) (p : M.Pg) (x : Value) : Prop where
  b0 : Blk wr B #[.int .i64 p.lsn, .int .i64 p.kind, .int .i64 p.level, .int .i64 p.right, .string (M.bs p.high), x] 30
  map : MapS wr (B + 1) n F s
  ox : wr.ownsRow (B + 1 + 1) 40 3 x p.es.length (csE p.es)
  below : Bel w wr
  base : w.heap.size ≤ B
theorem HB.bel {w wr wr' : World} {B n : Nat} {F : List UInt8 → Bool} {s : Nat} {p : M.Pg} {x : Value} (h : HB w wr B n F s p x) (k : Bel wr wr') : HB w wr' B n F s p x :=
  ⟨h.b0.below k h.b0.lt, h.map.bel k, own_bel h.ox k, h.below.tr k, h.base⟩
theorem HB.start (w w1 : World) (k : Bel w w1) : HB w ((w1.alloc (.cells #[.int .i64 0, .int .i64 3, .int .i64 0, .int .i64 0, .string ⟨#[]⟩, .slice none 0 0] 30)).alloc (.map #[] 0)) w1.heap.size 0 (fun _ => false) 0 ⟨0, 3, 0, 0, [], []⟩ (.slice none 0 0) := by
  have h := MapS.new (w1.alloc (.cells #[.int .i64 0, .int .i64 3, .int .i64 0, .int .i64 0, .string ⟨#[]⟩, .slice none 0 0] 30))
  have e : (w1.alloc (.cells #[.int .i64 0, .int .i64 3, .int .i64 0, .int .i64 0, .string ⟨#[]⟩, .slice none 0 0] 30)).heap.size = w1.heap.size + 1 := by simp
  rw [e] at h
  exact ⟨Blk.al (Blk.new _ _ _) _, h, World.ownsRow_nil _ _ _ _, Bel.al (Bel.al k _) _, k.size⟩
theorem HB.other {w W : World} {B B' n : Nat} {F : List UInt8 → Bool} {s : Nat} {p : M.Pg} {x : Value} (h : HB w W B n F s p x) (hB : B + 1 < B') (h1 : some B' ≠ x.ownBlock) (j : Nat) (v : Value) : HB w (W.setCell ⟨B', j, none⟩ v) B n F s p x :=
  ⟨blk_other h.b0 (by omega) _ _, h.map.same (Below.heap_setCell _ _ _ _ (by show _ ≠ B'; omega)), ownsRow_setCell_other (a := ⟨B', j, none⟩) h.ox (fun e => h1 e.symm) v, Below.setCell h.below (show w.heap.size ≤ B' by have := h.base; omega) v, h.base⟩
theorem HB.put {w W : World} {B base n s : Nat} {F : List UInt8 → Bool} {p r : M.Pg} {x : Value} {a : Option Addr} {c : Nat} (h : HB w W B n F s p x) (o : W.ownsRow base 40 3 (.slice a r.es.length c) r.es.length (csE r.es)) (hb : B + 1 + 1 ≤ base) : HB w ((((((W.setCell ⟨B, 0, none⟩ (.int .i64 r.lsn)).setCell ⟨B, 1, none⟩ (.int .i64 r.kind)).setCell ⟨B, 2, none⟩ (.int .i64 r.level)).setCell ⟨B, 3, none⟩ (.int .i64 r.right)).setCell ⟨B, 4, none⟩ (.string (M.bs r.high))).setCell ⟨B, 5, none⟩ (.slice a r.es.length c)) B n F s r (.slice a r.es.length c) :=
  ⟨set6 h.b0 _ _ _ _ _ _, h.map.same ((Below.heap_setCell _ _ _ _ (by show B + 1 ≠ B; omega)).trans ((Below.heap_setCell _ _ _ _ (by show B + 1 ≠ B; omega)).trans ((Below.heap_setCell _ _ _ _ (by show B + 1 ≠ B; omega)).trans ((Below.heap_setCell _ _ _ _ (by show B + 1 ≠ B; omega)).trans ((Below.heap_setCell _ _ _ _ (by show B + 1 ≠ B; omega)).trans (Below.heap_setCell _ _ _ _ (by show B + 1 ≠ B; omega))))))),
    own_base (ownc6 o (row_ne o h.b0 (by decide)) _ _ _ _ _ _) hb, bel6 h.below h.base _ _ _ _ _ _, h.base⟩
theorem HB.turn {w W W' : World} {B n n' s s' : Nat} {F F' : List UInt8 → Bool} {p : M.Pg} {x : Value} (h : HB w W B n F s p x) (hm : MapS W' (B + 1) n' F' s') (ht : W.mapTurned W' (B + 1)) : HB w W' B n' F' s' p x := by
  have hb := h.b0.lt
  have hg := ht.grown
  exact ⟨(turned_block ht hb (by omega)).trans h.b0, hm, World.ownsRow.kept h.ox hg (by
    cases e : x.ownBlock with
    | none => exact .inl rfl
    | some k => exact .inr (by have := (h.ox.lt k e).1; simp; omega)), Below.grown h.below hg h.below.size (fun k hk => by cases hk; have := h.base; omega), h.base⟩
theorem remove_yes (p : M.Pg) (x : Value) (k : List UInt8) (w : World) (hs : Sm p) (hv : Vs w x p.es) (hu : M.Up M.cfS p.es) (hh : M.has M.cfS p.es k = true) :
    Calls Try.prog 16 #[pv p x, .string (M.bs k)] w fun e w' => ∃ x', e = .returned (.tuple #[pv { p with es := M.del M.cfS p.es k } x', .int .i64 0]) ∧ w'.ownsRow w.heap.size 40 3 x' (M.del M.cfS p.es k).length (csE (M.del M.cfS p.es k)) ∧ Bel w w' := by
  rcases hv with ⟨rfl, h0⟩ | ⟨b, off, cap, rfl, hc, hb, hr⟩
  · rw [h0] at hh; cases hh
  · exact remove_some p b off cap k w hs hc hb hr hu hh
theorem remove_step {p : M.Pg} (h : HI p) (x : Value) (k : List UInt8) (w : World) (hv : Vs w x p.es) (hh : M.has M.cfS p.es k = true) :
    ∃ r, HI r ∧ r.es.length + 1 = p.es.length ∧ (∀ k', M.has M.cfS r.es k' = (!decide (k' = k) && M.has M.cfS p.es k')) ∧ Calls Try.prog 16 #[pv p x, .string (M.bs k)] w fun e w' => ∃ x', e = .returned (.tuple #[pv r x', .int .i64 0]) ∧ w'.ownsRow w.heap.size 40 3 x' r.es.length (csE r.es) ∧ Bel w w' :=
  ⟨_, (h.del k hh).1, (h.del k hh).2, has_del p.es h.up k, remove_yes p x k w h.sm hv h.up hh⟩
theorem blk_cells3 {W : World} {B : Nat} {t : TypeId} {a0 a1 a2 : Value} (h : Blk W B #[a0, a1, a2] t) : W.cell? ⟨B, 0, none⟩ = some a0 ∧ W.cell? ⟨B, 1, none⟩ = some a1 ∧ W.cell? ⟨B, 2, none⟩ = some a2 :=
  ⟨by rw [h.cell]; rfl, by rw [h.cell]; rfl, by rw [h.cell]; rfl⟩
theorem lenL {ops : Array Oper} {rest : List Oper} {o : Oper} {a : Go.Act} {Q : Exit → Go.Act → World → Prop} {W : World} {t : TypeId} {v v' : Value} (hgd : o.guard = none) (s : Operand)
    (ho : o.op = .call { callee := .builtin .len, args := #[s], argTypes := #[t] }) (hs : a.eval s = v) (hr : (Builtin.len_ #[t] o.type #[v]).run Try.prog W = .ok v' W)
    (h : wpList Try.prog ops Q rest (a.put o.dst v') W) : wpList Try.prog ops Q (o :: rest) a W :=
  wpList_plain hgd fun _ hK => by
    unfold Oper.wp execOp
    simp only [ho, resolve, invoke, builtin, Sem.run_bind, Sem.run_pure, Result.andThen_ok, List.map_toArray, List.map_cons, List.map_nil, hs, hr]
    exact hK _ _ h
theorem delL {ops : Array Oper} {rest : List Oper} {o : Oper} {a : Go.Act} {Q : Exit → Go.Act → World → Prop} {W W' : World} {t u : TypeId} {v xv v' : Value} (hgd : o.guard = none) (s x : Operand)
    (ho : o.op = .call { callee := .builtin .delete, args := #[s, x], argTypes := #[t, u] }) (hs : a.eval s = v) (hx : a.eval x = xv) (hr : (Builtin.delete_ #[t, u] o.type #[v, xv]).run Try.prog W = .ok v' W')
    (h : wpList Try.prog ops Q rest (a.put o.dst v') W') : wpList Try.prog ops Q (o :: rest) a W :=
  wpList_plain hgd fun _ hK => by
    unfold Oper.wp execOp
    simp only [ho, resolve, invoke, builtin, Sem.run_bind, Sem.run_pure, Result.andThen_ok, List.map_toArray, List.map_cons, List.map_nil, hs, hx, hr]
    exact hK _ _ h
theorem wp_join {P : Program} {s : Code} {K : Go.Act → World → Prop} {a : Go.Act} {w : World} (f : Go.Act → Go.Act) (R : World → Prop) (h : s.wp P (fun e a' w' => e = .normal ∧ a' = f a ∧ R w') a w) (k : ∀ w', R w' → K (f a) w') : s.wp P (fun e a w => e = .normal ∧ K a w) a w :=
  wp_mono h (by rintro e a' w' ⟨rfl, rfl, hr⟩; exact ⟨rfl, k w' hr⟩)
set_option maxHeartbeats 40000000 in
theorem holds_any (L : List M.En) (ar : Option Addr) (cap : Nat) (w : World) (hv : Vals w (.slice ar L.length cap) L) (hL : L.length ≤ maxLen) (hk : ∀ e ∈ L, e.1.length ≤ maxLen ∧ e.2.1.length ≤ maxLen) :
    Calls Try.prog 5 #[.slice ar L.length cap] w fun e w' => e = .returned (.bool true) ∧ Bel w w' := by
  unfold maxLen at hL
  have HV := hid hv
  have HK := hid hk
  clear hv hk
  have hmm := @run_makeMap Try.prog
  go_enter Try.func5, Try.ntmps5
  go_wp2_with (go_at_call 8; refine (speaks_any _).mono ?_; rintro e w1 ⟨rfl, hb1⟩; have T0 := hid (HB.start w w1 hb1); clear hb1)
  generalize hB : w1.heap.size = B at *
  go_loopw [5] (fun iv wr => ∃ (i n : Nat) (p : M.Pg) (a : Option Addr) (c : Nat), i ≤ L.length ∧ i ≤ 60 ∧ n ≤ i ∧ iv = .int .i64 i ∧ Hid (HI p) ∧ Hid (HB w wr B n (M.has M.cfS p.es) p.es.length p (.slice a p.es.length c))) (fun iv _ => L.length - (intOf iv).toNat)
  case atStart => exact ⟨0, 0, _, none, 0, by omega, by omega, by omega, rfl, hid hi_new, T0⟩
  case round =>
    obtain ⟨i, n, p, a, c, hi, hi6, hni, rfl, HP, HT⟩ := hrel
    by_cases hlt : i < L.length
    · have hin : (i : Int) < (L.length : Int) := by omega
      by_cases hl6 : i < 60
      · have hin6 : (i : Int) < 60 := by omega
        obtain ⟨b, off, har, hr⟩ : ∃ b off, ar = some ⟨b, off, none⟩ ∧ Row3 w b off L := by
          obtain ⟨a0, c0, e, h⟩ := HV.out
          cases e
          exact h.resolve_left (fun h => by rw [h] at hlt; simp at hlt)
        subst har
        have hb : b < w.heap.size := hr.lt (by omega)
        have HROW : Hid (∀ W, Bel w W → Row3 W b off L) := fun W hW => hr.below hW hb
        clear hr
        obtain ⟨s0, s1, s2⟩ := HROW.out _ HT.out.below i hlt
        have HK1 : Hid ((L[i]'hlt).1.length ≤ 9223372036854775807 ∧ (L[i]'hlt).2.1.length ≤ 9223372036854775807) := by have := HK.out _ (List.getElem_mem hlt); unfold maxLen at this; exact ⟨by omega, by omega⟩
        have HMK : Hid (∀ W, Bel w W → W.cell? ⟨b, off + i * 3 + 2, none⟩ = some (.bool (L[i]'hlt).2.2)) := fun W hW => (HROW.out W hW i hlt).2.2
        obtain ⟨g, hg⟩ : ∃ g, g = wr.heap.size := ⟨_, rfl⟩
        generalize (L[i]'hlt).2.1 = vv at *
        generalize (L[i]'hlt).2.2 = mm at *
        generalize (L[i]'hlt).1 = kk at *
        have HE6 : Hid (Blk (wr.alloc (.cells #[.string (M.bs kk), .string (M.bs vv), .bool mm] 40)) g #[.string (M.bs kk), .string (M.bs vv), .bool mm] 40) := by rw [hg]; exact Blk.new _ _ _
        have T6 := hid (HT.out.bel (Bel.al (Below.refl _ _) (.cells #[.string (M.bs kk), .string (M.bs vv), .bool mm] 40)))
        have HG : Hid (B + 1 < g ∧ some g ≠ (Value.slice a p.es.length c).ownBlock) := ⟨by rw [hg]; exact HT.out.map.lt, fun e => by have := (HT.out.ox.lt g e.symm).2; omega⟩
        go_wp2_with fail
        rw [← hg]
        generalize wr.alloc (.cells #[.string (M.bs kk), .string (M.bs vv), .bool mm] 40) = w6 at *
        clear s0 s1 s2 hg HT
        refine wp_last fun KL hKL => ?_
        have HL := hid hKL
        clear hKL
        have hzk : (M.bs kk).size = kk.length := M.bs_size _
        have hzv : (M.bs vv).size = vv.length := M.bs_size _
        have cek := cutN kk 64
        have cev := cutN vv 100
        obtain ⟨nk, hnk, hnk'⟩ : ∃ nk : Nat, min (kk.length : Int) 64 = (nk : Int) ∧ nk ≤ kk.length := ⟨min kk.length 64, by omega, by omega⟩
        obtain ⟨nv, hnv, hnv'⟩ : ∃ nv : Nat, min (vv.length : Int) 100 = (nv : Int) ∧ nv ≤ vv.length := ⟨min vv.length 100, by omega, by omega⟩
        rw [show ((64 : Nat) : Int) = 64 from rfl, hnk, Int.toNat_natCast] at cek
        rw [show ((100 : Nat) : Int) = 100 from rfl, hnv, Int.toNat_natCast] at cev
        obtain ⟨hlk, hlv⟩ := HK1.out
        have HXK : Hid ((kk.take 64).length ≤ 64) := by show _ ≤ _; rw [List.length_take]; omega
        have HXV : Hid ((vv.take 100).length ≤ 100) := by show _ ≤ _; rw [List.length_take]; omega
        generalize kk.take 64 = xk at *
        generalize vv.take 100 = xv at *
        refine wp_join (fun a => ((((((((((((((((a.put (some 29) (.pointer (some ⟨g, 0, none⟩))).put (some 30) (.string (M.bs kk))).put (some 31) (.pointer (some ⟨g, 0, none⟩))).put (some 32) (.string (M.bs kk))).put (some 33) (.int .i64 (kk.length : Nat))).put (some 34) (.int .i64 (nk : Nat))).put (some 35) (.string (M.bs xk))).put (some 36) (.pointer (some ⟨g, 1, none⟩))).put (some 37) (.string (M.bs vv))).put (some 38) (.pointer (some ⟨g, 1, none⟩))).put (some 39) (.string (M.bs vv))).put (some 40) (.int .i64 (vv.length : Nat))).put (some 41) (.int .i64 (nv : Nat))).put (some 42) (.string (M.bs xv))).put (some 43) (.pointer (some ⟨g, 0, none⟩))).put (some 44) (.pointer (some ⟨g, 1, none⟩)))) (fun W => Blk W g #[.string (M.bs xk), .string (M.bs xv), .bool mm] 40 ∧ HB w W B n (M.has M.cfS p.es) p.es.length p (.slice a p.es.length c)) ?_ ?_
        · refine region_until (S := fun W : World => W.cell? ⟨g, 1, none⟩ = some (.string (M.bs vv))) (m := 17) (by kernel_rfl) ?_
          have E7 : Hid (Blk w6.drew g #[.string (M.bs kk), .string (M.bs vv), .bool mm] 40) := HE6.out
          have T7 := hid (T6.out.bel (Bel.dr (Below.refl _ _)))
          generalize w6.drew = w7 at *
          have hS : w7.cell? ⟨g, 1, none⟩ = some (.string (M.bs vv)) := by rw [E7.out.cell]; rfl
          have s0 : w7.cell? ⟨g, 0, none⟩ = some (.string (M.bs kk)) := by rw [E7.out.cell]; rfl
          refine take_next (i := 0) (.pointer (some ⟨g, 0, none⟩)) [1, 6, 15, 17] (by kernel_rfl) (by kernel_rfl) rfl (by kernel_rfl) (by kernel_rfl) (by kernel_rfl) (by kernel_rfl) (fun _ _ _ h => absurd h.1 (by simp)) (Or.inl ⟨by rfl, fun w' hSw => by go_simp⟩) hS ?_
          try simp only [Act.put]
          refine take_next (i := 2) (.pointer (some ⟨g, 0, none⟩)) [3, 4, 5, 6, 15, 17] (by kernel_rfl) (by kernel_rfl) rfl (by kernel_rfl) (by kernel_rfl) (by kernel_rfl) (by kernel_rfl) (fun _ _ _ h => absurd h.1 (by simp)) (Or.inl ⟨by rfl, fun w' hSw => by go_simp⟩) hS ?_
          try simp only [Act.put]
          refine take_next (i := 7) (.pointer (some ⟨g, 1, none⟩)) [8, 13, 17] (by kernel_rfl) (by kernel_rfl) rfl (by kernel_rfl) (by kernel_rfl) (by kernel_rfl) (by kernel_rfl) (fun _ _ _ h => absurd h.1 (by simp)) (Or.inl ⟨by rfl, fun w' hSw => by go_simp⟩) hS ?_
          try simp only [Act.put]
          refine take_next (i := 8) (.string (M.bs vv)) [13, 17] (by kernel_rfl) (by kernel_rfl) rfl (by kernel_rfl) (by kernel_rfl) (by kernel_rfl) (by kernel_rfl) (fun _ _ _ h => absurd h.1 (by simp)) (Or.inl ⟨by rfl, fun w' hSw => by go_simp⟩) hS ?_
          try simp only [Act.put]
          refine take_next (i := 9) (.pointer (some ⟨g, 1, none⟩)) [10, 11, 12, 13, 17] (by kernel_rfl) (by kernel_rfl) rfl (by kernel_rfl) (by kernel_rfl) (by kernel_rfl) (by kernel_rfl) (fun _ _ _ h => absurd h.1 (by simp)) (Or.inl ⟨by rfl, fun w' hSw => by go_simp⟩) hS ?_
          try simp only [Act.put]
          refine take_next (i := 10) (.string (M.bs vv)) [11, 12, 13, 17] (by kernel_rfl) (by kernel_rfl) rfl (by kernel_rfl) (by kernel_rfl) (by kernel_rfl) (by kernel_rfl) (fun _ _ _ h => absurd h.1 (by simp)) (Or.inl ⟨by rfl, fun w' hSw => by go_simp⟩) hS ?_
          try simp only [Act.put]
          refine take_next (i := 11) (.int .i64 (vv.length : Nat)) [12, 13, 17] (by kernel_rfl) (by kernel_rfl) rfl (by kernel_rfl) (by kernel_rfl) (by kernel_rfl) (by kernel_rfl) (fun _ _ _ h => absurd h.1 (by simp)) (Or.inl ⟨by rfl, fun w' hSw => by go_simp⟩) hS ?_
          try simp only [Act.put]
          refine take_next (i := 12) (.int .i64 (nv : Nat)) [13, 17] (by kernel_rfl) (by kernel_rfl) rfl (by kernel_rfl) (by kernel_rfl) (by kernel_rfl) (by kernel_rfl) (fun _ _ _ h => absurd h.1 (by simp)) (Or.inl ⟨by rfl, fun w' hSw => by go_simp⟩) hS ?_
          try simp only [Act.put]
          refine take_next (i := 13) (.string (M.bs xv)) [17] (by kernel_rfl) (by kernel_rfl) rfl (by kernel_rfl) (by kernel_rfl) (by kernel_rfl) (by kernel_rfl) (fun _ _ _ h => absurd h.1 (by simp)) (Or.inl ⟨by rfl, fun w' hSw => by go_simp⟩) hS ?_
          try simp only [Act.put]
          refine until_ready (rs := [1, 3]) (by kernel_rfl) (by simp) ?_
          intro jj hjj
          simp only [List.mem_cons, List.not_mem_nil, or_false] at hjj
          rcases hjj with rfl | rfl
          · skip
            refine wpOp_step rfl (fun KX hKX => ?_)
            have HX := hid hKX
            clear hKX
            go_simp
            refine HX.out _ _ ⟨fun _ => hS, ?_⟩
            clear HX
            try simp only [Act.put]
            refine until_step (j := 3) (by kernel_rfl) rfl (by kernel_rfl) (fun KX hKX => ?_)
            have HX := hid hKX
            clear hKX
            go_simp
            refine HX.out _ _ ⟨fun _ => hS, ?_⟩
            clear HX
            try simp only [Act.put]
            refine until_step (j := 4) (by kernel_rfl) rfl (by kernel_rfl) (fun KX hKX => ?_)
            have HX := hid hKX
            clear hKX
            go_simp
            refine HX.out _ _ ⟨fun _ => hS, ?_⟩
            clear HX
            try simp only [Act.put]
            refine until_step (j := 5) (by kernel_rfl) rfl (by kernel_rfl) (fun KX hKX => ?_)
            have HX := hid hKX
            clear hKX
            go_simp
            refine HX.out _ _ ⟨fun _ => hS, ?_⟩
            clear HX
            try simp only [Act.put]
            refine until_step (j := 6) (by kernel_rfl) rfl (by kernel_rfl) (fun KX hKX => ?_)
            have HX := hid hKX
            clear hKX
            go_simp
            refine HX.out _ _ ⟨fun _ => hS, ?_⟩
            clear HX
            try simp only [Act.put]
            refine until_step (j := 14) (by kernel_rfl) rfl (by kernel_rfl) (fun KX hKX => ?_)
            have HX := hid hKX
            clear hKX
            go_simp
            refine HX.out _ _ ⟨fun _ => hS, ?_⟩
            clear HX
            try simp only [Act.put]
            have z0 := E7.out.frozen 0
            refine until_step (j := 15) (by kernel_rfl) rfl (by kernel_rfl) (fun KX hKX => ?_)
            have HX := hid hKX
            clear hKX
            go_simp
            have V1 : Hid (Blk (w7.setCell ⟨g, 0, none⟩ (.string (M.bs xk))) g #[.string (M.bs xk), .string (M.bs vv), .bool mm] 40) := hid (by
              have z := E7.out.set 0 (.string (M.bs xk))
              simpa using z)
            have VT := hid (T7.out.other (B' := g) HG.out.1 HG.out.2 0 (.string (M.bs xk)))
            have hS' : (w7.setCell ⟨g, 0, none⟩ (.string (M.bs xk))).cell? ⟨g, 1, none⟩ = some (.string (M.bs vv)) := by rw [V1.out.cell]; rfl
            refine HX.out _ _ ⟨fun _ => hS', ?_⟩
            clear HX E7 T7 z0 s0 hS
            generalize w7.setCell ⟨g, 0, none⟩ (.string (M.bs xk)) = w7b at *
            try simp only [Act.put]
            have z1 := V1.out.frozen 1
            refine until_step (j := 16) (by kernel_rfl) rfl (by kernel_rfl) (fun KX hKX => ?_)
            have HX := hid hKX
            clear hKX
            go_simp
            refine HX.out _ _ ⟨fun _ => hS', ?_⟩
            clear HX
            try simp only [Act.put]
            refine until_step (j := 17) (by kernel_rfl) rfl (by kernel_rfl) (fun KX hKX => ?_)
            have HX := hid hKX
            clear hKX
            go_simp
            have U1 : Hid (Blk (w7b.setCell ⟨g, 1, none⟩ (.string (M.bs xv))) g #[.string (M.bs xk), .string (M.bs xv), .bool mm] 40) := hid (by
              have z := V1.out.set 1 (.string (M.bs xv))
              simpa using z)
            have UT := hid (VT.out.other (B' := g) HG.out.1 HG.out.2 1 (.string (M.bs xv)))
            refine HX.out _ _ ⟨(fun h => by cases (Eq.trans (Eq.symm (show _ = true by kernel_rfl)) h)), ?_⟩
            clear HX
            refine until_done (by kernel_rfl) ⟨rfl, ?_⟩ _
            exact ⟨by kernel_rfl, U1.out, UT.out⟩
          · skip
            refine wpOp_step rfl (fun KX hKX => ?_)
            have HX := hid hKX
            clear hKX
            go_simp
            refine HX.out _ _ ⟨fun _ => hS, ?_⟩
            clear HX
            try simp only [Act.put]
            refine until_ready (rs := [1, 4]) (by kernel_rfl) (by simp) ?_
            intro jj hjj
            simp only [List.mem_cons, List.not_mem_nil, or_false] at hjj
            rcases hjj with rfl | rfl
            · skip
              refine wpOp_step rfl (fun KX hKX => ?_)
              have HX := hid hKX
              clear hKX
              go_simp
              refine HX.out _ _ ⟨fun _ => hS, ?_⟩
              clear HX
              try simp only [Act.put]
              refine until_step (j := 4) (by kernel_rfl) rfl (by kernel_rfl) (fun KX hKX => ?_)
              have HX := hid hKX
              clear hKX
              go_simp
              refine HX.out _ _ ⟨fun _ => hS, ?_⟩
              clear HX
              try simp only [Act.put]
              refine until_step (j := 5) (by kernel_rfl) rfl (by kernel_rfl) (fun KX hKX => ?_)
              have HX := hid hKX
              clear hKX
              go_simp
              refine HX.out _ _ ⟨fun _ => hS, ?_⟩
              clear HX
              try simp only [Act.put]
              refine until_step (j := 6) (by kernel_rfl) rfl (by kernel_rfl) (fun KX hKX => ?_)
              have HX := hid hKX
              clear hKX
              go_simp
              refine HX.out _ _ ⟨fun _ => hS, ?_⟩
              clear HX
              try simp only [Act.put]
              refine until_step (j := 14) (by kernel_rfl) rfl (by kernel_rfl) (fun KX hKX => ?_)
              have HX := hid hKX
              clear hKX
              go_simp
              refine HX.out _ _ ⟨fun _ => hS, ?_⟩
              clear HX
              try simp only [Act.put]
              have z0 := E7.out.frozen 0
              refine until_step (j := 15) (by kernel_rfl) rfl (by kernel_rfl) (fun KX hKX => ?_)
              have HX := hid hKX
              clear hKX
              go_simp
              have V1 : Hid (Blk (w7.setCell ⟨g, 0, none⟩ (.string (M.bs xk))) g #[.string (M.bs xk), .string (M.bs vv), .bool mm] 40) := hid (by
                have z := E7.out.set 0 (.string (M.bs xk))
                simpa using z)
              have VT := hid (T7.out.other (B' := g) HG.out.1 HG.out.2 0 (.string (M.bs xk)))
              have hS' : (w7.setCell ⟨g, 0, none⟩ (.string (M.bs xk))).cell? ⟨g, 1, none⟩ = some (.string (M.bs vv)) := by rw [V1.out.cell]; rfl
              refine HX.out _ _ ⟨fun _ => hS', ?_⟩
              clear HX E7 T7 z0 s0 hS
              generalize w7.setCell ⟨g, 0, none⟩ (.string (M.bs xk)) = w7b at *
              try simp only [Act.put]
              have z1 := V1.out.frozen 1
              refine until_step (j := 16) (by kernel_rfl) rfl (by kernel_rfl) (fun KX hKX => ?_)
              have HX := hid hKX
              clear hKX
              go_simp
              refine HX.out _ _ ⟨fun _ => hS', ?_⟩
              clear HX
              try simp only [Act.put]
              refine until_step (j := 17) (by kernel_rfl) rfl (by kernel_rfl) (fun KX hKX => ?_)
              have HX := hid hKX
              clear hKX
              go_simp
              have U1 : Hid (Blk (w7b.setCell ⟨g, 1, none⟩ (.string (M.bs xv))) g #[.string (M.bs xk), .string (M.bs xv), .bool mm] 40) := hid (by
                have z := V1.out.set 1 (.string (M.bs xv))
                simpa using z)
              have UT := hid (VT.out.other (B' := g) HG.out.1 HG.out.2 1 (.string (M.bs xv)))
              refine HX.out _ _ ⟨(fun h => by cases (Eq.trans (Eq.symm (show _ = true by kernel_rfl)) h)), ?_⟩
              clear HX
              refine until_done (by kernel_rfl) ⟨rfl, ?_⟩ _
              exact ⟨by kernel_rfl, U1.out, UT.out⟩
            · skip
              refine wpOp_step rfl (fun KX hKX => ?_)
              have HX := hid hKX
              clear hKX
              go_simp
              refine HX.out _ _ ⟨fun _ => hS, ?_⟩
              clear HX
              try simp only [Act.put]
              refine until_ready (rs := [1, 5]) (by kernel_rfl) (by simp) ?_
              intro jj hjj
              simp only [List.mem_cons, List.not_mem_nil, or_false] at hjj
              rcases hjj with rfl | rfl
              · skip
                refine wpOp_step rfl (fun KX hKX => ?_)
                have HX := hid hKX
                clear hKX
                go_simp
                refine HX.out _ _ ⟨fun _ => hS, ?_⟩
                clear HX
                try simp only [Act.put]
                refine until_step (j := 5) (by kernel_rfl) rfl (by kernel_rfl) (fun KX hKX => ?_)
                have HX := hid hKX
                clear hKX
                go_simp
                refine HX.out _ _ ⟨fun _ => hS, ?_⟩
                clear HX
                try simp only [Act.put]
                refine until_step (j := 6) (by kernel_rfl) rfl (by kernel_rfl) (fun KX hKX => ?_)
                have HX := hid hKX
                clear hKX
                go_simp
                refine HX.out _ _ ⟨fun _ => hS, ?_⟩
                clear HX
                try simp only [Act.put]
                refine until_step (j := 14) (by kernel_rfl) rfl (by kernel_rfl) (fun KX hKX => ?_)
                have HX := hid hKX
                clear hKX
                go_simp
                refine HX.out _ _ ⟨fun _ => hS, ?_⟩
                clear HX
                try simp only [Act.put]
                have z0 := E7.out.frozen 0
                refine until_step (j := 15) (by kernel_rfl) rfl (by kernel_rfl) (fun KX hKX => ?_)
                have HX := hid hKX
                clear hKX
                go_simp
                have V1 : Hid (Blk (w7.setCell ⟨g, 0, none⟩ (.string (M.bs xk))) g #[.string (M.bs xk), .string (M.bs vv), .bool mm] 40) := hid (by
                  have z := E7.out.set 0 (.string (M.bs xk))
                  simpa using z)
                have VT := hid (T7.out.other (B' := g) HG.out.1 HG.out.2 0 (.string (M.bs xk)))
                have hS' : (w7.setCell ⟨g, 0, none⟩ (.string (M.bs xk))).cell? ⟨g, 1, none⟩ = some (.string (M.bs vv)) := by rw [V1.out.cell]; rfl
                refine HX.out _ _ ⟨fun _ => hS', ?_⟩
                clear HX E7 T7 z0 s0 hS
                generalize w7.setCell ⟨g, 0, none⟩ (.string (M.bs xk)) = w7b at *
                try simp only [Act.put]
                have z1 := V1.out.frozen 1
                refine until_step (j := 16) (by kernel_rfl) rfl (by kernel_rfl) (fun KX hKX => ?_)
                have HX := hid hKX
                clear hKX
                go_simp
                refine HX.out _ _ ⟨fun _ => hS', ?_⟩
                clear HX
                try simp only [Act.put]
                refine until_step (j := 17) (by kernel_rfl) rfl (by kernel_rfl) (fun KX hKX => ?_)
                have HX := hid hKX
                clear hKX
                go_simp
                have U1 : Hid (Blk (w7b.setCell ⟨g, 1, none⟩ (.string (M.bs xv))) g #[.string (M.bs xk), .string (M.bs xv), .bool mm] 40) := hid (by
                  have z := V1.out.set 1 (.string (M.bs xv))
                  simpa using z)
                have UT := hid (VT.out.other (B' := g) HG.out.1 HG.out.2 1 (.string (M.bs xv)))
                refine HX.out _ _ ⟨(fun h => by cases (Eq.trans (Eq.symm (show _ = true by kernel_rfl)) h)), ?_⟩
                clear HX
                refine until_done (by kernel_rfl) ⟨rfl, ?_⟩ _
                exact ⟨by kernel_rfl, U1.out, UT.out⟩
              · skip
                refine wpOp_step rfl (fun KX hKX => ?_)
                have HX := hid hKX
                clear hKX
                go_simp
                refine HX.out _ _ ⟨fun _ => hS, ?_⟩
                clear HX
                try simp only [Act.put]
                refine until_step (j := 1) (by kernel_rfl) rfl (by kernel_rfl) (fun KX hKX => ?_)
                have HX := hid hKX
                clear hKX
                go_simp
                refine HX.out _ _ ⟨fun _ => hS, ?_⟩
                clear HX
                try simp only [Act.put]
                refine until_step (j := 6) (by kernel_rfl) rfl (by kernel_rfl) (fun KX hKX => ?_)
                have HX := hid hKX
                clear hKX
                go_simp
                refine HX.out _ _ ⟨fun _ => hS, ?_⟩
                clear HX
                try simp only [Act.put]
                refine until_step (j := 14) (by kernel_rfl) rfl (by kernel_rfl) (fun KX hKX => ?_)
                have HX := hid hKX
                clear hKX
                go_simp
                refine HX.out _ _ ⟨fun _ => hS, ?_⟩
                clear HX
                try simp only [Act.put]
                have z0 := E7.out.frozen 0
                refine until_step (j := 15) (by kernel_rfl) rfl (by kernel_rfl) (fun KX hKX => ?_)
                have HX := hid hKX
                clear hKX
                go_simp
                have V1 : Hid (Blk (w7.setCell ⟨g, 0, none⟩ (.string (M.bs xk))) g #[.string (M.bs xk), .string (M.bs vv), .bool mm] 40) := hid (by
                  have z := E7.out.set 0 (.string (M.bs xk))
                  simpa using z)
                have VT := hid (T7.out.other (B' := g) HG.out.1 HG.out.2 0 (.string (M.bs xk)))
                have hS' : (w7.setCell ⟨g, 0, none⟩ (.string (M.bs xk))).cell? ⟨g, 1, none⟩ = some (.string (M.bs vv)) := by rw [V1.out.cell]; rfl
                refine HX.out _ _ ⟨fun _ => hS', ?_⟩
                clear HX E7 T7 z0 s0 hS
                generalize w7.setCell ⟨g, 0, none⟩ (.string (M.bs xk)) = w7b at *
                try simp only [Act.put]
                have z1 := V1.out.frozen 1
                refine until_step (j := 16) (by kernel_rfl) rfl (by kernel_rfl) (fun KX hKX => ?_)
                have HX := hid hKX
                clear hKX
                go_simp
                refine HX.out _ _ ⟨fun _ => hS', ?_⟩
                clear HX
                try simp only [Act.put]
                refine until_step (j := 17) (by kernel_rfl) rfl (by kernel_rfl) (fun KX hKX => ?_)
                have HX := hid hKX
                clear hKX
                go_simp
                have U1 : Hid (Blk (w7b.setCell ⟨g, 1, none⟩ (.string (M.bs xv))) g #[.string (M.bs xk), .string (M.bs xv), .bool mm] 40) := hid (by
                  have z := V1.out.set 1 (.string (M.bs xv))
                  simpa using z)
                have UT := hid (VT.out.other (B' := g) HG.out.1 HG.out.2 1 (.string (M.bs xv)))
                refine HX.out _ _ ⟨(fun h => by cases (Eq.trans (Eq.symm (show _ = true by kernel_rfl)) h)), ?_⟩
                clear HX
                refine until_done (by kernel_rfl) ⟨rfl, ?_⟩ _
                exact ⟨by kernel_rfl, U1.out, UT.out⟩
        clear hzk hzv cek cev hnk hnv hlk hlv HE6 T6
        rintro w8 ⟨hE8, hT8⟩
        have E8 := hid hE8
        have T8 := hid hT8
        clear hE8 hT8
        refine HL.out _ _ ?_
        clear HL
        try simp only [Act.put]
        have hmk := HMK.out w8 T8.out.below
        obtain ⟨k0, k1, k2⟩ : w8.cell? ⟨g, 0, none⟩ = some (.string (M.bs xk)) ∧ w8.cell? ⟨g, 1, none⟩ = some (.string (M.bs xv)) ∧ w8.cell? ⟨g, 2, none⟩ = some (.bool mm) := ⟨by rw [E8.out.cell]; rfl, by rw [E8.out.cell]; rfl, by rw [E8.out.cell]; rfl⟩
        have hlk := T8.out.map.look xk HXK.out
        cases hh : M.has M.cfS p.es xk with
        | true =>
          rw [hh] at hlk
          cases mm with
          | true =>
            have HREM0 := remove_step HP.out (.slice a p.es.length c) xk w8 (own_vs T8.out.ox) hh
            obtain ⟨r, HR, hrl, hrF, hrem⟩ := HREM0
            have HREM := hid hrem
            have HR := hid HR
            have HRF : Hid ((fun k' => !decide (k' = xk) && M.has M.cfS p.es k') = M.has M.cfS r.es) := funext fun k' => (hrF k').symm
            clear hrem hrF
            obtain ⟨t0, t1, t2, t3, t4, t5⟩ := blk_cells T8.out.b0
            go_wp2_with fail
            refine HREM.out.mono ?_
            rintro e w9 ⟨x2, rfl, o9, k9⟩
            obtain ⟨ax, cx, rfl⟩ := row_form o9
            have T9 := hid ((T8.out.bel k9).bel (Bel.al (Below.refl _ _) (.cells #[.int .i64 r.lsn, .int .i64 r.kind, .int .i64 r.level, .int .i64 r.right, .string (M.bs r.high), .slice ax r.es.length cx] 30)))
            have O9 := hid (own_bel o9 (Bel.al (Below.refl _ _) (.cells #[.int .i64 r.lsn, .int .i64 r.kind, .int .i64 r.level, .int .i64 r.right, .string (M.bs r.high), .slice ax r.es.length cx] 30)))
            have Z9 := hid T8.out.map.lt
            have E9 := hid ((E8.out.below k9 E8.out.lt).below (Bel.al (Below.refl _ _) (.cells #[.int .i64 r.lsn, .int .i64 r.kind, .int .i64 r.level, .int .i64 r.right, .string (M.bs r.high), .slice ax r.es.length cx] 30)) (E8.out.below k9 E8.out.lt).lt)
            clear o9 k9 t0 t1 t2 t3 t4 t5 k0 k1 k2 E8 T8 hlk hmk
            have hth : (w9.alloc (.cells #[.int .i64 r.lsn, .int .i64 r.kind, .int .i64 r.level, .int .i64 r.right, .string (M.bs r.high), .slice ax r.es.length cx] 30)).there B 0 (#[.int .i64 r.lsn, .int .i64 r.kind, .int .i64 r.level, .int .i64 r.right, .string (M.bs r.high), .slice ax r.es.length cx] : Array Value).size := fun j hj => by
              rw [T9.out.b0.cell, T9.out.b0.frozen]
              refine ⟨?_, rfl⟩
              have : j < 6 := hj
              simp
              omega
            have hone : (#[.int .i64 r.lsn, .int .i64 r.kind, .int .i64 r.level, .int .i64 r.right, .string (M.bs r.high), .slice ax r.es.length cx] : Array Value).all (·.oneCell') = true := by simp [Value.oneCell']
            have hi6 : (Try.prog.info? 30).map (·.size) = some (#[.int .i64 r.lsn, .int .i64 r.kind, .int .i64 r.level, .int .i64 r.right, .string (M.bs r.high), .slice ax r.es.length cx] : Array Value).size := by rw [info30]; rfl
            go_wp2_with (refine wpList_store_mid rfl 30 (.tmp 3) (.tmp 65) rfl B 0 #[.int .i64 r.lsn, .int .i64 r.kind, .int .i64 r.level, .int .i64 r.right, .string (M.bs r.high), .slice ax r.es.length cx] (by rfl) (by rfl) hth hi6 hone ?_; simp only [World.setCells, Nat.zero_add, Nat.reduceAdd]; have T10 := hid (T9.out.put O9.out (by have := Z9.out; omega)); have E10 := hid (other6 E9.out (show g ≠ B by have := HG.out.1; omega) (.int .i64 r.lsn) (.int .i64 r.kind) (.int .i64 r.level) (.int .i64 r.right) (.string (M.bs r.high)) (.slice ax r.es.length cx)); clear E9 O9 T9; clear hth; generalize (((((((w9.alloc (.cells #[.int .i64 r.lsn, .int .i64 r.kind, .int .i64 r.level, .int .i64 r.right, .string (M.bs r.high), .slice ax r.es.length cx] 30)).setCell ⟨B, 0, none⟩ (.int .i64 r.lsn)).setCell ⟨B, 1, none⟩ (.int .i64 r.kind)).setCell ⟨B, 2, none⟩ (.int .i64 r.level)).setCell ⟨B, 3, none⟩ (.int .i64 r.right)).setCell ⟨B, 4, none⟩ (.string (M.bs r.high))).setCell ⟨B, 5, none⟩ (.slice ax r.es.length cx)) = w10 at *; clear hone hi6; obtain ⟨k0, k1, k2⟩ : w10.cell? ⟨g, 0, none⟩ = some (.string (M.bs xk)) ∧ w10.cell? ⟨g, 1, none⟩ = some (.string (M.bs xv)) ∧ w10.cell? ⟨g, 2, none⟩ = some (.bool true) := ⟨by rw [E10.out.cell]; rfl, by rw [E10.out.cell]; rfl, by rw [E10.out.cell]; rfl⟩; obtain ⟨w11, hdrun, hm11, ht11⟩ := T10.out.map.drop xk HXK.out hh 0)
            go_wp2_with (at_delete; refine delL rfl _ _ rfl rfl rfl hdrun ?_)
            have T11 := hid (T10.out.turn hm11 ht11)
            rw [HRF.out, show p.es.length - 1 = r.es.length by omega] at T11
            go_roundw
            case rel => exact ⟨i + 1, n, r, ax, cx, by omega, by omega, by omega, by go_num, HR, T11⟩
            case measure => simp [intOf]; omega
          | false =>
            have HINS := hid (insert_any p (.slice a p.es.length c) (xk, xv, false) w8 HP.out.sm (own_vs T8.out.ox) HP.out.up (by have := HXK.out; show xk.length ≤ _; omega) (by have := HXV.out; show xv.length ≤ _; omega))
            obtain ⟨r, hr⟩ : ∃ r, r = M.insP p (xk, xv, false) := ⟨_, rfl⟩
            have hE : M.insE p (xk, xv, false) = 12 := by
              have hti := HP.out.ins xk xv false HXK.out HXV.out
              rw [hh] at hti
              rcases hti with ⟨_, h⟩ | ⟨h, _⟩ | ⟨h, _⟩
              · exact h
              · cases h
              · cases h
            have HINS := HINS.out
            rw [← hr, hE] at HINS
            have HINS := hid HINS
            clear hr hE
            obtain ⟨t0, t1, t2, t3, t4, t5⟩ := blk_cells T8.out.b0
            go_wp2_with fail
            refine HINS.out.mono ?_
            rintro e w9 ⟨x2, rfl, o9, k9⟩
            obtain ⟨ax, cx, rfl⟩ := row_form o9
            have T9 := hid ((T8.out.bel k9).bel (Bel.al (Below.refl _ _) (.cells #[.int .i64 r.lsn, .int .i64 r.kind, .int .i64 r.level, .int .i64 r.right, .string (M.bs r.high), .slice ax r.es.length cx] 30)))
            have E9 := hid ((E8.out.below k9 E8.out.lt).below (Bel.al (Below.refl _ _) (.cells #[.int .i64 r.lsn, .int .i64 r.kind, .int .i64 r.level, .int .i64 r.right, .string (M.bs r.high), .slice ax r.es.length cx] 30)) (E8.out.below k9 E8.out.lt).lt)
            clear o9 k9 t0 t1 t2 t3 t4 t5 k0 k1 k2 E8 T8 hlk hmk
            have hlk := T9.out.map.look xk HXK.out
            rw [hh] at hlk
            obtain ⟨k0, k1, k2⟩ : (w9.alloc (.cells #[.int .i64 r.lsn, .int .i64 r.kind, .int .i64 r.level, .int .i64 r.right, .string (M.bs r.high), .slice ax r.es.length cx] 30)).cell? ⟨g, 0, none⟩ = some (.string (M.bs xk)) ∧ (w9.alloc (.cells #[.int .i64 r.lsn, .int .i64 r.kind, .int .i64 r.level, .int .i64 r.right, .string (M.bs r.high), .slice ax r.es.length cx] 30)).cell? ⟨g, 1, none⟩ = some (.string (M.bs xv)) ∧ (w9.alloc (.cells #[.int .i64 r.lsn, .int .i64 r.kind, .int .i64 r.level, .int .i64 r.right, .string (M.bs r.high), .slice ax r.es.length cx] 30)).cell? ⟨g, 2, none⟩ = some (.bool false) := ⟨by rw [E9.out.cell]; rfl, by rw [E9.out.cell]; rfl, by rw [E9.out.cell]; rfl⟩
            obtain ⟨t0, t1, t2, t3, t4, t5⟩ := blk_cells T9.out.b0
            have HRT : Hid (∀ W, Bel (w9.alloc (.cells #[.int .i64 r.lsn, .int .i64 r.kind, .int .i64 r.level, .int .i64 r.right, .string (M.bs r.high), .slice ax r.es.length cx] 30)) W → Calls Try.prog 20 #[pv p (.slice a p.es.length c)] W fun e w' => e = .returned (.bool true) ∧ Bel W w') := fun W hW => by
              have := right_leaf p (.slice a p.es.length c) W HP.out.sm (own_vs (T9.out.bel hW).ox) HP.out.kind (by rw [HP.out.level]; omega)
              rwa [HP.out.rises] at this
            have HFR : Hid (∀ W, Bel (w9.alloc (.cells #[.int .i64 r.lsn, .int .i64 r.kind, .int .i64 r.level, .int .i64 r.right, .string (M.bs r.high), .slice ax r.es.length cx] 30)) W → Calls Try.prog 22 #[pv p (.slice a p.es.length c)] W fun e w' => e = .returned (.int .i64 (M.free p)) ∧ Bel W w') := fun W hW => free_any p (.slice a p.es.length c) W HP.out.sm (own_vs (T9.out.bel hW).ox).vals
            have hfr := HP.out.free
            have hfr' : ¬ M.free p < 0 := by omega
            go_wp2_with (first
              | (go_at_call 20; refine (HRT.out _ (Below.refl _ _)).mono ?_; rintro e w20 ⟨rfl, k20⟩; have T20 := hid (T9.out.bel k20); obtain ⟨t0, t1, t2, t3, t4, t5⟩ := blk_cells T20.out.b0)
              | (go_at_call 22; refine (HFR.out _ k20).mono ?_; rintro e w21 ⟨rfl, k21⟩; have T21 := hid (T20.out.bel k21); clear t0 t1 t2 t3 t4 t5; obtain ⟨t0, t1, t2, t3, t4, t5⟩ := blk_cells T21.out.b0; have hml := T21.out.map.len 3))
            go_roundw
            case rel => exact ⟨i + 1, n, p, a, c, by omega, by omega, by omega, by go_num, HP, T21⟩
            case measure => simp [intOf]; omega
        | false =>
          rw [hh] at hlk
          have HINS := hid (insert_any p (.slice a p.es.length c) (xk, xv, mm) w8 HP.out.sm (own_vs T8.out.ox) HP.out.up (by have := HXK.out; show xk.length ≤ _; omega) (by have := HXV.out; show xv.length ≤ _; omega))
          obtain ⟨r, hr⟩ : ∃ r, r = M.insP p (xk, xv, mm) := ⟨_, rfl⟩
          have hti := HP.out.ins xk xv mm HXK.out HXV.out
          have HINS := HINS.out
          rw [← hr] at HINS hti
          clear hr
          rcases hti with ⟨h, _⟩ | ⟨_, hE, hfull⟩ | ⟨_, hE, HR0, hrl, hrF⟩
          · rw [hh] at h; cases h
          · rw [hE] at HINS
            have HINS := hid HINS
            clear hE
            obtain ⟨t0, t1, t2, t3, t4, t5⟩ := blk_cells T8.out.b0
            go_wp2_with fail
            refine HINS.out.mono ?_
            rintro e w9 ⟨x2, rfl, o9, k9⟩
            obtain ⟨ax, cx, rfl⟩ := row_form o9
            have T9 := hid ((T8.out.bel k9).bel (Bel.al (Below.refl _ _) (.cells #[.int .i64 r.lsn, .int .i64 r.kind, .int .i64 r.level, .int .i64 r.right, .string (M.bs r.high), .slice ax r.es.length cx] 30)))
            have E9 := hid ((E8.out.below k9 E8.out.lt).below (Bel.al (Below.refl _ _) (.cells #[.int .i64 r.lsn, .int .i64 r.kind, .int .i64 r.level, .int .i64 r.right, .string (M.bs r.high), .slice ax r.es.length cx] 30)) (E8.out.below k9 E8.out.lt).lt)
            clear o9 k9 t0 t1 t2 t3 t4 t5 k0 k1 k2 E8 T8 hlk hmk
            have hlk := T9.out.map.look xk HXK.out
            rw [hh] at hlk
            obtain ⟨k0, k1, k2⟩ : (w9.alloc (.cells #[.int .i64 r.lsn, .int .i64 r.kind, .int .i64 r.level, .int .i64 r.right, .string (M.bs r.high), .slice ax r.es.length cx] 30)).cell? ⟨g, 0, none⟩ = some (.string (M.bs xk)) ∧ (w9.alloc (.cells #[.int .i64 r.lsn, .int .i64 r.kind, .int .i64 r.level, .int .i64 r.right, .string (M.bs r.high), .slice ax r.es.length cx] 30)).cell? ⟨g, 1, none⟩ = some (.string (M.bs xv)) ∧ (w9.alloc (.cells #[.int .i64 r.lsn, .int .i64 r.kind, .int .i64 r.level, .int .i64 r.right, .string (M.bs r.high), .slice ax r.es.length cx] 30)).cell? ⟨g, 2, none⟩ = some (.bool mm) := ⟨by rw [E9.out.cell]; rfl, by rw [E9.out.cell]; rfl, by rw [E9.out.cell]; rfl⟩
            obtain ⟨t0, t1, t2, t3, t4, t5⟩ := blk_cells T9.out.b0
            go_wp2_with fail
            clear t0 t1 t2 t3 t4 t5 k0 k1 k2 hlk
            generalize (w9.alloc (.cells #[.int .i64 r.lsn, .int .i64 r.kind, .int .i64 r.level, .int .i64 r.right, .string (M.bs r.high), .slice ax r.es.length cx] 30)) = w10 at *
            refine wp_last fun KL hKL => ?_
            have HL := hid hKL
            clear hKL
            refine region_until (S := fun W : World => Blk W B #[.int .i64 p.lsn, .int .i64 p.kind, .int .i64 p.level, .int .i64 p.right, .string (M.bs p.high), .slice a p.es.length c] 30 ∧ Blk W g #[.string (M.bs xk), .string (M.bs xv), .bool mm] 40) (m := 10) (by kernel_rfl) ?_
            have T10 := hid (T9.out.bel (Bel.dr (Below.refl _ _)))
            have E10 : Hid (Blk w10.drew g #[.string (M.bs xk), .string (M.bs xv), .bool mm] 40) := E9.out
            clear T9 E9
            generalize w10.drew = w11 at *
            have hS := And.intro T10.out.b0 E10.out
            have HFR1 : Hid (Calls Try.prog 22 #[pv p (.slice a p.es.length c)] w11 fun e w' => e = .returned (.int .i64 (M.free p)) ∧ Bel w11 w') := free_any p _ w11 HP.out.sm (own_vs T10.out.ox).vals
            have hge : ¬ (M.szE (xk, xv, mm) : Int) ≤ M.free p := by omega
            have hge' : decide ((M.szE (xk, xv, mm) : Int) ≤ M.free p) = false := decide_eq_false hge
            refine take_next (i := 0) (.agg #[.int .i64 p.lsn, .int .i64 p.kind, .int .i64 p.level, .int .i64 p.right, .string (M.bs p.high), .slice a p.es.length c]) [1, 4, 5, 10] (by kernel_rfl) (by kernel_rfl) rfl (by kernel_rfl) (by kernel_rfl) (by kernel_rfl) (by kernel_rfl) (fun _ _ _ h => absurd h.1 (by simp)) (Or.inl ⟨by rfl, fun w' hSw => by obtain ⟨s0, s1, s2, s3, s4, s5⟩ := blk_cells hSw.1; go_simp⟩) hS ?_
            try simp only [Act.put]
            refine take_next (i := 2) (.agg #[.string (M.bs xk), .string (M.bs xv), .bool mm]) [3, 4, 5, 10] (by kernel_rfl) (by kernel_rfl) rfl (by kernel_rfl) (by kernel_rfl) (by kernel_rfl) (by kernel_rfl) (fun _ _ _ h => absurd h.1 (by simp)) (Or.inl ⟨by rfl, fun w' hSw => by obtain ⟨s0, s1, s2⟩ := blk_cells3 hSw.2; go_simp⟩) hS ?_
            try simp only [Act.put]
            refine until_step (j := 1) (by kernel_rfl) rfl (by kernel_rfl) (fun KX hKX => ?_)
            have HX := hid hKX
            clear hKX
            go_simp
            refine HFR1.out.mono ?_
            rintro e w12 ⟨rfl, k12⟩
            have T12 := hid (T10.out.bel k12)
            have E12 := hid (E10.out.below k12 E10.out.lt)
            have hS := And.intro T12.out.b0 E12.out
            refine HX.out _ _ ⟨fun _ => hS, ?_⟩
            clear HX T10 E10 k12 HFR1
            try simp only [Act.put]
            refine until_step (j := 3) (by kernel_rfl) rfl (by kernel_rfl) (fun KX hKX => ?_)
            have HX := hid hKX
            clear hKX
            go_simp
            refine (size_any xk xv mm w12 (by have := HXK.out; omega) (by have := HXV.out; omega)).mono ?_
            rintro e w13 ⟨rfl, k13⟩
            have T13 := hid (T12.out.bel k13)
            have E13 := hid (E12.out.below k13 E12.out.lt)
            have hS := And.intro T13.out.b0 E13.out
            refine HX.out _ _ ⟨fun _ => hS, ?_⟩
            clear HX T12 E12 k13
            try simp only [Act.put]
            refine until_step (j := 4) (by kernel_rfl) rfl (by kernel_rfl) (fun KX hKX => ?_)
            have HX := hid hKX
            clear hKX
            go_simp
            refine HX.out _ _ ⟨fun _ => hS, ?_⟩
            clear HX
            try simp only [Act.put]
            refine until_step (j := 5) (by kernel_rfl) rfl (by kernel_rfl) (fun KX hKX => ?_)
            have HX := hid hKX
            clear hKX
            go_simp
            refine HX.out _ _ ⟨fun _ => hS, ?_⟩
            clear HX
            try simp only [Act.put]
            have hlk := T13.out.map.look xk HXK.out
            rw [hh] at hlk
            refine take_next (i := 6) (.map (some (B + 1))) [9, 10] (by kernel_rfl) (by kernel_rfl) rfl (by kernel_rfl) (by kernel_rfl) (by kernel_rfl) (by kernel_rfl) (fun _ _ _ h => absurd h.1 (by simp)) (Or.inl ⟨by kernel_rfl, fun w' hSw => by go_simp⟩) hS ?_
            try simp only [Act.put]
            refine take_next (i := 7) (.pointer (some ⟨g, 0, none⟩)) [8, 9, 10] (by kernel_rfl) (by kernel_rfl) rfl (by kernel_rfl) (by kernel_rfl) (by kernel_rfl) (by kernel_rfl) (fun _ _ _ h => absurd h.1 (by simp)) (Or.inl ⟨by kernel_rfl, fun w' hSw => by go_simp⟩) hS ?_
            try simp only [Act.put]
            refine take_next (i := 8) (.string (M.bs xk)) [9, 10] (by kernel_rfl) (by kernel_rfl) rfl (by kernel_rfl) (by kernel_rfl) (by kernel_rfl) (by kernel_rfl) (fun _ _ _ h => absurd h.1 (by simp)) (Or.inl ⟨by kernel_rfl, fun w' hSw => by obtain ⟨s0, s1, s2⟩ := blk_cells3 hSw.2; go_simp⟩) hS ?_
            try simp only [Act.put]
            refine until_step (j := 9) (by kernel_rfl) rfl (by kernel_rfl) (fun KX hKX => ?_)
            have HX := hid hKX
            clear hKX
            go_simp
            refine HX.out _ _ ⟨fun _ => hS, ?_⟩
            clear HX
            try simp only [Act.put]
            refine until_step (j := 10) (by kernel_rfl) rfl (by kernel_rfl) (fun KX hKX => ?_)
            have HX := hid hKX
            clear hKX
            go_simp
            refine HX.out _ _ ⟨(fun h => by cases (Eq.trans (Eq.symm (show _ = true by kernel_rfl)) h)), ?_⟩
            clear HX
            refine until_done (by kernel_rfl) ⟨rfl, ?_⟩ _
            refine HL.out _ _ ?_
            clear HL hS hlk
            obtain ⟨t0, t1, t2, t3, t4, t5⟩ := blk_cells T13.out.b0
            have HRT : Hid (∀ W, Bel w13 W → Calls Try.prog 20 #[pv p (.slice a p.es.length c)] W fun e w' => e = .returned (.bool true) ∧ Bel W w') := fun W hW => by
              have := right_leaf p (.slice a p.es.length c) W HP.out.sm (own_vs (T13.out.bel hW).ox) HP.out.kind (by rw [HP.out.level]; omega)
              rwa [HP.out.rises] at this
            have HFR : Hid (∀ W, Bel w13 W → Calls Try.prog 22 #[pv p (.slice a p.es.length c)] W fun e w' => e = .returned (.int .i64 (M.free p)) ∧ Bel W w') := fun W hW => free_any p (.slice a p.es.length c) W HP.out.sm (own_vs (T13.out.bel hW).ox).vals
            have hfr := HP.out.free
            have hfr' : ¬ M.free p < 0 := by omega
            go_wp2_with (first
              | (go_at_call 20; refine (HRT.out _ (Below.refl _ _)).mono ?_; rintro e w20 ⟨rfl, k20⟩; have T20 := hid (T13.out.bel k20); obtain ⟨t0, t1, t2, t3, t4, t5⟩ := blk_cells T20.out.b0)
              | (go_at_call 22; refine (HFR.out _ k20).mono ?_; rintro e w21 ⟨rfl, k21⟩; have T21 := hid (T20.out.bel k21); clear t0 t1 t2 t3 t4 t5; obtain ⟨t0, t1, t2, t3, t4, t5⟩ := blk_cells T21.out.b0; have hml := T21.out.map.len 3))
            go_roundw
            case rel => exact ⟨i + 1, n, p, a, c, by omega, by omega, by omega, by go_num, HP, T21⟩
            case measure => simp [intOf]; omega
          · rw [hE] at HINS
            have HINS := hid HINS
            clear hE
            have HRH := hid HR0
            have HRF : Hid ((fun k' => decide (k' = xk) || M.has M.cfS p.es k') = M.has M.cfS r.es) := funext fun k' => (hrF k').symm
            have HRL := hid hrl
            clear HR0 hrF hrl
            obtain ⟨t0, t1, t2, t3, t4, t5⟩ := blk_cells T8.out.b0
            go_wp2_with fail
            refine HINS.out.mono ?_
            rintro e w9 ⟨x2, rfl, o9, k9⟩
            obtain ⟨ax, cx, rfl⟩ := row_form o9
            have T9 := hid ((T8.out.bel k9).bel (Bel.al (Below.refl _ _) (.cells #[.int .i64 r.lsn, .int .i64 r.kind, .int .i64 r.level, .int .i64 r.right, .string (M.bs r.high), .slice ax r.es.length cx] 30)))
            have O9 := hid (own_bel o9 (Bel.al (Below.refl _ _) (.cells #[.int .i64 r.lsn, .int .i64 r.kind, .int .i64 r.level, .int .i64 r.right, .string (M.bs r.high), .slice ax r.es.length cx] 30)))
            have Z9 := hid T8.out.map.lt
            have E9 := hid ((E8.out.below k9 E8.out.lt).below (Bel.al (Below.refl _ _) (.cells #[.int .i64 r.lsn, .int .i64 r.kind, .int .i64 r.level, .int .i64 r.right, .string (M.bs r.high), .slice ax r.es.length cx] 30)) (E8.out.below k9 E8.out.lt).lt)
            clear o9 k9 t0 t1 t2 t3 t4 t5 k0 k1 k2 E8 T8 hlk hmk
            have hth : (w9.alloc (.cells #[.int .i64 r.lsn, .int .i64 r.kind, .int .i64 r.level, .int .i64 r.right, .string (M.bs r.high), .slice ax r.es.length cx] 30)).there B 0 (#[.int .i64 r.lsn, .int .i64 r.kind, .int .i64 r.level, .int .i64 r.right, .string (M.bs r.high), .slice ax r.es.length cx] : Array Value).size := fun j hj => by
              rw [T9.out.b0.cell, T9.out.b0.frozen]
              refine ⟨?_, rfl⟩
              have : j < 6 := hj
              simp
              omega
            have hone : (#[.int .i64 r.lsn, .int .i64 r.kind, .int .i64 r.level, .int .i64 r.right, .string (M.bs r.high), .slice ax r.es.length cx] : Array Value).all (·.oneCell') = true := by simp [Value.oneCell']
            have hi6 : (Try.prog.info? 30).map (·.size) = some (#[.int .i64 r.lsn, .int .i64 r.kind, .int .i64 r.level, .int .i64 r.right, .string (M.bs r.high), .slice ax r.es.length cx] : Array Value).size := by rw [info30]; rfl
            go_wp2_with (refine wpList_store_mid rfl 30 (.tmp 3) (.tmp 78) rfl B 0 #[.int .i64 r.lsn, .int .i64 r.kind, .int .i64 r.level, .int .i64 r.right, .string (M.bs r.high), .slice ax r.es.length cx] (by rfl) (by rfl) hth hi6 hone ?_; simp only [World.setCells, Nat.zero_add, Nat.reduceAdd]; have T10 := hid (T9.out.put O9.out (by have := Z9.out; omega)); have E10 := hid (other6 E9.out (show g ≠ B by have := HG.out.1; omega) (.int .i64 r.lsn) (.int .i64 r.kind) (.int .i64 r.level) (.int .i64 r.right) (.string (M.bs r.high)) (.slice ax r.es.length cx)); clear E9 O9 T9; clear hth; generalize (((((((w9.alloc (.cells #[.int .i64 r.lsn, .int .i64 r.kind, .int .i64 r.level, .int .i64 r.right, .string (M.bs r.high), .slice ax r.es.length cx] 30)).setCell ⟨B, 0, none⟩ (.int .i64 r.lsn)).setCell ⟨B, 1, none⟩ (.int .i64 r.kind)).setCell ⟨B, 2, none⟩ (.int .i64 r.level)).setCell ⟨B, 3, none⟩ (.int .i64 r.right)).setCell ⟨B, 4, none⟩ (.string (M.bs r.high))).setCell ⟨B, 5, none⟩ (.slice ax r.es.length cx)) = w10 at *; clear hone hi6; obtain ⟨k0, k1, k2⟩ : w10.cell? ⟨g, 0, none⟩ = some (.string (M.bs xk)) ∧ w10.cell? ⟨g, 1, none⟩ = some (.string (M.bs xv)) ∧ w10.cell? ⟨g, 2, none⟩ = some (.bool mm) := ⟨by rw [E10.out.cell]; rfl, by rw [E10.out.cell]; rfl, by rw [E10.out.cell]; rfl⟩; obtain ⟨w11, hmu, hm11, ht11⟩ := T10.out.map.store (show n < maxLen by unfold maxLen; omega) xk HXK.out hh; have T11 := hid (T10.out.turn hm11 ht11); clear hm11 ht11; obtain ⟨t0, t1, t2, t3, t4, t5⟩ := blk_cells T11.out.b0)
            have T12 := T11.out
            rw [HRF.out, ← HRL.out] at T12
            have T12 := hid T12
            have HRT : Hid (∀ W, Bel w11 W → Calls Try.prog 20 #[pv r (.slice ax r.es.length cx)] W fun e w' => e = .returned (.bool true) ∧ Bel W w') := fun W hW => by
              have := right_leaf r (.slice ax r.es.length cx) W HRH.out.sm (own_vs (T12.out.bel hW).ox) HRH.out.kind (by rw [HRH.out.level]; omega)
              rwa [HRH.out.rises] at this
            have HFR : Hid (∀ W, Bel w11 W → Calls Try.prog 22 #[pv r (.slice ax r.es.length cx)] W fun e w' => e = .returned (.int .i64 (M.free r)) ∧ Bel W w') := fun W hW => free_any r (.slice ax r.es.length cx) W HRH.out.sm (own_vs (T12.out.bel hW).ox).vals
            have hfr := HRH.out.free
            have hfr' : ¬ M.free r < 0 := by omega
            go_wp2_with (first
              | (go_at_call 20; refine (HRT.out _ (Below.refl _ _)).mono ?_; rintro e w20 ⟨rfl, k20⟩; have T20 := hid (T12.out.bel k20); obtain ⟨t0, t1, t2, t3, t4, t5⟩ := blk_cells T20.out.b0)
              | (go_at_call 22; refine (HFR.out _ k20).mono ?_; rintro e w21 ⟨rfl, k21⟩; have T21 := hid (T20.out.bel k21); clear t0 t1 t2 t3 t4 t5; obtain ⟨t0, t1, t2, t3, t4, t5⟩ := blk_cells T21.out.b0; have hml := T21.out.map.len 3))
            go_roundw
            case rel => exact ⟨i + 1, n + 1, r, ax, cx, by omega, by omega, by omega, by go_num, HRH, T21⟩
            case measure => simp [intOf]; omega
      · have hin6 : ¬ (i : Int) < 60 := by omega
        go_wp2_with fail
        go_ret
        exact ⟨rfl, HT.out.below⟩
    · have hin : ¬ (i : Int) < (L.length : Int) := by omega
      go_wp2_with fail
      go_ret
      exact ⟨rfl, HT.out.below⟩
end Go.Proofs.Ytcmplklefeicbaa
