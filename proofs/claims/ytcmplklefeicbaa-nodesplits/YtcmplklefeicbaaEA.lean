/-
  The law's 'made', walked.
-/
import Derived.Test.YtcmplklefeicbaaDB
import Derived.Test.YtcmplklefeicbaaHL
namespace Go.Proofs.Ytcmplklefeicbaa
open Go.RowKit
set_option maxRecDepth 100000

/-- What 'made' makes. -/
structure ME (td : Bool) (es : List M.En) : Prop where
  len : es.length ≤ 60
  each : ∀ e ∈ es, e.1.length ≤ 80 ∧ e.2.1.length ≤ 120
  up : td = true → M.Up M.cfS es
/-- The boxes of a call of 'made'. -/
structure MB (w W : World) (R : Array Value) (p : M.Pg) (x : Value) : Prop where
  r0 : Blk W w.heap.size R 24
  r1 : Blk W (w.heap.size + 1) noC 30
  r2 : Blk W (w.heap.size + 1 + 1) noC 33
  b : Blk W (w.heap.size + 1 + 1 + 1) #[.int .i64 p.lsn, .int .i64 p.kind, .int .i64 p.level, .int .i64 p.right, .string (M.bs p.high), x] 33
  ox : W.ownsRow (w.heap.size + 1 + 1 + 1 + 1) 43 3 x p.es.length (csE p.es)
  below : Bel w W
theorem MB.bel {w W W' : World} {R : Array Value} {p : M.Pg} {x : Value} (h : MB w W R p x) (k : Bel W W') : MB w W' R p x :=
  ⟨h.r0.below k h.r0.lt, h.r1.below k h.r1.lt, h.r2.below k h.r2.lt, h.b.below k h.b.lt, bel43 h.ox k, h.below.tr k⟩
theorem MB.start (w : World) (R : Array Value) (lv rt : Int) (hs : List UInt8) : MB w ((((w.alloc (.cells R 24)).alloc (.cells noC 30)).alloc (.cells noC 33)).alloc (.cells #[.int .i64 5, .int .i64 3, .int .i64 lv, .int .i64 rt, .string (M.bs hs), .slice none 0 0] 33)) R ⟨5, 3, lv, rt, hs, []⟩ (.slice none 0 0) := by
  refine ⟨Blk.al (Blk.al (Blk.al (Blk.new w R 24) _) _) _, ?_, ?_, ?_, World.ownsRow_nil _ _ _ _, Bel.al (Bel.al (Bel.al (Bel.al (Below.refl _ _) _) _) _) _⟩
  · simpa only [World.size_alloc] using Blk.al (Blk.al (Blk.new (w.alloc (.cells R 24)) noC 30) (.cells noC 33)) (.cells #[.int .i64 5, .int .i64 3, .int .i64 lv, .int .i64 rt, .string (M.bs hs), .slice none 0 0] 33)
  · simpa only [World.size_alloc] using Blk.al (Blk.new ((w.alloc (.cells R 24)).alloc (.cells noC 30)) noC 33) (.cells #[.int .i64 5, .int .i64 3, .int .i64 lv, .int .i64 rt, .string (M.bs hs), .slice none 0 0] 33)
  · simpa only [World.size_alloc] using Blk.new (((w.alloc (.cells R 24)).alloc (.cells noC 30)).alloc (.cells noC 33)) #[.int .i64 5, .int .i64 3, .int .i64 lv, .int .i64 rt, .string (M.bs hs), .slice none 0 0] 33
theorem MB.other {w W : World} {R : Array Value} {p : M.Pg} {x : Value} (h : MB w W R p x) {B : Nat} (hB : w.heap.size + 1 + 1 + 1 < B) (h1 : some B ≠ x.ownBlock) (j : Nat) (v : Value) : MB w (W.setCell ⟨B, j, none⟩ v) R p x :=
  ⟨blk_other h.r0 (by omega) _ _, blk_other h.r1 (by omega) _ _, blk_other h.r2 (by omega) _ _, blk_other h.b (by omega) _ _, ownsRow_setCell_other (a := ⟨B, j, none⟩) h.ox (fun e => h1 e.symm) v, Below.setCell h.below (show w.heap.size ≤ B by omega) v⟩
theorem MB.put {w W : World} {R : Array Value} {base : Nat} {p r : M.Pg} {x : Value} {a : Option Addr} {c : Nat} (h : MB w W R p x) (o : W.ownsRow base 43 3 (.slice a r.es.length c) r.es.length (csE r.es)) (hb : w.heap.size + 1 + 1 + 1 + 1 ≤ base) : MB w ((((((W.setCell ⟨w.heap.size + 1 + 1 + 1, 0, none⟩ (.int .i64 r.lsn)).setCell ⟨w.heap.size + 1 + 1 + 1, 1, none⟩ (.int .i64 r.kind)).setCell ⟨w.heap.size + 1 + 1 + 1, 2, none⟩ (.int .i64 r.level)).setCell ⟨w.heap.size + 1 + 1 + 1, 3, none⟩ (.int .i64 r.right)).setCell ⟨w.heap.size + 1 + 1 + 1, 4, none⟩ (.string (M.bs r.high))).setCell ⟨w.heap.size + 1 + 1 + 1, 5, none⟩ (.slice a r.es.length c)) R r (.slice a r.es.length c) :=
  ⟨other6 h.r0 (by omega) _ _ _ _ _ _, other6 h.r1 (by omega) _ _ _ _ _ _, other6 h.r2 (by omega) _ _ _ _ _ _, set6 h.b _ _ _ _ _ _, base43 (ownc43 o (row_ne o h.b (by decide)) _ _ _ _ _ _) hb, bel6 h.below (by omega) _ _ _ _ _ _⟩
theorem MB.app {w W W' : World} {R : Array Value} {p : M.Pg} {x : Value} {a : Option Addr} {c : Nat} (h : MB w W R p x) (g : W.grownBy W' x.ownBlock) (es : List M.En) (o : W'.ownsRow (w.heap.size + 1 + 1 + 1 + 1) 43 3 (.slice a es.length c) es.length (csE es)) : MB w (W'.setCell ⟨w.heap.size + 1 + 1 + 1, 5, none⟩ (.slice a es.length c)) R ⟨p.lsn, p.kind, p.level, p.right, p.high, es⟩ (.slice a es.length c) := by
  have hr : ∀ j, x.ownBlock = some j → w.heap.size + 1 + 1 + 1 + 1 ≤ j := fun j hj => (h.ox.lt j hj).1
  have hb' : Blk W' (w.heap.size + 1 + 1 + 1) #[.int .i64 p.lsn, .int .i64 p.kind, .int .i64 p.level, .int .i64 p.right, .string (M.bs p.high), x] 33 := (g.block _ h.b.lt (fun e => by have := hr _ e.symm; omega)).trans h.b
  refine ⟨blk_other ((g.block _ h.r0.lt (fun e => by have := hr _ e.symm; omega)).trans h.r0) (by omega) _ _, blk_other ((g.block _ h.r1.lt (fun e => by have := hr _ e.symm; omega)).trans h.r1) (by omega) _ _, blk_other ((g.block _ h.r2.lt (fun e => by have := hr _ e.symm; omega)).trans h.r2) (by omega) _ _, ?_, ?_, ?_⟩
  · have z := hb'.set 5 (.slice a es.length c)
    simpa using z
  · exact ownsRow_setCell_other (a := ⟨w.heap.size + 1 + 1 + 1, 5, none⟩) o (fun e => row_ne o hb' (by decide) e.symm) (.slice a es.length c)
  · exact Below.setCell (Below.grown h.below g h.below.size (fun j hj => by have := hr j hj; omega)) (p := ⟨w.heap.size + 1 + 1 + 1, 5, none⟩) (by show w.heap.size ≤ w.heap.size + 1 + 1 + 1; omega) (.slice a es.length c)
theorem ME.nil (td : Bool) : ME td [] := ⟨by simp, by simp, fun _ => List.Pairwise.nil⟩
theorem ME.ins {td : Bool} {p : M.Pg} (h : ME true p.es) (hl : p.es.length < 60) (k v : List UInt8) (m : Bool) (hk : k.length ≤ 80) (hv : v.length ≤ 120) (hE : M.insE p (k, v, m) = 0) : ME td (M.insP p (k, v, m)).es ∧ (M.insP p (k, v, m)).es.length ≤ p.es.length + 1 ∧ M.insP p (k, v, m) = ⟨p.lsn, p.kind, p.level, p.right, p.high, (M.insP p (k, v, m)).es⟩ := by
  have hP : M.insP p (k, v, m) = { p with es := M.set M.cfS p.es k (v, m) } := by simp [M.insP, hE]
  have hl2 := M.set_length (cf := M.cfS) p.es k (v, m)
  have hl3 : (M.set M.cfS p.es k (v, m)).length ≤ p.es.length + 1 := by rw [hl2]; split <;> omega
  rw [hP]
  refine ⟨⟨?_, fun e he => ?_, fun _ => M.up_set M.ordS _ (h.up rfl) _ _⟩, hl3, rfl⟩
  · show (M.set M.cfS p.es k (v, m)).length ≤ 60
    omega
  · rcases (M.mem_set M.ordS p.es (h.up rfl) k (v, m) e).1 he with rfl | ⟨he, _⟩
    · exact ⟨hk, hv⟩
    · exact h.each e he
theorem ME.sm {td : Bool} {es : List M.En} (h : ME td es) (lv rt a b : Int) (hs : List UInt8) (hh : hs.length ≤ 1000) : Sm ⟨a, b, lv, rt, hs, es⟩ := by
  refine ⟨hh, by have := h.len; show es.length ≤ 1000; omega, fun e he => ?_⟩
  obtain ⟨h1, h2⟩ := h.each e he
  exact ⟨by omega, by omega⟩
/-- 'append' of entries of the program's to a row of the call's own. -/
theorem app28 (w : World) (base : Nat) (v : Value) (n : Nat) (xs : List Value) (hown : w.ownsRow base 40 3 v n xs) (y : Value) (L : List M.En) (hv : Vs w y L) (hl : n + L.length ≤ 100000) (hb : base ≤ w.heap.size) :
    ∃ a c w', (Builtin.append_ #[28, 28] 28 #[v, y]).run Try.prog w = .ok (.slice a (n + L.length) c) w' ∧ w'.ownsRow base 40 3 (.slice a (n + L.length) c) (n + L.length) (xs ++ csE L) ∧ w.grownBy w' v.ownBlock := by
  obtain ⟨i0, hi, hz0, hz1, hz2⟩ := info_parts info40
  rcases hv with ⟨rfl, rfl⟩ | ⟨b, off, cap, rfl, hc, hb', hr⟩
  · have h := run_append_owned_none (P := Try.prog) w base 28 28 40 i0 3 Try.underlying28 hi v _ _ hown
    obtain ⟨a, c, rfl⟩ := row_form hown
    exact ⟨a, c, w, h, by simpa [csE] using hown, ⟨rfl, rfl, rfl, Nat.le_refl _, fun _ _ _ => rfl⟩⟩
  · obtain ⟨v2, w2, f1, f2, f3, _, f5⟩ := run_append_own_at (P := Try.prog) w base 28 28 40 i0 _ 3 40 Try.underlying28 hi hz0 hz1 hz2 rfl (by decide) v n xs hown ⟨b, off, none⟩ L.length cap (csE L) (csE_length L) (fun j u hj => by rw [add_lit]; exact row3_cells hr j u hj) (csE_one _) (by unfold maxLen; omega) (by omega) hb
    obtain ⟨a2, c2, rfl⟩ := row_form f2
    exact ⟨a2, c2, w2, f1, f2, f3⟩
theorem rins_step {td : Bool} {es : List M.En} (h : ME true es) (hl : es.length < 60) (lv rt : Int) (hs : List UInt8) (hh : hs.length ≤ 1000) (x : Value) (k v : List UInt8) (m : Bool) (w : World) (hv : Vs w x es) (hk : k.length ≤ 80) (hvl : v.length ≤ 120) :
    (∃ n : Int, n ≠ 0 ∧ Calls Try.prog 12 #[pv ⟨5, 3, lv, rt, hs, es⟩ x, ev (k, v, m)] w fun r w' => ∃ (p' : M.Pg) (x' : Value), r = .returned (.tuple #[pv p' x', .int .i64 n]) ∧ w'.ownsRow w.heap.size 43 3 x' p'.es.length (csE p'.es) ∧ Bel w w') ∨
      (∃ es', ME td es' ∧ es'.length ≤ es.length + 1 ∧ Calls Try.prog 12 #[pv ⟨5, 3, lv, rt, hs, es⟩ x, ev (k, v, m)] w fun r w' => ∃ x', r = .returned (.tuple #[pv ⟨5, 3, lv, rt, hs, es'⟩ x', .int .i64 0]) ∧ w'.ownsRow w.heap.size 43 3 x' es'.length (csE es') ∧ Bel w w') := by
  have H := rins_any ⟨5, 3, lv, rt, hs, es⟩ x (k, v, m) w (h.sm lv rt 5 3 hs hh) (by show es.length ≤ 900; omega) hv (h.up rfl) (by show k.length ≤ _; omega) (by show v.length ≤ _; omega)
  by_cases hE : M.insE ⟨5, 3, lv, rt, hs, es⟩ (k, v, m) = 0
  · obtain ⟨h1, h2, h3⟩ := ME.ins (td := td) (p := ⟨5, 3, lv, rt, hs, es⟩) h hl k v m hk hvl hE
    rw [hE, h3] at H
    exact .inr ⟨_, h1, h2, H⟩
  · refine .inl ⟨_, hE, H.mono ?_⟩
    rintro e w' ⟨x', h1, h2, h3⟩
    exact ⟨_, x', h1, h2, h3⟩
/-- The boxes, as long as the entries are copied. -/
structure NB (w W : World) (R : Array Value) (lv rt : Int) (hs : List UInt8) (es : List M.En) (x : Value) (ga j : Nat) (y : Value) : Prop where
  m : MB w W R ⟨5, 3, lv, rt, hs, es⟩ x
  a : Blk W ga #[.int .i64 5, .int .i64 3, .int .i64 lv, .int .i64 rt, .string (M.bs hs), y] 30
  oy : W.ownsRow (ga + 1) 40 3 y j (csE (es.take j))
  lt : w.heap.size + 1 + 1 + 1 < ga
theorem NB.bel {w W W' : World} {R : Array Value} {lv rt : Int} {hs : List UInt8} {es : List M.En} {x : Value} {ga j : Nat} {y : Value} (h : NB w W R lv rt hs es x ga j y) (k : Bel W W') : NB w W' R lv rt hs es x ga j y :=
  ⟨h.m.bel k, h.a.below k h.a.lt, own_bel h.oy k, h.lt⟩
theorem NB.start {w W : World} {R : Array Value} {lv rt : Int} {hs : List UInt8} {es : List M.En} {x : Value} (h : MB w W R ⟨5, 3, lv, rt, hs, es⟩ x) (ga : Nat) (hga : ga = W.heap.size) : NB w (W.alloc (.cells #[.int .i64 5, .int .i64 3, .int .i64 lv, .int .i64 rt, .string (M.bs hs), .slice none 0 0] 30)) R lv rt hs es x ga 0 (.slice none 0 0) := by
  subst hga
  exact ⟨h.bel (Bel.al (Below.refl _ _) _), Blk.new _ _ _, by simpa [csE] using World.ownsRow_nil _ _ _ _, h.b.lt⟩
theorem NB.app {w W W' : World} {R : Array Value} {lv rt : Int} {hs : List UInt8} {es : List M.En} {x : Value} {ga j : Nat} {y : Value} {a : Option Addr} {c : Nat} (h : NB w W R lv rt hs es x ga j y) (g : W.grownBy W' y.ownBlock) (o : W'.ownsRow (ga + 1) 40 3 (.slice a (j + 1) c) (j + 1) (csE (es.take (j + 1)))) : NB w (W'.setCell ⟨ga, 5, none⟩ (.slice a (j + 1) c)) R lv rt hs es x ga (j + 1) (.slice a (j + 1) c) := by
  have hr : ∀ k, y.ownBlock = some k → ga + 1 ≤ k := fun k hk => (h.oy.lt k hk).1
  have hlt := h.lt
  have ha' : Blk W' ga #[.int .i64 5, .int .i64 3, .int .i64 lv, .int .i64 rt, .string (M.bs hs), y] 30 := (g.block _ h.a.lt (fun e => by have := hr _ e.symm; omega)).trans h.a
  have hm' : MB w W' R ⟨5, 3, lv, rt, hs, es⟩ x := ⟨(g.block _ h.m.r0.lt (fun e => by have := hr _ e.symm; omega)).trans h.m.r0, (g.block _ h.m.r1.lt (fun e => by have := hr _ e.symm; omega)).trans h.m.r1, (g.block _ h.m.r2.lt (fun e => by have := hr _ e.symm; omega)).trans h.m.r2, (g.block _ h.m.b.lt (fun e => by have := hr _ e.symm; omega)).trans h.m.b,
    World.ownsRow.kept h.m.ox g (by
      cases e : x.ownBlock with
      | none => exact .inl rfl
      | some k =>
        refine .inr (fun e2 => ?_)
        rcases rows_ne h.oy h.m.ox (by decide) with h3 | h3
        · rw [h3] at e2; cases e2
        · exact h3 (e2.symm.trans e.symm)), Below.grown h.m.below g h.m.below.size (fun k hk => by have := hr k hk; omega)⟩
  refine ⟨hm'.other hlt (fun e => row_ne hm'.ox ha' (by decide) e) 5 _, ?_, ?_, hlt⟩
  · have z := ha'.set 5 (.slice a (j + 1) c)
    simpa using z
  · exact ownsRow_setCell_other (a := ⟨ga, 5, none⟩) o (fun e => row_ne o ha' (by decide) e.symm) _
theorem results_cells2 {fn : Func} {p q : Tmp} {ty uy : TypeId} (h : fn.results = #[.cell p ty, .cell q uy]) (tmps : Array Value) (w : World) (g1 : Nat) (cs1 : Array Value) (g2 : Nat) (cs2 : Array Value)
    (hp : tmps.getD p undef = .pointer (some ⟨g1, 0, none⟩)) (hq : tmps.getD q undef = .pointer (some ⟨g2, 0, none⟩)) (hl1 : (loadVar ty ⟨g1, 0, none⟩).run Try.prog w = .ok (.agg cs1) w) (hl2 : (loadVar uy ⟨g2, 0, none⟩).run Try.prog w = .ok (.agg cs2) w) :
    (results fn tmps).run Try.prog w = .ok (.tuple #[.agg cs1, .agg cs2]) w := by
  have hp' : tmps[p]?.getD undef = .pointer (some ⟨g1, 0, none⟩) := by simpa using hp
  have hq' : tmps[q]?.getD undef = .pointer (some ⟨g2, 0, none⟩) := by simpa using hq
  simp only [results, h]
  simp [Sem.run_bind, Result.andThen, hp', hq', asAddr, hl1, hl2]
set_option maxHeartbeats 16000000 in
theorem made_any (lv rt : Int) (hg : List UInt8) (L : List M.En) (ar : Option Addr) (cap : Nat) (td : Bool) (w : World) (hv : Vals w (.slice ar L.length cap) L) (hL : L.length ≤ maxLen) (hk : ∀ e ∈ L, e.1.length ≤ maxLen ∧ e.2.1.length ≤ maxLen) (hh : hg.length ≤ maxLen) :
    Calls Try.prog 9 #[.agg #[.int .i64 lv, .int .i64 rt, .string (M.bs hg), .slice ar L.length cap, .bool td]] w fun e w' => ∃ es x y, e = .returned (.tuple #[pv ⟨5, 3, lv, rt, hg.take 80, es⟩ x, pv ⟨5, 3, lv, rt, hg.take 80, es⟩ y]) ∧ w'.ownsRow w.heap.size 40 3 x es.length (csE es) ∧ w'.ownsRow w.heap.size 43 3 y es.length (csE es) ∧ Bel w w' ∧ ME td es := by
  unfold maxLen at hL hh
  have HV := hid hv
  have HK := hid hk
  clear hv hk
  have hzh : (M.bs hg).size = hg.length := M.bs_size _
  have ceh := cutN hg 80
  obtain ⟨nh, hnh, hnh'⟩ : ∃ nh : Nat, min (hg.length : Int) 80 = (nh : Int) ∧ nh ≤ hg.length := ⟨min hg.length 80, by omega, by omega⟩
  rw [show ((80 : Nat) : Int) = 80 from rfl, hnh, Int.toNat_natCast] at ceh
  have HHS : Hid ((hg.take 80).length ≤ 80) := by show _ ≤ _; rw [List.length_take]; omega
  generalize hg.take 80 = hs at *
  have T0 := hid (MB.start w #[.int .i64 lv, .int .i64 rt, .string (M.bs hg), .slice ar L.length cap, .bool td] lv rt hs)
  go_enter Try.func9, Try.ntmps9
  go_wp2_with fail
  clear hzh ceh hnh hnh'
  generalize (((w.alloc (.cells #[.int .i64 lv, .int .i64 rt, .string (M.bs hg), .slice ar L.length cap, .bool td] 24)).alloc (.cells noC 30)).alloc (.cells noC 33)).alloc (.cells #[.int .i64 5, .int .i64 3, .int .i64 lv, .int .i64 rt, .string (M.bs hs), .slice none 0 0] 33) = w0 at *
  go_loopw [6] (fun iv wr => ∃ (i : Nat) (es : List M.En) (a : Option Addr) (c : Nat), i ≤ L.length ∧ i ≤ 60 ∧ es.length ≤ i ∧ iv = .int .i64 i ∧ Hid (ME td es) ∧ Hid (MB w wr #[.int .i64 lv, .int .i64 rt, .string (M.bs hg), .slice ar L.length cap, .bool td] ⟨5, 3, lv, rt, hs, es⟩ (.slice a es.length c))) (fun iv _ => L.length - (intOf iv).toNat)
  case atStart => exact ⟨0, [], none, 0, by omega, by omega, by simp, rfl, hid (ME.nil td), T0⟩
  case round =>
    obtain ⟨i, es, a, c, hi, hi6, hes, rfl, HP, HT⟩ := hrel
    have c3 : wr.cell? ⟨w.heap.size, 3, none⟩ = some (.slice ar L.length cap) := by rw [HT.out.r0.cell]; rfl
    by_cases hlt : i < L.length
    · have hin : (i : Int) < (L.length : Int) := by omega
      by_cases hl6 : i < 60
      · have hin6 : (i : Int) < 60 := by omega
        obtain ⟨b, off, har, hr⟩ : ∃ b off, ar = some ⟨b, off, none⟩ ∧ Row3 w b off L := by
          obtain ⟨a0, c0, e, h⟩ := HV.out
          cases e
          exact h.resolve_left (fun h => by rw [h] at hlt; simp at hlt)
        subst har
        have hb : b < w.heap.size := hr.lt (by omega)
        have HROW : Hid (∀ W, Bel w W → Row3 W b off L) := fun W hW => hr.below hW hb
        clear hr
        obtain ⟨s0, s1, s2⟩ := HROW.out _ HT.out.below i hlt
        have HK1 : Hid ((L[i]'hlt).1.length ≤ 9223372036854775807 ∧ (L[i]'hlt).2.1.length ≤ 9223372036854775807) := by have := HK.out _ (List.getElem_mem hlt); unfold maxLen at this; exact ⟨by omega, by omega⟩
        obtain ⟨g, hgq⟩ : ∃ g, g = wr.heap.size := ⟨_, rfl⟩
        generalize (L[i]'hlt).2.1 = vv at *
        generalize (L[i]'hlt).2.2 = mm at *
        generalize (L[i]'hlt).1 = kk at *
        have HE6 : Hid (Blk (wr.alloc (.cells #[.string (M.bs kk), .string (M.bs vv), .bool mm] 43)) g #[.string (M.bs kk), .string (M.bs vv), .bool mm] 43) := by rw [hgq]; exact Blk.new _ _ _
        have T6 := hid (HT.out.bel (Bel.al (Below.refl _ _) (.cells #[.string (M.bs kk), .string (M.bs vv), .bool mm] 43)))
        have HG : Hid (w.heap.size + 1 + 1 + 1 < g ∧ some g ≠ (Value.slice a es.length c).ownBlock) := ⟨by rw [hgq]; exact HT.out.b.lt, fun e => by have := (HT.out.ox.lt g e.symm).2; omega⟩
        go_wp2_with fail
        rw [← hgq]
        generalize wr.alloc (.cells #[.string (M.bs kk), .string (M.bs vv), .bool mm] 43) = w6 at *
        clear s0 s1 s2 hgq HT c3
        refine wp_last fun KL hKL => ?_
        have HL := hid hKL
        clear hKL
        have hzk : (M.bs kk).size = kk.length := M.bs_size _
        have hzv : (M.bs vv).size = vv.length := M.bs_size _
        have cek := cutN kk 80
        have cev := cutN vv 120
        obtain ⟨nk, hnk, hnk'⟩ : ∃ nk : Nat, min (kk.length : Int) 80 = (nk : Int) ∧ nk ≤ kk.length := ⟨min kk.length 80, by omega, by omega⟩
        obtain ⟨nv, hnv, hnv'⟩ : ∃ nv : Nat, min (vv.length : Int) 120 = (nv : Int) ∧ nv ≤ vv.length := ⟨min vv.length 120, by omega, by omega⟩
        rw [show ((80 : Nat) : Int) = 80 from rfl, hnk, Int.toNat_natCast] at cek
        rw [show ((120 : Nat) : Int) = 120 from rfl, hnv, Int.toNat_natCast] at cev
        obtain ⟨hlk, hlv⟩ := HK1.out
        have HXK : Hid ((kk.take 80).length ≤ 80) := by show _ ≤ _; rw [List.length_take]; omega
        have HXV : Hid ((vv.take 120).length ≤ 120) := by show _ ≤ _; rw [List.length_take]; omega
        generalize kk.take 80 = xk at *
        generalize vv.take 120 = xv at *
        refine wp_join (fun a => ((((((((((((((((a.put (some 41) (.pointer (some ⟨g, 0, none⟩))).put (some 42) (.string (M.bs kk))).put (some 43) (.pointer (some ⟨g, 0, none⟩))).put (some 44) (.string (M.bs kk))).put (some 45) (.int .i64 (kk.length : Nat))).put (some 46) (.int .i64 (nk : Nat))).put (some 47) (.string (M.bs xk))).put (some 48) (.pointer (some ⟨g, 1, none⟩))).put (some 49) (.string (M.bs vv))).put (some 50) (.pointer (some ⟨g, 1, none⟩))).put (some 51) (.string (M.bs vv))).put (some 52) (.int .i64 (vv.length : Nat))).put (some 53) (.int .i64 (nv : Nat))).put (some 54) (.string (M.bs xv))).put (some 55) (.pointer (some ⟨g, 0, none⟩))).put (some 56) (.pointer (some ⟨g, 1, none⟩)))) (fun W => Blk W g #[.string (M.bs xk), .string (M.bs xv), .bool mm] 43 ∧ MB w W #[.int .i64 lv, .int .i64 rt, .string (M.bs hg), .slice (some ⟨b, off, none⟩) L.length cap, .bool td] ⟨5, 3, lv, rt, hs, es⟩ (.slice a es.length c)) ?_ ?_
        · refine region_until (S := fun W : World => W.cell? ⟨g, 1, none⟩ = some (.string (M.bs vv))) (m := 17) (by kernel_rfl) ?_
          have E7 : Hid (Blk w6.drew g #[.string (M.bs kk), .string (M.bs vv), .bool mm] 43) := HE6.out
          have T7 := hid (T6.out.bel (Bel.dr (Below.refl _ _)))
          generalize w6.drew = w7 at *
          have hS : w7.cell? ⟨g, 1, none⟩ = some (.string (M.bs vv)) := by rw [E7.out.cell]; rfl
          have s0 : w7.cell? ⟨g, 0, none⟩ = some (.string (M.bs kk)) := by rw [E7.out.cell]; rfl
          refine take_next (i := 0) (.pointer (some ⟨g, 0, none⟩)) [1, 6, 15, 17] (by kernel_rfl) (by kernel_rfl) rfl (by kernel_rfl) (by kernel_rfl) (by kernel_rfl) (by kernel_rfl) (fun _ _ _ h => absurd h.1 (by simp)) (Or.inl ⟨by rfl, fun w' hSw => by go_simp⟩) hS ?_
          try simp only [Act.put]
          refine take_next (i := 2) (.pointer (some ⟨g, 0, none⟩)) [3, 4, 5, 6, 15, 17] (by kernel_rfl) (by kernel_rfl) rfl (by kernel_rfl) (by kernel_rfl) (by kernel_rfl) (by kernel_rfl) (fun _ _ _ h => absurd h.1 (by simp)) (Or.inl ⟨by rfl, fun w' hSw => by go_simp⟩) hS ?_
          try simp only [Act.put]
          refine take_next (i := 7) (.pointer (some ⟨g, 1, none⟩)) [8, 13, 17] (by kernel_rfl) (by kernel_rfl) rfl (by kernel_rfl) (by kernel_rfl) (by kernel_rfl) (by kernel_rfl) (fun _ _ _ h => absurd h.1 (by simp)) (Or.inl ⟨by rfl, fun w' hSw => by go_simp⟩) hS ?_
          try simp only [Act.put]
          refine take_next (i := 8) (.string (M.bs vv)) [13, 17] (by kernel_rfl) (by kernel_rfl) rfl (by kernel_rfl) (by kernel_rfl) (by kernel_rfl) (by kernel_rfl) (fun _ _ _ h => absurd h.1 (by simp)) (Or.inl ⟨by rfl, fun w' hSw => by go_simp⟩) hS ?_
          try simp only [Act.put]
          refine take_next (i := 9) (.pointer (some ⟨g, 1, none⟩)) [10, 11, 12, 13, 17] (by kernel_rfl) (by kernel_rfl) rfl (by kernel_rfl) (by kernel_rfl) (by kernel_rfl) (by kernel_rfl) (fun _ _ _ h => absurd h.1 (by simp)) (Or.inl ⟨by rfl, fun w' hSw => by go_simp⟩) hS ?_
          try simp only [Act.put]
          refine take_next (i := 10) (.string (M.bs vv)) [11, 12, 13, 17] (by kernel_rfl) (by kernel_rfl) rfl (by kernel_rfl) (by kernel_rfl) (by kernel_rfl) (by kernel_rfl) (fun _ _ _ h => absurd h.1 (by simp)) (Or.inl ⟨by rfl, fun w' hSw => by go_simp⟩) hS ?_
          try simp only [Act.put]
          refine take_next (i := 11) (.int .i64 (vv.length : Nat)) [12, 13, 17] (by kernel_rfl) (by kernel_rfl) rfl (by kernel_rfl) (by kernel_rfl) (by kernel_rfl) (by kernel_rfl) (fun _ _ _ h => absurd h.1 (by simp)) (Or.inl ⟨by rfl, fun w' hSw => by go_simp⟩) hS ?_
          try simp only [Act.put]
          refine take_next (i := 12) (.int .i64 (nv : Nat)) [13, 17] (by kernel_rfl) (by kernel_rfl) rfl (by kernel_rfl) (by kernel_rfl) (by kernel_rfl) (by kernel_rfl) (fun _ _ _ h => absurd h.1 (by simp)) (Or.inl ⟨by rfl, fun w' hSw => by go_simp⟩) hS ?_
          try simp only [Act.put]
          refine take_next (i := 13) (.string (M.bs xv)) [17] (by kernel_rfl) (by kernel_rfl) rfl (by kernel_rfl) (by kernel_rfl) (by kernel_rfl) (by kernel_rfl) (fun _ _ _ h => absurd h.1 (by simp)) (Or.inl ⟨by rfl, fun w' hSw => by go_simp⟩) hS ?_
          try simp only [Act.put]
          refine until_ready (rs := [1, 3]) (by kernel_rfl) (by simp) ?_
          intro jj hjj
          simp only [List.mem_cons, List.not_mem_nil, or_false] at hjj
          rcases hjj with rfl | rfl
          · skip
            refine wpOp_step rfl (fun KX hKX => ?_)
            have HX := hid hKX
            clear hKX
            go_simp
            refine HX.out _ _ ⟨fun _ => hS, ?_⟩
            clear HX
            try simp only [Act.put]
            refine until_step (j := 3) (by kernel_rfl) rfl (by kernel_rfl) (fun KX hKX => ?_)
            have HX := hid hKX
            clear hKX
            go_simp
            refine HX.out _ _ ⟨fun _ => hS, ?_⟩
            clear HX
            try simp only [Act.put]
            refine until_step (j := 4) (by kernel_rfl) rfl (by kernel_rfl) (fun KX hKX => ?_)
            have HX := hid hKX
            clear hKX
            go_simp
            refine HX.out _ _ ⟨fun _ => hS, ?_⟩
            clear HX
            try simp only [Act.put]
            refine until_step (j := 5) (by kernel_rfl) rfl (by kernel_rfl) (fun KX hKX => ?_)
            have HX := hid hKX
            clear hKX
            go_simp
            refine HX.out _ _ ⟨fun _ => hS, ?_⟩
            clear HX
            try simp only [Act.put]
            refine until_step (j := 6) (by kernel_rfl) rfl (by kernel_rfl) (fun KX hKX => ?_)
            have HX := hid hKX
            clear hKX
            go_simp
            refine HX.out _ _ ⟨fun _ => hS, ?_⟩
            clear HX
            try simp only [Act.put]
            refine until_step (j := 14) (by kernel_rfl) rfl (by kernel_rfl) (fun KX hKX => ?_)
            have HX := hid hKX
            clear hKX
            go_simp
            refine HX.out _ _ ⟨fun _ => hS, ?_⟩
            clear HX
            try simp only [Act.put]
            have z0 := E7.out.frozen 0
            refine until_step (j := 15) (by kernel_rfl) rfl (by kernel_rfl) (fun KX hKX => ?_)
            have HX := hid hKX
            clear hKX
            go_simp
            have V1 : Hid (Blk (w7.setCell ⟨g, 0, none⟩ (.string (M.bs xk))) g #[.string (M.bs xk), .string (M.bs vv), .bool mm] 43) := hid (by
              have z := E7.out.set 0 (.string (M.bs xk))
              simpa using z)
            have VT := hid (T7.out.other (B := g) HG.out.1 HG.out.2 0 (.string (M.bs xk)))
            have hS' : (w7.setCell ⟨g, 0, none⟩ (.string (M.bs xk))).cell? ⟨g, 1, none⟩ = some (.string (M.bs vv)) := by rw [V1.out.cell]; rfl
            refine HX.out _ _ ⟨fun _ => hS', ?_⟩
            clear HX E7 T7 z0 s0 hS
            generalize w7.setCell ⟨g, 0, none⟩ (.string (M.bs xk)) = w7b at *
            try simp only [Act.put]
            have z1 := V1.out.frozen 1
            refine until_step (j := 16) (by kernel_rfl) rfl (by kernel_rfl) (fun KX hKX => ?_)
            have HX := hid hKX
            clear hKX
            go_simp
            refine HX.out _ _ ⟨fun _ => hS', ?_⟩
            clear HX
            try simp only [Act.put]
            refine until_step (j := 17) (by kernel_rfl) rfl (by kernel_rfl) (fun KX hKX => ?_)
            have HX := hid hKX
            clear hKX
            go_simp
            have U1 : Hid (Blk (w7b.setCell ⟨g, 1, none⟩ (.string (M.bs xv))) g #[.string (M.bs xk), .string (M.bs xv), .bool mm] 43) := hid (by
              have z := V1.out.set 1 (.string (M.bs xv))
              simpa using z)
            have UT := hid (VT.out.other (B := g) HG.out.1 HG.out.2 1 (.string (M.bs xv)))
            refine HX.out _ _ ⟨(fun h => by cases (Eq.trans (Eq.symm (show _ = true by kernel_rfl)) h)), ?_⟩
            clear HX
            refine until_done (by kernel_rfl) ⟨rfl, ?_⟩ _
            exact ⟨by kernel_rfl, U1.out, UT.out⟩
          · skip
            refine wpOp_step rfl (fun KX hKX => ?_)
            have HX := hid hKX
            clear hKX
            go_simp
            refine HX.out _ _ ⟨fun _ => hS, ?_⟩
            clear HX
            try simp only [Act.put]
            refine until_ready (rs := [1, 4]) (by kernel_rfl) (by simp) ?_
            intro jj hjj
            simp only [List.mem_cons, List.not_mem_nil, or_false] at hjj
            rcases hjj with rfl | rfl
            · skip
              refine wpOp_step rfl (fun KX hKX => ?_)
              have HX := hid hKX
              clear hKX
              go_simp
              refine HX.out _ _ ⟨fun _ => hS, ?_⟩
              clear HX
              try simp only [Act.put]
              refine until_step (j := 4) (by kernel_rfl) rfl (by kernel_rfl) (fun KX hKX => ?_)
              have HX := hid hKX
              clear hKX
              go_simp
              refine HX.out _ _ ⟨fun _ => hS, ?_⟩
              clear HX
              try simp only [Act.put]
              refine until_step (j := 5) (by kernel_rfl) rfl (by kernel_rfl) (fun KX hKX => ?_)
              have HX := hid hKX
              clear hKX
              go_simp
              refine HX.out _ _ ⟨fun _ => hS, ?_⟩
              clear HX
              try simp only [Act.put]
              refine until_step (j := 6) (by kernel_rfl) rfl (by kernel_rfl) (fun KX hKX => ?_)
              have HX := hid hKX
              clear hKX
              go_simp
              refine HX.out _ _ ⟨fun _ => hS, ?_⟩
              clear HX
              try simp only [Act.put]
              refine until_step (j := 14) (by kernel_rfl) rfl (by kernel_rfl) (fun KX hKX => ?_)
              have HX := hid hKX
              clear hKX
              go_simp
              refine HX.out _ _ ⟨fun _ => hS, ?_⟩
              clear HX
              try simp only [Act.put]
              have z0 := E7.out.frozen 0
              refine until_step (j := 15) (by kernel_rfl) rfl (by kernel_rfl) (fun KX hKX => ?_)
              have HX := hid hKX
              clear hKX
              go_simp
              have V1 : Hid (Blk (w7.setCell ⟨g, 0, none⟩ (.string (M.bs xk))) g #[.string (M.bs xk), .string (M.bs vv), .bool mm] 43) := hid (by
                have z := E7.out.set 0 (.string (M.bs xk))
                simpa using z)
              have VT := hid (T7.out.other (B := g) HG.out.1 HG.out.2 0 (.string (M.bs xk)))
              have hS' : (w7.setCell ⟨g, 0, none⟩ (.string (M.bs xk))).cell? ⟨g, 1, none⟩ = some (.string (M.bs vv)) := by rw [V1.out.cell]; rfl
              refine HX.out _ _ ⟨fun _ => hS', ?_⟩
              clear HX E7 T7 z0 s0 hS
              generalize w7.setCell ⟨g, 0, none⟩ (.string (M.bs xk)) = w7b at *
              try simp only [Act.put]
              have z1 := V1.out.frozen 1
              refine until_step (j := 16) (by kernel_rfl) rfl (by kernel_rfl) (fun KX hKX => ?_)
              have HX := hid hKX
              clear hKX
              go_simp
              refine HX.out _ _ ⟨fun _ => hS', ?_⟩
              clear HX
              try simp only [Act.put]
              refine until_step (j := 17) (by kernel_rfl) rfl (by kernel_rfl) (fun KX hKX => ?_)
              have HX := hid hKX
              clear hKX
              go_simp
              have U1 : Hid (Blk (w7b.setCell ⟨g, 1, none⟩ (.string (M.bs xv))) g #[.string (M.bs xk), .string (M.bs xv), .bool mm] 43) := hid (by
                have z := V1.out.set 1 (.string (M.bs xv))
                simpa using z)
              have UT := hid (VT.out.other (B := g) HG.out.1 HG.out.2 1 (.string (M.bs xv)))
              refine HX.out _ _ ⟨(fun h => by cases (Eq.trans (Eq.symm (show _ = true by kernel_rfl)) h)), ?_⟩
              clear HX
              refine until_done (by kernel_rfl) ⟨rfl, ?_⟩ _
              exact ⟨by kernel_rfl, U1.out, UT.out⟩
            · skip
              refine wpOp_step rfl (fun KX hKX => ?_)
              have HX := hid hKX
              clear hKX
              go_simp
              refine HX.out _ _ ⟨fun _ => hS, ?_⟩
              clear HX
              try simp only [Act.put]
              refine until_ready (rs := [1, 5]) (by kernel_rfl) (by simp) ?_
              intro jj hjj
              simp only [List.mem_cons, List.not_mem_nil, or_false] at hjj
              rcases hjj with rfl | rfl
              · skip
                refine wpOp_step rfl (fun KX hKX => ?_)
                have HX := hid hKX
                clear hKX
                go_simp
                refine HX.out _ _ ⟨fun _ => hS, ?_⟩
                clear HX
                try simp only [Act.put]
                refine until_step (j := 5) (by kernel_rfl) rfl (by kernel_rfl) (fun KX hKX => ?_)
                have HX := hid hKX
                clear hKX
                go_simp
                refine HX.out _ _ ⟨fun _ => hS, ?_⟩
                clear HX
                try simp only [Act.put]
                refine until_step (j := 6) (by kernel_rfl) rfl (by kernel_rfl) (fun KX hKX => ?_)
                have HX := hid hKX
                clear hKX
                go_simp
                refine HX.out _ _ ⟨fun _ => hS, ?_⟩
                clear HX
                try simp only [Act.put]
                refine until_step (j := 14) (by kernel_rfl) rfl (by kernel_rfl) (fun KX hKX => ?_)
                have HX := hid hKX
                clear hKX
                go_simp
                refine HX.out _ _ ⟨fun _ => hS, ?_⟩
                clear HX
                try simp only [Act.put]
                have z0 := E7.out.frozen 0
                refine until_step (j := 15) (by kernel_rfl) rfl (by kernel_rfl) (fun KX hKX => ?_)
                have HX := hid hKX
                clear hKX
                go_simp
                have V1 : Hid (Blk (w7.setCell ⟨g, 0, none⟩ (.string (M.bs xk))) g #[.string (M.bs xk), .string (M.bs vv), .bool mm] 43) := hid (by
                  have z := E7.out.set 0 (.string (M.bs xk))
                  simpa using z)
                have VT := hid (T7.out.other (B := g) HG.out.1 HG.out.2 0 (.string (M.bs xk)))
                have hS' : (w7.setCell ⟨g, 0, none⟩ (.string (M.bs xk))).cell? ⟨g, 1, none⟩ = some (.string (M.bs vv)) := by rw [V1.out.cell]; rfl
                refine HX.out _ _ ⟨fun _ => hS', ?_⟩
                clear HX E7 T7 z0 s0 hS
                generalize w7.setCell ⟨g, 0, none⟩ (.string (M.bs xk)) = w7b at *
                try simp only [Act.put]
                have z1 := V1.out.frozen 1
                refine until_step (j := 16) (by kernel_rfl) rfl (by kernel_rfl) (fun KX hKX => ?_)
                have HX := hid hKX
                clear hKX
                go_simp
                refine HX.out _ _ ⟨fun _ => hS', ?_⟩
                clear HX
                try simp only [Act.put]
                refine until_step (j := 17) (by kernel_rfl) rfl (by kernel_rfl) (fun KX hKX => ?_)
                have HX := hid hKX
                clear hKX
                go_simp
                have U1 : Hid (Blk (w7b.setCell ⟨g, 1, none⟩ (.string (M.bs xv))) g #[.string (M.bs xk), .string (M.bs xv), .bool mm] 43) := hid (by
                  have z := V1.out.set 1 (.string (M.bs xv))
                  simpa using z)
                have UT := hid (VT.out.other (B := g) HG.out.1 HG.out.2 1 (.string (M.bs xv)))
                refine HX.out _ _ ⟨(fun h => by cases (Eq.trans (Eq.symm (show _ = true by kernel_rfl)) h)), ?_⟩
                clear HX
                refine until_done (by kernel_rfl) ⟨rfl, ?_⟩ _
                exact ⟨by kernel_rfl, U1.out, UT.out⟩
              · skip
                refine wpOp_step rfl (fun KX hKX => ?_)
                have HX := hid hKX
                clear hKX
                go_simp
                refine HX.out _ _ ⟨fun _ => hS, ?_⟩
                clear HX
                try simp only [Act.put]
                refine until_step (j := 1) (by kernel_rfl) rfl (by kernel_rfl) (fun KX hKX => ?_)
                have HX := hid hKX
                clear hKX
                go_simp
                refine HX.out _ _ ⟨fun _ => hS, ?_⟩
                clear HX
                try simp only [Act.put]
                refine until_step (j := 6) (by kernel_rfl) rfl (by kernel_rfl) (fun KX hKX => ?_)
                have HX := hid hKX
                clear hKX
                go_simp
                refine HX.out _ _ ⟨fun _ => hS, ?_⟩
                clear HX
                try simp only [Act.put]
                refine until_step (j := 14) (by kernel_rfl) rfl (by kernel_rfl) (fun KX hKX => ?_)
                have HX := hid hKX
                clear hKX
                go_simp
                refine HX.out _ _ ⟨fun _ => hS, ?_⟩
                clear HX
                try simp only [Act.put]
                have z0 := E7.out.frozen 0
                refine until_step (j := 15) (by kernel_rfl) rfl (by kernel_rfl) (fun KX hKX => ?_)
                have HX := hid hKX
                clear hKX
                go_simp
                have V1 : Hid (Blk (w7.setCell ⟨g, 0, none⟩ (.string (M.bs xk))) g #[.string (M.bs xk), .string (M.bs vv), .bool mm] 43) := hid (by
                  have z := E7.out.set 0 (.string (M.bs xk))
                  simpa using z)
                have VT := hid (T7.out.other (B := g) HG.out.1 HG.out.2 0 (.string (M.bs xk)))
                have hS' : (w7.setCell ⟨g, 0, none⟩ (.string (M.bs xk))).cell? ⟨g, 1, none⟩ = some (.string (M.bs vv)) := by rw [V1.out.cell]; rfl
                refine HX.out _ _ ⟨fun _ => hS', ?_⟩
                clear HX E7 T7 z0 s0 hS
                generalize w7.setCell ⟨g, 0, none⟩ (.string (M.bs xk)) = w7b at *
                try simp only [Act.put]
                have z1 := V1.out.frozen 1
                refine until_step (j := 16) (by kernel_rfl) rfl (by kernel_rfl) (fun KX hKX => ?_)
                have HX := hid hKX
                clear hKX
                go_simp
                refine HX.out _ _ ⟨fun _ => hS', ?_⟩
                clear HX
                try simp only [Act.put]
                refine until_step (j := 17) (by kernel_rfl) rfl (by kernel_rfl) (fun KX hKX => ?_)
                have HX := hid hKX
                clear hKX
                go_simp
                have U1 : Hid (Blk (w7b.setCell ⟨g, 1, none⟩ (.string (M.bs xv))) g #[.string (M.bs xk), .string (M.bs xv), .bool mm] 43) := hid (by
                  have z := V1.out.set 1 (.string (M.bs xv))
                  simpa using z)
                have UT := hid (VT.out.other (B := g) HG.out.1 HG.out.2 1 (.string (M.bs xv)))
                refine HX.out _ _ ⟨(fun h => by cases (Eq.trans (Eq.symm (show _ = true by kernel_rfl)) h)), ?_⟩
                clear HX
                refine until_done (by kernel_rfl) ⟨rfl, ?_⟩ _
                exact ⟨by kernel_rfl, U1.out, UT.out⟩
        clear hzk hzv cek cev hnk hnv hlk hlv HE6 T6
        rintro w8 ⟨hE8, hT8⟩
        have E8 := hid hE8
        have T8 := hid hT8
        clear hE8 hT8
        refine HL.out _ _ ?_
        clear HL
        try simp only [Act.put]
        obtain ⟨k0, k1, k2⟩ : w8.cell? ⟨g, 0, none⟩ = some (.string (M.bs xk)) ∧ w8.cell? ⟨g, 1, none⟩ = some (.string (M.bs xv)) ∧ w8.cell? ⟨g, 2, none⟩ = some (.bool mm) := ⟨by rw [E8.out.cell]; rfl, by rw [E8.out.cell]; rfl, by rw [E8.out.cell]; rfl⟩
        obtain ⟨t0, t1, t2, t3, t4, t5⟩ := blk_cells T8.out.b
        have c4 : w8.cell? ⟨w.heap.size, 4, none⟩ = some (.bool td) := by rw [T8.out.r0.cell]; rfl
        cases td with
        | true =>
          rcases rins_step (td := true) HP.out (by omega) lv rt hs (by have := HHS.out; omega) (.slice a es.length c) xk xv mm w8 (own_vs43 T8.out.ox) HXK.out HXV.out with ⟨en, hen, hins⟩ | ⟨es2, hME2, hlen2, hins⟩
          · have HINS := hid hins
            clear hins
            have hen' : (en == 0) = false := by simpa using hen
            go_wp2_with fail
            refine HINS.out.mono ?_
            rintro e w9 ⟨pr, x2, rfl, o9, k9⟩
            obtain ⟨ax, cx, rfl⟩ := row_form o9
            have T9 := hid ((T8.out.bel k9).bel (Bel.al (Below.refl _ _) (.cells #[.int .i64 pr.lsn, .int .i64 pr.kind, .int .i64 pr.level, .int .i64 pr.right, .string (M.bs pr.high), .slice ax pr.es.length cx] 33)))
            clear o9 k9 t0 t1 t2 t3 t4 t5 k0 k1 k2 c4 E8 T8
            go_wp2_with fail
            go_roundw
            case rel => exact ⟨i + 1, es, a, c, by omega, by omega, by omega, by go_num, HP, T9⟩
            case measure => simp [intOf]; omega
          · have HINS := hid hins
            have HP2 := hid hME2
            clear hins hME2
            go_wp2_with fail
            refine HINS.out.mono ?_
            rintro e w9 ⟨x2, rfl, o9, k9⟩
            obtain ⟨ax, cx, rfl⟩ := row_form o9
            have T9 := hid ((T8.out.bel k9).bel (Bel.al (Below.refl _ _) (.cells #[.int .i64 5, .int .i64 3, .int .i64 lv, .int .i64 rt, .string (M.bs hs), .slice ax es2.length cx] 33)))
            have O9 := hid (bel43 o9 (Bel.al (Below.refl _ _) (.cells #[.int .i64 5, .int .i64 3, .int .i64 lv, .int .i64 rt, .string (M.bs hs), .slice ax es2.length cx] 33)))
            have Z9 := hid T8.out.b.lt
            clear o9 k9 t0 t1 t2 t3 t4 t5 k0 k1 k2 c4 E8 T8
            have hth : (w9.alloc (.cells #[.int .i64 5, .int .i64 3, .int .i64 lv, .int .i64 rt, .string (M.bs hs), .slice ax es2.length cx] 33)).there (w.heap.size + 1 + 1 + 1) 0 (#[.int .i64 5, .int .i64 3, .int .i64 lv, .int .i64 rt, .string (M.bs hs), .slice ax es2.length cx] : Array Value).size := fun j hj => by
              rw [T9.out.b.cell, T9.out.b.frozen]
              refine ⟨?_, rfl⟩
              have : j < 6 := hj
              simp
              omega
            have hone : (#[.int .i64 5, .int .i64 3, .int .i64 lv, .int .i64 rt, .string (M.bs hs), .slice ax es2.length cx] : Array Value).all (·.oneCell') = true := by simp [Value.oneCell']
            have hi6' : (Try.prog.info? 33).map (·.size) = some (#[.int .i64 5, .int .i64 3, .int .i64 lv, .int .i64 rt, .string (M.bs hs), .slice ax es2.length cx] : Array Value).size := by rw [info33]; rfl
            go_wp2_with (refine wpList_store_mid rfl 33 (.tmp 5) (.tmp 67) rfl (w.heap.size + 1 + 1 + 1) 0 #[.int .i64 5, .int .i64 3, .int .i64 lv, .int .i64 rt, .string (M.bs hs), .slice ax es2.length cx] (by rfl) (by rfl) hth hi6' hone ?_; simp only [World.setCells, Nat.zero_add, Nat.reduceAdd]; have T10 := hid (T9.out.put (r := ⟨5, 3, lv, rt, hs, es2⟩) O9.out (by have := Z9.out; omega)); clear O9 T9; clear hth; generalize (((((((w9.alloc (.cells #[.int .i64 5, .int .i64 3, .int .i64 lv, .int .i64 rt, .string (M.bs hs), .slice ax es2.length cx] 33)).setCell ⟨w.heap.size + 1 + 1 + 1, 0, none⟩ (.int .i64 5)).setCell ⟨w.heap.size + 1 + 1 + 1, 1, none⟩ (.int .i64 3)).setCell ⟨w.heap.size + 1 + 1 + 1, 2, none⟩ (.int .i64 lv)).setCell ⟨w.heap.size + 1 + 1 + 1, 3, none⟩ (.int .i64 rt)).setCell ⟨w.heap.size + 1 + 1 + 1, 4, none⟩ (.string (M.bs hs))).setCell ⟨w.heap.size + 1 + 1 + 1, 5, none⟩ (.slice ax es2.length cx)) = w10 at *; clear hone hi6')
            go_roundw
            case rel => exact ⟨i + 1, es2, ax, cx, by omega, by omega, by omega, by go_num, HP2, T10⟩
            case measure => simp [intOf]; omega
        | false =>
          have kA : Bel w8 (w8.alloc (.cells #[.string (M.bs xk), .string (M.bs xv), .bool mm] 43)) := Bel.al (Below.refl _ _) _
          have T9 := hid (T8.out.bel kA)
          obtain ⟨ax, cx, w10, j1, j2, j3⟩ := app31 (w8.alloc (.cells #[.string (M.bs xk), .string (M.bs xv), .bool mm] 43)) (w.heap.size + 1 + 1 + 1 + 1) _ _ _ T9.out.ox (.slice (some ⟨w8.heap.size, 0, none⟩) 1 1) [(xk, xv, mm)] (.inr ⟨w8.heap.size, 0, 1, rfl, by simp, by simp, row3_one w8 (xk, xv, mm) 43⟩) (by have z1 : [(xk, xv, mm)].length = 1 := rfl; show es.length + _ ≤ _; omega) (by have := T9.out.b.lt; omega)
          have HP2 : Hid (ME false (es ++ [(xk, xv, mm)])) := ⟨by rw [List.length_append]; have z1 : [(xk, xv, mm)].length = 1 := rfl; omega, fun e he => by
            rcases List.mem_append.1 he with he | he
            · exact HP.out.each e he
            · rw [List.mem_singleton.1 he]; exact ⟨HXK.out, HXV.out⟩, fun h => by cases h⟩
          have hlen2 : (es ++ [(xk, xv, mm)]).length = es.length + 1 := by simp
          have hl1 : (⟨5, 3, lv, rt, hs, es⟩ : M.Pg).es.length + [(xk, xv, mm)].length = (es ++ [(xk, xv, mm)]).length := by simp
          rw [hl1, ← csE_append] at j2
          rw [hl1] at j1
          generalize es ++ [(xk, xv, mm)] = es2 at *
          have HL2 := hid hlen2
          have TB := hid ((T9.out.b.below (Below.refl _ _) T9.out.b.lt))
          have hb10 : Blk w10 (w.heap.size + 1 + 1 + 1) #[.int .i64 5, .int .i64 3, .int .i64 lv, .int .i64 rt, .string (M.bs hs), .slice a es.length c] 33 := (j3.block _ T9.out.b.lt (fun e => by have := (T9.out.ox.lt _ e.symm).1; omega)).trans T9.out.b
          have HB10 := hid hb10
          have T11 := hid (T9.out.app j3 es2 j2)
          clear hlen2 hl1 hb10 j2 j3 T9 TB
          go_wp2_with (at_builtin; refine appL rfl _ _ rfl rfl rfl j1 ?_; clear t0 t1 t2 t3 t4 t5 k0 k1 k2 c4; obtain ⟨t0, t1, t2, t3, t4, t5⟩ := blk_cells HB10.out; have y5 := HB10.out.frozen 5)
          go_roundw
          case rel => exact ⟨i + 1, es2, ax, cx, by omega, by omega, by have := HL2.out; omega, by go_num, HP2, T11⟩
          case measure => simp [intOf]; omega
      · have hin6 : ¬ (i : Int) < 60 := by omega
        have c0 : wr.cell? ⟨w.heap.size, 0, none⟩ = some (.int .i64 lv) := by rw [HT.out.r0.cell]; rfl
        have c1 : wr.cell? ⟨w.heap.size, 1, none⟩ = some (.int .i64 rt) := by rw [HT.out.r0.cell]; rfl
        obtain ⟨ga, hga⟩ : ∃ ga, ga = wr.heap.size := ⟨_, rfl⟩
        have HN0 : Hid (NB w (wr.alloc (.cells #[.int .i64 5, .int .i64 3, .int .i64 lv, .int .i64 rt, .string (M.bs hs), .slice none 0 0] 30)) #[.int .i64 lv, .int .i64 rt, .string (M.bs hg), .slice ar L.length cap, .bool td] lv rt hs es (.slice a es.length c) ga 0 (.slice none 0 0)) := NB.start HT.out ga hga
        go_wp2_with fail
        rw [← hga]
        generalize wr.alloc (.cells #[.int .i64 5, .int .i64 3, .int .i64 lv, .int .i64 rt, .string (M.bs hs), .slice none 0 0] 30) = wa at *
        clear HT hga c0 c1 c3
        go_loopw [11] (fun jv wq => ∃ (j : Nat) (ya : Option Addr) (yc : Nat), j ≤ es.length ∧ jv = .int .i64 j ∧ Hid (NB w wq #[.int .i64 lv, .int .i64 rt, .string (M.bs hg), .slice ar L.length cap, .bool td] lv rt hs es (.slice a es.length c) ga j (.slice ya j yc))) (fun jv _ => es.length - (intOf jv).toNat)
        case atStart => exact ⟨0, none, 0, by omega, rfl, HN0⟩
        case round =>
          obtain ⟨j, ya, yc, hj0, rfl, HN⟩ := hrel
          obtain ⟨t0, t1, t2, t3, t4, t5⟩ := blk_cells HN.out.m.b
          by_cases hj : j < es.length
          · have hjj : (j : Int) < (es.length : Int) := by omega
            have h60 := HP.out.len
            obtain ⟨bx, ox, hax, hbx, hrx⟩ : ∃ bx ox, a = some ⟨bx, ox, none⟩ ∧ bx < wr.heap.size ∧ Row3 wr bx ox es := by
              rcases own_vs43 HN.out.m.ox with ⟨h, h0⟩ | ⟨b', off', cap', h, h1, h2, h3⟩
              · have h0 : es = [] := h0
                rw [h0] at hj; simp at hj
              · injection h with e1 e2 e3
                exact ⟨b', off', e1, h2, h3⟩
            subst hax
            go_wp2_with fail
            clear t0 t1 t2 t3 t4 t5
            refine wp_last fun KL hKL => ?_
            have HL := hid hKL
            clear hKL
            refine region_until (S := fun W : World => Blk W ga #[.int .i64 5, .int .i64 3, .int .i64 lv, .int .i64 rt, .string (M.bs hs), .slice ya j yc] 30 ∧ Blk W (w.heap.size + 1 + 1 + 1) #[.int .i64 5, .int .i64 3, .int .i64 lv, .int .i64 rt, .string (M.bs hs), .slice (some ⟨bx, ox, none⟩) es.length c] 33 ∧ Row3 W bx ox es) (m := 8) (by kernel_rfl) ?_
            have N6 := hid (HN.out.bel (Bel.dr (Below.refl _ _)))
            have hrx6 := hrx.below (Bel.dr (Below.refl wr.heap.size wr)) hbx
            have hbx6 : bx < wr.drew.heap.size := hbx
            clear HN hrx hbx
            generalize wr.drew = w6 at *
            have hS := And.intro N6.out.a (And.intro N6.out.m.b hrx6)
            refine take_next (i := 0) (.pointer (some ⟨ga, 5, none⟩)) [1, 8] (by kernel_rfl) (by kernel_rfl) rfl (by kernel_rfl) (by kernel_rfl) (by kernel_rfl) (by kernel_rfl) (fun _ _ _ h => absurd h.1 (by simp)) (Or.inl ⟨by rfl, fun w' hSw => by go_simp⟩) hS ?_
            try simp only [Act.put]
            refine take_next (i := 1) (.slice ya j yc) [8] (by kernel_rfl) (by kernel_rfl) rfl (by kernel_rfl) (by kernel_rfl) (by kernel_rfl) (by kernel_rfl) (fun _ _ _ h => absurd h.1 (by simp)) (Or.inl ⟨by rfl, fun w' hSw => by obtain ⟨s0, s1, s2, s3, s4, s5⟩ := blk_cells hSw.1; go_simp⟩) hS ?_
            try simp only [Act.put]
            refine take_next (i := 2) (.pointer (some ⟨w.heap.size + 1 + 1 + 1, 5, none⟩)) [3, 5, 6, 7, 8] (by kernel_rfl) (by kernel_rfl) rfl (by kernel_rfl) (by kernel_rfl) (by kernel_rfl) (by kernel_rfl) (fun _ _ _ h => absurd h.1 (by simp)) (Or.inl ⟨by rfl, fun w' hSw => by go_simp⟩) hS ?_
            try simp only [Act.put]
            refine take_next (i := 3) (.slice (some ⟨bx, ox, none⟩) es.length c) [5, 6, 7, 8] (by kernel_rfl) (by kernel_rfl) rfl (by kernel_rfl) (by kernel_rfl) (by kernel_rfl) (by kernel_rfl) (fun _ _ _ h => absurd h.1 (by simp)) (Or.inl ⟨by rfl, fun w' hSw => by obtain ⟨s0, s1, s2, s3, s4, s5⟩ := blk_cells hSw.2.1; go_simp⟩) hS ?_
            try simp only [Act.put]
            refine take_next (i := 4) (.int .i64 (j : Nat)) [5, 6, 7, 8] (by kernel_rfl) (by kernel_rfl) rfl (by kernel_rfl) (by kernel_rfl) (by kernel_rfl) (by kernel_rfl) (fun _ _ _ h => absurd h.1 (by simp)) (Or.inl ⟨by rfl, fun w' hSw => by go_simp⟩) hS ?_
            try simp only [Act.put]
            refine take_next (i := 5) (.pointer (some ⟨bx, ox + j * 3, none⟩)) [6, 7, 8] (by kernel_rfl) (by kernel_rfl) rfl (by kernel_rfl) (by kernel_rfl) (by kernel_rfl) (by kernel_rfl) (fun _ _ _ h => absurd h.1 (by simp)) (Or.inl ⟨by rfl, fun w' hSw => by go_simp⟩) hS ?_
            try simp only [Act.put]
            refine take_next (i := 6) (.agg #[.string (M.bs (es[j]'hj).1), .string (M.bs (es[j]'hj).2.1), .bool (es[j]'hj).2.2]) [7, 8] (by kernel_rfl) (by kernel_rfl) rfl (by kernel_rfl) (by kernel_rfl) (by kernel_rfl) (by kernel_rfl) (fun _ _ _ h => absurd h.1 (by simp)) (Or.inl ⟨by rfl, fun w' hSw => by obtain ⟨s0, s1, s2⟩ := hSw.2.2 j hj; go_simp⟩) hS ?_
            try simp only [Act.put]
            have HTK : Hid (es.take (j + 1) = es.take j ++ [es[j]'hj]) := List.take_succ_eq_append_getElem hj
            generalize es[j]'hj = ex at *
            obtain ⟨xk, xv, mm⟩ := ex
            have kA : Bel w6 (w6.alloc (.cells #[.string (M.bs xk), .string (M.bs xv), .bool mm] 40)) := Bel.al (Below.refl _ _) _
            have N7 := hid (N6.out.bel kA)
            obtain ⟨ax, cx, w8, j1, j2, j3⟩ := app28 (w6.alloc (.cells #[.string (M.bs xk), .string (M.bs xv), .bool mm] 40)) (ga + 1) _ _ _ N7.out.oy (.slice (some ⟨w6.heap.size, 0, none⟩) 1 1) [(xk, xv, mm)] (.inr ⟨w6.heap.size, 0, 1, rfl, by simp, by simp, row3_one w6 (xk, xv, mm) 40⟩) (by have z1 : [(xk, xv, mm)].length = 1 := rfl; omega) (by have := N7.out.a.lt; omega)
            rw [← csE_append, ← HTK.out, show j + [(xk, xv, mm)].length = j + 1 from rfl] at j2
            rw [show j + [(xk, xv, mm)].length = j + 1 from rfl] at j1
            have N9 := hid (N7.out.app j3 j2)
            have ha8 : Blk w8 ga #[.int .i64 5, .int .i64 3, .int .i64 lv, .int .i64 rt, .string (M.bs hs), .slice ya j yc] 30 := (j3.block _ N7.out.a.lt (fun e => by have := (N7.out.oy.lt _ e.symm).1; omega)).trans N7.out.a
            have HA8 := hid ha8
            clear ha8 j2 j3 N6
            refine until_step (j := 7) (by kernel_rfl) rfl (by kernel_rfl) (fun KX hKX => ?_)
            have HX := hid hKX
            clear hKX
            go_simp
            refine HX.out _ _ ⟨fun _ => And.intro N7.out.a (And.intro N7.out.m.b (hrx6.below kA hbx6)), ?_⟩
            clear HX
            try simp only [Act.put]
            refine until_step (j := 8) (by kernel_rfl) rfl (by kernel_rfl) (fun KX hKX => ?_)
            have HX := hid hKX
            clear hKX
            refine Lib.wp_append_run _ _ _ 28 28 (by rfl) _ _ (by rfl) (by rfl) _ _ (by exact j1) ?_
            refine HX.out _ _ ⟨(fun h => by cases (Eq.trans (Eq.symm (show _ = true by kernel_rfl)) h)), ?_⟩
            clear HX j1
            try simp only [Act.put]
            refine until_step (j := 9) (by kernel_rfl) rfl (by kernel_rfl) (fun KX hKX => ?_)
            have HX := hid hKX
            clear hKX
            go_simp
            refine HX.out _ _ ⟨(fun h => by cases (Eq.trans (Eq.symm (show _ = true by kernel_rfl)) h)), ?_⟩
            clear HX
            try simp only [Act.put]
            have y5 := (blk_cells HA8.out).2.2.2.2.2
            have z5 := HA8.out.frozen 5
            refine until_step (j := 10) (by kernel_rfl) rfl (by kernel_rfl) (fun KX hKX => ?_)
            have HX := hid hKX
            clear hKX
            go_simp
            refine HX.out _ _ ⟨(fun h => by cases (Eq.trans (Eq.symm (show _ = true by kernel_rfl)) h)), ?_⟩
            clear HX y5 z5
            refine until_done (by kernel_rfl) ⟨rfl, ?_⟩ _
            refine HL.out _ _ ?_
            clear HL
            go_wp2_with fail
            go_roundw
            case rel => exact ⟨j + 1, ax, cx, by omega, by go_num, N9⟩
            case measure => simp [intOf]; omega
          · have hjj : ¬ (j : Int) < (es.length : Int) := by omega
            obtain rfl : j = es.length := by omega
            go_wp2_with fail
            clear t0 t1 t2 t3 t4 t5
            refine wp_last fun KL hKL => ?_
            have HL := hid hKL
            clear hKL
            refine region_until (S := fun W : World => Blk W ga #[.int .i64 5, .int .i64 3, .int .i64 lv, .int .i64 rt, .string (M.bs hs), .slice ya es.length yc] 30 ∧ Blk W (w.heap.size + 1 + 1 + 1) #[.int .i64 5, .int .i64 3, .int .i64 lv, .int .i64 rt, .string (M.bs hs), .slice a es.length c] 33) (m := 3) (by kernel_rfl) ?_
            have N6 := hid (HN.out.bel (Bel.dr (Below.refl _ _)))
            clear HN
            generalize wr.drew = w6 at *
            have hS := And.intro N6.out.a N6.out.m.b
            refine take_next (i := 0) (.agg #[.int .i64 5, .int .i64 3, .int .i64 lv, .int .i64 rt, .string (M.bs hs), .slice ya es.length yc]) [2, 3] (by kernel_rfl) (by kernel_rfl) rfl (by kernel_rfl) (by kernel_rfl) (by kernel_rfl) (by kernel_rfl) (fun _ _ _ h => absurd h.1 (by simp)) (Or.inl ⟨by rfl, fun w' hSw => by obtain ⟨s0, s1, s2, s3, s4, s5⟩ := blk_cells hSw.1; go_simp⟩) hS ?_
            try simp only [Act.put]
            refine take_next (i := 1) (.agg #[.int .i64 5, .int .i64 3, .int .i64 lv, .int .i64 rt, .string (M.bs hs), .slice a es.length c]) [3] (by kernel_rfl) (by kernel_rfl) rfl (by kernel_rfl) (by kernel_rfl) (by kernel_rfl) (by kernel_rfl) (fun _ _ _ h => absurd h.1 (by simp)) (Or.inl ⟨by rfl, fun w' hSw => by obtain ⟨s0, s1, s2, s3, s4, s5⟩ := blk_cells hSw.2; go_simp⟩) hS ?_
            try simp only [Act.put]
            obtain ⟨t0, t1, t2, t3, t4, t5⟩ := blk_cells N6.out.m.r1
            have f0 := N6.out.m.r1.frozen 0
            have f1 := N6.out.m.r1.frozen 1
            have f2 := N6.out.m.r1.frozen 2
            have f3 := N6.out.m.r1.frozen 3
            have f4 := N6.out.m.r1.frozen 4
            have f5 := N6.out.m.r1.frozen 5
            refine until_step (j := 2) (by kernel_rfl) rfl (by kernel_rfl) (fun KX hKX => ?_)
            have HX := hid hKX
            clear hKX
            go_simp
            have V1 := hid (set6 N6.out.m.r1 (.int .i64 5) (.int .i64 3) (.int .i64 lv) (.int .i64 rt) (.string (M.bs hs)) (.slice ya es.length yc))
            have V2 := hid (other6 N6.out.m.r2 (show w.heap.size + 1 + 1 ≠ w.heap.size + 1 by omega) (.int .i64 5) (.int .i64 3) (.int .i64 lv) (.int .i64 rt) (.string (M.bs hs)) (.slice ya es.length yc))
            have VB := hid (bel6 N6.out.m.below (show w.heap.size ≤ w.heap.size + 1 by omega) (.int .i64 5) (.int .i64 3) (.int .i64 lv) (.int .i64 rt) (.string (M.bs hs)) (.slice ya es.length yc))
            have VS : Hid ((fun W : World => Blk W ga #[.int .i64 5, .int .i64 3, .int .i64 lv, .int .i64 rt, .string (M.bs hs), .slice ya es.length yc] 30 ∧ Blk W (w.heap.size + 1 + 1 + 1) #[.int .i64 5, .int .i64 3, .int .i64 lv, .int .i64 rt, .string (M.bs hs), .slice a es.length c] 33) ((((((w6.setCell ⟨w.heap.size + 1, 0, none⟩ (.int .i64 5)).setCell ⟨w.heap.size + 1, 1, none⟩ (.int .i64 3)).setCell ⟨w.heap.size + 1, 2, none⟩ (.int .i64 lv)).setCell ⟨w.heap.size + 1, 3, none⟩ (.int .i64 rt)).setCell ⟨w.heap.size + 1, 4, none⟩ (.string (M.bs hs))).setCell ⟨w.heap.size + 1, 5, none⟩ (.slice ya es.length yc))) := And.intro (other6 N6.out.a (by have := N6.out.lt; omega) (.int .i64 5) (.int .i64 3) (.int .i64 lv) (.int .i64 rt) (.string (M.bs hs)) (.slice ya es.length yc)) (other6 N6.out.m.b (by omega) (.int .i64 5) (.int .i64 3) (.int .i64 lv) (.int .i64 rt) (.string (M.bs hs)) (.slice ya es.length yc))
            have X8 := hid (ownc6 N6.out.oy (row_ne N6.out.oy N6.out.m.r1 (by decide)) (.int .i64 5) (.int .i64 3) (.int .i64 lv) (.int .i64 rt) (.string (M.bs hs)) (.slice ya es.length yc))
            have X9 := hid (ownc43 N6.out.m.ox (row_ne N6.out.m.ox N6.out.m.r1 (by decide)) (.int .i64 5) (.int .i64 3) (.int .i64 lv) (.int .i64 rt) (.string (M.bs hs)) (.slice ya es.length yc))
            have ZL := hid N6.out.lt
            refine HX.out _ _ ⟨fun _ => VS.out, ?_⟩
            clear HX t0 t1 t2 t3 t4 t5 f0 f1 f2 f3 f4 f5 N6 hS
            generalize ((((((w6.setCell ⟨w.heap.size + 1, 0, none⟩ (.int .i64 5)).setCell ⟨w.heap.size + 1, 1, none⟩ (.int .i64 3)).setCell ⟨w.heap.size + 1, 2, none⟩ (.int .i64 lv)).setCell ⟨w.heap.size + 1, 3, none⟩ (.int .i64 rt)).setCell ⟨w.heap.size + 1, 4, none⟩ (.string (M.bs hs))).setCell ⟨w.heap.size + 1, 5, none⟩ (.slice ya es.length yc)) = w14 at *
            try simp only [Act.put]
            obtain ⟨t0, t1, t2, t3, t4, t5⟩ := blk_cells V2.out
            have f0 := V2.out.frozen 0
            have f1 := V2.out.frozen 1
            have f2 := V2.out.frozen 2
            have f3 := V2.out.frozen 3
            have f4 := V2.out.frozen 4
            have f5 := V2.out.frozen 5
            refine until_step (j := 3) (by kernel_rfl) rfl (by kernel_rfl) (fun KX hKX => ?_)
            have HX := hid hKX
            clear hKX
            go_simp
            have U1 := hid (other6 V1.out (show w.heap.size + 1 ≠ w.heap.size + 1 + 1 by omega) (.int .i64 5) (.int .i64 3) (.int .i64 lv) (.int .i64 rt) (.string (M.bs hs)) (.slice a es.length c))
            have U2 := hid (set6 V2.out (.int .i64 5) (.int .i64 3) (.int .i64 lv) (.int .i64 rt) (.string (M.bs hs)) (.slice a es.length c))
            have UB := hid (bel6 VB.out (show w.heap.size ≤ w.heap.size + 1 + 1 by omega) (.int .i64 5) (.int .i64 3) (.int .i64 lv) (.int .i64 rt) (.string (M.bs hs)) (.slice a es.length c))
            have Y8 := hid (ownc6 X8.out (row_ne X8.out V2.out (by decide)) (.int .i64 5) (.int .i64 3) (.int .i64 lv) (.int .i64 rt) (.string (M.bs hs)) (.slice a es.length c))
            have Y9 := hid (ownc43 X9.out (row_ne X9.out V2.out (by decide)) (.int .i64 5) (.int .i64 3) (.int .i64 lv) (.int .i64 rt) (.string (M.bs hs)) (.slice a es.length c))
            refine HX.out _ _ ⟨(fun h => by cases (Eq.trans (Eq.symm (show _ = true by kernel_rfl)) h)), ?_⟩
            clear HX t0 t1 t2 t3 t4 t5 f0 f1 f2 f3 f4 f5 V1 V2 VB VS X8 X9
            generalize ((((((w14.setCell ⟨w.heap.size + 1 + 1, 0, none⟩ (.int .i64 5)).setCell ⟨w.heap.size + 1 + 1, 1, none⟩ (.int .i64 3)).setCell ⟨w.heap.size + 1 + 1, 2, none⟩ (.int .i64 lv)).setCell ⟨w.heap.size + 1 + 1, 3, none⟩ (.int .i64 rt)).setCell ⟨w.heap.size + 1 + 1, 4, none⟩ (.string (M.bs hs))).setCell ⟨w.heap.size + 1 + 1, 5, none⟩ (.slice a es.length c)) = w15 at *
            refine until_done (by kernel_rfl) ⟨rfl, ?_⟩ _
            refine HL.out _ _ ?_
            clear HL
            go_wp2_with fail
            refine bodyPost_ret (results_cells2 (p := 2) (q := 3) (ty := 30) (uy := 33) rfl _ _ (w.heap.size + 1) _ (w.heap.size + 1 + 1) _ rfl rfl (load30 (cs := #[.int .i64 5, .int .i64 3, .int .i64 lv, .int .i64 rt, .string (M.bs hs), .slice ya es.length yc]) U1.out rfl) (load33 (cs := #[.int .i64 5, .int .i64 3, .int .i64 lv, .int .i64 rt, .string (M.bs hs), .slice a es.length c]) U2.out rfl)) rfl ?_
            have Z8 := own_base (base' := w.heap.size) Y8.out (by have := ZL.out; omega)
            rw [List.take_length] at Z8
            have Z9 := base43 (base' := w.heap.size) Y9.out (by omega)
            exact ⟨es, _, _, rfl, Z8, Z9, UB.out, HP.out⟩
    · have hin : ¬ (i : Int) < (L.length : Int) := by omega
      have c0 : wr.cell? ⟨w.heap.size, 0, none⟩ = some (.int .i64 lv) := by rw [HT.out.r0.cell]; rfl
      have c1 : wr.cell? ⟨w.heap.size, 1, none⟩ = some (.int .i64 rt) := by rw [HT.out.r0.cell]; rfl
      obtain ⟨ga, hga⟩ : ∃ ga, ga = wr.heap.size := ⟨_, rfl⟩
      have HN0 : Hid (NB w (wr.alloc (.cells #[.int .i64 5, .int .i64 3, .int .i64 lv, .int .i64 rt, .string (M.bs hs), .slice none 0 0] 30)) #[.int .i64 lv, .int .i64 rt, .string (M.bs hg), .slice ar L.length cap, .bool td] lv rt hs es (.slice a es.length c) ga 0 (.slice none 0 0)) := NB.start HT.out ga hga
      go_wp2_with fail
      rw [← hga]
      generalize wr.alloc (.cells #[.int .i64 5, .int .i64 3, .int .i64 lv, .int .i64 rt, .string (M.bs hs), .slice none 0 0] 30) = wa at *
      clear HT hga c0 c1 c3
      go_loopw [11] (fun jv wq => ∃ (j : Nat) (ya : Option Addr) (yc : Nat), j ≤ es.length ∧ jv = .int .i64 j ∧ Hid (NB w wq #[.int .i64 lv, .int .i64 rt, .string (M.bs hg), .slice ar L.length cap, .bool td] lv rt hs es (.slice a es.length c) ga j (.slice ya j yc))) (fun jv _ => es.length - (intOf jv).toNat)
      case atStart => exact ⟨0, none, 0, by omega, rfl, HN0⟩
      case round =>
        obtain ⟨j, ya, yc, hj0, rfl, HN⟩ := hrel
        obtain ⟨t0, t1, t2, t3, t4, t5⟩ := blk_cells HN.out.m.b
        by_cases hj : j < es.length
        · have hjj : (j : Int) < (es.length : Int) := by omega
          have h60 := HP.out.len
          obtain ⟨bx, ox, hax, hbx, hrx⟩ : ∃ bx ox, a = some ⟨bx, ox, none⟩ ∧ bx < wr.heap.size ∧ Row3 wr bx ox es := by
            rcases own_vs43 HN.out.m.ox with ⟨h, h0⟩ | ⟨b', off', cap', h, h1, h2, h3⟩
            · have h0 : es = [] := h0
              rw [h0] at hj; simp at hj
            · injection h with e1 e2 e3
              exact ⟨b', off', e1, h2, h3⟩
          subst hax
          go_wp2_with fail
          clear t0 t1 t2 t3 t4 t5
          refine wp_last fun KL hKL => ?_
          have HL := hid hKL
          clear hKL
          refine region_until (S := fun W : World => Blk W ga #[.int .i64 5, .int .i64 3, .int .i64 lv, .int .i64 rt, .string (M.bs hs), .slice ya j yc] 30 ∧ Blk W (w.heap.size + 1 + 1 + 1) #[.int .i64 5, .int .i64 3, .int .i64 lv, .int .i64 rt, .string (M.bs hs), .slice (some ⟨bx, ox, none⟩) es.length c] 33 ∧ Row3 W bx ox es) (m := 8) (by kernel_rfl) ?_
          have N6 := hid (HN.out.bel (Bel.dr (Below.refl _ _)))
          have hrx6 := hrx.below (Bel.dr (Below.refl wr.heap.size wr)) hbx
          have hbx6 : bx < wr.drew.heap.size := hbx
          clear HN hrx hbx
          generalize wr.drew = w6 at *
          have hS := And.intro N6.out.a (And.intro N6.out.m.b hrx6)
          refine take_next (i := 0) (.pointer (some ⟨ga, 5, none⟩)) [1, 8] (by kernel_rfl) (by kernel_rfl) rfl (by kernel_rfl) (by kernel_rfl) (by kernel_rfl) (by kernel_rfl) (fun _ _ _ h => absurd h.1 (by simp)) (Or.inl ⟨by rfl, fun w' hSw => by go_simp⟩) hS ?_
          try simp only [Act.put]
          refine take_next (i := 1) (.slice ya j yc) [8] (by kernel_rfl) (by kernel_rfl) rfl (by kernel_rfl) (by kernel_rfl) (by kernel_rfl) (by kernel_rfl) (fun _ _ _ h => absurd h.1 (by simp)) (Or.inl ⟨by rfl, fun w' hSw => by obtain ⟨s0, s1, s2, s3, s4, s5⟩ := blk_cells hSw.1; go_simp⟩) hS ?_
          try simp only [Act.put]
          refine take_next (i := 2) (.pointer (some ⟨w.heap.size + 1 + 1 + 1, 5, none⟩)) [3, 5, 6, 7, 8] (by kernel_rfl) (by kernel_rfl) rfl (by kernel_rfl) (by kernel_rfl) (by kernel_rfl) (by kernel_rfl) (fun _ _ _ h => absurd h.1 (by simp)) (Or.inl ⟨by rfl, fun w' hSw => by go_simp⟩) hS ?_
          try simp only [Act.put]
          refine take_next (i := 3) (.slice (some ⟨bx, ox, none⟩) es.length c) [5, 6, 7, 8] (by kernel_rfl) (by kernel_rfl) rfl (by kernel_rfl) (by kernel_rfl) (by kernel_rfl) (by kernel_rfl) (fun _ _ _ h => absurd h.1 (by simp)) (Or.inl ⟨by rfl, fun w' hSw => by obtain ⟨s0, s1, s2, s3, s4, s5⟩ := blk_cells hSw.2.1; go_simp⟩) hS ?_
          try simp only [Act.put]
          refine take_next (i := 4) (.int .i64 (j : Nat)) [5, 6, 7, 8] (by kernel_rfl) (by kernel_rfl) rfl (by kernel_rfl) (by kernel_rfl) (by kernel_rfl) (by kernel_rfl) (fun _ _ _ h => absurd h.1 (by simp)) (Or.inl ⟨by rfl, fun w' hSw => by go_simp⟩) hS ?_
          try simp only [Act.put]
          refine take_next (i := 5) (.pointer (some ⟨bx, ox + j * 3, none⟩)) [6, 7, 8] (by kernel_rfl) (by kernel_rfl) rfl (by kernel_rfl) (by kernel_rfl) (by kernel_rfl) (by kernel_rfl) (fun _ _ _ h => absurd h.1 (by simp)) (Or.inl ⟨by rfl, fun w' hSw => by go_simp⟩) hS ?_
          try simp only [Act.put]
          refine take_next (i := 6) (.agg #[.string (M.bs (es[j]'hj).1), .string (M.bs (es[j]'hj).2.1), .bool (es[j]'hj).2.2]) [7, 8] (by kernel_rfl) (by kernel_rfl) rfl (by kernel_rfl) (by kernel_rfl) (by kernel_rfl) (by kernel_rfl) (fun _ _ _ h => absurd h.1 (by simp)) (Or.inl ⟨by rfl, fun w' hSw => by obtain ⟨s0, s1, s2⟩ := hSw.2.2 j hj; go_simp⟩) hS ?_
          try simp only [Act.put]
          have HTK : Hid (es.take (j + 1) = es.take j ++ [es[j]'hj]) := List.take_succ_eq_append_getElem hj
          generalize es[j]'hj = ex at *
          obtain ⟨xk, xv, mm⟩ := ex
          have kA : Bel w6 (w6.alloc (.cells #[.string (M.bs xk), .string (M.bs xv), .bool mm] 40)) := Bel.al (Below.refl _ _) _
          have N7 := hid (N6.out.bel kA)
          obtain ⟨ax, cx, w8, j1, j2, j3⟩ := app28 (w6.alloc (.cells #[.string (M.bs xk), .string (M.bs xv), .bool mm] 40)) (ga + 1) _ _ _ N7.out.oy (.slice (some ⟨w6.heap.size, 0, none⟩) 1 1) [(xk, xv, mm)] (.inr ⟨w6.heap.size, 0, 1, rfl, by simp, by simp, row3_one w6 (xk, xv, mm) 40⟩) (by have z1 : [(xk, xv, mm)].length = 1 := rfl; omega) (by have := N7.out.a.lt; omega)
          rw [← csE_append, ← HTK.out, show j + [(xk, xv, mm)].length = j + 1 from rfl] at j2
          rw [show j + [(xk, xv, mm)].length = j + 1 from rfl] at j1
          have N9 := hid (N7.out.app j3 j2)
          have ha8 : Blk w8 ga #[.int .i64 5, .int .i64 3, .int .i64 lv, .int .i64 rt, .string (M.bs hs), .slice ya j yc] 30 := (j3.block _ N7.out.a.lt (fun e => by have := (N7.out.oy.lt _ e.symm).1; omega)).trans N7.out.a
          have HA8 := hid ha8
          clear ha8 j2 j3 N6
          refine until_step (j := 7) (by kernel_rfl) rfl (by kernel_rfl) (fun KX hKX => ?_)
          have HX := hid hKX
          clear hKX
          go_simp
          refine HX.out _ _ ⟨fun _ => And.intro N7.out.a (And.intro N7.out.m.b (hrx6.below kA hbx6)), ?_⟩
          clear HX
          try simp only [Act.put]
          refine until_step (j := 8) (by kernel_rfl) rfl (by kernel_rfl) (fun KX hKX => ?_)
          have HX := hid hKX
          clear hKX
          refine Lib.wp_append_run _ _ _ 28 28 (by rfl) _ _ (by rfl) (by rfl) _ _ (by exact j1) ?_
          refine HX.out _ _ ⟨(fun h => by cases (Eq.trans (Eq.symm (show _ = true by kernel_rfl)) h)), ?_⟩
          clear HX j1
          try simp only [Act.put]
          refine until_step (j := 9) (by kernel_rfl) rfl (by kernel_rfl) (fun KX hKX => ?_)
          have HX := hid hKX
          clear hKX
          go_simp
          refine HX.out _ _ ⟨(fun h => by cases (Eq.trans (Eq.symm (show _ = true by kernel_rfl)) h)), ?_⟩
          clear HX
          try simp only [Act.put]
          have y5 := (blk_cells HA8.out).2.2.2.2.2
          have z5 := HA8.out.frozen 5
          refine until_step (j := 10) (by kernel_rfl) rfl (by kernel_rfl) (fun KX hKX => ?_)
          have HX := hid hKX
          clear hKX
          go_simp
          refine HX.out _ _ ⟨(fun h => by cases (Eq.trans (Eq.symm (show _ = true by kernel_rfl)) h)), ?_⟩
          clear HX y5 z5
          refine until_done (by kernel_rfl) ⟨rfl, ?_⟩ _
          refine HL.out _ _ ?_
          clear HL
          go_wp2_with fail
          go_roundw
          case rel => exact ⟨j + 1, ax, cx, by omega, by go_num, N9⟩
          case measure => simp [intOf]; omega
        · have hjj : ¬ (j : Int) < (es.length : Int) := by omega
          obtain rfl : j = es.length := by omega
          go_wp2_with fail
          clear t0 t1 t2 t3 t4 t5
          refine wp_last fun KL hKL => ?_
          have HL := hid hKL
          clear hKL
          refine region_until (S := fun W : World => Blk W ga #[.int .i64 5, .int .i64 3, .int .i64 lv, .int .i64 rt, .string (M.bs hs), .slice ya es.length yc] 30 ∧ Blk W (w.heap.size + 1 + 1 + 1) #[.int .i64 5, .int .i64 3, .int .i64 lv, .int .i64 rt, .string (M.bs hs), .slice a es.length c] 33) (m := 3) (by kernel_rfl) ?_
          have N6 := hid (HN.out.bel (Bel.dr (Below.refl _ _)))
          clear HN
          generalize wr.drew = w6 at *
          have hS := And.intro N6.out.a N6.out.m.b
          refine take_next (i := 0) (.agg #[.int .i64 5, .int .i64 3, .int .i64 lv, .int .i64 rt, .string (M.bs hs), .slice ya es.length yc]) [2, 3] (by kernel_rfl) (by kernel_rfl) rfl (by kernel_rfl) (by kernel_rfl) (by kernel_rfl) (by kernel_rfl) (fun _ _ _ h => absurd h.1 (by simp)) (Or.inl ⟨by rfl, fun w' hSw => by obtain ⟨s0, s1, s2, s3, s4, s5⟩ := blk_cells hSw.1; go_simp⟩) hS ?_
          try simp only [Act.put]
          refine take_next (i := 1) (.agg #[.int .i64 5, .int .i64 3, .int .i64 lv, .int .i64 rt, .string (M.bs hs), .slice a es.length c]) [3] (by kernel_rfl) (by kernel_rfl) rfl (by kernel_rfl) (by kernel_rfl) (by kernel_rfl) (by kernel_rfl) (fun _ _ _ h => absurd h.1 (by simp)) (Or.inl ⟨by rfl, fun w' hSw => by obtain ⟨s0, s1, s2, s3, s4, s5⟩ := blk_cells hSw.2; go_simp⟩) hS ?_
          try simp only [Act.put]
          obtain ⟨t0, t1, t2, t3, t4, t5⟩ := blk_cells N6.out.m.r1
          have f0 := N6.out.m.r1.frozen 0
          have f1 := N6.out.m.r1.frozen 1
          have f2 := N6.out.m.r1.frozen 2
          have f3 := N6.out.m.r1.frozen 3
          have f4 := N6.out.m.r1.frozen 4
          have f5 := N6.out.m.r1.frozen 5
          refine until_step (j := 2) (by kernel_rfl) rfl (by kernel_rfl) (fun KX hKX => ?_)
          have HX := hid hKX
          clear hKX
          go_simp
          have V1 := hid (set6 N6.out.m.r1 (.int .i64 5) (.int .i64 3) (.int .i64 lv) (.int .i64 rt) (.string (M.bs hs)) (.slice ya es.length yc))
          have V2 := hid (other6 N6.out.m.r2 (show w.heap.size + 1 + 1 ≠ w.heap.size + 1 by omega) (.int .i64 5) (.int .i64 3) (.int .i64 lv) (.int .i64 rt) (.string (M.bs hs)) (.slice ya es.length yc))
          have VB := hid (bel6 N6.out.m.below (show w.heap.size ≤ w.heap.size + 1 by omega) (.int .i64 5) (.int .i64 3) (.int .i64 lv) (.int .i64 rt) (.string (M.bs hs)) (.slice ya es.length yc))
          have VS : Hid ((fun W : World => Blk W ga #[.int .i64 5, .int .i64 3, .int .i64 lv, .int .i64 rt, .string (M.bs hs), .slice ya es.length yc] 30 ∧ Blk W (w.heap.size + 1 + 1 + 1) #[.int .i64 5, .int .i64 3, .int .i64 lv, .int .i64 rt, .string (M.bs hs), .slice a es.length c] 33) ((((((w6.setCell ⟨w.heap.size + 1, 0, none⟩ (.int .i64 5)).setCell ⟨w.heap.size + 1, 1, none⟩ (.int .i64 3)).setCell ⟨w.heap.size + 1, 2, none⟩ (.int .i64 lv)).setCell ⟨w.heap.size + 1, 3, none⟩ (.int .i64 rt)).setCell ⟨w.heap.size + 1, 4, none⟩ (.string (M.bs hs))).setCell ⟨w.heap.size + 1, 5, none⟩ (.slice ya es.length yc))) := And.intro (other6 N6.out.a (by have := N6.out.lt; omega) (.int .i64 5) (.int .i64 3) (.int .i64 lv) (.int .i64 rt) (.string (M.bs hs)) (.slice ya es.length yc)) (other6 N6.out.m.b (by omega) (.int .i64 5) (.int .i64 3) (.int .i64 lv) (.int .i64 rt) (.string (M.bs hs)) (.slice ya es.length yc))
          have X8 := hid (ownc6 N6.out.oy (row_ne N6.out.oy N6.out.m.r1 (by decide)) (.int .i64 5) (.int .i64 3) (.int .i64 lv) (.int .i64 rt) (.string (M.bs hs)) (.slice ya es.length yc))
          have X9 := hid (ownc43 N6.out.m.ox (row_ne N6.out.m.ox N6.out.m.r1 (by decide)) (.int .i64 5) (.int .i64 3) (.int .i64 lv) (.int .i64 rt) (.string (M.bs hs)) (.slice ya es.length yc))
          have ZL := hid N6.out.lt
          refine HX.out _ _ ⟨fun _ => VS.out, ?_⟩
          clear HX t0 t1 t2 t3 t4 t5 f0 f1 f2 f3 f4 f5 N6 hS
          generalize ((((((w6.setCell ⟨w.heap.size + 1, 0, none⟩ (.int .i64 5)).setCell ⟨w.heap.size + 1, 1, none⟩ (.int .i64 3)).setCell ⟨w.heap.size + 1, 2, none⟩ (.int .i64 lv)).setCell ⟨w.heap.size + 1, 3, none⟩ (.int .i64 rt)).setCell ⟨w.heap.size + 1, 4, none⟩ (.string (M.bs hs))).setCell ⟨w.heap.size + 1, 5, none⟩ (.slice ya es.length yc)) = w14 at *
          try simp only [Act.put]
          obtain ⟨t0, t1, t2, t3, t4, t5⟩ := blk_cells V2.out
          have f0 := V2.out.frozen 0
          have f1 := V2.out.frozen 1
          have f2 := V2.out.frozen 2
          have f3 := V2.out.frozen 3
          have f4 := V2.out.frozen 4
          have f5 := V2.out.frozen 5
          refine until_step (j := 3) (by kernel_rfl) rfl (by kernel_rfl) (fun KX hKX => ?_)
          have HX := hid hKX
          clear hKX
          go_simp
          have U1 := hid (other6 V1.out (show w.heap.size + 1 ≠ w.heap.size + 1 + 1 by omega) (.int .i64 5) (.int .i64 3) (.int .i64 lv) (.int .i64 rt) (.string (M.bs hs)) (.slice a es.length c))
          have U2 := hid (set6 V2.out (.int .i64 5) (.int .i64 3) (.int .i64 lv) (.int .i64 rt) (.string (M.bs hs)) (.slice a es.length c))
          have UB := hid (bel6 VB.out (show w.heap.size ≤ w.heap.size + 1 + 1 by omega) (.int .i64 5) (.int .i64 3) (.int .i64 lv) (.int .i64 rt) (.string (M.bs hs)) (.slice a es.length c))
          have Y8 := hid (ownc6 X8.out (row_ne X8.out V2.out (by decide)) (.int .i64 5) (.int .i64 3) (.int .i64 lv) (.int .i64 rt) (.string (M.bs hs)) (.slice a es.length c))
          have Y9 := hid (ownc43 X9.out (row_ne X9.out V2.out (by decide)) (.int .i64 5) (.int .i64 3) (.int .i64 lv) (.int .i64 rt) (.string (M.bs hs)) (.slice a es.length c))
          refine HX.out _ _ ⟨(fun h => by cases (Eq.trans (Eq.symm (show _ = true by kernel_rfl)) h)), ?_⟩
          clear HX t0 t1 t2 t3 t4 t5 f0 f1 f2 f3 f4 f5 V1 V2 VB VS X8 X9
          generalize ((((((w14.setCell ⟨w.heap.size + 1 + 1, 0, none⟩ (.int .i64 5)).setCell ⟨w.heap.size + 1 + 1, 1, none⟩ (.int .i64 3)).setCell ⟨w.heap.size + 1 + 1, 2, none⟩ (.int .i64 lv)).setCell ⟨w.heap.size + 1 + 1, 3, none⟩ (.int .i64 rt)).setCell ⟨w.heap.size + 1 + 1, 4, none⟩ (.string (M.bs hs))).setCell ⟨w.heap.size + 1 + 1, 5, none⟩ (.slice a es.length c)) = w15 at *
          refine until_done (by kernel_rfl) ⟨rfl, ?_⟩ _
          refine HL.out _ _ ?_
          clear HL
          go_wp2_with fail
          refine bodyPost_ret (results_cells2 (p := 2) (q := 3) (ty := 30) (uy := 33) rfl _ _ (w.heap.size + 1) _ (w.heap.size + 1 + 1) _ rfl rfl (load30 (cs := #[.int .i64 5, .int .i64 3, .int .i64 lv, .int .i64 rt, .string (M.bs hs), .slice ya es.length yc]) U1.out rfl) (load33 (cs := #[.int .i64 5, .int .i64 3, .int .i64 lv, .int .i64 rt, .string (M.bs hs), .slice a es.length c]) U2.out rfl)) rfl ?_
          have Z8 := own_base (base' := w.heap.size) Y8.out (by have := ZL.out; omega)
          rw [List.take_length] at Z8
          have Z9 := base43 (base' := w.heap.size) Y9.out (by omega)
          exact ⟨es, _, _, rfl, Z8, Z9, UB.out, HP.out⟩
end Go.Proofs.Ytcmplklefeicbaa
