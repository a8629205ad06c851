/-
  The contract of the device's 'last', walked.
-/
import Derived.Test.YtoelaemneoabfaaB
namespace Go.Proofs.Ytoelaemneoabfaa
open Go.RowKit Go.Shelf
attribute [local go_sem] Oper.semAt_some

/-- Block B is cells. -/
def Blk (w : World) (B : Nat) (cs : Array Value) (t : TypeId) : Prop := w.heap[B]? = some (.cells cs t (0, 0))
theorem Blk.lt {w : World} {B : Nat} {cs : Array Value} {t : TypeId} (h : Blk w B cs t) : B < w.heap.size := (Array.getElem?_eq_some_iff.1 h).1
theorem Blk.cell {w : World} {B : Nat} {cs : Array Value} {t : TypeId} (h : Blk w B cs t) (j : Nat) : w.cell? ⟨B, j, none⟩ = cs[j]? := cell_of_row w B j cs t (0, 0) h
theorem Blk.frozen {w : World} {B : Nat} {cs : Array Value} {t : TypeId} (h : Blk w B cs t) (j : Nat) : w.frozen? ⟨B, j, none⟩ = false := by simp [World.frozen?, show w.heap[B]? = _ from h]
theorem Blk.new (w : World) (cs : Array Value) (t : TypeId) : Blk (w.alloc (.cells cs t)) w.heap.size cs t := heap_alloc_new w _
theorem Blk.al {w : World} {B : Nat} {cs : Array Value} {t : TypeId} (h : Blk w B cs t) (o : Obj) : Blk (w.alloc o) B cs t := (Below.heap_alloc w o B h.lt).trans h
theorem Blk.below {w w' : World} {n B : Nat} {cs : Array Value} {t : TypeId} (h : Blk w B cs t) (hb : Below n w w') (hB : B < n) : Blk w' B cs t := (hb.block B hB).trans h
theorem blk_own {β : Type} (B : Nat) (t : TypeId) (c : β → Array Value) : _root_.Go.Own (fun s W => Blk W B (c s) t) := by
  intro s X Y row h hg hrow
  refine (hg.block B (Blk.lt h) (fun e => ?_)).trans h
  obtain ⟨o, ho, hc⟩ := hrow B e.symm
  rw [show X.heap[B]? = _ from h] at ho; cases ho; cases hc
def LI (w W0 : World) (i : Int) (pre : List (Int × M.Wr)) (W : World) : Prop := (((∀ y ∈ pre, y.2.1 ≠ i) ∧ Blk W w.heap.size #[.int .i64 i] 3) ∧ Blk W (w.heap.size + 1) #[.int .i64 0, .string ⟨#[]⟩] 65) ∧ Below W0.heap.size W0 W
def LX (w : World) (i : Int) (c : Code) (pre : List (Int × M.Wr)) (W : World) : Prop := (c = .ret ∧ ∃ p' x, pre = p' ++ [x] ∧ (∀ y ∈ p', y.2.1 ≠ i) ∧ x.2.1 = i ∧ Blk W (w.heap.size + 1) #[.int .i64 x.2.1, .string (M.bs x.2.2)] 65) ∧ Below w.heap.size w W
theorem set2 {W : World} {B : Nat} {a b a' b' : Value} {t : TypeId} (h : Blk W B #[a, b] t) : Blk ((W.setCell ⟨B, 0, none⟩ a').setCell ⟨B, 1, none⟩ b') B #[a', b'] t := by
  have h1 : (W.setCell ⟨B, 0, none⟩ a').heap[B]? = some (.cells #[a', b] t (0, 0)) := by
    rw [setCell_eq_setRow W B 0 _ t (0, 0) _ h]
    exact setRow_heap W B _ _ t _ h
  show ((W.setCell ⟨B, 0, none⟩ a').setCell ⟨B, 1, none⟩ b').heap[B]? = _
  rw [setCell_eq_setRow _ B 1 _ t (0, 0) _ h1]
  exact setRow_heap _ B _ _ t _ h1
set_option maxRecDepth 100000 in
set_option maxHeartbeats 4000000 in
theorem last_in (n : Nat) (hn : 5 ≤ n) (b mb : Nat) (i : Int) (wv : Value) (L : List M.Wr) (d : M.Wr) (w : World) (hL : L.length ≤ 1000) (c1 : w.cell? ⟨b, 1, none⟩ = some (.map (some mb))) (c2 : w.cell? ⟨b, 2, none⟩ = some wv) (hs : ShowsW w.heap.size w wv L) (hmb : mb < w.heap.size)
    (hlook : ∀ W : World, W.heap[mb]? = w.heap[mb]? → (Instr.lookup 58 (.map (some mb)) (.int .i64 i) false).run Try.prog W = .ok (.agg #[.int .i64 d.1, .string (M.bs d.2)]) W) :
    CallsIn Fence.wide n Try.prog 37 #[.pointer (some ⟨b, 0, none⟩), .int .i64 i] w fun e w' => e = .returned (.agg #[.int .i64 (M.lastW L i d).1, .string (M.bs (M.lastW L i d).2)]) ∧ Bel w w' := by
  have hro : Fence.wide.round = none := rfl
  have h1 : 1 ≤ n := by omega
  have h40 : Fence.wide.fn 40 := trivial
  have h41 : Fence.wide.fn 41 := trivial
  have hbl := block_lt_of_cell c1
  obtain ⟨a, cap, rfl, hrow⟩ := hs
  refine callsIn_of_wp_marks Try.func37 rfl trivial ?_ hro
  simp only [Try.ntmps37, List.size_toArray, List.length_cons, List.length_nil, Nat.reduceAdd, Nat.reduceSub, Array.replicate_succ, Array.replicate_zero, List.push_toArray, List.append_toArray, List.nil_append, List.cons_append]
  gi_wp2_with (gi_at_call 40; refine (backward_in Fence.wide _ h40 hro _ _ _ _).mono ?_; rintro e w' ⟨rfl, rfl⟩)
  have bI : Blk (((w.alloc (.cells #[.int .i64 i] 3)).alloc (.cells #[.int .i64 0, .string ⟨#[]⟩] 65)).alloc (.cells #[.slice a L.length cap] 59)) w.heap.size #[.int .i64 i] 3 := ((Blk.new _ _ _).al _).al _
  have bR : Blk (((w.alloc (.cells #[.int .i64 i] 3)).alloc (.cells #[.int .i64 0, .string ⟨#[]⟩] 65)).alloc (.cells #[.slice a L.length cap] 59)) (w.heap.size + 1) #[.int .i64 0, .string ⟨#[]⟩] 65 := by
    have := (Blk.new (w.alloc (.cells #[.int .i64 i] 3)) #[.int .i64 0, .string ⟨#[]⟩] 65).al (.cells #[.slice a L.length cap] 59)
    simpa only [World.size_alloc] using this
  have bS : Blk (((w.alloc (.cells #[.int .i64 i] 3)).alloc (.cells #[.int .i64 0, .string ⟨#[]⟩] 65)).alloc (.cells #[.slice a L.length cap] 59)) (w.heap.size + 1 + 1) #[.slice a L.length cap] 59 := by
    have := Blk.new ((w.alloc (.cells #[.int .i64 i] 3)).alloc (.cells #[.int .i64 0, .string ⟨#[]⟩] 65)) #[.slice a L.length cap] 59
    simpa only [World.size_alloc] using this
  have hB0 : Bel w (((w.alloc (.cells #[.int .i64 i] 3)).alloc (.cells #[.int .i64 0, .string ⟨#[]⟩] 65)).alloc (.cells #[.slice a L.length cap] 59)) := Bel.al (Bel.al (Bel.al (Below.refl _ _) _) _) _
  have hsz : (((w.alloc (.cells #[.int .i64 i] 3)).alloc (.cells #[.int .i64 0, .string ⟨#[]⟩] 65)).alloc (.cells #[.slice a L.length cap] 59)).heap.size = w.heap.size + 3 := by simp
  obtain ⟨W0, hW0⟩ : ∃ W0, ((w.alloc (.cells #[.int .i64 i] 3)).alloc (.cells #[.int .i64 0, .string ⟨#[]⟩] 65)).alloc (.cells #[.slice a L.length cap] 59) = W0 := ⟨_, rfl⟩
  rw [hW0] at bI bR bS hB0 hsz ⊢
  clear hW0
  have hsz2 : w.heap.size + 2 < W0.heap.size := by omega
  have HZ := hid hsz
  clear hsz
  have hs0 : ShowsW W0.heap.size W0 (.slice a L.length cap) L := by
    refine ⟨a, cap, rfl, hrow.imp id ?_⟩
    rintro ⟨g, off, ha, hg, hr⟩
    exact ⟨g, off, ha, by omega, hr.below hB0 hg⟩
  have hcs : W0.cell? ⟨w.heap.size + 1 + 1, 0, none⟩ = some (.slice a L.length cap) := by rw [bS.cell]; rfl
  refine wpIn_rangeFunc_ownH hro h1 (gf := 41) (lb := #[.pointer (some ⟨w.heap.size + 1 + 1, 0, none⟩)]) rfl h41 (enters_of Try.func41 (by kernel_rfl) rfl)
    (back_stops Fence.wide (n - 1) h41 hro (by omega) (w.heap.size + 1 + 1) W0.heap.size _ L hL W0 (by omega) (Nat.le_refl _) hcs hs0) belowK_t (belowK_b (by omega)) (Below.refl _ _) (fun _ => rfl)
    (LI w W0 i) (LX w i)
    (OwnFrom.and (OwnFrom.and (OwnFrom.and (fun _ _ _ _ hs _ _ => hs) (_root_.Go.Own.from (blk_own _ _ _) _)) (_root_.Go.Own.from (blk_own _ _ _) _)) (ownFrom_below (Nat.le_refl _) (by omega)))
    (fun c => OwnFrom.and (_root_.Go.Own.from (fun s X Y row hs hg hr => by
      obtain ⟨hc, p', x, h1, h2, h3, h4⟩ := hs
      exact ⟨hc, p', x, h1, h2, h3, blk_own (w.heap.size + 1) 65 (fun (_ : Unit) => #[.int .i64 x.2.1, .string (M.bs x.2.2)]) () X Y row h4 hg hr⟩) _) (ownFrom_below (Nat.le_refl _) (by omega)))
    ⟨⟨⟨by simp, bI⟩, bR⟩, Below.refl _ _⟩
    (fun x a' W => ∃ Bw, w.heap.size + 2 < Bw ∧ Blk W Bw #[.int .i64 x.2.1, .string (M.bs x.2.2)] 65 ∧ a' = { tmps := #[.pointer (some ⟨b, 0, none⟩), .int .i64 i, undef, .pointer (some ⟨w.heap.size, 0, none⟩), .pointer (some ⟨w.heap.size + 1, 0, none⟩), undef, .pointer (some ⟨Bw, 0, none⟩), .pointer (some ⟨b, 0, none⟩), .pointer (some ⟨b, 0, none⟩), .pointer (some ⟨b, 2, none⟩), .slice a L.length cap, .func (.func 41) #[] #[.pointer (some ⟨w.heap.size + 1 + 1, 0, none⟩)], .int .i64 x.1, .agg #[.int .i64 x.2.1, .string (M.bs x.2.2)], undef, undef, undef, undef, undef, undef, undef, undef, undef, undef, undef], defers := [] })
    (fun x a' _ X Y row hs hg hr => by
      obtain ⟨Bx, h1, h2, h3⟩ := hs
      exact ⟨Bx, h1, blk_own Bx 65 (fun (_ : Unit) => #[.int .i64 x.2.1, .string (M.bs x.2.2)]) () X Y row h2 hg (fun r e => (hr r e).2), h3⟩)
    ?assign ?body ?done ?stop
  case assign =>
    rintro l pre x W K ⟨⟨⟨hp, bI1⟩, bR1⟩, hB1⟩ hK
    obtain ⟨xi, xs, xd⟩ := x
    have hz := hB1.size
    simp only [encW]
    gi_wp2
    exact hK _ _ ((KeepsOthers.alloc _ _).from _) ((Below.refl _ W).alloc hz _) ⟨⟨⟨hp, bI1.al _⟩, bR1.al _⟩, hB1.alloc hz _⟩ ⟨W.heap.size, by omega, Blk.new W _ 65, rfl⟩
  case body =>
    rintro l pre x a' W hl ⟨r, hr⟩ ⟨⟨⟨hp, bI1⟩, bR1⟩, hB1⟩ ⟨Bw, hBw, bX, rfl⟩ hlt
    obtain ⟨xi, xs, xd⟩ := x
    have cI : W.cell? ⟨w.heap.size, 0, none⟩ = some (.int .i64 i) := by rw [bI1.cell]; rfl
    have cX0 : W.cell? ⟨Bw, 0, none⟩ = some (.int .i64 xs) := by rw [bX.cell]; rfl
    have cX1 : W.cell? ⟨Bw, 1, none⟩ = some (.string (M.bs xd)) := by rw [bX.cell]; rfl
    have cR0 : W.cell? ⟨w.heap.size + 1, 0, none⟩ = some (.int .i64 0) := by rw [bR1.cell]; rfl
    have cR1 : W.cell? ⟨w.heap.size + 1, 1, none⟩ = some (.string ⟨#[]⟩) := by rw [bR1.cell]; rfl
    have fR0 := bR1.frozen 0
    have fR1 := bR1.frozen 1
    by_cases he : xs = i
    · subst he
      gi_wp2
      refine ⟨(KeepsOthers.setCell _ _ _).from _ |>.trans ((KeepsOthers.setCell _ _ _).from _), ⟨rfl, pre, (xi, xs, xd), rfl, hp, rfl, set2 bR1⟩, ?_⟩
      exact ((hB0.tr hB1).setCell (p := ⟨w.heap.size + 1, 0, none⟩) (by simp) _).setCell (p := ⟨w.heap.size + 1, 1, none⟩) (by simp) _
    · have he' : (xs == i) = false := by simpa using he
      gi_wp2
      refine ⟨KeepsFrom.refl _ _, Below.refl _ _, ⟨⟨fun y hy => ?_, bI1⟩, bR1⟩, hB1⟩
      rcases List.mem_append.1 hy with h | h
      · exact hp y h
      · simp at h; subst h; exact he
  case done =>
    rintro D ys W hD rfl ⟨⟨⟨hp, bI1⟩, bR1⟩, hB1⟩ hK
    have cI : W.cell? ⟨w.heap.size, 0, none⟩ = some (.int .i64 i) := by rw [bI1.cell]; rfl
    have cR0 : W.cell? ⟨w.heap.size + 1, 0, none⟩ = some (.int .i64 0) := by rw [bR1.cell]; rfl
    have cR1 : W.cell? ⟨w.heap.size + 1, 1, none⟩ = some (.string ⟨#[]⟩) := by rw [bR1.cell]; rfl
    have fR0 := bR1.frozen 0
    have fR1 := bR1.frozen 1
    have hBw := hB0.tr hB1
    have d1 := (bel_cell hBw hbl 1).trans c1
    have hlk := hlook W.drew (hBw.block mb hmb)
    gi_wp2
    gi_region
    gi_wp2
    have HL : Hid (M.lastW L i d = d) := M.lastW_none L i d hp
    have b2 : Blk ((W.setCell ⟨w.heap.size + 1, 0, none⟩ (.int .i64 d.1)).setCell ⟨w.heap.size + 1, 1, none⟩ (.string (M.bs d.2))).drew (w.heap.size + 1) #[.int .i64 d.1, .string (M.bs d.2)] 65 := set2 bR1
    have k2 : KeepsOthers W ((W.setCell ⟨w.heap.size + 1, 0, none⟩ (.int .i64 d.1)).setCell ⟨w.heap.size + 1, 1, none⟩ (.string (M.bs d.2))).drew := ((KeepsOthers.setCell _ _ _).trans (KeepsOthers.setCell _ _ _)).trans (KeepsOthers.drew _)
    have hB2 : Below w.heap.size w ((W.setCell ⟨w.heap.size + 1, 0, none⟩ (.int .i64 d.1)).setCell ⟨w.heap.size + 1, 1, none⟩ (.string (M.bs d.2))).drew := (((hB0.tr hB1).setCell (p := ⟨w.heap.size + 1, 0, none⟩) (by simp) _).setCell (p := ⟨w.heap.size + 1, 1, none⟩) (by simp) _).drew
    generalize ((W.setCell ⟨w.heap.size + 1, 0, none⟩ (.int .i64 d.1)).setCell ⟨w.heap.size + 1, 1, none⟩ (.string (M.bs d.2))).drew = W2 at *
    have hK' := k2.same D _ hK rfl
    refine ⟨by simp, .inl ⟨_, _, rfl, run_takeDeferred hK', ?_⟩⟩
    have hc0 : W2.cell? ⟨w.heap.size + 1, 0, none⟩ = some (.int .i64 d.1) := by rw [b2.cell]; rfl
    have hc1 : W2.cell? ⟨w.heap.size + 1, 1, none⟩ = some (.string (M.bs d.2)) := by rw [b2.cell]; rfl
    have e0 := cell_kept hc0 (grownBy_putObj' _ D (.deferred none)) (fun r e => by cases e; exact ⟨_, hK', rfl⟩)
    have e1 := cell_kept hc1 (grownBy_putObj' _ D (.deferred none)) (fun r e => by cases e; exact ⟨_, hK', rfl⟩)
    refine ⟨.agg #[.int .i64 d.1, .string (M.bs d.2)], ?_, by rw [HL.out], hB2.trans (belowK_b (w := w) (Nat.le_refl _) _ D _ _ (by omega) hK' rfl rfl)⟩
    simp [results, Try.f37, go_sem, e0, e1]
  case stop =>
    rintro D c pre W hD hpre ⟨⟨rfl, p', x, rfl, h2, h3, h4⟩, hB⟩ hK
    have HL : Hid (M.lastW L i d = x.2) := M.lastW_some L i d p' x hpre h2 h3
    gi_wp2
    refine ⟨by simp, .inl ⟨_, _, rfl, run_takeDeferred hK, ?_⟩⟩
    have hc0 : W.cell? ⟨w.heap.size + 1, 0, none⟩ = some (.int .i64 x.2.1) := by rw [h4.cell]; rfl
    have hc1 : W.cell? ⟨w.heap.size + 1, 1, none⟩ = some (.string (M.bs x.2.2)) := by rw [h4.cell]; rfl
    have e0 := cell_kept hc0 (grownBy_putObj' _ D (.deferred none)) (fun r e => by cases e; exact ⟨_, hK, rfl⟩)
    have e1 := cell_kept hc1 (grownBy_putObj' _ D (.deferred none)) (fun r e => by cases e; exact ⟨_, hK, rfl⟩)
    refine ⟨.agg #[.int .i64 x.2.1, .string (M.bs x.2.2)], ?_, by rw [HL.out], hB.trans (belowK_b (w := w) (Nat.le_refl _) W D _ _ (by omega) hK rfl rfl)⟩
    simp [results, Try.f37, go_sem, e0, e1]
theorem last_any (b mb : Nat) (i : Int) (wv : Value) (L : List M.Wr) (d : M.Wr) (w : World) (hL : L.length ≤ 1000) (c1 : w.cell? ⟨b, 1, none⟩ = some (.map (some mb))) (c2 : w.cell? ⟨b, 2, none⟩ = some wv) (hs : ShowsW w.heap.size w wv L) (hmb : mb < w.heap.size)
    (hlook : ∀ W : World, W.heap[mb]? = w.heap[mb]? → (Instr.lookup 58 (.map (some mb)) (.int .i64 i) false).run Try.prog W = .ok (.agg #[.int .i64 d.1, .string (M.bs d.2)]) W) :
    Calls Try.prog 37 #[.pointer (some ⟨b, 0, none⟩), .int .i64 i] w fun e w' => e = .returned (.agg #[.int .i64 (M.lastW L i d).1, .string (M.bs (M.lastW L i d).2)]) ∧ Bel w w' :=
  callsIn_wide.1 (last_in 5 (Nat.le_refl _) b mb i wv L d w hL c1 c2 hs hmb hlook)
end Go.Proofs.Ytoelaemneoabfaa
