/-
  The law OrderRecents, walked.
-/
import Derived.Test.YtoelaemneoabfabRW
import Derived.Deep.QuietTactic
import Derived.BigQuiet
namespace Go.Proofs.Ytoelaemneoabfab
open Go.RowKit

/-- Between two rounds of what is told: right, at, and the list that they look at. -/
structure OR (A : List Int) (v : Value) (Br Ba Bw : Nat) (X : Nat → Prop) (pre : List Int) (W : World) : Prop where
  right : Bx W Br 4 (.bool true)
  at_ : Bx W Ba 3 (.int .i64 (pre.length : Nat))
  w : Bx W Bw 28 v
  row : ∃ a cap, v = .slice a A.length cap ∧ (A = [] ∨ ∃ g off, a = some ⟨g, off, none⟩ ∧ g ≠ Br ∧ g ≠ Ba ∧ RowN W g off A)
  xr : ¬ X Br
  xa : ¬ X Ba
  lt : ∀ k, X k → k < W.heap.size
theorem OR_abides (A : List Int) (v : Value) (Br Ba Bw : Nat) : Abides (OR A v Br Ba Bw) := by
  refine ⟨fun _ _ _ h => h.lt, fun X pre W W' h b => ⟨h.right.bel b, h.at_.bel b, h.w.bel b, ?_, ?_, ?_, ?_⟩, fun X Y pre W h hs => ⟨h.right, h.at_, h.w, h.row, fun hy => h.xr (hs _ hy), fun hy => h.xa (hs _ hy), fun k hk => h.lt k (hs k hk)⟩⟩
  · obtain ⟨a, cap, hv, h | ⟨g, off, ha, h1, h2, hr⟩⟩ := h.row
    · exact ⟨a, cap, hv, .inl h⟩
    · exact ⟨a, cap, hv, .inr ⟨g, off, ha, h1, h2, hr.bel b⟩⟩
  · rintro (hk | ⟨hk, _⟩)
    · exact h.xr hk
    · have := h.right.lt; omega
  · rintro (hk | ⟨hk, _⟩)
    · exact h.xa hk
    · have := h.at_.lt; omega
  · rintro k (hk | ⟨_, hk⟩)
    · have := h.lt k hk; have := b.size; omega
    · exact hk
theorem none_abides : Abides (fun (_ : Nat → Prop) (_ : List Int) (_ : World) => False) := ⟨fun _ _ _ h => h.elim, fun _ _ _ _ h => h.elim, fun _ _ _ _ h => h.elim⟩
theorem prefix_get {A pre : List Int} {x : Int} (h : pre ++ [x] <+: A) : ∃ hl : pre.length < A.length, A[pre.length] = x := by
  obtain ⟨t, rfl⟩ := h
  exact ⟨by simp, by simp⟩
set_option maxHeartbeats 1000000 in
theorem or_yields (A : List Int) (v : Value) (Br Ba Bw : Nat) (hA : A.length ≤ 1000) (hne : Br ≠ Ba) (hw : Bw ≠ Br ∧ Bw ≠ Ba) :
    Yields 22 #[.pointer (some ⟨Br, 0, none⟩), .pointer (some ⟨Ba, 0, none⟩), .pointer (some ⟨Bw, 0, none⟩)] entN A (OR A v Br Ba Bw) (fun _ _ _ => False) := by
  refine ⟨enters_of Try.func22 (by kernel_rfl) rfl, fun X pre x W hp hJ => ?_⟩
  obtain ⟨hl, hx⟩ := prefix_get hp
  obtain ⟨a, cap, rfl, hrow⟩ := hJ.row
  obtain ⟨g, off, rfl, hg1, hg2, hr⟩ : ∃ g off, a = some ⟨g, off, none⟩ ∧ g ≠ Br ∧ g ≠ Ba ∧ RowN W g off A := by
    rcases hrow with h | h
    · subst h; simp at hl
    · exact h
  have c := hr pre.length hl
  rw [hx] at c
  have c1 := hJ.right.cell
  have f1 := hJ.right.frozen
  have c2 := hJ.at_.cell
  have f2 := hJ.at_.frozen
  have c3 := hJ.w.cell
  have l1 := hJ.right.lt
  have l2 := hJ.at_.lt
  have HF : Hid (Keep X W ((W.setCell ⟨Br, 0, none⟩ (.bool true)).setCell ⟨Ba, 0, none⟩ (.int .i64 ((pre.length : Int) + 1))) ∧ OR A (.slice (some ⟨g, off, none⟩) A.length cap) Br Ba Bw X (pre ++ [x]) ((W.setCell ⟨Br, 0, none⟩ (.bool true)).setCell ⟨Ba, 0, none⟩ (.int .i64 ((pre.length : Int) + 1)))) := by
    have hk : Keep (fun k => k ≠ Br ∧ k ≠ Ba) W ((W.setCell ⟨Br, 0, none⟩ (.bool true)).setCell ⟨Ba, 0, none⟩ (.int .i64 ((pre.length : Int) + 1))) :=
      ((Keep.refl _ W).set (p := ⟨Br, 0, none⟩) (by simp) _).set (p := ⟨Ba, 0, none⟩) (by simp) _
    refine ⟨hk.weak (fun k hk => ⟨fun e => hJ.xr (by rw [← e]; exact hk), fun e => hJ.xa (by rw [← e]; exact hk)⟩), ⟨(hJ.right.set _).other _ hne _, ?_, hJ.w.keep hk hw, ⟨_, cap, rfl, .inr ⟨g, off, rfl, hg1, hg2, fun j hj => ?_⟩⟩, hJ.xr, hJ.xa, fun k hk' => ?_⟩⟩
    · have := (hJ.at_.other (.bool true) (fun e => hne e.symm) 0).set (.int .i64 ((pre.length : Int) + 1))
      simpa using this
    · exact (hk.cell (p := ⟨g, off + j, none⟩) ⟨hg1, hg2⟩).trans (hr j hj)
    · have := hJ.lt k hk'; simp [World.setCell]; omega
  have hll : (pre.length : Int) < (A.length : Int) := by omega
  have hne' : Ba ≠ Br := fun e => hne e.symm
  clear hJ hr hrow hp
  unfold entN
  go_enter Try.func22, Try.ntmps22
  go_wp2_with fail
  go_ret
  exact ⟨HF.out.1, .inl ⟨rfl, HF.out.2⟩⟩

theorem Held.dr {e size : Nat} {t : TypeId} {X : Nat → Prop} {w : World} {b n : Nat} {xs : List Value} (h : Held e size t X w b n xs) : Held e size t X w.drew b n xs := by
  obtain ⟨v, h1, h2, h3, h4, h5⟩ := h
  exact ⟨v, h1, h2, ⟨World.ownsRow.drew h3.1, h3.2⟩, h4, h5⟩
theorem drewN_bel (w : World) (n : Nat) : Bel w (w.drewN n) := ⟨rfl, rfl, rfl, Nat.le_refl _, fun _ _ => rfl⟩
theorem Keep.undr {X : Nat → Prop} {a b : World} (h : Keep X a.drew b) : Keep X a b := ⟨h.os, h.tape, h.output, h.size, h.block⟩
/-- The list at b holds A, the slice in the box at bw holds C; neither touches the other. -/
structure OS (b bw : Nat) (w1 wr : World) (v : Value) (A C : List Int) : Prop where
  box : Bx wr bw 28 v
  row : wr.ownsRow 0 3 1 v C.length (csN C)
  notb : v.ownBlock ≠ some bw
  over : ∀ g, v.ownBlock = some g → b < g
  lst : Rec (fun j => j < b ∨ j = bw ∨ v.ownBlock = some j) wr b A
  kp : Keep (fun j => j < b) w1 wr
theorem OS.bel {b bw : Nat} {w1 wr w2 : World} {v : Value} {A C : List Int} (h : OS b bw w1 wr v A C) (hb : Bel wr w2) : OS b bw w1 w2 v A C :=
  ⟨h.box.bel hb, h.row.kept ⟨hb.os, hb.tape, hb.output, hb.size, fun k hk _ => hb.block k hk⟩ (row := none) (by cases v.ownBlock with | none => exact .inl rfl | some k => exact .inr (by simp)), h.notb, h.over, h.lst.bel hb,
    h.kp.tr (Keep.of_bel hb (fun k hk => h.lst.lt k (.inl hk)))⟩
theorem OS.recs {b bw : Nat} {w1 wr w2 : World} {v : Value} {A A' C : List Int} (h : OS b bw w1 wr v A C) (hk : Keep (fun j => j < b ∨ j = bw ∨ v.ownBlock = some j) wr w2) (hr : Rec (fun j => j < b ∨ j = bw ∨ v.ownBlock = some j) w2 b A') : OS b bw w1 w2 v A' C := by
  refine ⟨h.box.keep hk (.inr (.inl rfl)), ?_, h.notb, h.over, hr, h.kp.tr (hk.weak (fun k hk => .inl hk))⟩
  have := Own.keep (X := fun _ => False) (e := 3) (size := 1) ⟨h.row, fun _ _ h => h⟩ hk (fun g hg => .inr (.inr hg))
  exact this.1
theorem OS.turn {b bw : Nat} {w1 wr w2 : World} {v v1 : Value} {A C C1 : List Int} (hbw : b < bw) (h : OS b bw w1 wr v A C) (hk : Keep (fun k => k < wr.heap.size ∧ v.ownBlock ≠ some k) wr w2) (hr : w2.ownsRow 0 3 1 v1 C1.length (csN C1)) (hn : ∀ g, v1.ownBlock = some g → v.ownBlock = some g ∨ wr.heap.size ≤ g) :
    OS b bw w1 (w2.setCell ⟨bw, 0, none⟩ v1) v1 A C1 := by
  have hbl := h.box.lt
  have hb2 : Bx w2 bw 28 v := h.box.keep hk ⟨hbl, h.notb⟩
  obtain ⟨u, hu, hub, huo, hun, hul⟩ := h.lst
  have k3 : Keep (fun k => k ≠ bw) w2 (w2.setCell ⟨bw, 0, none⟩ v1) := (Keep.refl _ _).set (by simp) _
  have hn1 : v1.ownBlock ≠ some bw := fun e => by
    rcases hn bw e with h1 | h1
    · exact h.notb h1
    · omega
  have hub2 : Bx w2 b 49 u := hu.keep hk ⟨hu.lt, fun e => hub (.inr (.inr e))⟩
  have huo2 := huo.keep hk (fun g hg => ⟨(huo.1.lt g hg).2, fun e => huo.2 g hg (.inr (.inr e))⟩)
  refine ⟨hb2.set _, ?_, hn1, fun g hg => ?_, ⟨u, hub2.keep k3 (by show b ≠ bw; omega), ?_, ?_, hun, ?_⟩, ?_⟩
  · have := Own.keep (X := fun _ => False) (e := 3) (size := 1) ⟨hr, fun _ _ h => h⟩ k3 (fun g hg e => hn1 (by rw [← e]; exact hg))
    exact this.1
  · rcases hn g hg with h1 | h1
    · exact h.over g h1
    · omega
  · rintro (h1 | h1 | h1)
    · omega
    · omega
    · rcases hn b h1 with h2 | h2
      · exact hub (.inr (.inr h2))
      · have := hu.lt; omega
  · have := huo2.keep k3 (fun g hg e => huo.2 g hg (.inr (.inl e)))
    refine ⟨this.1, fun g hg => ?_⟩
    rintro (h1 | h1 | h1)
    · exact huo.2 g hg (.inl h1)
    · exact huo.2 g hg (.inr (.inl h1))
    · rcases hn g h1 with h2 | h2
      · exact huo.2 g hg (.inr (.inr h2))
      · have := (huo.1.lt g hg).2; omega
  · intro k hk'
    simp only [World.setCell, Array.size_modify]
    have := hk.size
    rcases hk' with h1 | h1 | h1
    · have := hul k (.inl h1); omega
    · omega
    · exact (hr.lt k h1).2
  · exact (h.kp.tr (hk.weak (fun k (hk' : k < b) => ⟨Nat.lt_trans hk' hu.lt, fun e => by have := h.over k e; omega⟩))).set (p := ⟨bw, 0, none⟩) (by show ¬ bw < b; omega) _
theorem OS.shows {b bw : Nat} {w1 wr : World} {v : Value} {A C : List Int} (h : OS b bw w1 wr v A C) : ShowsN wr v C := showsN_of (X := fun _ => False) ⟨h.row, fun _ _ h => h⟩

theorem slice_of {w : World} {base : Nat} {v : Value} {C : List Int} (h : w.ownsRow base 3 1 v C.length (csN C)) : ∃ a cap, v = .slice a C.length cap := by
  rcases h.2 with ⟨h1, h2⟩ | ⟨g, cap, cur, hv, _⟩
  · exact ⟨none, 0, by rw [h1, h2]⟩
  · exact ⟨_, _, hv⟩
theorem row0 {w : World} {base : Nat} {v : Value} {n : Nat} {xs : List Value} (h : w.ownsRow base 3 1 v n xs) : w.ownsRow 0 3 1 v n xs := ⟨h.1, by
  rcases h.2 with h1 | ⟨g, cap, cur, hv, hg, r⟩
  · exact .inl h1
  · exact .inr ⟨g, cap, cur, hv, Nat.zero_le _, r⟩⟩
set_option maxHeartbeats 4000000 in
set_option maxRecDepth 100000 in
theorem recents_any (L : M.Ents Int) (a : Option Addr) (cap : Nat) (w : World) (hL : L.length ≤ maxLen) (hs : L = [] ∨ ∃ g off, a = some ⟨g, off, none⟩ ∧ RowI w g off L) :
    Calls Try.prog 4 #[.slice a L.length cap] w fun e w' => e = .returned (.bool true) ∧ Bel w w' := by
  unfold maxLen at hL
  have HS := hid hs
  clear hs
  go_enter Try.func4, Try.ntmps4
  go_wp2_with fail
  refine (speaks_any _).mono ?_
  rintro e w1 ⟨rfl, b1⟩
  have HB1 := hid b1
  have hz1 := b1.size
  clear b1
  go_wp2_with fail
  have H0 : Hid (OS w1.heap.size (w1.heap.size + 1) w1 ((w1.alloc (.cells #[.slice none 0 0] 49)).alloc (.cells #[.slice none 0 0] 28)) (.slice none 0 0) [] []) := by
    have n2 := Bx.new (w1.alloc (.cells #[.slice none 0 0] 49)) 28 (.slice none 0 0)
    simp only [World.size_alloc] at n2
    refine ⟨n2, World.ownsRow_nil _ _ _ _, by simp [Value.ownBlock], by simp [Value.ownBlock], ?_, ((Keep.refl _ _).al (fun _ h => h) _).al (fun _ h => h) _⟩
    refine ((Held.new 3 1 49 w1).more (w' := (w1.alloc (.cells #[.slice none 0 0] 49)).alloc (.cells #[.slice none 0 0] 28)) (Bel.al (Below.refl _ _) _)).weak ?_
    rintro k (hk | hk | hk)
    · exact .inl hk
    · refine .inr ?_; simp; omega
    · simp [Value.ownBlock] at hk
  go_loopw [5] (fun i wr => ∃ (k : Nat) (A : List Int) (v : Value), k ≤ L.length ∧ k ≤ 40 ∧ i = .int .i64 k ∧ A.length ≤ k ∧ Hid A.Nodup ∧ Hid (OS w1.heap.size (w1.heap.size + 1) w1 wr v A A)) (fun i _ => 40 - (intOf i).toNat)
  case atStart => exact ⟨0, [], _, Nat.zero_le _, by omega, rfl, Nat.le_refl _, List.nodup_nil, H0.out⟩
  case round =>
    clear H0
    obtain ⟨k, A, v, hk, hk4, rfl, hA, HN, HO⟩ := hrel
    by_cases hgo : k < L.length ∧ k < 40
    · obtain ⟨h1, h2⟩ := hgo
      obtain ⟨g, off, rfl, hr⟩ : ∃ g off, a = some ⟨g, off, none⟩ ∧ RowI w g off L := by
        rcases HS.out with h | h
        · subst h; simp at h1
        · exact h
      have hBw : Hid (Bel w wr) := HB1.out.tr (HO.out.kp.below)
      obtain ⟨ck0, ck1⟩ := (hr.bel hBw.out) k h1
      have hkl : (k : Int) < (L.length : Int) := by omega
      have hk40 : (k : Int) < 40 := by omega
      generalize L[k] = lk at *
      obtain ⟨y, x⟩ := lk
      simp only at ck0 ck1
      have cw := HO.out.box.cell
      have hgl : g < wr.heap.size := block_lt_of_cell ck0
      obtain ⟨av, cv, hv⟩ := slice_of HO.out.row
      subst hv
      have HW := hid (without_any A x _ wr (by omega) HO.out.shows)
      go_wp2_with fail
      refine HW.out.mono ?_
      rintro e w2 ⟨v1, rfl, ho1, b2⟩
      obtain ⟨a1, c1, rfl⟩ := slice_of ho1
      have HO1 := hid (OS.turn (by omega) HO.out (Keep.of_bel b2 (fun k h => h.1)) (row0 ho1) (fun g hg => .inr (ho1.lt g hg).1))
      have hbx := (HO.out.box.bel b2)
      have d1 := hbx.cell
      have d2 := hbx.frozen
      have dk0 := (bel_cell b2 hgl (off + k * 2)).trans ck0
      have hwe : wo A x = A.erase x := wo_erase A x HN.out
      rw [hwe] at HO1 ⊢
      have hgb : ¬ g = w1.heap.size + 1 := by have := hr.lt (by omega); omega
      have HR := hid hr
      clear ho1 HW HO hbx cw ck0 ck1 hwe hr
      have hAe : (A.erase x).length ≤ A.length := List.length_erase_le
      by_cases hyy : (bits .and .i64 y 3 == 3) = true
      · go_wp2_with fail
        have HD := hid (dropN _ A x w1.heap.size (w2.setCell ⟨w1.heap.size + 1, 0, none⟩ (.slice a1 (A.erase x).length c1)).drew (by omega) HO1.out.lst.dr)
        have e1 := HO1.out.box.cell
        have HNe : Hid ((A.erase x).Nodup) := HN.out.erase x
        have hcmp : (decide (x ∈ A) == decide ((A.erase x).length < A.length)) = true := by
          by_cases hm : x ∈ A
          · have h3 := List.length_erase_of_mem hm
            have h4 := List.length_pos_of_mem hm
            have : (A.erase x).length < A.length := by omega
            rw [decide_eq_true hm, decide_eq_true this]; rfl
          · rw [List.erase_of_not_mem hm]
            simp [hm]
        generalize w2.setCell ⟨w1.heap.size + 1, 0, none⟩ (.slice a1 (A.erase x).length c1) = W3 at *
        clear d1 d2 dk0
        go_region_held3 (fun w' => w'.cell? ⟨w1.heap.size + 1, 0, none⟩ = some (.slice a1 (A.erase x).length c1)) (go_keep)
          ((go_at_call 19; refine HD.out.mono ?_; rintro e w4 ⟨rfl, hrec, hkk⟩; have hc4 := hkk.cell (p := ⟨w1.heap.size + 1, 0, none⟩) (.inr (.inl rfl))))
        have HO5 := hid (HO1.out.recs hkk.undr hrec)
        clear HO1 HD e1 hc4 hrec hkk
        have hA2 : (A.erase x).length ≤ k + 1 := by omega
        have HN2 := HNe
        rename_i hHeld5
        clear hHeld5
        obtain ⟨W5, rfl⟩ : ∃ W5, W5 = w4 := ⟨_, rfl⟩
        generalize A.erase x = A2 at *
        obtain ⟨a2, rfl⟩ : ∃ a2, a2 = a1 := ⟨_, rfl⟩
        obtain ⟨c2, rfl⟩ : ∃ c2, c2 = c1 := ⟨_, rfl⟩

        go_wp2_with fail
        refine (oldestN _ _).mono ?_
        rintro e w6 ⟨rfl, rfl⟩
        go_wp2_with fail
        have bW : Hid (Bel W5 (((W5.alloc (.cells #[.int .i64 0] 3)).alloc (.cells #[.bool true] 4)).alloc (.cells #[.pointer (some ⟨w1.heap.size, 0, none⟩)] 74))) := Bel.al (Bel.al (Bel.al (Below.refl _ _) _) _) _
        have hbw5 := HO5.out.box.lt
        have HT := hid (oldestcN _ A2 w1.heap.size (W5.heap.size + 1 + 1) _ (by omega) (HO5.out.lst.bel bW.out) (by
          have := Bx.new ((W5.alloc (.cells #[.int .i64 0] 3)).alloc (.cells #[.bool true] 4)) 74 (.pointer (some ⟨w1.heap.size, 0, none⟩))
          simpa only [World.size_alloc] using this) 22 _ _ _ (OR_abides A2 (.slice a2 A2.length c2) (W5.heap.size + 1) W5.heap.size (w1.heap.size + 1)) none_abides (or_yields A2 (.slice a2 A2.length c2) (W5.heap.size + 1) W5.heap.size (w1.heap.size + 1) (by omega) (by omega) (by omega)) (fun j => j < W5.heap.size) (by
          have n1 := Bx.new W5 3 (.int .i64 0)
          have n2 := Bx.new (W5.alloc (.cells #[.int .i64 0] 3)) 4 (.bool true)
          simp only [World.size_alloc] at n2
          refine ⟨n2.al _, (n1.al _).al _, HO5.out.box.bel bW.out, ?_, by omega, by omega, fun j (hj : j < W5.heap.size) => by simp only [World.size_alloc]; omega⟩
          obtain ⟨a', cap', he, h⟩ := HO5.out.shows
          refine ⟨a', cap', he, ?_⟩
          by_cases hz : 0 < A2.length
          · rcases h with h | ⟨g', off', h1, h2⟩
            · exact .inl h
            · have := h2.lt hz
              exact .inr ⟨g', off', h1, by omega, by omega, h2.bel bW.out⟩
          · exact .inl (List.length_eq_zero_iff.1 (by omega))))
        refine HT.out.mono ?_
        rintro e w9 ⟨rfl, k9, h9⟩
        obtain h9 | ⟨_, _, h9⟩ := h9
        · have b9 : Bel W5 w9 := ((Keep.of_bel bW.out (fun k h => h)).tr k9).below
          have HO9 := hid (HO5.out.bel b9)
          have f1 := h9.right.cell
          have f2 := h9.at_.cell
          have f3 := h9.w.cell
          clear HT k9 h9 b9
          have HLn := fun W (hW : w9.heap = W.heap) => lenN (fun j => j < w1.heap.size ∨ j = w1.heap.size + 1 ∨ (Value.slice a2 A2.length c2).ownBlock = some j) A2 w1.heap.size W (by
            have := HO9.out.lst
            obtain ⟨v, q1, q2, q3, q4, q5⟩ := this
            exact ⟨v, by unfold Bx; rw [← hW]; exact q1, q2, ⟨⟨q3.1.1, by rw [← hW]; exact q3.1.2⟩, q3.2⟩, q4, by rw [← hW]; exact q5⟩)
          have HQ : ∀ n, Calls Try.prog 23 #[.pointer (some ⟨w1.heap.size, 0, none⟩)] (w9.drewN n) fun e w' => e = .returned (.int .i64 (A2.length : Nat)) ∧ w' = w9.drewN n := fun n => (HLn (w9.drewN n) rfl).mono (fun e w' ⟨a, b⟩ => ⟨a, b.symm⟩)
          have hq0 : ((A2.length : Int) != (A2.length : Int)) = false := by simp
          clear HLn
          go_wp2_with fail
          go_quiet ((go_at_call 23; exact Calls.quiet_of_same (HQ _)))
          have HO10 := hid (HO9.out.bel (drewN_bel w9 nq))
          clear f1 f2 f3 HQ
          go_wp2_with fail
          go_roundw
          case rel => exact ⟨k + 1, A2, _, by omega, by omega, by go_num, hA2, HN2.out, HO10.out⟩
          case measure => simp [intOf]; omega
        · exact h9.elim
      · have hyy' : (bits .and .i64 y 3 == 3) = false := by simpa using hyy
        clear hyy
        go_wp2_with fail
        have HU := hid (useN _ A x w1.heap.size (w2.setCell ⟨w1.heap.size + 1, 0, none⟩ (.slice a1 (A.erase x).length c1)) (by omega) HO1.out.lst)
        have HNe : Hid ((A.erase x ++ [x]).Nodup) := by
          show List.Nodup _
          rw [List.nodup_append]
          refine ⟨HN.out.erase x, by simp, ?_⟩
          intro a ha b hb
          simp at hb
          subst hb
          intro e
          subst e
          exact HN.out.not_mem_erase ha
        generalize w2.setCell ⟨w1.heap.size + 1, 0, none⟩ (.slice a1 (A.erase x).length c1) = W3 at *
        clear d1 d2 dk0
        refine HU.out.mono ?_
        rintro e w4 ⟨rfl, hrec, hkk⟩
        have HO4 := hid (HO1.out.recs hkk hrec)
        clear HO1 HU hrec hkk
        obtain ⟨v2, w5, hrun, ho2, k5⟩ := appInt (fun j => j < w4.heap.size ∧ (Value.slice a1 (A.erase x).length c1).ownBlock ≠ some j) (A.erase x) x (.slice a1 (A.erase x).length c1) w4 (by omega) ⟨HO4.out.row, fun g hg h => h.2 hg⟩ (fun j hj => hj.1)
        have hl2 : (A.erase x).length + 1 = (A.erase x ++ [x]).length := by simp
        have hA2 : (A.erase x ++ [x]).length ≤ k + 1 := by simp; omega
        rw [hl2] at ho2
        obtain ⟨a2, c2, rfl⟩ := slice_of ho2.1
        have HO5 := hid (OS.turn (by omega) HO4.out k5 ho2.1 (fun g hg => by
          have := ho2.2 g hg
          by_cases hgw : g < w4.heap.size
          · left
            exact Classical.byContradiction fun h => this ⟨hgw, h⟩
          · right; omega))
        have e1 := HO4.out.box.cell
        have e2 := (HO4.out.box.keep k5 ⟨HO4.out.box.lt, HO4.out.notb⟩).cell
        have e3 := (HO4.out.box.keep k5 ⟨HO4.out.box.lt, HO4.out.notb⟩).frozen
        have HN2 := HNe
        clear k5 ho2 HO4 hl2
        generalize A.erase x ++ [x] = A2 at *
        go_wp2_with (at_builtin; refine Lib.wpList_append_run _ rfl _ _ _ _ rfl _ _ rfl rfl _ _ (hrun _) ?_)
        have hsz : (w5.setCell ⟨w1.heap.size + 1, 0, none⟩ (.slice a2 A2.length c2)).heap.size = w5.heap.size := by simp [World.setCell]
        generalize w5.setCell ⟨w1.heap.size + 1, 0, none⟩ (.slice a2 A2.length c2) = W5 at *
        rw [← hsz]
        clear e1 e2 e3 hrun hsz

        go_wp2_with fail
        refine (oldestN _ _).mono ?_
        rintro e w6 ⟨rfl, rfl⟩
        go_wp2_with fail
        have bW : Hid (Bel W5 (((W5.alloc (.cells #[.int .i64 0] 3)).alloc (.cells #[.bool true] 4)).alloc (.cells #[.pointer (some ⟨w1.heap.size, 0, none⟩)] 74))) := Bel.al (Bel.al (Bel.al (Below.refl _ _) _) _) _
        have hbw5 := HO5.out.box.lt
        have HT := hid (oldestcN _ A2 w1.heap.size (W5.heap.size + 1 + 1) _ (by omega) (HO5.out.lst.bel bW.out) (by
          have := Bx.new ((W5.alloc (.cells #[.int .i64 0] 3)).alloc (.cells #[.bool true] 4)) 74 (.pointer (some ⟨w1.heap.size, 0, none⟩))
          simpa only [World.size_alloc] using this) 22 _ _ _ (OR_abides A2 (.slice a2 A2.length c2) (W5.heap.size + 1) W5.heap.size (w1.heap.size + 1)) none_abides (or_yields A2 (.slice a2 A2.length c2) (W5.heap.size + 1) W5.heap.size (w1.heap.size + 1) (by omega) (by omega) (by omega)) (fun j => j < W5.heap.size) (by
          have n1 := Bx.new W5 3 (.int .i64 0)
          have n2 := Bx.new (W5.alloc (.cells #[.int .i64 0] 3)) 4 (.bool true)
          simp only [World.size_alloc] at n2
          refine ⟨n2.al _, (n1.al _).al _, HO5.out.box.bel bW.out, ?_, by omega, by omega, fun j (hj : j < W5.heap.size) => by simp only [World.size_alloc]; omega⟩
          obtain ⟨a', cap', he, h⟩ := HO5.out.shows
          refine ⟨a', cap', he, ?_⟩
          by_cases hz : 0 < A2.length
          · rcases h with h | ⟨g', off', h1, h2⟩
            · exact .inl h
            · have := h2.lt hz
              exact .inr ⟨g', off', h1, by omega, by omega, h2.bel bW.out⟩
          · exact .inl (List.length_eq_zero_iff.1 (by omega))))
        refine HT.out.mono ?_
        rintro e w9 ⟨rfl, k9, h9⟩
        obtain h9 | ⟨_, _, h9⟩ := h9
        · have b9 : Bel W5 w9 := ((Keep.of_bel bW.out (fun k h => h)).tr k9).below
          have HO9 := hid (HO5.out.bel b9)
          have f1 := h9.right.cell
          have f2 := h9.at_.cell
          have f3 := h9.w.cell
          clear HT k9 h9 b9
          have HLn := fun W (hW : w9.heap = W.heap) => lenN (fun j => j < w1.heap.size ∨ j = w1.heap.size + 1 ∨ (Value.slice a2 A2.length c2).ownBlock = some j) A2 w1.heap.size W (by
            have := HO9.out.lst
            obtain ⟨v, q1, q2, q3, q4, q5⟩ := this
            exact ⟨v, by unfold Bx; rw [← hW]; exact q1, q2, ⟨⟨q3.1.1, by rw [← hW]; exact q3.1.2⟩, q3.2⟩, q4, by rw [← hW]; exact q5⟩)
          have HQ : ∀ n, Calls Try.prog 23 #[.pointer (some ⟨w1.heap.size, 0, none⟩)] (w9.drewN n) fun e w' => e = .returned (.int .i64 (A2.length : Nat)) ∧ w' = w9.drewN n := fun n => (HLn (w9.drewN n) rfl).mono (fun e w' ⟨a, b⟩ => ⟨a, b.symm⟩)
          have hq0 : ((A2.length : Int) != (A2.length : Int)) = false := by simp
          clear HLn
          go_wp2_with fail
          go_quiet ((go_at_call 23; exact Calls.quiet_of_same (HQ _)))
          have HO10 := hid (HO9.out.bel (drewN_bel w9 nq))
          clear f1 f2 f3 HQ
          go_wp2_with fail
          go_roundw
          case rel => exact ⟨k + 1, A2, _, by omega, by omega, by go_num, hA2, HN2.out, HO10.out⟩
          case measure => simp [intOf]; omega
        · exact h9.elim
    · have HFin : Hid (Bel w wr) := HB1.out.tr (HO.out.kp.below)
      have hgd : ((k : Int) < (L.length : Int) ∧ ¬ (k : Int) < 40) ∨ ¬ (k : Int) < (L.length : Int) := by omega
      rcases hgd with ⟨h11, h12⟩ | h11
      all_goals
        go_wp2_with fail
        go_ret
        exact ⟨rfl, HFin.out⟩
end Go.Proofs.Ytoelaemneoabfab
