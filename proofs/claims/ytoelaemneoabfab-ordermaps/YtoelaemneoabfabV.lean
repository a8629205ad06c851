/-
  The contracts of the list's Use, Len, Oldest and of what tells it, walked.
-/
import Derived.Test.YtoelaemneoabfabR
namespace Go.Proofs.Ytoelaemneoabfab
open Go.RowKit

theorem cellsN {w : World} {g off : Nat} {L : List Int} (h : RowN w g off L) : ∀ j u, (csN L)[j]? = some u → w.cell? ⟨g, off + j, none⟩ = some u := by
  intro j u hj
  have hjl : j < L.length := by have := (List.getElem?_eq_some_iff.1 hj).1; rw [csN_length] at this; omega
  rw [h j hjl]
  simp only [csN, List.getElem?_map, List.getElem?_eq_getElem hjl, Option.map_some] at hj
  exact hj
/-- What a slice value shows. -/
def ShowsN (w : World) (v : Value) (L : List Int) : Prop := ∃ a cap, v = .slice a L.length cap ∧ (L = [] ∨ ∃ g off, a = some ⟨g, off, none⟩ ∧ RowN w g off L)
theorem showsN_of {X : Nat → Prop} {w : World} {v : Value} {L : List Int} (h : Own 3 1 X w v L.length (csN L)) : ShowsN w v L := by
  rcases rowN_of h with ⟨rfl, rfl⟩ | ⟨g, cap, rfl, hr⟩
  · exact ⟨none, 0, rfl, .inl rfl⟩
  · exact ⟨_, cap, rfl, .inr ⟨g, 0, rfl, hr⟩⟩
theorem one_new (w : World) (c0 : Value) : ∀ j u, [c0][j]? = some u → (w.alloc (.cells #[c0] 3)).cell? ((⟨w.heap.size, 0, none⟩ : Addr).add j) = some u := by
  intro j u h
  rw [add_lit, World.cell?_alloc_at (hn := rfl)]
  simpa using h
theorem rowOfN {base : Nat} {w : World} {v : Value} {L : List Int} (h : w.ownsRow base 3 1 v L.length (csN L)) : L = [] ∨ ∃ g cap, v = .slice (some ⟨g, 0, none⟩) L.length cap ∧ base ≤ g ∧ RowN w g 0 L := by
  have h0 : w.ownsRow 0 3 1 v L.length (csN L) := ⟨h.1, by
    rcases h.2 with h1 | ⟨g, cap, cur, hv, hg, r⟩
    · exact .inl h1
    · exact .inr ⟨g, cap, cur, hv, Nat.zero_le _, r⟩⟩
  rcases rowN_of (X := fun _ => False) ⟨h0, fun _ _ h => h⟩ with ⟨_, rfl⟩ | ⟨g, cap, hv, hr⟩
  · exact .inl rfl
  · exact .inr ⟨g, cap, hv, (h.lt g (by rw [hv]; rfl)).1, hr⟩
set_option maxHeartbeats 2000000 in
set_option maxRecDepth 100000 in
theorem cloneN (L : List Int) (v : Value) (w : World) (hL : L.length ≤ 1000) (hs : ShowsN w v L) :
    Calls Try.prog 54 #[v] w fun e w' => ∃ a cap, e = .returned (.slice a L.length cap) ∧ Bel w w' ∧ (L = [] ∨ ∃ g, a = some ⟨g, 0, none⟩ ∧ w.heap.size ≤ g ∧ RowN w' g 0 L) := by
  obtain ⟨i0, hi, hz0, hz1, hz2⟩ := info_parts info3
  obtain ⟨a, cap, rfl, h⟩ := hs
  have q : ∀ (w : World) (a : Option Addr) (n c n' c' : Nat), (binOp .eql 28 (.slice a n c) (.slice none n' c')).run Try.prog w = .ok (.bool a.isNone) w := fun w a n c n' c' => Lib.run_eql_slice_nil w _ _ a n c n' c' Try.underlying28
  cases a with
  | none =>
    have h0 : L = [] := by rcases h with h | ⟨_, _, h, _⟩; exact h; cases h
    subst h0
    clear h
    go_enter Try.func54, Try.ntmps54
    go_wp2_with fail
    go_ret
    exact ⟨_, _, rfl, Below.refl _ _, .inl trivial⟩
  | some a =>
    have hc : Hid (∀ j u, (csN L)[j]? = some u → w.cell? (a.add j) = some u) := by
      rcases h with rfl | ⟨g, off, h, hr⟩
      · intro j u hj; simp [csN] at hj
      · cases h
        intro j u hj
        rw [add_lit]
        exact cellsN hr j u hj
    clear h
    go_enter Try.func54, Try.ntmps54
    go_wp2_with (at_builtin; refine wpList_append_own _ rfl _ _ 28 rfl w.heap.size 3 i0 _ 1 8 Try.underlying28 hi hz0 hz1 hz2 rfl (by decide) _ _ _ rfl (World.ownsRow_made w #[] 0 (Nat.le_refl _) (Nat.zero_le _) (by simp)) a L.length cap (csN L) rfl ?qc1 ?qc2 ?qc3 ?qc4 ?qc5 ?qc6 ?_)
    case qc1 => exact csN_length L
    case qc2 =>
      intro j u hj
      exact Lib.cell?_alloc_some _ (hc.out j u hj)
    case qc3 => exact csN_one L
    case qc4 => unfold maxLen; omega
    case qc5 => omega
    case qc6 => simp
    intro v' w1 hown hgrow hnil
    obtain ⟨a', cap', rfl⟩ : ∃ a' cap', v' = .slice a' L.length cap' := by
      rcases hown.2 with ⟨h1, h2⟩ | ⟨g, cap, cur, hv, _⟩
      · exact ⟨none, 0, by rw [h1, h2]⟩
      · exact ⟨_, _, hv⟩
    have hro := rowOfN hown
    have hb : Bel w w1 := ((Below.refl _ w).alloc (Nat.le_refl _) _).grown hgrow (by simp) (by intro k hk; simp [Value.ownBlock] at hk; omega)
    clear hown hgrow hnil
    go_wp2
    go_ret
    refine ⟨a', cap', rfl, hb, ?_⟩
    rcases hro with h | ⟨g, cp, hv, hg, hr⟩
    · exact .inl h
    · refine .inr ⟨g, ?_, hg, hr⟩
      injection hv
/-- An entry as an argument. -/
def entN (x : Int) : Array Value := #[.int .i64 x]
set_option maxHeartbeats 2000000 in
theorem tellN (L : List Int) (v : Value) (w : World) (hL : L.length ≤ 1000) (hs : ShowsN w v L) (g : Nat) (lb : Array Value) (J Jx : (Nat → Prop) → List Int → World → Prop) (hA : Abides J) (hAx : Abides Jx)
    (hY : Yields g lb entN L J Jx) (X : Nat → Prop) (h0 : J X [] w) :
    Calls Try.prog 42 #[v, .func (.func g) #[] lb] w fun e w' => e = .returned (.tuple #[]) ∧ Keep X w w' ∧ Told L J Jx X w' := by
  have hC := cloneN L v w hL hs
  have eg := hY.1
  have HY := hid hY.2
  have HA := hid hA
  have HAx := hid hAx
  have HX := hid (hA.lt _ _ _ h0)
  have H0 := hid h0
  clear hY hA hAx h0 hs
  go_enter Try.func42, Try.ntmps42
  go_wp2_with fail
  refine hC.mono ?_
  clear hC
  rintro e w1 ⟨a, cap, rfl, b1, hr⟩
  have H1 : Hid (J (More X w w1) [] w1) := HA.out.more X [] w w1 H0.out b1
  go_wp2_with fail
  go_loopw [9] (fun i wr => ∃ k : Nat, k ≤ L.length ∧ i = .int .i64 k ∧ Hid (J (More X w w1) (L.take k) wr) ∧ Keep (More X w w1) w1 wr) (fun i _ => L.length - (intOf i).toNat)
  case atStart => exact ⟨0, Nat.zero_le _, rfl, H1.out, Keep.refl _ _⟩
  case round =>
    obtain ⟨k, hk, rfl, HJ, hkp⟩ := hrel
    have HK := hid hkp
    clear hkp
    by_cases hlt : k < L.length
    · obtain ⟨c, rfl, hcl, hrow⟩ : ∃ c, a = some ⟨c, 0, none⟩ ∧ w.heap.size ≤ c ∧ RowN w1 c 0 L := by
        rcases hr with rfl | h
        · simp at hlt
        · exact h
      have hcX : Hid (More X w w1 c) := .inr ⟨hcl, hrow.lt (by omega)⟩
      have c1 := (HK.out.cell (p := ⟨c, 0 + k, none⟩) hcX.out).trans (hrow k hlt)
      rw [Nat.zero_add] at c1
      have HL : Hid (L.take (k + 1) = L.take k ++ [L[k]]) := List.take_succ_eq_append_getElem hlt
      have HP : Hid (L.take k ++ [L[k]] <+: L) := by show _ <+: _; rw [← HL.out]; exact List.take_prefix _ _
      clear hr hrow
      generalize L[k] = E at *
      go_wp2_with fail
      have hc := HY.out (More X w w1) (L.take k) E wr HP.out HJ.out
      unfold entN at hc
      refine hc.mono ?_
      clear hc
      rintro e w2 ⟨k2, ⟨rfl, HJ2⟩ | ⟨rfl, HJ2⟩⟩
      · have HJ3 := hid HJ2
        have K3 : Hid (Keep (More X w w1) w1 w2) := HK.out.tr k2
        clear HJ2 k2
        go_wp2_with fail
        go_roundw
        case rel => exact ⟨k + 1, by omega, by go_num, by show J _ _ _; rw [HL.out]; exact HJ3.out, K3.out⟩
        case measure => simp [intOf]; omega
      · have HJ3 := hid HJ2
        have K3 : Hid (Keep (More X w w1) w1 w2) := HK.out.tr k2
        clear HJ2 k2
        go_wp2_with fail
        refine bodyPost_ret (v := .tuple #[]) (results_none rfl _ _ _) rfl ?_
        exact ⟨rfl, (Keep.of_bel b1 HX.out).tr (K3.out.weak (fun j h => .inl h)), .inr ⟨_, HP.out, HAx.out.weak _ _ _ _ HJ3.out (fun j h => .inl h)⟩⟩
    · have HF : Hid (J (More X w w1) L wr) := by have := HJ.out; rw [List.take_of_length_le (by omega)] at this; exact this
      go_wp2_with fail
      go_end0
      exact ⟨rfl, (Keep.of_bel b1 HX.out).tr (HK.out.weak (fun j h => .inl h)), .inl (HA.out.weak _ _ _ _ HF.out (fun j h => .inl h))⟩
theorem appInt (X : Nat → Prop) (L : List Int) (x : Int) (v : Value) (w : World) (hL : L.length ≤ 1000) (ho : Own 3 1 X w v L.length (csN L)) (hX : ∀ k, X k → k < w.heap.size) :
    ∃ v' w', (∀ ty, (Builtin.append_ #[28, 28] ty #[v, .slice (some ⟨w.heap.size, 0, none⟩) 1 1]).run Try.prog (w.alloc (.cells #[.int .i64 x] 3)) = .ok v' w') ∧ Own 3 1 X w' v' (L.length + 1) (csN (L ++ [x])) ∧ Keep X w w' := by
  obtain ⟨i0, hi, hz0, hz1, hz2⟩ := info_parts info3
  have hcs : csN (L ++ [x]) = csN L ++ [.int .i64 x] := by simp [csN]
  have hone : ∀ u ∈ [Value.int .i64 x], u.oneCell' = true := by intro u hu; simp at hu; subst hu; rfl
  have hgrow : ∀ (base : Option Addr) (c : Nat) (_ : c < L.length + 1) (_ : (Builtin.firstCells i0.size L.length (.slice base L.length c)).run Try.prog (w.alloc (.cells #[.int .i64 x] 3)).drew = .ok (csN L).toArray (w.alloc (.cells #[.int .i64 x] 3)).drew),
      ∃ v' w', (∀ ty, (Builtin.append_ #[28, 28] ty #[.slice base L.length c, .slice (some ⟨w.heap.size, 0, none⟩) 1 1]).run Try.prog (w.alloc (.cells #[.int .i64 x] 3)) = .ok v' w') ∧ Own 3 1 X w' v' (L.length + 1) (csN (L ++ [x])) ∧ Keep X w w' := by
    intro base c hc hf
    refine ⟨_, _, fun ty => run_append_grow_src _ 28 28 ty 3 i0 _ Try.underlying28 hi hz0 base L.length c _ hf _ 1 _
      (Src.ofSlice _ Try.underlying28 ⟨w.heap.size, 0, none⟩ 1 1 [.int .i64 x] (by rw [hz1]; rfl) (one_new w _) hone) hc (by omega) (by rw [hz2]; exact growslice_fits hc (by omega)), ?_, ?_⟩
    · refine ⟨⟨by rw [csN_length]; simp, .inr ⟨_, _, _, rfl, Nat.zero_le _, heap_alloc_new _ _, grownCap_ge _ _ _ _, grownCap_le_maxLen _ _ _ _ (by unfold maxLen; omega), ?_, ?_⟩⟩, fun g hg hx => ?_⟩
      · rw [Array.size_append, size_zeroCells]
        have := grownCap_ge (w.alloc (.cells #[.int .i64 x] 3)) (L.length + 1) c 3
        simp only [List.size_toArray, List.length_append, csN_length, List.length_cons, List.length_nil]
        show _ + _ * 1 = _
        omega
      · rw [hcs, Array.toList_append, List.take_left' (by simp [csN_length] <;> omega)]
      · have : g = (w.alloc (.cells #[.int .i64 x] 3)).heap.size := by simpa [Value.ownBlock] using hg.symm
        have := hX g hx
        simp at *; omega
    · exact (((Keep.refl X w).al hX _).dr).al hX _
  rcases ho.1.2 with ⟨rfl, hn⟩ | ⟨g, cap, cur, rfl, _, hg, hn, hm, hs, ht⟩
  · rw [hn] at hgrow ⊢
    exact hgrow none 0 (by omega) (by rw [List.length_eq_zero_iff.1 hn]; exact run_firstCells_none _ _ 0 0 0)
  · have hgl := (Array.getElem?_eq_some_iff.1 hg).1
    have hg' : (w.alloc (.cells #[.int .i64 x] 3)).heap[g]? = some (.cells cur 3 (0, 0)) := (Below.heap_alloc _ _ _ hgl).trans hg
    by_cases hr : L.length + 1 ≤ cap
    · refine ⟨_, _, fun ty => run_append_room _ 28 ty 3 i0 Try.underlying28 hi g L.length cap cur hg' ⟨w.heap.size, 0, none⟩ 1 1 [.int .i64 x] (by rw [hz1]; rfl) (one_new w _) hone hr (by rw [hz1, hs]; simp; omega), ?_, ?_⟩
      · refine ⟨⟨by rw [csN_length]; simp, .inr ⟨g, cap, _, rfl, Nat.zero_le _, setRow_heap _ g cur _ 3 _ hg', hr, hm, ?_, ?_⟩⟩, fun g' hg' => ?_⟩
        · rw [hz1]; simp [hs]; omega
        · rw [hz1, ht, hcs, List.take_left' (by simp [csN_length] <;> omega)]
        · obtain rfl : g = g' := by simpa [Value.ownBlock] using hg'
          exact ho.2 g rfl
      · exact ((Keep.refl X w).al hX _).setRow (ho.2 g rfl) _
    · refine hgrow _ _ (by omega) ?_
      rw [hz1]
      refine run_firstCells_some _ 1 L.length ⟨g, 0, none⟩ L.length cap (csN L) (csN_length L) (fun j u hj => ?_)
      have := ho.1.cells (g := g) rfl j u hj
      rw [add_lit] at this ⊢
      show (w.alloc (.cells #[.int .i64 x] 3)).cell? _ = _
      rw [World.cell?_alloc_past _ _ _ hgl]
      exact this

set_option maxHeartbeats 2000000 in
theorem useN (X : Nat → Prop) (L : List Int) (x : Int) (b : Nat) (w : World) (hL : L.length ≤ 900) (hm : Rec X w b L) :
    Calls Try.prog 20 #[.pointer (some ⟨b, 0, none⟩), .int .i64 x] w fun e w' => e = .returned (.tuple #[]) ∧ Rec X w' b (L.erase x ++ [x]) ∧ Keep X w w' := by
  have hD := dropN X L x b w (by omega) hm
  have hel : Hid ((L.erase x).length ≤ 900) := Nat.le_trans (List.length_erase_le) hL
  clear hm
  generalize L.erase x = L1 at hD hel ⊢
  go_enter Try.func20, Try.ntmps20
  go_wp2_with fail
  refine hD.mono ?_
  clear hD
  rintro e w1 ⟨rfl, hm, k1⟩
  obtain ⟨v, hb, hbx, ho, hob, hX⟩ := hm
  have HK1 := hid k1
  obtain ⟨v', w2, hrun, ho2, k2⟩ := appInt (fun k => X k ∨ k = b) L1 x v w1 (by have := hel.out; omega) (ho.both hob) (fun j hj => by
    rcases hj with hj | rfl
    · exact hX j hj
    · exact hb.lt)
  obtain ⟨g', cap', rfl⟩ : ∃ g cap, v' = .slice (some ⟨g, 0, none⟩) (L1.length + 1) cap := by
    rcases ho2.1.2 with ⟨_, h0⟩ | ⟨g, cap, _, h, _⟩
    · omega
    · exact ⟨g, cap, h⟩
  have c := hb.cell
  have d := (hb.keep k2 (.inr rfl)).cell
  have df := (hb.keep k2 (.inr rfl)).frozen
  have hbl := hb.lt
  have HT := hid (Held.turn hb hbx hX k2 ho2 rfl)
  have HLn : Hid ((L1 ++ [x]).length = L1.length + 1) := by show _ = _; simp
  clear ho2 k2 k1 hb hbx hX ho hob
  go_wp2_with (at_builtin; refine Lib.wpList_append_run _ rfl _ _ _ _ rfl _ _ rfl rfl _ _ (hrun _) ?_)
  go_end0
  exact ⟨rfl, by show Held _ _ _ _ _ _ _ _; rw [HLn.out]; exact HT.out.1, HK1.out.tr HT.out.2⟩
theorem lenN (X : Nat → Prop) (L : List Int) (b : Nat) (w : World) (hm : Rec X w b L) :
    Calls Try.prog 23 #[.pointer (some ⟨b, 0, none⟩)] w fun e w' => e = .returned (.int .i64 (L.length : Nat)) ∧ w = w' := by
  obtain ⟨v, hb, _, ho, _⟩ := hm
  have c := hb.cell
  obtain ⟨a, cap, rfl, _⟩ := showsN_of ho
  clear ho hb
  go_enter Try.func23, Try.ntmps23
  go_wp2_with fail
  go_ret
  exact ⟨rfl, rfl⟩
theorem oldestN (p : Option Addr) (w : World) : Calls Try.prog 21 #[.pointer p] w fun e w' => e = .returned (.func (.func 41) #[] #[.pointer (some ⟨w.heap.size, 0, none⟩)]) ∧ w.alloc (.cells #[.pointer p] 74) = w' := by
  go_enter Try.func21, Try.ntmps21
  go_wp2_with fail
  go_ret
  exact ⟨rfl, rfl⟩
theorem oldestcN (Z : Nat → Prop) (L : List Int) (b B : Nat) (w : World) (hL : L.length ≤ 1000) (hm : Rec Z w b L) (hB : Bx w B 74 (.pointer (some ⟨b, 0, none⟩))) (g : Nat) (lb : Array Value) (J Jx : (Nat → Prop) → List Int → World → Prop) (hA : Abides J) (hAx : Abides Jx)
    (hY : Yields g lb entN L J Jx) (X : Nat → Prop) (h0 : J X [] w) :
    Calls Try.prog 41 #[.func (.func g) #[] lb, .pointer (some ⟨B, 0, none⟩)] w fun e w' => e = .returned (.tuple #[]) ∧ Keep X w w' ∧ Told L J Jx X w' := by
  obtain ⟨v, hb, _, ho, _⟩ := hm
  have H := hid (tellN L v w hL (showsN_of ho) g lb J Jx hA hAx hY X h0)
  have c := hB.cell
  have c2 := hb.cell
  obtain ⟨a, cap, rfl, _⟩ := showsN_of ho
  clear hY h0 hA hAx ho hb hB
  go_enter Try.func41, Try.ntmps41
  go_wp2_with fail
  refine H.out.mono ?_
  rintro e w' ⟨rfl, h⟩
  have H := hid h
  clear h
  go_wp2_with fail
  go_end0
  exact ⟨rfl, H.out⟩
end Go.Proofs.Ytoelaemneoabfab
