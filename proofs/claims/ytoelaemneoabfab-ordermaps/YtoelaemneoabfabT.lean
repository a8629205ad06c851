/-
  The contracts of the map's Get, Len and of what tells its entries, walked.
-/
import Derived.Test.YtoelaemneoabfabP
import Derived.Shelf.Abstract
namespace Go.Proofs.Ytoelaemneoabfab
open Go.RowKit

theorem hid {p : Prop} (h : p) : Hid p := h
/-- More blocks are to be kept. -/
abbrev More (X : Nat → Prop) (w w' : World) : Nat → Prop := fun j => X j ∨ (w.heap.size ≤ j ∧ j < w'.heap.size)

/-- What holds between two rounds: it abides new blocks, and may keep fewer. -/
structure Abides {α : Type} (J : (Nat → Prop) → List α → World → Prop) : Prop where
  lt : ∀ X pre W, J X pre W → ∀ k, X k → k < W.heap.size
  more : ∀ X pre W W', J X pre W → Bel W W' → J (More X W W') pre W'
  weak : ∀ X Y pre W, J X pre W → (∀ k, Y k → X k) → J Y pre W
/-- A function value that is told one after the other. -/
def Yields {α : Type} (g : Nat) (lb : Array Value) (enc : α → Array Value) (L : List α) (J Jx : (Nat → Prop) → List α → World → Prop) : Prop :=
  (∀ args w, (callFunc g args).run Try.prog w = .ok (.enter g args) w) ∧
  ∀ X pre x W, (pre ++ [x]) <+: L → J X pre W → Calls Try.prog g (enc x ++ lb) W fun e W' =>
    Keep X W W' ∧ ((e = .returned (.bool true) ∧ J X (pre ++ [x]) W') ∨ (e = .returned (.bool false) ∧ Jx X (pre ++ [x]) W'))
/-- What comes behind all of them. -/
def Told {α : Type} (L : List α) (J Jx : (Nat → Prop) → List α → World → Prop) (X : Nat → Prop) (W : World) : Prop := J X L W ∨ ∃ pre, pre <+: L ∧ Jx X pre W

set_option maxHeartbeats 1000000 in
theorem getS (X : Nat → Prop) (L : M.Ents (List UInt8)) (hu : M.Up M.cfS L) (k : List UInt8) (b : Nat) (w : World) (hL : L.length ≤ 1000) (hm : MapS X w b L) :
    Calls Try.prog 13 #[.pointer (some ⟨b, 0, none⟩), (Value.string (M.bs k))] w fun e w' => e = .returned (.tuple #[.int .i64 (M.get M.cfS L k), .bool (M.has M.cfS L k)]) ∧ Bel w w' := by
  have hF := findS X L hu k b w hL hm
  obtain ⟨v, hb, hbx, ho, hob, hX⟩ := hm
  have c := hb.cell
  by_cases hh : M.has M.cfS L k = true
  · have hpl := M.pos_lt_of_has hh
    have HG : Hid (M.get M.cfS L k = (L[M.pos M.cfS L k]'hpl).2) := M.get_eq L k hpl hh
    rcases rowS_of ho with ⟨rfl, rfl⟩ | ⟨g, cap, rfl, hr⟩
    · simp [M.has] at hh
    · obtain ⟨c1, c2⟩ := hr _ hpl
      rw [hh] at hF ⊢
      have hgl := block_lt_of_cell c2
      have hbl := hb.lt
      clear hb ho hr hh hu
      generalize M.pos M.cfS L k = q at *
      generalize L[q] = E at *
      rw [Nat.zero_add] at c2 c1
      go_enter Try.func13, Try.ntmps13
      go_wp2_with fail
      refine hF.mono ?_
      clear hF
      rintro e w1 ⟨rfl, b1⟩
      have c' := (bel_cell b1 hbl 0).trans c
      have d2 := (bel_cell b1 hgl (q * 2 + 1)).trans c2
      go_wp2_with fail
      go_ret2
      exact ⟨by rw [HG.out]; rfl, b1⟩
  · have hh' : M.has M.cfS L k = false := by simpa using hh
    have HG : Hid (M.get M.cfS L k = 0) := M.get_none L k hh'
    rw [hh'] at hF ⊢
    clear ho hb
    go_enter Try.func13, Try.ntmps13
    go_wp2_with fail
    refine hF.mono ?_
    clear hF
    rintro e w1 ⟨rfl, b1⟩
    go_wp2_with fail
    go_ret2
    exact ⟨by rw [HG.out]; rfl, b1⟩

/-- What a slice value shows. -/
def ShowsS (w : World) (v : Value) (L : M.Ents (List UInt8)) : Prop := ∃ a cap, v = .slice a L.length cap ∧ (L = [] ∨ ∃ g off, a = some ⟨g, off, none⟩ ∧ RowS w g off L)
theorem cellsS {w : World} {g off : Nat} {L : M.Ents (List UInt8)} (h : RowS w g off L) : ∀ j u, (csS L)[j]? = some u → w.cell? ⟨g, off + j, none⟩ = some u := by
  intro j u hj
  have hjl : j < L.length * 2 := by rw [← csS_length]; exact (List.getElem?_eq_some_iff.1 hj).1
  obtain ⟨k0, k1⟩ := csS_at L (j / 2) (by omega)
  obtain ⟨c0, c1⟩ := h (j / 2) (by omega)
  by_cases hm : j % 2 = 0
  · have e : j / 2 * 2 = j := by omega
    rw [e] at k0 c0
    rw [k0] at hj
    rw [c0]; exact hj
  · have e : j / 2 * 2 + 1 = j := by omega
    rw [e] at k1
    rw [Nat.add_assoc, e] at c1
    rw [k1] at hj
    rw [c1]; exact hj
theorem rowOfS {base : Nat} {w : World} {v : Value} {L : M.Ents (List UInt8)} (h : w.ownsRow base 70 2 v L.length (csS L)) : L = [] ∨ ∃ g cap, v = .slice (some ⟨g, 0, none⟩) L.length cap ∧ base ≤ g ∧ RowS w g 0 L := by
  have h0 : w.ownsRow 0 70 2 v L.length (csS L) := ⟨h.1, by
    rcases h.2 with h1 | ⟨g, cap, cur, hv, hg, r⟩
    · exact .inl h1
    · exact .inr ⟨g, cap, cur, hv, Nat.zero_le _, r⟩⟩
  rcases rowS_of (X := fun _ => False) ⟨h0, fun _ _ h => h⟩ with ⟨_, rfl⟩ | ⟨g, cap, hv, hr⟩
  · exact .inl rfl
  · exact .inr ⟨g, cap, hv, (h.lt g (by rw [hv]; rfl)).1, hr⟩
set_option maxHeartbeats 2000000 in
set_option maxRecDepth 100000 in
theorem cloneS (L : M.Ents (List UInt8)) (v : Value) (w : World) (hL : L.length ≤ 1000) (hs : ShowsS w v L) :
    Calls Try.prog 64 #[v] w fun e w' => ∃ a cap, e = .returned (.slice a L.length cap) ∧ Bel w w' ∧ (L = [] ∨ ∃ g, a = some ⟨g, 0, none⟩ ∧ w.heap.size ≤ g ∧ RowS w' g 0 L) := by
  obtain ⟨i0, hi, hz0, hz1, hz2⟩ := info_parts info70
  obtain ⟨a, cap, rfl, h⟩ := hs
  have q : ∀ (w : World) (a : Option Addr) (n c n' c' : Nat), (binOp .eql 24 (.slice a n c) (.slice none n' c')).run Try.prog w = .ok (.bool a.isNone) w := fun w a n c n' c' => Lib.run_eql_slice_nil w _ _ a n c n' c' Try.underlying24
  cases a with
  | none =>
    have h0 : L = [] := by rcases h with h | ⟨_, _, h, _⟩; exact h; cases h
    subst h0
    clear h
    go_enter Try.func64, Try.ntmps64
    go_wp2_with fail
    go_ret
    exact ⟨_, _, rfl, Below.refl _ _, .inl trivial⟩
  | some a =>
    have hc : Hid (∀ j u, (csS L)[j]? = some u → w.cell? (a.add j) = some u) := by
      rcases h with rfl | ⟨g, off, h, hr⟩
      · intro j u hj; simp [csS] at hj
      · cases h
        intro j u hj
        rw [add_lit]
        exact cellsS hr j u hj
    clear h
    go_enter Try.func64, Try.ntmps64
    go_wp2_with (at_builtin; refine wpList_append_own _ rfl _ _ 24 rfl w.heap.size 70 i0 _ 2 24 Try.underlying24 hi hz0 hz1 hz2 rfl (by decide) _ _ _ rfl (World.ownsRow_made w #[] 0 (Nat.le_refl _) (Nat.zero_le _) (by simp)) a L.length cap (csS L) rfl ?qc1 ?qc2 ?qc3 ?qc4 ?qc5 ?qc6 ?_)
    case qc1 => exact csS_length L
    case qc2 =>
      intro j u hj
      exact Lib.cell?_alloc_some _ (hc.out j u hj)
    case qc3 => exact csS_one L
    case qc4 => unfold maxLen; omega
    case qc5 => omega
    case qc6 => simp
    intro v' w1 hown hgrow hnil
    obtain ⟨a', cap', rfl⟩ : ∃ a' cap', v' = .slice a' L.length cap' := by
      rcases hown.2 with ⟨h1, h2⟩ | ⟨g, cap, cur, hv, _⟩
      · exact ⟨none, 0, by rw [h1, h2]⟩
      · exact ⟨_, _, hv⟩
    have hro := rowOfS hown
    have hb : Bel w w1 := ((Below.refl _ w).alloc (Nat.le_refl _) _).grown hgrow (by simp) (by intro k hk; simp [Value.ownBlock] at hk; omega)
    clear hown hgrow hnil
    go_wp2
    go_ret
    refine ⟨a', cap', rfl, hb, ?_⟩
    rcases hro with h | ⟨g, cp, hv, hg, hr⟩
    · exact .inl h
    · refine .inr ⟨g, ?_, hg, hr⟩
      injection hv
/-- An entry as an argument. -/
def entS (x : List UInt8 × Int) : Array Value := #[.agg #[(Value.string (M.bs x.1)), .int .i64 x.2]]
set_option maxHeartbeats 2000000 in
theorem tellS (L : M.Ents (List UInt8)) (v : Value) (w : World) (hL : L.length ≤ 1000) (hs : ShowsS w v L) (g : Nat) (lb : Array Value) (J Jx : (Nat → Prop) → M.Ents (List UInt8) → World → Prop) (hA : Abides J) (hAx : Abides Jx)
    (hY : Yields g lb entS L J Jx) (X : Nat → Prop) (h0 : J X [] w) :
    Calls Try.prog 52 #[v, .func (.func g) #[] lb] w fun e w' => e = .returned (.tuple #[]) ∧ Keep X w w' ∧ Told L J Jx X w' := by
  have hC := cloneS L v w hL hs
  have eg := hY.1
  have HY := hid hY.2
  have HA := hid hA
  have HAx := hid hAx
  have HX := hid (hA.lt _ _ _ h0)
  have H0 := hid h0
  clear hY hA hAx h0 hs
  go_enter Try.func52, Try.ntmps52
  go_wp2_with fail
  refine hC.mono ?_
  clear hC
  rintro e w1 ⟨a, cap, rfl, b1, hr⟩
  have H1 : Hid (J (More X w w1) [] w1) := HA.out.more X [] w w1 H0.out b1
  go_wp2_with fail
  go_loopw [9] (fun i wr => ∃ k : Nat, k ≤ L.length ∧ i = .int .i64 k ∧ Hid (J (More X w w1) (L.take k) wr) ∧ Keep (More X w w1) w1 wr) (fun i _ => L.length - (intOf i).toNat)
  case atStart => exact ⟨0, Nat.zero_le _, rfl, H1.out, Keep.refl _ _⟩
  case round =>
    obtain ⟨k, hk, rfl, HJ, hkp⟩ := hrel
    have HK := hid hkp
    clear hkp
    by_cases hlt : k < L.length
    · obtain ⟨c, rfl, hcl, hrow⟩ : ∃ c, a = some ⟨c, 0, none⟩ ∧ w.heap.size ≤ c ∧ RowS w1 c 0 L := by
        rcases hr with rfl | h
        · simp at hlt
        · exact h
      have hcX : Hid (More X w w1 c) := .inr ⟨hcl, hrow.lt (by omega)⟩
      have c1 := (HK.out.cell (p := ⟨c, 0 + k * 2, none⟩) hcX.out).trans (hrow k hlt).1
      have c2 := (HK.out.cell (p := ⟨c, 0 + k * 2 + 1, none⟩) hcX.out).trans (hrow k hlt).2
      rw [Nat.zero_add] at c1 c2
      have HL : Hid (L.take (k + 1) = L.take k ++ [L[k]]) := List.take_succ_eq_append_getElem hlt
      have HP : Hid (L.take k ++ [L[k]] <+: L) := by show _ <+: _; rw [← HL.out]; exact List.take_prefix _ _
      clear hr hrow
      generalize L[k] = E at *
      obtain ⟨ek, ev⟩ := E
      go_wp2_with fail
      have hc := HY.out (More X w w1) (L.take k) (ek, ev) (wr.alloc (.cells #[(Value.string (M.bs ek)), .int .i64 ev] 70)) HP.out (HA.out.weak _ _ _ _ (HA.out.more _ _ _ _ HJ.out (Bel.al (Below.refl _ _) _)) (fun j h => .inl h))
      unfold entS at hc
      refine hc.mono ?_
      clear hc
      rintro e w2 ⟨k2, ⟨rfl, HJ2⟩ | ⟨rfl, HJ2⟩⟩
      · have HJ3 := hid HJ2
        have K3 : Hid (Keep (More X w w1) w1 w2) := (HK.out.al (fun j h => by
          have := b1.size
          rcases h with h | h
          · have := HX.out j h; omega
          · exact h.2) _).tr k2
        clear HJ2 k2
        go_wp2_with fail
        go_roundw
        case rel => exact ⟨k + 1, by omega, by go_num, by show J _ _ _; rw [HL.out]; exact HJ3.out, K3.out⟩
        case measure => simp [intOf]; omega
      · have HJ3 := hid HJ2
        have K3 : Hid (Keep (More X w w1) w1 w2) := (HK.out.al (fun j h => by
          have := b1.size
          rcases h with h | h
          · have := HX.out j h; omega
          · exact h.2) _).tr k2
        clear HJ2 k2
        go_wp2_with fail
        refine bodyPost_ret (v := .tuple #[]) (results_none rfl _ _ _) rfl ?_
        exact ⟨rfl, (Keep.of_bel b1 HX.out).tr (K3.out.weak (fun j h => .inl h)), .inr ⟨_, HP.out, HAx.out.weak _ _ _ _ HJ3.out (fun j h => .inl h)⟩⟩
    · have HF : Hid (J (More X w w1) L wr) := by have := HJ.out; rw [List.take_of_length_le (by omega)] at this; exact this
      go_wp2_with fail
      go_end0
      exact ⟨rfl, (Keep.of_bel b1 HX.out).tr (HK.out.weak (fun j h => .inl h)), .inl (HA.out.weak _ _ _ _ HF.out (fun j h => .inl h))⟩
set_option maxHeartbeats 1000000 in
theorem getI (X : Nat → Prop) (L : M.Ents (Int)) (hu : M.Up M.cfI L) (k : Int) (b : Nat) (w : World) (hL : L.length ≤ 1000) (hm : MapI X w b L) :
    Calls Try.prog 27 #[.pointer (some ⟨b, 0, none⟩), (Value.int .i64 k)] w fun e w' => e = .returned (.tuple #[.int .i64 (M.get M.cfI L k), .bool (M.has M.cfI L k)]) ∧ Bel w w' := by
  have hF := findI X L hu k b w hL hm
  obtain ⟨v, hb, hbx, ho, hob, hX⟩ := hm
  have c := hb.cell
  by_cases hh : M.has M.cfI L k = true
  · have hpl := M.pos_lt_of_has hh
    have HG : Hid (M.get M.cfI L k = (L[M.pos M.cfI L k]'hpl).2) := M.get_eq L k hpl hh
    rcases rowI_of ho with ⟨rfl, rfl⟩ | ⟨g, cap, rfl, hr⟩
    · simp [M.has] at hh
    · obtain ⟨c1, c2⟩ := hr _ hpl
      rw [hh] at hF ⊢
      have hgl := block_lt_of_cell c2
      have hbl := hb.lt
      clear hb ho hr hh hu
      generalize M.pos M.cfI L k = q at *
      generalize L[q] = E at *
      rw [Nat.zero_add] at c2 c1
      go_enter Try.func27, Try.ntmps27
      go_wp2_with fail
      refine hF.mono ?_
      clear hF
      rintro e w1 ⟨rfl, b1⟩
      have c' := (bel_cell b1 hbl 0).trans c
      have d2 := (bel_cell b1 hgl (q * 2 + 1)).trans c2
      go_wp2_with fail
      go_ret2
      exact ⟨by rw [HG.out]; rfl, b1⟩
  · have hh' : M.has M.cfI L k = false := by simpa using hh
    have HG : Hid (M.get M.cfI L k = 0) := M.get_none L k hh'
    rw [hh'] at hF ⊢
    clear ho hb
    go_enter Try.func27, Try.ntmps27
    go_wp2_with fail
    refine hF.mono ?_
    clear hF
    rintro e w1 ⟨rfl, b1⟩
    go_wp2_with fail
    go_ret2
    exact ⟨by rw [HG.out]; rfl, b1⟩

/-- What a slice value shows. -/
def ShowsI (w : World) (v : Value) (L : M.Ents (Int)) : Prop := ∃ a cap, v = .slice a L.length cap ∧ (L = [] ∨ ∃ g off, a = some ⟨g, off, none⟩ ∧ RowI w g off L)
theorem cellsI {w : World} {g off : Nat} {L : M.Ents (Int)} (h : RowI w g off L) : ∀ j u, (csI L)[j]? = some u → w.cell? ⟨g, off + j, none⟩ = some u := by
  intro j u hj
  have hjl : j < L.length * 2 := by rw [← csI_length]; exact (List.getElem?_eq_some_iff.1 hj).1
  obtain ⟨k0, k1⟩ := csI_at L (j / 2) (by omega)
  obtain ⟨c0, c1⟩ := h (j / 2) (by omega)
  by_cases hm : j % 2 = 0
  · have e : j / 2 * 2 = j := by omega
    rw [e] at k0 c0
    rw [k0] at hj
    rw [c0]; exact hj
  · have e : j / 2 * 2 + 1 = j := by omega
    rw [e] at k1
    rw [Nat.add_assoc, e] at c1
    rw [k1] at hj
    rw [c1]; exact hj
theorem rowOfI {base : Nat} {w : World} {v : Value} {L : M.Ents (Int)} (h : w.ownsRow base 80 2 v L.length (csI L)) : L = [] ∨ ∃ g cap, v = .slice (some ⟨g, 0, none⟩) L.length cap ∧ base ≤ g ∧ RowI w g 0 L := by
  have h0 : w.ownsRow 0 80 2 v L.length (csI L) := ⟨h.1, by
    rcases h.2 with h1 | ⟨g, cap, cur, hv, hg, r⟩
    · exact .inl h1
    · exact .inr ⟨g, cap, cur, hv, Nat.zero_le _, r⟩⟩
  rcases rowI_of (X := fun _ => False) ⟨h0, fun _ _ h => h⟩ with ⟨_, rfl⟩ | ⟨g, cap, hv, hr⟩
  · exact .inl rfl
  · exact .inr ⟨g, cap, hv, (h.lt g (by rw [hv]; rfl)).1, hr⟩
set_option maxHeartbeats 2000000 in
set_option maxRecDepth 100000 in
theorem cloneI (L : M.Ents (Int)) (v : Value) (w : World) (hL : L.length ≤ 1000) (hs : ShowsI w v L) :
    Calls Try.prog 67 #[v] w fun e w' => ∃ a cap, e = .returned (.slice a L.length cap) ∧ Bel w w' ∧ (L = [] ∨ ∃ g, a = some ⟨g, 0, none⟩ ∧ w.heap.size ≤ g ∧ RowI w' g 0 L) := by
  obtain ⟨i0, hi, hz0, hz1, hz2⟩ := info_parts info80
  obtain ⟨a, cap, rfl, h⟩ := hs
  have q : ∀ (w : World) (a : Option Addr) (n c n' c' : Nat), (binOp .eql 57 (.slice a n c) (.slice none n' c')).run Try.prog w = .ok (.bool a.isNone) w := fun w a n c n' c' => Lib.run_eql_slice_nil w _ _ a n c n' c' Try.underlying57
  cases a with
  | none =>
    have h0 : L = [] := by rcases h with h | ⟨_, _, h, _⟩; exact h; cases h
    subst h0
    clear h
    go_enter Try.func67, Try.ntmps67
    go_wp2_with fail
    go_ret
    exact ⟨_, _, rfl, Below.refl _ _, .inl trivial⟩
  | some a =>
    have hc : Hid (∀ j u, (csI L)[j]? = some u → w.cell? (a.add j) = some u) := by
      rcases h with rfl | ⟨g, off, h, hr⟩
      · intro j u hj; simp [csI] at hj
      · cases h
        intro j u hj
        rw [add_lit]
        exact cellsI hr j u hj
    clear h
    go_enter Try.func67, Try.ntmps67
    go_wp2_with (at_builtin; refine wpList_append_own _ rfl _ _ 57 rfl w.heap.size 80 i0 _ 2 16 Try.underlying57 hi hz0 hz1 hz2 rfl (by decide) _ _ _ rfl (World.ownsRow_made w #[] 0 (Nat.le_refl _) (Nat.zero_le _) (by simp)) a L.length cap (csI L) rfl ?qc1 ?qc2 ?qc3 ?qc4 ?qc5 ?qc6 ?_)
    case qc1 => exact csI_length L
    case qc2 =>
      intro j u hj
      exact Lib.cell?_alloc_some _ (hc.out j u hj)
    case qc3 => exact csI_one L
    case qc4 => unfold maxLen; omega
    case qc5 => omega
    case qc6 => simp
    intro v' w1 hown hgrow hnil
    obtain ⟨a', cap', rfl⟩ : ∃ a' cap', v' = .slice a' L.length cap' := by
      rcases hown.2 with ⟨h1, h2⟩ | ⟨g, cap, cur, hv, _⟩
      · exact ⟨none, 0, by rw [h1, h2]⟩
      · exact ⟨_, _, hv⟩
    have hro := rowOfI hown
    have hb : Bel w w1 := ((Below.refl _ w).alloc (Nat.le_refl _) _).grown hgrow (by simp) (by intro k hk; simp [Value.ownBlock] at hk; omega)
    clear hown hgrow hnil
    go_wp2
    go_ret
    refine ⟨a', cap', rfl, hb, ?_⟩
    rcases hro with h | ⟨g, cp, hv, hg, hr⟩
    · exact .inl h
    · refine .inr ⟨g, ?_, hg, hr⟩
      injection hv
/-- An entry as an argument. -/
def entI (x : Int × Int) : Array Value := #[.agg #[(Value.int .i64 x.1), .int .i64 x.2]]
set_option maxHeartbeats 2000000 in
theorem tellI (L : M.Ents (Int)) (v : Value) (w : World) (hL : L.length ≤ 1000) (hs : ShowsI w v L) (g : Nat) (lb : Array Value) (J Jx : (Nat → Prop) → M.Ents (Int) → World → Prop) (hA : Abides J) (hAx : Abides Jx)
    (hY : Yields g lb entI L J Jx) (X : Nat → Prop) (h0 : J X [] w) :
    Calls Try.prog 60 #[v, .func (.func g) #[] lb] w fun e w' => e = .returned (.tuple #[]) ∧ Keep X w w' ∧ Told L J Jx X w' := by
  have hC := cloneI L v w hL hs
  have eg := hY.1
  have HY := hid hY.2
  have HA := hid hA
  have HAx := hid hAx
  have HX := hid (hA.lt _ _ _ h0)
  have H0 := hid h0
  clear hY hA hAx h0 hs
  go_enter Try.func60, Try.ntmps60
  go_wp2_with fail
  refine hC.mono ?_
  clear hC
  rintro e w1 ⟨a, cap, rfl, b1, hr⟩
  have H1 : Hid (J (More X w w1) [] w1) := HA.out.more X [] w w1 H0.out b1
  go_wp2_with fail
  go_loopw [9] (fun i wr => ∃ k : Nat, k ≤ L.length ∧ i = .int .i64 k ∧ Hid (J (More X w w1) (L.take k) wr) ∧ Keep (More X w w1) w1 wr) (fun i _ => L.length - (intOf i).toNat)
  case atStart => exact ⟨0, Nat.zero_le _, rfl, H1.out, Keep.refl _ _⟩
  case round =>
    obtain ⟨k, hk, rfl, HJ, hkp⟩ := hrel
    have HK := hid hkp
    clear hkp
    by_cases hlt : k < L.length
    · obtain ⟨c, rfl, hcl, hrow⟩ : ∃ c, a = some ⟨c, 0, none⟩ ∧ w.heap.size ≤ c ∧ RowI w1 c 0 L := by
        rcases hr with rfl | h
        · simp at hlt
        · exact h
      have hcX : Hid (More X w w1 c) := .inr ⟨hcl, hrow.lt (by omega)⟩
      have c1 := (HK.out.cell (p := ⟨c, 0 + k * 2, none⟩) hcX.out).trans (hrow k hlt).1
      have c2 := (HK.out.cell (p := ⟨c, 0 + k * 2 + 1, none⟩) hcX.out).trans (hrow k hlt).2
      rw [Nat.zero_add] at c1 c2
      have HL : Hid (L.take (k + 1) = L.take k ++ [L[k]]) := List.take_succ_eq_append_getElem hlt
      have HP : Hid (L.take k ++ [L[k]] <+: L) := by show _ <+: _; rw [← HL.out]; exact List.take_prefix _ _
      clear hr hrow
      generalize L[k] = E at *
      obtain ⟨ek, ev⟩ := E
      go_wp2_with fail
      have hc := HY.out (More X w w1) (L.take k) (ek, ev) (wr.alloc (.cells #[(Value.int .i64 ek), .int .i64 ev] 80)) HP.out (HA.out.weak _ _ _ _ (HA.out.more _ _ _ _ HJ.out (Bel.al (Below.refl _ _) _)) (fun j h => .inl h))
      unfold entI at hc
      refine hc.mono ?_
      clear hc
      rintro e w2 ⟨k2, ⟨rfl, HJ2⟩ | ⟨rfl, HJ2⟩⟩
      · have HJ3 := hid HJ2
        have K3 : Hid (Keep (More X w w1) w1 w2) := (HK.out.al (fun j h => by
          have := b1.size
          rcases h with h | h
          · have := HX.out j h; omega
          · exact h.2) _).tr k2
        clear HJ2 k2
        go_wp2_with fail
        go_roundw
        case rel => exact ⟨k + 1, by omega, by go_num, by show J _ _ _; rw [HL.out]; exact HJ3.out, K3.out⟩
        case measure => simp [intOf]; omega
      · have HJ3 := hid HJ2
        have K3 : Hid (Keep (More X w w1) w1 w2) := (HK.out.al (fun j h => by
          have := b1.size
          rcases h with h | h
          · have := HX.out j h; omega
          · exact h.2) _).tr k2
        clear HJ2 k2
        go_wp2_with fail
        refine bodyPost_ret (v := .tuple #[]) (results_none rfl _ _ _) rfl ?_
        exact ⟨rfl, (Keep.of_bel b1 HX.out).tr (K3.out.weak (fun j h => .inl h)), .inr ⟨_, HP.out, HAx.out.weak _ _ _ _ HJ3.out (fun j h => .inl h)⟩⟩
    · have HF : Hid (J (More X w w1) L wr) := by have := HJ.out; rw [List.take_of_length_le (by omega)] at this; exact this
      go_wp2_with fail
      go_end0
      exact ⟨rfl, (Keep.of_bel b1 HX.out).tr (HK.out.weak (fun j h => .inl h)), .inl (HA.out.weak _ _ _ _ HF.out (fun j h => .inl h))⟩
end Go.Proofs.Ytoelaemneoabfab
