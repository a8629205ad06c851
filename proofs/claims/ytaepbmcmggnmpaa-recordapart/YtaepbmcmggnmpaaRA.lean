/-
  The contracts of the document's own reader, Join and Split (concordanceref07), walked.
-/
import Derived.Test.YtaepbmcmggnmpaaU
import Derived.Test.YtaepbmcmggnmpaaR
namespace Go.Proofs.Ytaepbmcmggnmpaa
open Go.RowKit
set_option maxRecDepth 100000

/-- The number of the error that a reader has. -/
def eN (b : Bool) : Int := if b = true then 3 else 0
/-- The document's reader in block g. -/
def InAt (w : World) (g : Nat) (r : M.Rd) : Prop := w.heap[g]? = some (.cells #[.string (M.bs r.1), .int .i64 (eN r.2)] 93 (0, 0))
theorem InAt.lt {w : World} {g : Nat} {r : M.Rd} (h : InAt w g r) : g < w.heap.size := (Array.getElem?_eq_some_iff.1 h).1
theorem InAt.bel {w w' : World} {g : Nat} {r : M.Rd} (h : InAt w g r) (k : Bel w w') : InAt w' g r := (k.block g h.lt).trans h
theorem InAt.cells {w : World} {g : Nat} {r : M.Rd} (h : InAt w g r) : w.cell? ⟨g, 0, none⟩ = some (.string (M.bs r.1)) ∧ w.cell? ⟨g, 1, none⟩ = some (.int .i64 (eN r.2)) ∧ w.frozen? ⟨g, 0, none⟩ = false ∧ w.frozen? ⟨g, 1, none⟩ = false :=
  ⟨by rw [Lib.cell_of_heap h]; rfl, by rw [Lib.cell_of_heap h]; rfl, Lib.frozen_of_heap h 0, Lib.frozen_of_heap h 1⟩
theorem InAt.set0 {w : World} {g : Nat} {r : M.Rd} (h : InAt w g r) (l : List UInt8) : InAt (w.setCell ⟨g, 0, none⟩ (.string (M.bs l))) g (l, r.2) := by
  unfold InAt
  rw [heap_setCell_same w g 0 _ 93 _ h]; rfl
theorem InAt.set1 {w : World} {g : Nat} {r : M.Rd} (h : InAt w g r) : InAt (w.setCell ⟨g, 1, none⟩ (.int .i64 3)) g (r.1, true) := by
  unfold InAt
  rw [heap_setCell_same w g 1 _ 93 _ h]; rfl
set_option maxHeartbeats 400000 in
theorem take_any (g : Nat) (r : M.Rd) (n : Nat) (w : World) (h : InAt w g r) (_hn : n ≤ 100000) (_hr : r.1.length ≤ 100000) :
    Calls Try.prog 36 #[.pointer (some ⟨g, 0, none⟩), .int .i64 (n : Int)] w fun e w' => e = .returned (.string (M.bs (M.rtext r n).1)) ∧ InAt w' g (M.rtext r n).2 ∧ Kp g w w' := by
  obtain ⟨c0, c1, f0, f1⟩ := h.cells
  have hz : (M.bs r.1).size = r.1.length := M.bs_size _
  have HR := hid h
  clear h
  by_cases hb : r.2 = true
  · have HE : Hid (M.rtext r n = ([], r)) := by show _ = _; unfold M.rtext; rw [if_pos (.inl hb), ← hb]
    have e3 : eN r.2 = 3 := by rw [hb]; rfl
    rw [e3] at c1
    clear hb e3
    go_enter Try.func36, Try.ntmps36
    go_wp2_with fail
    go_ret
    exact ⟨by rw [HE.out]; rfl, by rw [HE.out]; exact HR.out, Kp.refl g w⟩
  · have hbf : r.2 = false := by simpa using hb
    have e3 : eN r.2 = 0 := by rw [hbf]; rfl
    rw [e3] at c1
    by_cases hl : r.1.length < n
    · have HE : Hid (M.rtext r n = ([], (r.1, true))) := by show _ = _; unfold M.rtext; rw [if_pos (.inr hl)]
      clear hb hbf e3
      go_enter Try.func36, Try.ntmps36
      go_wp2_with fail
      go_ret
      exact ⟨by rw [HE.out]; rfl, by rw [HE.out]; exact HR.out.set1, Kp.set g 1 w _⟩
    · have HE : Hid (M.rtext r n = (r.1.take n, (r.1.drop n, r.2))) := by show _ = _; unfold M.rtext; rw [if_neg (by rintro (h | h); exact hb h; exact hl h)]
      have hx1 : (M.bs r.1).extract 0 n = M.bs (r.1.take n) := by rw [sub_bs, List.drop_zero, Nat.sub_zero]
      have hx2 : (M.bs r.1).extract n r.1.length = M.bs (r.1.drop n) := by rw [sub_bs, List.take_of_length_le (by rw [List.length_drop]; omega)]
      clear hb hbf e3
      go_enter Try.func36, Try.ntmps36
      go_wp2_with fail
      go_ret
      exact ⟨by rw [HE.out]; rfl, by rw [HE.out]; exact HR.out.set0 _, Kp.set g 0 w _⟩
theorem number_any (g : Nat) (r : M.Rd) (n : Nat) (w : World) (h : InAt w g r) (hn : n ≤ 7) (hr : r.1.length ≤ 100000) :
    Calls Try.prog 35 #[.pointer (some ⟨g, 0, none⟩), .int .i64 (n : Int)] w fun e w' => e = .returned (.int .i64 ((M.rnum r n).1 : Int)) ∧ InAt w' g (M.rnum r n).2 ∧ Kp g w w' := by
  have H1 := take_any g r n w h (by omega) hr
  have hl := (rtext_len r n).1
  have H2 := fun W => rget_any (M.bs (M.rtext r n).1) W (by rw [M.bs_size]; unfold maxLen; omega)
  rw [M.bs_data] at H2
  have HE : Hid (M.rnum r n = (M.get (M.rtext r n).1, (M.rtext r n).2)) := rfl
  generalize M.bs (M.rtext r n).1 = S at *
  generalize M.get (M.rtext r n).1 = G at *
  generalize (M.rtext r n).2 = R at *
  go_enter Try.func35, Try.ntmps35
  go_wp2_with fail
  refine H1.mono ?_
  rintro e w1 ⟨rfl, h1, k1⟩
  go_wp2_with fail
  refine (H2 _).mono ?_
  rintro e w2 ⟨rfl, rfl⟩
  go_wp2_with fail
  go_ret
  exact ⟨by rw [HE.out]; rfl, by rw [HE.out]; exact h1, k1⟩
set_option maxHeartbeats 2000000 in
theorem rjoin_some (L : List (List UInt8)) (b off cap : Nat) (w : World) (hv : Row1 w b off L) (hL : 0 < L.length) (hL2 : L.length ≤ 5000) (hs : ∀ t ∈ L, t.length ≤ 17000) :
    Calls Try.prog 16 #[.slice (some ⟨b, off, none⟩) L.length cap] w fun e w' => e = .returned (.string (M.bs (M.joinL L))) ∧ Bel w w' := by
  have hbw := hv.lt hL
  have Hn := fun W => rput_any (L.length : Int) 2 W (by omega)
  have hpl := M.put_two_len (L.length : Int) (by omega) (by omega)
  have HP : Hid (M.joinL L = M.put (L.length : Int) 2 ++ L.flatMap M.frm) := rfl
  generalize M.put (L.length : Int) 2 = P0 at *
  go_enter Try.func16, Try.ntmps16
  go_wp2_with fail
  refine (Hn _).mono ?_
  rintro e w2 ⟨rfl, b2⟩
  clear Hn
  go_wp2_with fail
  go_loopw [3, 4] (fun sv i wr => ∃ (k : Nat), k ≤ L.length ∧ i = .int .i64 k ∧ sv = .string (M.bs (P0 ++ (L.take k).flatMap M.frm)) ∧ Bel w wr) (fun _ i _ => L.length - (intOf i).toNat)
  case atStart => exact ⟨0, Nat.zero_le _, rfl, by simp, b2⟩
  case round =>
    obtain ⟨k, hk, rfl, rfl, hbel⟩ := hrel
    by_cases hlt : k < L.length
    · have c1 := (hv.below hbel hbw) k hlt
      have htl := hs L[k] (List.getElem_mem hlt)
      have HT : Hid ((L.take (k + 1)).flatMap M.frm = (L.take k).flatMap M.frm ++ M.frm L[k]) := by show _ = _; rw [List.take_succ_eq_append_getElem hlt, List.flatMap_append, List.flatMap_cons, List.flatMap_nil, List.append_nil]
      have hacc : (P0 ++ (L.take k).flatMap M.frm).length ≤ 90000000 := by
        have h5 := flat_le (L.take k) (fun p hp => hs p (List.mem_of_mem_take hp))
        simp only [List.length_append, hpl]
        have : (L.take k).length * 17002 ≤ 5000 * 17002 := Nat.mul_le_mul_right _ (by rw [List.length_take]; omega)
        omega
      have hbr : b < wr.drew.heap.size := Nat.lt_of_lt_of_le hbw hbel.size
      have hbx := hbel.dr
      clear hv hs
      generalize L[k] = t at *
      have hzt : (M.bs t).size = t.length := M.bs_size t
      have Hp : ∀ W, Calls Try.prog 25 #[.int .i64 (t.length : Int), .int .i64 2] W fun e w' => e = .returned (.string (M.bs (M.put (t.length : Int) 2))) ∧ Bel W w' := fun W => rput_any (t.length : Int) 2 W (by omega)
      have z2 : (M.bs (M.put (t.length : Int) 2)).size = 2 := by rw [M.bs_size, M.put_two_len _ (by omega) (by omega)]
      have z3 : (M.bs (M.put (t.length : Int) 2) ++ M.bs t).size = 2 + t.length := by rw [M.bs_append, M.bs_size, List.length_append, M.put_two_len _ (by omega) (by omega)]
      have z4 : (M.bs (P0 ++ (L.take k).flatMap M.frm)).size = (P0 ++ (L.take k).flatMap M.frm).length := M.bs_size _
      have HE : Hid (M.bs (P0 ++ (L.take k).flatMap M.frm) ++ (M.bs (M.put (t.length : Int) 2) ++ M.bs t) = M.bs (P0 ++ ((L.take k).flatMap M.frm ++ M.frm t))) := by
        show _ = _; rw [M.bs_append, M.bs_append, List.append_assoc]; rfl
      generalize M.bs (P0 ++ (L.take k).flatMap M.frm) = S0 at *
      generalize (P0 ++ (L.take k).flatMap M.frm).length = m at *
      have hq4 : ¬ 9223372036854775807 < 2 + t.length := by omega
      have hq5 : ¬ 9223372036854775807 < m + (2 + t.length) := by omega
      have d : decide ((65535 : Int) < (t.length : Int)) = false := by apply decide_eq_false; omega
      go_wp2_with fail
      go_region_held3 (fun w' => w'.cell? ⟨b, off + k, none⟩ = some (.string (M.bs t))) (go_keep)
        (first
          | (go_at_call 25; refine (Hp _).mono ?_; rintro e w4 ⟨rfl, b4⟩; have hc0 := bel_cell b4 (g := b) hbr; have hbx := hbx.tr b4; have hbr := Nat.lt_of_lt_of_le hbr b4.size))
      go_wp2_with fail
      go_roundw
      case rel => exact ⟨k + 1, by omega, by go_num, by rw [HT.out, ← HE.out], hbx⟩
      case measure => simp [intOf]; omega
    · have HF : Hid (L.take k = L) := by show _ = _; rw [List.take_of_length_le (by omega)]
      go_wp2_with fail
      go_ret
      exact ⟨by rw [HP.out, HF.out]; rfl, hbel⟩
theorem rjoin_nil (a : Option Addr) (cap : Nat) (w : World) :
    Calls Try.prog 16 #[.slice a 0 cap] w fun e w' => e = .returned (.string (M.bs (M.joinL []))) ∧ Bel w w' := by
  have e2 : M.joinL [] = M.put 0 2 := by decide +kernel
  rw [e2]
  have Hn := fun W => rput_any 0 2 W (by omega)
  generalize M.put 0 2 = P0 at *
  clear e2
  go_enter Try.func16, Try.ntmps16
  go_wp2_with fail
  refine (Hn _).mono ?_
  rintro e w2 ⟨rfl, b2⟩
  go_wp2_with fail
  refine wp_loop_rounds 1 ?_
  rw [rounds_succ]
  go_wp2_with fail
  go_ret
  exact ⟨rfl, b2⟩
theorem rjoin_any (L : List (List UInt8)) (x : Value) (w : World) (hv : ValT w x L) (hL2 : L.length ≤ 5000) (hs : ∀ t ∈ L, t.length ≤ 17000) :
    Calls Try.prog 16 #[x] w fun e w' => e = .returned (.string (M.bs (M.joinL L))) ∧ Bel w w' := by
  obtain ⟨a, cap, rfl, hv⟩ := hv
  by_cases h0 : L = []
  · subst h0; exact rjoin_nil a cap w
  · obtain ⟨b, off, rfl, hr⟩ := hv.resolve_left h0
    refine rjoin_some L b off cap w hr ?_ hL2 hs
    have : L.length ≠ 0 := fun h => h0 (List.length_eq_zero_iff.1 h)
    omega
end Go.Proofs.Ytaepbmcmggnmpaa
