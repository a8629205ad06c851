/-
  The contracts of package sum, walked.
-/
import Derived.Test.YtaepbmcmggnmpaaDoorRows
import Derived.Test.YtaepbmcmggnmpaaDoorM
import Derived.WalkKit
import Derived.WalkLawsBesides
import Derived.WalkSpells
import Derived.Deep.RegionWith
import Derived.Deep.RegionHeld3
import Derived.Deep.QuietTactic
import Derived.BigQuiet
namespace Go.Proofs.YtaepbmcmggnmpaaDoor
open Go.RowKit
set_option maxRecDepth 100000

theorem hid {p : Prop} (h : p) : Hid p := h
/-- Nothing that was there has turned. -/
abbrev Bel (w w' : World) : Prop := Below w.heap.size w w'
theorem Bel.al {w w1 : World} (h : Bel w w1) (o : Obj) : Bel w (w1.alloc o) := Below.alloc h h.size o
theorem Bel.dr {w w1 : World} (h : Bel w w1) : Bel w w1.drew := Below.drew h
theorem Bel.tr {w w1 w2 : World} (h : Bel w w1) (k : Bel w1 w2) : Bel w w2 := Below.trans h (Below.mono k h.size)
theorem bel_cell {W w' : World} (b : Bel W w') {g : Nat} (hg : g < W.heap.size) : ∀ o, w'.cell? ⟨g, o, none⟩ = W.cell? ⟨g, o, none⟩ := fun o => b.cell (p := ⟨g, o, none⟩) hg
theorem grown_of {w w' : World} (h : Bel w w') : w.grownBy w' none := ⟨h.os, h.tape, h.output, h.size, fun k hk _ => h.block k hk⟩
def Tab (w : World) : Prop := 1 < w.heap.size ∧ ∀ j, j < 16 → w.cell? ⟨1, j, none⟩ = some (.int .u32 ((M.tab j : Nat) : Int))

theorem not_u32 (R : Nat) (hR : R < 4294967296) : bits .xor .u32 IntKind.u32.max (R : Int) = ((4294967295 - R : Nat) : Int) := by
  rw [show IntKind.u32.max = ((4294967295 : Nat) : Int) from by decide, u32_xor_nat _ _ (by omega) hR]
  congr 1
  have h := BitVec.toNat_not (x := BitVec.ofNat 32 R)
  rw [BitVec.not_def] at h
  simp only [BitVec.toNat_xor, BitVec.toNat_allOnes, BitVec.toNat_ofNat] at h
  rw [Nat.mod_eq_of_lt (by omega)] at h
  omega
theorem Tab.bel {w w' : World} (hT : Tab w) (h : Bel w w') : Tab w' :=
  ⟨Nat.lt_of_lt_of_le hT.1 h.size, fun j hj => (h.cell (p := ⟨1, j, none⟩) hT.1).trans (hT.2 j hj)⟩
/-- One round of 'Sum', in the walk's own forms. -/
theorem sum_round (R c : Nat) (hR : R < 4294967296) (hc : c < 256) :
    ∃ X1 X2 X3 J1 J2 : Nat, bits .xor .u32 (R : Int) ((c : Int) % 4294967296) = (X1 : Int) ∧ bits .and .u32 (X1 : Int) 15 = (J1 : Int) ∧ J1 < 16 ∧
      bits .xor .u32 ((X1 : Int) / 16) ((M.tab J1 : Nat) : Int) = (X2 : Int) ∧ bits .and .u32 (X2 : Int) 15 = (J2 : Int) ∧ J2 < 16 ∧
      bits .xor .u32 ((X2 : Int) / 16) ((M.tab J2 : Nat) : Int) = (X3 : Int) ∧ X3 = M.byt R c ∧ X1 < 4294967296 ∧ X2 < 4294967296 ∧ X3 < 4294967296 := by
  have h1 : R ^^^ c < 4294967296 := M.xor_lt32 hR (by omega)
  have h2 : M.nib (R ^^^ c) < 4294967296 := M.nib_lt h1
  refine ⟨R ^^^ c, M.nib (R ^^^ c), M.byt R c, (R ^^^ c) % 16, M.nib (R ^^^ c) % 16, ?_, ?_, by omega, ?_, ?_, by omega, ?_, rfl, h1, h2, M.nib_lt h2⟩
  · rw [show ((c : Int) % 4294967296) = (c : Int) by omega, u32_xor_nat _ _ hR (by omega)]
  · rw [show (15 : Int) = ((15 : Nat) : Int) from rfl, u32_and_nat _ _ h1 (by omega), nat_mask4]
  · rw [show ((R ^^^ c : Nat) : Int) / 16 = (((R ^^^ c) / 16 : Nat) : Int) by omega, u32_xor_nat _ _ (by omega) (M.tab_lt _)]; rfl
  · rw [show (15 : Int) = ((15 : Nat) : Int) from rfl, u32_and_nat _ _ h2 (by omega), nat_mask4]
  · rw [show ((M.nib (R ^^^ c) : Nat) : Int) / 16 = ((M.nib (R ^^^ c) / 16 : Nat) : Int) by omega, u32_xor_nat _ _ (by omega) (M.tab_lt _)]; rfl

set_option maxHeartbeats 400000 in
theorem sum_any (s : ByteArray) (w : World) (hs : s.size ≤ maxLen) (hT : Tab w) :
    Calls Tryd.prog 97 #[.string s] w fun e w' => e = .returned (.int .u32 ((M.sum s.data.toList : Nat) : Int)) ∧ w = w' := by
  unfold maxLen at hs
  have HT : Hid (Tab w) := hT
  clear hT
  go_enter Tryd.func97, Tryd.ntmps97
  go_wp2
  go_loop [3, 7] (fun n i => ∃ k : Nat, k ≤ s.size ∧ i = .int .i64 k ∧ n = .int .u32 ((M.crc (s.data.toList.take k) : Nat) : Int)) (fun _ i => s.size - (intOf i).toNat)
  case atStart => exact ⟨0, Nat.zero_le _, rfl, rfl⟩
  case round =>
    obtain ⟨k, hk, rfl, rfl⟩ := hrel
    by_cases hlt : k < s.size
    · have hR := M.crc_lt (s.data.toList.take k)
      have HS : Hid (M.crc (s.data.toList.take (k + 1)) = M.byt (M.crc (s.data.toList.take k)) s[k].toNat) := by
        show _ = _; rw [M.take_snoc s k hlt, M.crc_snoc]
      generalize M.crc (s.data.toList.take k) = R at hR HS ⊢
      obtain ⟨X1, X2, X3, J1, J2, e1, e2, j1, e3, e4, j2, e5, E6, x1, x2, x3⟩ := sum_round R s[k].toNat hR (by have := s[k].toNat_lt; omega)
      have c1 := HT.out.2 J1 j1
      have c2 := HT.out.2 J2 j2
      have H6 : Hid (X3 = M.byt R s[k].toNat) := E6
      clear E6
      generalize M.tab J1 = T1 at *
      generalize M.tab J2 = T2 at *
      go_wp2
      go_round
      case rel => exact ⟨k + 1, by omega, by go_num, by rw [HS.out, H6.out]⟩
      case measure => simp [intOf]; omega
    · have hR := M.crc_lt (s.data.toList.take k)
      have HE : Hid (M.crc (s.data.toList.take k) = M.crc s.data.toList) := by
        show _ = _; rw [List.take_of_length_le (by simp; omega)]
      generalize M.crc (s.data.toList.take k) = R at hR HE ⊢
      have hx := not_u32 R hR
      go_wp2
      go_ret
      exact ⟨by rw [HE.out]; rfl, rfl⟩

theorem conv4 (W : World) (b0 b1 b2 b3 : Int) : (convert 54 9 (.slice (some ⟨W.heap.size, 0, none⟩) 4 4)).run Tryd.prog (W.alloc (.cells #[.int .u8 b0, .int .u8 b1, .int .u8 b2, .int .u8 b3] 5)) =
    .ok (.string (strOfNums [b0, b1, b2, b3])) (W.alloc (.cells #[.int .u8 b0, .int .u8 b1, .int .u8 b2, .int .u8 b3] 5)) := by
  refine run_convert_bytes_arg (P := Tryd.prog) _ 54 5 Tryd.underlying54 Tryd.underlying5 W.heap.size 0 4 4 [b0, b1, b2, b3] rfl ?_ 9 Tryd.underlying9
  intro i hi
  match i, hi with
  | 0, _ => simp [World.cell?_alloc_at]
  | 1, _ => simp [World.cell?_alloc_at]
  | 2, _ => simp [World.cell?_alloc_at]
  | 3, _ => simp [World.cell?_alloc_at]

set_option maxHeartbeats 400000 in
theorem tail_any (s : ByteArray) (w : World) (hs : s.size ≤ maxLen) (hT : Tab w) :
    Calls Tryd.prog 79 #[.string s] w fun e w' => e = .returned (.string (M.bs (M.tail4 (M.sum s.data.toList)))) ∧ Bel w w' := by
  have H := sum_any s w hs hT
  have hn := M.sum_lt s.data.toList
  generalize M.sum s.data.toList = n at H hn ⊢
  have k4 := conv4
  go_enter Tryd.func79, Tryd.ntmps79
  go_wp2_with (first | (go_at_call 97; refine H.mono ?_; rintro e w' ⟨rfl, rfl⟩))
  go_ret
  exact ⟨by rw [← M.nums4 n hn]; rfl, Bel.al (Below.refl _ _) _⟩

set_option maxHeartbeats 400000 in
theorem seal_any (s : ByteArray) (w : World) (hs : s.size + 4 ≤ maxLen) (hT : Tab w) :
    Calls Tryd.prog 50 #[.string s] w fun e w' => e = .returned (.string (M.bs (M.sealL s.data.toList))) ∧ Bel w w' := by
  have H := tail_any s w (by omega) hT
  have hz : (M.bs (M.tail4 (M.sum s.data.toList))).size = 4 := by rw [M.bs_size]; rfl
  have HE : Hid (s ++ M.bs (M.tail4 (M.sum s.data.toList)) = M.bs (M.sealL s.data.toList)) := by
    show _ = _; rw [M.str_append]; rfl
  unfold maxLen at hs
  generalize M.bs (M.tail4 (M.sum s.data.toList)) = t at H hz HE ⊢
  go_enter Tryd.func50, Tryd.ntmps50
  go_wp2_with (first | (go_at_call 79; refine H.mono ?_; rintro e w' ⟨rfl, hb⟩))
  go_ret
  exact ⟨by rw [← HE.out]; rfl, hb⟩

set_option maxHeartbeats 400000 in
theorem open_any (s : ByteArray) (w : World) (hs : s.size ≤ maxLen) (hT : Tab w) :
    Calls Tryd.prog 47 #[.string s] w fun e w' => e = .returned (.tuple #[.string (M.bs (M.openL s.data.toList).1), .int .i64 ((M.openL s.data.toList).2 : Int)]) ∧ Bel w w' := by
  have hl : Hid (s.size = s.data.toList.length) := Lib.size_eq s
  by_cases h4 : s.size < 4
  · have e : M.openL s.data.toList = ([], 3) := by unfold M.openL; rw [if_pos (by rw [← hl.out]; omega)]
    rw [e]
    go_enter Tryd.func47, Tryd.ntmps47
    go_wp2
    go_ret2
    exact ⟨rfl, Below.refl _ _⟩
  · have hs' := hs
    unfold maxLen at hs
    have H := fun W (hW : Tab W) => tail_any (s.extract 0 (s.size - 4)) W (by rw [M.extract_bs, M.bs_size, List.length_take, List.length_drop, ← hl.out]; unfold maxLen; omega) hW
    have hd : (s.extract 0 (s.size - 4)).data.toList = s.data.toList.take (s.data.toList.length - 4) := by rw [Lib.extract_data, List.drop_zero, ← hl.out, Nat.sub_zero]
    rw [hd] at H
    have hg : ((s.extract (s.size - 4) s.size).toList == (M.bs (M.tail4 (M.sum (s.data.toList.take (s.data.toList.length - 4))))).toList) = M.good s.data.toList := by
      rw [M.bs_toList, Lib.extract_toList, M.good, hl.out, List.take_of_length_le (by simp)]
    have e : M.openL s.data.toList = if M.good s.data.toList = true then (s.data.toList.take (s.data.toList.length - 4), 0) else ([], 5) := by
      unfold M.openL; rw [if_neg (by rw [← hl.out]; omega)]
    have hx : Hid (s.extract 0 (s.size - 4) = M.bs (s.data.toList.take (s.data.toList.length - 4))) := by
      show _ = _; rw [← hd, M.bs_of]
    rw [e]
    clear e hd
    have q1 : (0 : Int) ≤ (s.size : Int) - 4 := by omega
    have q2 : ((s.size : Int) - 4).toNat = s.size - 4 := by omega
    have q3 : (s.size : Int) - 4 ≤ (s.size : Int) := by omega
    generalize s.data.toList.take (s.data.toList.length - 4) = body at H hg hx ⊢
    generalize M.bs (M.tail4 (M.sum body)) = t at H hg
    generalize M.good s.data.toList = g at hg ⊢
    cases g
    · go_enter Tryd.func47, Tryd.ntmps47
      go_wp2
      go_region_with (go_at_call 79; refine (H _ ?_).mono ?_; exact hT; rintro e w' ⟨rfl, hb⟩)
      go_wp2
      go_ret2
      exact ⟨rfl, Bel.tr (Bel.dr (Below.refl _ _)) hb⟩
    · go_enter Tryd.func47, Tryd.ntmps47
      go_wp2
      go_region_with (go_at_call 79; refine (H _ ?_).mono ?_; exact hT; rintro e w' ⟨rfl, hb⟩)
      go_wp2
      go_ret2
      exact ⟨by rw [← hx.out]; rfl, Bel.tr (Bel.dr (Below.refl _ _)) hb⟩

end Go.Proofs.YtaepbmcmggnmpaaDoor
