/-
  The law DeviceTurns, walked.
-/
import Derived.Test.YtoelaemneoabfaaN
import Derived.Laws.Bits64b
import Derived.Lib.MinMax
namespace Go.Proofs.Ytoelaemneoabfaa
open Go.RowKit

theorem wrap_i64_nat (n : Nat) (h : n < 9223372036854775808) : IntKind.i64.wrap (n : Int) = (n : Int) := by
  rw [IntKind.wrap_i64]; omega
/-- An int and a mask of ones: what is left. -/
theorem i64_mask (n : Int) (k : Nat) (hk : k ≤ 62) : bits .and .i64 n ((2 ^ k - 1 : Nat) : Int) = n % ((2 ^ k : Nat) : Int) := by
  have hp : 2 ^ k ≤ 2 ^ 62 := Nat.pow_le_pow_right (by decide) hk
  have h0 : 0 < 2 ^ k := Nat.pow_pos (by decide)
  have hm : (BitVec.ofInt 64 ((2 ^ k - 1 : Nat) : Int)).toNat = 2 ^ k - 1 := ofInt_u64 _ (by omega)
  have key : (BitVec.ofInt 64 n &&& BitVec.ofInt 64 ((2 ^ k - 1 : Nat) : Int)).toNat = (n % ((2 ^ 64 : Nat) : Int)).toNat % 2 ^ k := by
    rw [BitVec.toNat_and, BitVec.toNat_ofInt, hm, Nat.and_two_pow_sub_one_eq_mod]
  show IntKind.i64.wrap ((BitVec.ofInt 64 n &&& BitVec.ofInt 64 ((2 ^ k - 1 : Nat) : Int)).toNat : Nat) = _
  have hlt : (n % ((2 ^ 64 : Nat) : Int)).toNat % 2 ^ k < 2 ^ k := Nat.mod_lt _ h0
  rw [key, wrap_i64_nat _ (by omega)]
  rw [Int.natCast_emod, Int.toNat_of_nonneg (Int.emod_nonneg _ (by decide))]
  exact Int.emod_emod_of_dvd n (by exact_mod_cast Nat.pow_dvd_pow 2 (show k ≤ 64 by omega))
theorem i64_mask3 (n : Int) : bits .and .i64 n 3 = n % 4 := i64_mask n 2 (by omega)
theorem cut_eq (n : Nat) (t : M.Tx) : (M.bs t).extract 0 (min (t.length : Int) n).toNat = M.bs (t.take n) := by
  rw [M.extract_bs, M.bs_data, List.drop_zero]
  congr 1
  by_cases h : t.length ≤ n
  · rw [List.take_of_length_le (by omega), List.take_of_length_le h]
  · congr 1; omega
/-- One of two writes of sectors that are not the same, the one first. -/
def life (i : Int) (a : M.Tx) (j : Int) (b : M.Tx) : St := on (blow (sync (write (write (new 5) i a) j b)) [])
theorem life_eq (i : Int) (a : M.Tx) (j : Int) (b : M.Tx) (h0 : 0 ≤ i) (h1 : i < 5) (h2 : 0 ≤ j) (h3 : j < 5) (ha : a.length ≤ 256) (hb : b.length ≤ 256) :
    life i a j b = { size := 5, fin := put (put (fun _ => (0, [])) (i, a)) (j, b), wait := [], done := 3, off := false, fuse := 0, keep := [], room := 2 } := by
  have e1 : write (new 5) i a = { size := 5, fin := fun _ => (0, []), wait := [(i, a)], done := 1, off := false, fuse := 0, keep := [], room := 0 } := by
    have hc : check (new 5) i = 0 := by simp [check, new]; omega
    unfold write
    rw [if_neg (by simp [hc]), if_neg (by omega), if_neg (by simp [new])]
    rfl
  have e2 : write (write (new 5) i a) j b = { size := 5, fin := fun _ => (0, []), wait := [(i, a), (j, b)], done := 2, off := false, fuse := 0, keep := [], room := 0 } := by
    rw [e1]
    have hc : check { size := 5, fin := fun _ => (0, []), wait := [(i, a)], done := 1, off := false, fuse := 0, keep := [], room := 0 } j = 0 := by simp [check]; omega
    unfold write
    rw [if_neg (by simp [hc]), if_neg (by omega), if_neg (by simp)]
    rfl
  unfold life
  rw [e2]
  simp [on, blow, sync, tick, settle, stl, taken]
theorem put_comm (F : Int → M.Wr) (i j : Int) (a b : M.Tx) (h : i ≠ j) : put (put F (i, a)) (j, b) = put (put F (j, b)) (i, a) := by
  funext k
  simp only [put]
  by_cases h1 : k = i
  · by_cases h2 : k = j
    · omega
    · simp [h1, h]
  · by_cases h2 : k = j
    · simp [h2]; intro e; omega
    · simp [h1, h2]
set_option maxHeartbeats 2000000 in
theorem turns_any (a b : M.Tx) (i : Int) (w : World) : Calls Try.prog 7 #[.string (M.bs a), .string (M.bs b), .int .i64 i] w fun e w' => e = .returned (.bool true) ∧ Bel w w' := by
  have za : (M.bs a).size = a.length := M.bs_size a
  have zb : (M.bs b).size = b.length := M.bs_size b
  have ca := cut_eq 256 a
  have cb := cut_eq 256 b
  have hr := i64_mask3 i
  have h0 : 0 ≤ i % 4 := by omega
  have h3 : i % 4 ≤ 3 := by omega
  have e256 : ((256 : Nat) : Int) = 256 := rfl
  rw [e256] at ca cb
  obtain ⟨na, hna, hna'⟩ : ∃ na : Nat, min (a.length : Int) 256 = (na : Int) ∧ na ≤ a.length := ⟨min a.length 256, by omega, by omega⟩
  obtain ⟨nb, hnb, hnb'⟩ : ∃ nb : Nat, min (b.length : Int) 256 = (nb : Int) ∧ nb ≤ b.length := ⟨min b.length 256, by omega, by omega⟩
  rw [hna, Int.toNat_natCast] at ca
  rw [hnb, Int.toNat_natCast] at cb
  generalize i % 4 = r at *
  go_enter Try.func7, Try.ntmps7
  go_wp2_with (go_at_call 8; refine (speaks_any _).mono ?_; rintro e w1 ⟨rfl, hb⟩)
  go_region
  go_wp2_with fail
  clear ca cb hna hnb hna' hnb' za zb hr e256
  have hA : (a.take 256).length ≤ 256 := by rw [List.length_take]; omega
  have hB : (b.take 256).length ≤ 256 := by rw [List.length_take]; omega
  generalize a.take 256 = A at *
  generalize b.take 256 = B at *
  have HL : Hid (life r A (r + 1) B = life (r + 1) B r A) := by
    show _ = _
    rw [life_eq r A (r + 1) B h0 (by omega) (by omega) (by omega) hA hB, life_eq (r + 1) B r A (by omega) (by omega) h0 (by omega) hB hA, put_comm _ _ _ _ _ (by omega)]
  have HZ : Hid (∀ k : Int, 0 ≤ k → k < 5 → check (life (r + 1) B r A) k = 0) := fun k k0 k5 => by
    rw [life_eq (r + 1) B r A (by omega) (by omega) h0 (by omega) hB hA]
    simp [check]; omega
  clear hA hB
  have gx1 : Hid (Good 1 (write (new 5) r A)) := (good_new 5 (by omega) (by omega)).write (by omega) _ _
  have gx2 : Hid (Good 2 (write (write (new 5) r A) (r + 1) B)) := gx1.out.write (by omega) _ _
  have gx3 : Hid (Good 3 (sync (write (write (new 5) r A) (r + 1) B))) := gx2.out.sync (by omega)
  have gy1 : Hid (Good 1 (write (new 5) (r + 1) B)) := (good_new 5 (by omega) (by omega)).write (by omega) _ _
  have gy2 : Hid (Good 2 (write (write (new 5) (r + 1) B) r A)) := gy1.out.write (by omega) _ _
  have gy3 : Hid (Good 3 (sync (write (write (new 5) (r + 1) B) r A))) := gy2.out.sync (by omega)
  have gy : Hid (Good 3 (life (r + 1) B r A)) := (gy3.out.blow []).on
  refine (new_any 5 _ (by omega) (by omega)).mono ?_
  rintro e wx ⟨x, rfl, hx, bx⟩
  have bx' : Bel w wx := (hb.dr).tr bx
  have HX : Hid (Dev (fun k => k < w.heap.size) wx x (new 5)) := hx.weak (fun k (hk : k < w.heap.size) => by
    show k < w1.heap.size
    have := hb.size
    omega)
  clear hx bx hb
  go_wp2_with fail
  refine (new_any 5 _ (by omega) (by omega)).mono ?_
  rintro e wy ⟨y, rfl, hy, by'⟩
  have HT : Hid (Two (fun k => k < w.heap.size) wy x (new 5) y (new 5)) := Two.new HX.out by' hy
  have HK : Hid (Keep (fun k => k < w.heap.size) w wy) := Keep.of_bel (bx'.tr by') (fun _ h => h)
  clear HX hy by' bx'
  go_wp2_with fail
  refine (HT.out.writeL 0 r A (good_new 5 (by omega) (by omega)) (by omega)).mono ?_
  rintro e w2 ⟨rfl, h2, k2⟩
  replace HT := hid h2
  replace HK := hid (HK.out.tr k2)
  clear h2 k2
  go_wp2_with fail
  refine (HT.out.writeL 1 (r + 1) B gx1.out (by omega)).mono ?_
  rintro e w3 ⟨rfl, h2, k2⟩
  replace HT := hid h2
  replace HK := hid (HK.out.tr k2)
  clear h2 k2
  go_wp2_with fail
  refine (HT.out.writeR 0 (r + 1) B (good_new 5 (by omega) (by omega)) (by omega)).mono ?_
  rintro e w4 ⟨rfl, h2, k2⟩
  replace HT := hid h2
  replace HK := hid (HK.out.tr k2)
  clear h2 k2
  go_wp2_with fail
  refine (HT.out.writeR 1 r A gy1.out (by omega)).mono ?_
  rintro e w5 ⟨rfl, h2, k2⟩
  replace HT := hid h2
  replace HK := hid (HK.out.tr k2)
  clear h2 k2
  go_wp2_with fail
  refine (HT.out.syncL 2 gx2.out (by omega)).mono ?_
  rintro e w6 ⟨rfl, h2, k2⟩
  replace HT := hid h2
  replace HK := hid (HK.out.tr k2)
  clear h2 k2
  go_wp2_with fail
  refine (HT.out.syncR 2 gy2.out (by omega)).mono ?_
  rintro e w7 ⟨rfl, h2, k2⟩
  replace HT := hid h2
  replace HK := hid (HK.out.tr k2)
  clear h2 k2
  go_wp2_with fail
  refine (HT.out.blowL 3 [] _ gx3.out (ReadsN.none _ _ _) (by simp)).mono ?_
  rintro e w8 ⟨rfl, h2, k2⟩
  replace HT := hid h2
  replace HK := hid (HK.out.tr k2)
  clear h2 k2
  go_wp2_with fail
  refine (HT.out.blowR 3 [] _ gy3.out (ReadsN.none _ _ _) (by simp)).mono ?_
  rintro e w9 ⟨rfl, h2, k2⟩
  replace HT := hid h2
  replace HK := hid (HK.out.tr k2)
  clear h2 k2
  go_wp2_with fail
  refine HT.out.onL.mono ?_
  rintro e w10 ⟨rfl, h2, k2⟩
  replace HT := hid h2
  replace HK := hid (HK.out.tr k2)
  clear h2 k2
  go_wp2_with fail
  refine HT.out.onR.mono ?_
  rintro e w11 ⟨rfl, h2, k2⟩
  have HT' : Hid (Two (fun k => k < w.heap.size) w11 x (life r A (r + 1) B) y (life (r + 1) B r A)) := h2
  rw [HL.out] at HT'
  replace HK := hid (HK.out.tr k2)
  clear h2 k2 HT HL gx1 gx2 gx3 gy1 gy2 gy3
  generalize life (r + 1) B r A = L at *
  generalize writeE (new 5) r A = z1
  generalize writeE (write (new 5) r A) (r + 1) B = z2
  generalize writeE (new 5) (r + 1) B = z3
  generalize writeE (write (new 5) (r + 1) B) r A = z4
  generalize syncE (write (write (new 5) r A) (r + 1) B) = z5
  generalize syncE (write (write (new 5) (r + 1) B) r A) = z6
  go_wp2_with fail
  go_loopw [11] (fun i wr => ∃ m : Nat, m ≤ 5 ∧ i = .int .i64 m ∧ Hid (Two (fun k => k < w.heap.size) wr x L y L) ∧ Hid (Keep (fun k => k < w.heap.size) w wr)) (fun i _ => 5 - (intOf i).toNat)
  case atStart => exact ⟨0, by omega, rfl, HT', HK⟩
  case round =>
    obtain ⟨m, hm, rfl, H, K⟩ := hrel
    by_cases hlt : m < 5
    · have hz := HZ.out m (by omega) (by omega)
      have hrx := read_any _ x L 3 m wr H.out.fst gy.out
      rw [hz] at hrx
      obtain ⟨R, hR⟩ : ∃ R, Hid (read L m = R) := ⟨_, rfl⟩
      rw [hR.out] at hrx
      go_wp2_with fail
      refine hrx.mono ?_
      clear hrx
      rintro e w12 ⟨rfl, b12⟩
      have H12 := hid (H.out.bel b12)
      have K12 := hid (K.out.tr (Keep.of_bel b12 H.out.fst.lt))
      clear H K b12
      have hry := read_any _ y L 3 m w12 H12.out.symm.fst gy.out
      rw [hz, hR.out] at hry
      go_wp2_with fail
      refine hry.mono ?_
      clear hry
      rintro e w13 ⟨rfl, b13⟩
      have H13 := hid (H12.out.bel b13)
      have K13 := hid (K12.out.tr (Keep.of_bel b13 H12.out.fst.lt))
      clear H12 K12 b13
      go_wp2_with fail
      go_roundw
      case rel => exact ⟨m + 1, by omega, by go_num, H13, K13⟩
      case measure => simp [intOf]; omega
    · obtain rfl : m = 5 := by omega
      go_wp2_with fail
      go_ret
      exact ⟨rfl, K.out.below⟩
theorem turns_str (s t : ByteArray) (i : Int) (w : World) : Calls Try.prog 7 #[.string s, .string t, .int .i64 i] w fun e w' => e = .returned (.bool true) ∧ Bel w w' := by
  have := turns_any s.data.toList t.data.toList i w
  rwa [M.bs_of, M.bs_of] at this
end Go.Proofs.Ytoelaemneoabfaa
