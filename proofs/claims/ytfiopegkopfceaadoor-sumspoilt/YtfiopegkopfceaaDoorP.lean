/-
  The law SumSpoilt, walked.
-/
import Derived.Test.YtfiopegkopfceaaDoorA
import Derived.Test.YtfiopegkopfceaaDoorB
import Derived.Laws.IdiomStrings
namespace Go.Proofs.YtfiopegkopfceaaDoor
open Go.RowKit

/-- The cells of block B hold the bytes of l, and may be written. -/
def At (w : World) (B : Nat) (l : List UInt8) : Prop := ∀ j (h : j < l.length), w.cell? ⟨B, j, none⟩ = some (.int .u8 (l[j].toNat : Int)) ∧ w.frozen? ⟨B, j, none⟩ = false

theorem At.set {w : World} {B : Nat} {l : List UInt8} (h : At w B l) (i : Nat) (c : UInt8) (hi : i < l.length) : At (w.setCell ⟨B, i, none⟩ (.int .u8 (c.toNat : Int))) B (l.set i c) := by
  intro j hj
  rw [List.length_set] at hj
  refine ⟨?_, (World.frozen?_setCell _ _ _ _).trans (h j hj).2⟩
  by_cases e : i = j
  · subst e
    rw [World.cell?_setCell_same _ _ _ (h i hi).1, List.getElem_set_self]
  · rw [World.cell?_setCell_other _ _ _ _ (fun he => e (by injection he)), List.getElem_set_ne e]
    exact (h j hj).1

theorem bne_cast (X : Nat) : ((X : Int) != 0) = (false || X != 0) := by
  rw [Bool.false_or, Bool.eq_iff_iff, bne_iff_ne, bne_iff_ne]; omega
/-- '[]byte(s)'. -/
theorem bytes_of (w : World) (l : List UInt8) : ∃ cap W, (convert 9 35 (.string (M.bs l))).run Tryd.prog w = .ok (.slice (some ⟨w.heap.size, 0, none⟩) l.length cap) W ∧ At W w.heap.size l ∧ Bel w W ∧ W.heap.size = w.heap.size + 1 := by
  have h := run_bytes_of_string (P := Tryd.prog) w 9 35 5 (M.bs l) Tryd.underlying9 Tryd.underlying35 Tryd.underlying5
  rw [M.bs_size] at h
  refine ⟨_, _, h, ?_, Bel.al (Bel.dr (Below.refl _ _)) _, by simp⟩
  intro j hj
  constructor
  · refine (World.cell?_alloc_mark w.drew _ _ _ _).trans ?_
    rw [bytesRow_at _ _ _ (by simpa [M.bs] using hj)]
    rfl
  · refine (World.frozen?_alloc_mark w.drew _ _ _ _ _).trans ?_
    have : j < (bytesRow (M.bs l) (grownCap w l.length 0 5)).size := by
      simp [bytesRow, M.bs]; omega
    simp; omega

/-- 'string(b)'. -/
theorem string_of (w : World) (B cap : Nat) (l : List UInt8) (h : At w B l) : (convert 35 9 (.slice (some ⟨B, 0, none⟩) l.length cap)).run Tryd.prog w = .ok (.string (M.bs l)) w := by
  refine run_convert_bytes_back (P := Tryd.prog) w 35 9 5 ⟨B, 0, none⟩ cap l Tryd.underlying35 Tryd.underlying5 Tryd.underlying9 ?_
  intro j hj
  have e : (⟨B, 0, none⟩ : Addr).add j = ⟨B, j, none⟩ := by unfold Addr.add; split <;> simp_all
  rw [e]
  exact (h j hj).1

theorem spoilt_long (s : ByteArray) (a y : Int) (w : World) (hT : Tab w) (h : 2000 < s.size) (hs : s.size ≤ maxLen) :
    Calls Tryd.prog 5 #[.string s, .int .i64 a, .int .u32 y] w fun e w' => e = .returned (.bool true) ∧ Bel w w' := by
  unfold maxLen at hs
  go_enter Tryd.func5, Tryd.ntmps5
  go_wp2_with fail
  refine (speaks_any _ hT).mono ?_
  rintro e w1 ⟨rfl, b1⟩
  go_wp2_with fail
  go_ret
  exact ⟨rfl, b1⟩

set_option maxHeartbeats 1000000 in
theorem spoilt_short (l : List UInt8) (a : Int) (y : Nat) (w : World) (hT : Tab w) (h : l.length ≤ 2000) (_hy : y < 4294967296) (N : Nat) (hN : (M.sealL l).length = N) (m : Int) (p : Nat) (hm : a.tmod (N : Int) = m) (h1 : -(N : Int) < m) (h2 : m < (N : Int))
    (hp : (m + (N : Int)) % (N : Int) = (p : Int)) (hpN : p < N) :
    Calls Tryd.prog 5 #[.string (M.bs l), .int .i64 a, .int .u32 (y : Int)] w fun e w' => e = .returned (.bool true) ∧ Bel w w' := by
  have hz : (M.bs l).size ≤ 2000 := by rw [M.bs_size]; exact h
  have hN4 : 4 ≤ N := by rw [← hN, M.sealL_length]; omega
  have hN5 : N ≤ 2004 := by rw [← hN, M.sealL_length]; omega
  have Hs := fun W => seal_bs l W (by omega)
  have HN : Hid ((M.sealL l).length = N) := hN
  clear hN
  go_enter Tryd.func5, Tryd.ntmps5
  go_wp2_with fail
  refine (speaks_any _ hT).mono ?_
  rintro e w1 ⟨rfl, b1⟩
  have t1 := hT.bel b1
  go_wp2_with fail
  refine (Hs _ t1).mono ?_
  rintro e w2 ⟨rfl, b2⟩
  obtain ⟨cap, W, hcv, hat, b3, hsz⟩ := bytes_of w2 (M.sealL l)
  rw [HN.out] at hcv
  have HA : Hid (At W w2.heap.size (M.sealL l)) := hat
  have HZ : Hid (W.heap.size = w2.heap.size + 1) := hsz
  clear hat hsz
  go_wp2
  rw [hp]
  clear hp
  go_loopw [8, 9] (fun ch i wr => ∃ k : Nat, k ≤ 4 ∧ p + k ≤ N ∧ i = .int .i64 k ∧ ch = .bool (M.chTo y k) ∧ At wr w2.heap.size (M.spoilTo (M.sealL l) p y k) ∧ Bel w2 wr) (fun _ i _ => 4 - (intOf i).toNat)
  case atStart => exact ⟨0, by omega, by omega, rfl, rfl, HA.out, b3⟩
  case round =>
    obtain ⟨k, hk, hpk, rfl, rfl, hat, hb⟩ := hrel
    have HL : Hid ((M.spoilTo (M.sealL l) p y k).length = N) := by show _ = _; rw [M.spoilTo_length, HN.out]
    by_cases hlt : k < 4 ∧ p + k < N
    · obtain ⟨hk4, hkN⟩ := hlt
      have hcl := hat (p + k) (by rw [HL.out]; exact hkN)
      obtain ⟨c, hc⟩ : ∃ c, c = (M.spoilTo (M.sealL l) p y k)[p + k]'(by rw [HL.out]; exact hkN) := ⟨_, rfl⟩
      rw [← hc] at hcl
      obtain ⟨hcell, hfr⟩ := hcl
      have q3 : ((8 : Int) * (k : Int)).toNat = 8 * k := by omega
      have hX : (y : Int) / 2 ^ (8 * k) % 256 = ((M.byByte y k : Nat) : Int) := by unfold M.byByte; rw [Int.natCast_emod, Int.natCast_ediv, Int.natCast_pow]; rfl
      have hX2 : M.byByte y k < 256 := Nat.mod_lt _ (by decide)
      have hc2 := c.toNat_lt
      have hx : bits .xor .u8 (c.toNat : Int) ((M.byByte y k : Nat) : Int) = ((c.toNat ^^^ M.byByte y k : Nat) : Int) := u8_xor_nat _ _ (by omega) hX2
      have HSet := hat.set (p + k) (UInt8.ofNat (c.toNat ^^^ M.byByte y k)) (by rw [HL.out]; exact hkN)
      have HSp : Hid ((M.spoilTo (M.sealL l) p y k).set (p + k) (UInt8.ofNat (c.toNat ^^^ M.byByte y k)) = M.spoilTo (M.sealL l) p y (k + 1)) := by
        show _ = _
        simp only [M.spoilTo]
        rw [List.getD_eq_getElem?_getD, List.getElem?_eq_getElem (by rw [HL.out]; exact hkN), Option.getD_some, ← hc]
      rw [HSp.out, UInt8.toNat_ofNat', Nat.mod_eq_of_lt (Nat.xor_lt_two_pow (n := 8) hc2 hX2)] at HSet
      have HCh : Hid (M.chTo y (k + 1) = (M.chTo y k || M.byByte y k != 0)) := rfl
      clear hc HSp hat
      generalize M.byByte y k = X at *
      generalize M.chTo y k = g at *
      generalize c.toNat ^^^ X = Z at *
      have HS2 : Hid (At (wr.setCell ⟨w2.heap.size, p + k, none⟩ (.int .u8 (Z : Int))) w2.heap.size (M.spoilTo (M.sealL l) p y (k + 1))) := HSet
      clear HSet
      cases g
      · go_wp2
        go_roundw
        case rel => exact ⟨k + 1, by omega, by omega, by go_num, by rw [HCh.out]; exact congrArg Value.bool (bne_cast X), HS2.out, hb.setCell (Nat.le_refl _) _⟩
        case measure => simp [intOf]; omega
      · go_wp2
        go_roundw
        case rel => exact ⟨k + 1, by omega, by omega, by go_num, by rw [HCh.out]; rfl, HS2.out, hb.setCell (Nat.le_refl _) _⟩
        case measure => simp [intOf]; omega
    · have hgood := M.spoil_good l p y k (by rw [HN.out]; exact hpk) hk
      have hsame := M.spoil_same (M.sealL l) p y k (by rw [HN.out]; exact hpk)
      have hcv2 := string_of wr w2.heap.size cap (M.spoilTo (M.sealL l) p y k) hat
      rw [HL.out] at hcv2
      have t3 : Tab wr := (t1.bel b2).bel hb
      have Ho := open_any (M.bs (M.spoilTo (M.sealL l) p y k)) wr (by rw [M.bs_size, HL.out]; unfold maxLen; omega) t3
      rw [M.bs_data] at Ho
      have e : M.openL (M.spoilTo (M.sealL l) p y k) = if M.chTo y k = true then ([], 5) else (l, 0) := by
        unfold M.openL
        rw [if_neg (by rw [HL.out]; omega), hgood]
        cases hch : M.chTo y k
        · rw [hsame hch, M.sealL_take]; rfl
        · rfl
      rw [e] at Ho
      clear e hgood hsame hat
      generalize M.bs (M.spoilTo (M.sealL l) p y k) = S at *
      generalize M.chTo y k = g at *
      have hlt2 : k < 4 → ¬ p + k < N := fun h4 hN => hlt ⟨h4, hN⟩
      clear hlt
      by_cases hk4 : k < 4
      · have hkN := hlt2 hk4
        clear hlt2
        cases g
        · go_wp2_with fail
          refine Ho.mono ?_
          rintro e w5 ⟨rfl, b5⟩
          go_wp2_with fail
          go_ret
          exact ⟨rfl, ((b1.tr b2).tr hb).tr b5⟩
        · go_wp2_with fail
          refine Ho.mono ?_
          rintro e w5 ⟨rfl, b5⟩
          go_wp2_with fail
          go_ret
          exact ⟨rfl, ((b1.tr b2).tr hb).tr b5⟩
      · clear hlt2
        cases g
        · go_wp2_with fail
          refine Ho.mono ?_
          rintro e w5 ⟨rfl, b5⟩
          go_wp2_with fail
          go_ret
          exact ⟨rfl, ((b1.tr b2).tr hb).tr b5⟩
        · go_wp2_with fail
          refine Ho.mono ?_
          rintro e w5 ⟨rfl, b5⟩
          go_wp2_with fail
          go_ret
          exact ⟨rfl, ((b1.tr b2).tr hb).tr b5⟩

theorem spoilt_any (s : ByteArray) (a y : Int) (w : World) (hT : Tab w) (hs : s.size ≤ maxLen) (hy : 0 ≤ y ∧ y ≤ 4294967295) :
    Calls Tryd.prog 5 #[.string s, .int .i64 a, .int .u32 y] w fun e w' => e = .returned (.bool true) ∧ Bel w w' := by
  by_cases h : 2000 < s.size
  · exact spoilt_long s a y w hT h hs
  · obtain ⟨y, rfl⟩ := Int.eq_ofNat_of_zero_le hy.1
    have hN : (0 : Int) < ((M.sealL s.data.toList).length : Int) := by rw [M.sealL_length]; omega
    obtain ⟨p, hp⟩ : ∃ p : Nat, (a.tmod ((M.sealL s.data.toList).length : Int) + ((M.sealL s.data.toList).length : Int)) % ((M.sealL s.data.toList).length : Int) = (p : Int) := Int.eq_ofNat_of_zero_le (Int.emod_nonneg _ (by omega))
    have hpN : (p : Int) < ((M.sealL s.data.toList).length : Int) := by rw [← hp]; exact Int.emod_lt_of_pos _ hN
    have h' := spoilt_short s.data.toList a y w hT (by rw [← Lib.size_eq]; omega) (by omega) _ rfl _ p rfl (Int.lt_tmod_of_pos a hN) (Int.tmod_lt_of_pos a hN) hp (by omega)
    rw [M.bs_of] at h'
    exact h'
end Go.Proofs.YtfiopegkopfceaaDoor
