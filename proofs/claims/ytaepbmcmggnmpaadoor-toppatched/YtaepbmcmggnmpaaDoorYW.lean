/-
  The contracts of keys.check, appendText, appendNumber, walked.
-/
import Derived.Test.YtaepbmcmggnmpaaDoorRows
import Derived.Test.YtaepbmcmggnmpaaDoorYM
import Derived.WalkLawsBesides
import Derived.WalkSpells
import Derived.Deep.RegionWith
namespace Go.Proofs.YtaepbmcmggnmpaaDoor.Ky
open Go.RowKit
set_option maxRecDepth 100000

/-- Nothing that was there has turned. -/
abbrev Bel (w w' : World) : Prop := Below w.heap.size w w'
theorem Bel.al {w w1 : World} (h : Bel w w1) (o : Obj) : Bel w (w1.alloc o) := Below.alloc h h.size o
theorem Bel.dr {w w1 : World} (h : Bel w w1) : Bel w w1.drew := Below.drew h
theorem Bel.tr {w w1 w2 : World} (h : Bel w w1) (k : Bel w1 w2) : Bel w w2 := Below.trans h (Below.mono k h.size)

theorem info5 : (Tryd.prog.info? 5).map (fun i => (i.zero, i.size, i.bytes)) = some (some (.int .u8 0), 1, 1) := by kernel_rfl

/-- A slice of bytes that is the call's own (from block 'base' on) holds l. -/
def Own (w : World) (base : Nat) (v : Value) (l : List UInt8) : Prop := w.ownsRow base 5 1 v l.length (l.map fun c => Value.int .u8 (c.toNat : Int))

/-- A value as a struct. -/
abbrev sv (v : M.V) : Value := .agg #[.string (M.bs v.1), .int .i64 v.2.1, .bool v.2.2]

/-- 'append(key, x)' of one byte, key the call's own. -/
theorem app1 {ops : Array Oper} {rest : List Oper} {o : Oper} {a : Act} {Q : Exit → Act → World → Prop} {w : World} (hgd : o.guard = none) (s x : Operand)
    (ho : o.op = .call { callee := .builtin .append, args := #[s, x], argTypes := #[54, 54] }) (base : Nat) (v : Value) (l : List UInt8) (hs : a.eval s = v) (hown : Own w base v l) (c : UInt8) (z : Int) (hz : z = (c.toNat : Int))
    (hx : a.eval x = .slice (some ⟨w.heap.size, 0, none⟩) 1 1) (hlen : l.length ≤ 100000) (hbase : base ≤ w.heap.size)
    (h : ∀ v' w', Own w' base v' (l ++ [c]) → Below base w w' → wpList Tryd.prog ops Q rest (a.put o.dst v') w') : wpList Tryd.prog ops Q (o :: rest) a (w.alloc (.cells #[.int .u8 z] 5)) := by
  obtain ⟨i0, hi, hz0, hz1, hz2⟩ := info_parts info5
  subst hz
  refine wpList_append_own _ hgd s x 54 ho base 5 i0 (.int .u8 0) 1 1 Tryd.underlying54 hi hz0 hz1 hz2 rfl (by decide) v l.length _ hs (World.ownsRow.alloc hown _) ⟨w.heap.size, 0, none⟩ 1 1 [.int .u8 (c.toNat : Int)] hx rfl (cell_one_new _ _ _) ?_ (by unfold maxLen; omega) (by omega) (by simp; omega) ?_
  · intro u hu; simp at hu; subst hu; rfl
  · intro v' w' h1 h2 _
    refine h v' w' ?_ ?_
    · unfold Own; simpa using h1
    · refine ((Below.refl base w).alloc hbase _).grown h2 (by simp; omega) (fun k hk => ?_)
      exact (World.ownsRow.lt hown k hk).1
/-- The same of two bytes. -/
theorem app2 {ops : Array Oper} {rest : List Oper} {o : Oper} {a : Act} {Q : Exit → Act → World → Prop} {w : World} (hgd : o.guard = none) (s x : Operand)
    (ho : o.op = .call { callee := .builtin .append, args := #[s, x], argTypes := #[54, 54] }) (base : Nat) (v : Value) (l : List UInt8) (hs : a.eval s = v) (hown : Own w base v l) (c d : UInt8) (y z : Int) (hy : y = (c.toNat : Int)) (hz : z = (d.toNat : Int))
    (hx : a.eval x = .slice (some ⟨w.heap.size, 0, none⟩) 2 2) (hlen : l.length ≤ 100000) (hbase : base ≤ w.heap.size)
    (h : ∀ v' w', Own w' base v' (l ++ [c, d]) → Below base w w' → wpList Tryd.prog ops Q rest (a.put o.dst v') w') : wpList Tryd.prog ops Q (o :: rest) a (w.alloc (.cells #[.int .u8 y, .int .u8 z] 5)) := by
  obtain ⟨i0, hi, hz0, hz1, hz2⟩ := info_parts info5
  subst hz hy
  refine wpList_append_own _ hgd s x 54 ho base 5 i0 (.int .u8 0) 1 1 Tryd.underlying54 hi hz0 hz1 hz2 rfl (by decide) v l.length _ hs (World.ownsRow.alloc hown _) ⟨w.heap.size, 0, none⟩ 2 2 [.int .u8 (c.toNat : Int), .int .u8 (d.toNat : Int)] hx rfl (cell_two_new _ _ _ _) ?_ (by unfold maxLen; omega) (by omega) (by simp; omega) ?_
  · intro u hu; simp at hu; rcases hu with rfl | rfl <;> rfl
  · intro v' w' h1 h2 _
    refine h v' w' ?_ ?_
    · unfold Own; simpa using h1
    · refine ((Below.refl base w).alloc hbase _).grown h2 (by simp; omega) (fun k hk => ?_)
      exact (World.ownsRow.lt hown k hk).1

set_option maxHeartbeats 400000 in
theorem check_any (t : ByteArray) (n : Int) (b : Bool) (w : World) (ht : t.size ≤ maxLen) :
    Calls Tryd.prog 54 #[.agg #[.string t, .int .i64 n, .bool b]] w fun e w' => e = .returned (.int .i64 ((M.chk (t.data.toList, n, b) : Nat) : Int)) ∧ Bel w w' := by
  unfold maxLen at ht
  have hl : Hid (t.size = t.data.toList.length) := Lib.size_eq t
  cases b
  · by_cases h1 : t.data.toList = []
    · have q : t.toList = [] := by rw [Lib.toList_data]; exact h1
      by_cases h2 : n < -1099511627776 ∨ 1099511627776 < n
      · have HC : Hid (M.chk (t.data.toList, n, false) = 1) := by show _ = _; unfold M.chk; rw [if_neg (by simp), if_pos (Or.inr h2)]
        clear h1
        rcases h2 with h2 | h2
        · go_enter Tryd.func54, Tryd.ntmps54
          go_wp2
          go_ret
          exact ⟨by rw [HC.out]; rfl, Bel.al (Below.refl _ _) _⟩
        · have h3 : ¬ n < -1099511627776 := by omega
          go_enter Tryd.func54, Tryd.ntmps54
          go_wp2
          go_ret
          exact ⟨by rw [HC.out]; rfl, Bel.al (Below.refl _ _) _⟩
      · have HC : Hid (M.chk (t.data.toList, n, false) = 0) := by show _ = _; unfold M.chk; rw [if_neg (by simp), if_neg (by rintro (h | h); exact h h1; exact h2 h)]
        clear h1
        have h3 : -1099511627776 ≤ n := by omega
        have h4 : n ≤ 1099511627776 := by omega
        clear h2
        go_enter Tryd.func54, Tryd.ntmps54
        go_wp2
        go_ret
        exact ⟨by rw [HC.out]; rfl, Bel.al (Below.refl _ _) _⟩
    · have HC : Hid (M.chk (t.data.toList, n, false) = 1) := by show _ = _; unfold M.chk; rw [if_neg (by simp), if_pos (Or.inl h1)]
      have q1 : t.toList.isEmpty = false := by rw [Lib.toList_data]; simpa using h1
      have q2 : ¬ t.toList = [] := by rw [Lib.toList_data]; exact h1
      clear h1
      go_enter Tryd.func54, Tryd.ntmps54
      go_wp2
      go_ret
      exact ⟨by rw [HC.out]; rfl, Bel.al (Below.refl _ _) _⟩
  · by_cases h1 : 20 < t.size
    · have HC : Hid (M.chk (t.data.toList, n, true) = 6) := by show _ = _; unfold M.chk; rw [if_pos rfl, if_pos (by rw [← hl.out]; exact h1)]
      go_enter Tryd.func54, Tryd.ntmps54
      go_wp2
      go_ret
      exact ⟨by rw [HC.out]; rfl, Bel.al (Below.refl _ _) _⟩
    · by_cases h2 : n = 0
      · have HC : Hid (M.chk (t.data.toList, n, true) = 0) := by show _ = _; unfold M.chk; rw [if_pos rfl, if_neg (by rw [← hl.out]; exact h1), if_neg (by simpa using h2)]
        have q : (n != 0) = false := by simp [h2]
        clear h2
        go_enter Tryd.func54, Tryd.ntmps54
        go_wp2
        go_ret
        exact ⟨by rw [HC.out]; rfl, Bel.al (Below.refl _ _) _⟩
      · have HC : Hid (M.chk (t.data.toList, n, true) = 1) := by show _ = _; unfold M.chk; rw [if_pos rfl, if_neg (by rw [← hl.out]; exact h1), if_pos (by simpa using h2)]
        have q : (n != 0) = true := by simp [h2]
        clear h2
        go_enter Tryd.func54, Tryd.ntmps54
        go_wp2
        go_ret
        exact ⟨by rw [HC.out]; rfl, Bel.al (Below.refl _ _) _⟩

set_option maxHeartbeats 1000000 in
theorem appendText_any (base : Nat) (v : Value) (l : List UInt8) (s : ByteArray) (w : World) (hown : Own w base v l) (hbase : base ≤ w.heap.size) (hl : l.length ≤ 20000) (hs : s.size ≤ 1000) :
    Calls Tryd.prog 55 #[v, .string s] w fun e w' => ∃ v', e = .returned v' ∧ Own w' base v' (l ++ 32 :: (M.esc s.data.toList ++ [0, 1])) ∧ Below base w w' := by
  go_enter Tryd.func55, Tryd.ntmps55
  go_wp2_with (first | (at_builtin; refine app1 rfl _ _ rfl base _ l rfl hown 32 _ rfl rfl (by omega) hbase ?_; intro v1 w1 h1 b1))
  go_loopw [0, 11] (fun kv i wr => ∃ k : Nat, k ≤ s.size ∧ i = .int .i64 k ∧ Own wr base kv (l ++ 32 :: M.esc (s.data.toList.take k)) ∧ Below base w wr) (fun _ i _ => s.size - (intOf i).toNat)
  case atStart => exact ⟨0, Nat.zero_le _, rfl, h1, b1⟩
  case round =>
    obtain ⟨k, hk, rfl, hown2, hb⟩ := hrel
    have hlen : (l ++ 32 :: M.esc (s.data.toList.take k)).length ≤ 30000 := by
      have := M.esc_length (s.data.toList.take k)
      have := List.length_take_le k s.data.toList
      simp; omega
    have hbr : base ≤ wr.heap.size := Nat.le_trans hbase hb.size
    clear h1 b1 hown
    by_cases hlt : k < s.size
    · have HS : Hid (M.esc (s.data.toList.take (k + 1)) = M.esc (s.data.toList.take k) ++ M.esc [s[k]]) := by
        show _ = _; rw [M.take_snoc s k hlt, M.esc_append]
      generalize M.esc (s.data.toList.take k) = E at *
      by_cases h0 : s[k] = 0
      · have q : ((s[k].toNat : Int) == 0) = true := by rw [h0]; rfl
        have HE : Hid (M.esc (s.data.toList.take (k + 1)) = E ++ [s[k], 255]) := by show _ = _; rw [HS.out]; simp [M.esc, h0]
        clear h0 HS
        go_wp2_with (first
          | (at_builtin; refine app1 rfl _ _ rfl base _ _ rfl hown2 s[k] _ rfl rfl (by omega) hbr ?_; intro v1 w1 h1 b1; clear hown2; have hb1 : base ≤ w1.heap.size := Nat.le_trans hbr b1.size)
          | (at_builtin; refine app1 rfl _ _ rfl base _ _ rfl h1 255 _ rfl rfl (by simp at hlen ⊢; omega) hb1 ?_; intro v2 w2 h2 b2; clear h1))
        go_roundw
        case rel => exact ⟨k + 1, by omega, by go_num, by rw [HE.out]; simpa using h2, (hb.trans b1).trans b2⟩
        case measure => simp [intOf]; omega
      · have q : ((s[k].toNat : Int) == 0) = false := by
          rw [beq_eq_false_iff_ne]; intro e; apply h0; apply UInt8.toNat_inj.1; simpa using e
        have HE : Hid (M.esc (s.data.toList.take (k + 1)) = E ++ [s[k]]) := by show _ = _; rw [HS.out]; simp [M.esc, h0]
        clear h0 HS
        go_wp2_with (first
          | (at_builtin; refine app1 rfl _ _ rfl base _ _ rfl hown2 s[k] _ rfl rfl (by omega) hbr ?_; intro v1 w1 h1 b1; clear hown2))
        go_roundw
        case rel => exact ⟨k + 1, by omega, by go_num, by rw [HE.out]; simpa using h1, hb.trans b1⟩
        case measure => simp [intOf]; omega
    · have HE : Hid (s.data.toList.take k = s.data.toList) := by show _ = _; rw [List.take_of_length_le (by rw [← Lib.size_eq]; omega)]
      rw [HE.out] at hown2 hlen
      go_wp2_with (first
        | (at_builtin; refine app2 rfl _ _ rfl base _ _ rfl hown2 0 1 _ _ rfl rfl rfl (by omega) hbr ?_; intro v1 w1 h1 b1; clear hown2))
      go_ret
      exact ⟨_, rfl, by simpa using h1, hb.trans b1⟩

set_option maxHeartbeats 1000000 in
theorem appendNumber_any (base : Nat) (v : Value) (l : List UInt8) (n : Int) (w : World) (hown : Own w base v l) (hbase : base ≤ w.heap.size) (hl : l.length ≤ 20000) (h1 : -1099511627776 ≤ n) (h2 : n ≤ 1099511627776) :
    Calls Tryd.prog 56 #[v, .int .i64 n] w fun e w' => ∃ v', e = .returned v' ∧ Own w' base v' (l ++ 16 :: M.putL 6 (n + 1099511627776).toNat) ∧ Below base w w' := by
  obtain ⟨N, hN⟩ := Int.eq_ofNat_of_zero_le (show 0 ≤ n + 1099511627776 by omega)
  have HT : Hid ((n + 1099511627776).toNat = N) := by show _ = _; omega
  go_enter Tryd.func56, Tryd.ntmps56
  go_wp2_with (first | (at_builtin; refine app1 rfl _ _ rfl base _ l rfl hown 16 _ rfl rfl (by omega) hbase ?_; intro v1 w1 o1 b1; clear hown))
  go_loopw [0, 11] (fun kv i wr => ∃ k : Nat, k ≤ 6 ∧ i = .int .i64 k ∧ Own wr base kv (l ++ 16 :: (M.putL 6 N).take k) ∧ Below base w wr) (fun _ i _ => 6 - (intOf i).toNat)
  case atStart => exact ⟨0, Nat.zero_le _, rfl, o1, b1⟩
  case round =>
    obtain ⟨k, hk, rfl, hown2, hb⟩ := hrel
    have hlen : (l ++ 16 :: (M.putL 6 N).take k).length ≤ 30000 := by
      have := List.length_take_le k (M.putL 6 N)
      simp; omega
    have hbr : base ≤ wr.heap.size := Nat.le_trans hbase hb.size
    clear o1 b1
    by_cases hlt : k < 6
    · have HS : Hid ((M.putL 6 N).take (k + 1) = (M.putL 6 N).take k ++ [UInt8.ofNat (N / 2 ^ (8 * (5 - k)))]) := by
        show _ = _
        rw [List.take_succ_eq_append_getElem (by rw [M.putL_length]; exact hlt)]
        simp [M.putL]
      have q1 : ((8 : Int) * (5 - (k : Int))).toNat = 8 * (5 - k) := by omega
      have q2 : (N : Int) / 2 ^ (8 * (5 - k)) = ((N / 2 ^ (8 * (5 - k)) : Nat) : Int) := by rw [Int.natCast_ediv, Int.natCast_pow]; rfl
      generalize N / 2 ^ (8 * (5 - k)) = X at *
      have HX : Hid ((X : Int) % 256 = ((UInt8.ofNat X).toNat : Int)) := by show _ = _; rw [UInt8.toNat_ofNat']; simp
      go_wp2_with (first | (at_builtin; refine app1 rfl _ _ rfl base _ _ rfl hown2 (UInt8.ofNat X) _ HX.out rfl (by omega) hbr ?_; intro v1 w1 o1 b1; clear hown2))
      go_roundw
      case rel => exact ⟨k + 1, by omega, by go_num, by rw [HS.out]; simpa using o1, hb.trans b1⟩
      case measure => simp [intOf]; omega
    · obtain rfl : k = 6 := by omega
      rw [List.take_of_length_le (by rw [M.putL_length]; omega)] at hown2
      go_wp2
      go_ret
      exact ⟨_, rfl, by rw [HT.out]; exact hown2, hb⟩
end Go.Proofs.YtaepbmcmggnmpaaDoor.Ky
