/-
  The contract of TopPatched's own 'made' (a page of values), walked.
-/
import Derived.Test.YtaepbmcmggnmpaaDoorOU
import Derived.Test.YtaepbmcmggnmpaaDoorOR
import Derived.Test.YtaepbmcmggnmpaaDoorDM
namespace Go.Proofs.YtaepbmcmggnmpaaDoor
open Go.RowKit
set_option maxRecDepth 100000

theorem mod_mod_pow (x : Int) (i : Nat) (hi : i < 63) : (x % 18446744073709551616) % 2 ^ i = x % 2 ^ i := by
  have hd : ((2 : Int) ^ i) ∣ 18446744073709551616 := by
    have : ((2 : Int) ^ 64) = 2 ^ i * 2 ^ (64 - i) := by rw [← Int.pow_add]; congr 1; omega
    exact ⟨2 ^ (64 - i), by rw [← this]; decide⟩
  exact Int.emod_emod_of_dvd x hd
/-- 'x & (2^i - 1)' of any int is the remainder by 2^i. -/
theorem and_mask (x : Int) (i : Nat) (hi : i < 63) : bits BinOp.and IntKind.i64 x ((2 : Int) ^ i - 1) = x % 2 ^ i := by
  have hpos : 0 < 2 ^ i := Nat.two_pow_pos i
  have hm : (2 : Nat) ^ i ≤ 2 ^ 62 := Nat.pow_le_pow_right (by decide) (by omega)
  have hc : ((2 : Int) ^ i - 1) = ((2 ^ i - 1 : Nat) : Int) := by rw [Int.natCast_sub hpos]; simp
  have h1 : (2 ^ i - 1) % 2 ^ 64 = 2 ^ i - 1 := Nat.mod_eq_of_lt (by omega)
  have hp : (0 : Int) < 2 ^ i := by exact_mod_cast hpos
  have h6 := Int.emod_nonneg x (show ((2 : Int) ^ i) ≠ 0 by omega)
  have h7 := Int.emod_lt_of_pos x hp
  have h8 : ((2 : Int) ^ i) ≤ 2 ^ 62 := by exact_mod_cast hm
  have key : ((BitVec.ofInt 64 x) &&& (BitVec.ofInt 64 ((2 ^ i - 1 : Nat) : Int))).toNat = (x % 2 ^ i).toNat := by
    have h4 := Int.emod_nonneg x (show (18446744073709551616 : Int) ≠ 0 by decide)
    have e1 : ((BitVec.ofInt 64 x) &&& (BitVec.ofInt 64 ((2 ^ i - 1 : Nat) : Int))).toNat = (x % 18446744073709551616).toNat % 2 ^ i := by
      rw [BitVec.ofInt_natCast, BitVec.toNat_and, BitVec.toNat_ofInt, BitVec.toNat_ofNat, h1, Nat.and_two_pow_sub_one_eq_mod]; rfl
    have e2 : (((x % 18446744073709551616).toNat % 2 ^ i : Nat) : Int) = x % 2 ^ i := by
      rw [Int.natCast_emod, Int.toNat_of_nonneg h4, Int.natCast_pow, show (((2 : Nat) : Int)) = 2 from rfl, mod_mod_pow x i hi]
    rw [e1]; omega
  rw [hc]
  show IntKind.i64.wrap ((((BitVec.ofInt 64 x) &&& (BitVec.ofInt 64 ((2 ^ i - 1 : Nat) : Int))).toNat : Nat) : Int) = _
  rw [key, IntKind.wrap_i64]
  omega
/-- A value as it comes in: its text, its number, whether it is a text. -/
abbrev TV := List UInt8 × Int × Bool
/-- The cells from ⟨b, off⟩ on hold the values of L, three cells each. -/
def RowV (w : World) (b off : Nat) (L : List TV) : Prop := ∀ j (h : j < L.length),
  w.cell? ⟨b, off + j * 3, none⟩ = some (.string (M.bs L[j].1)) ∧ w.cell? ⟨b, off + j * 3 + 1, none⟩ = some (.int .i64 L[j].2.1) ∧ w.cell? ⟨b, off + j * 3 + 2, none⟩ = some (.bool L[j].2.2)
theorem RowV.lt {w : World} {b off : Nat} {L : List TV} (h : RowV w b off L) (hL : 0 < L.length) : b < w.heap.size := block_lt_of_cell (h 0 hL).1
theorem RowV.bel {w w' : World} {b off : Nat} {L : List TV} (h : RowV w b off L) (hb : Bel w w') : RowV w' b off L := fun j hj =>
  have hB := h.lt (Nat.lt_of_le_of_lt (Nat.zero_le j) hj)
  ⟨(hb.cell (p := ⟨b, off + j * 3, none⟩) hB).trans (h j hj).1, (hb.cell (p := ⟨b, off + j * 3 + 1, none⟩) hB).trans (h j hj).2.1, (hb.cell (p := ⟨b, off + j * 3 + 2, none⟩) hB).trans (h j hj).2.2⟩
def ent1 (x : TV) : M.En := (x.1.take 20, M.put (x.2.1 % 256) 1, x.2.2)
def pgOf (L : List TV) (n : Int) : M.Pg := { lsn := n, kind := 3, level := 0, right := 0, high := [], es := (L.take 8).map ent1 }
theorem pgOf_small (L : List TV) (n : Int) : Sm (pgOf L n) := by
  refine ⟨by simp [pgOf], by simp only [pgOf, List.length_map, List.length_take]; omega, ?_⟩
  intro e he
  obtain ⟨x, _, rfl⟩ := List.mem_map.1 he
  have h1 : (M.put (x.2.1 % 256) 1).length = 1 := M.put_length (x.2.1 % 256) 1 (by omega) (by omega) (by omega) (by omega)
  simp only [ent1, List.length_take]; omega
/-- A call of sum.Put at a step of a region that draws its order. -/
theorem stepPut {ops : Array Oper} {o : Oper} {a : Act} {K : Act → World → Prop} {Q : Exit → Act → World → Prop} {E : Prop} {W : World} (hw : Region.wanted o (yielded ops a.tmps) = true) (t : Tmp) (c : Value)
    (ho : o.op = .call { callee := .value (.func 36), args := #[.tmp t, .const c], argTypes := #[3, 3] }) (x : Value) (hx : a.eval (.tmp t) = x) {R : Ending → World → Prop}
    (H : Calls Tryd.prog 36 #[x, c] W R) (h : ∀ e w', R e w' → ∃ v, e = .returned v ∧ K (a.put o.dst v) w') :
    if Region.wanted o (yielded ops a.tmps) = true then Oper.wp Tryd.prog o a W K Q else E := by
  rw [if_pos hw]
  have hx' : a.tmps[t]?.getD undef = x := by rw [← hx]; simp [Act.eval]
  clear hx hw
  obtain ⟨dst, op, type, pos, after, guard⟩ := o
  simp only at ho h ⊢
  subst ho
  go_simp
  refine H.mono ?_
  intro e w' hR
  obtain ⟨v, rfl, hv⟩ := h e w' hR
  exact hv
set_option maxHeartbeats 16000000 in
theorem mk_any (L : List TV) (n : Int) (a : Option Addr) (cap : Nat) (w : World) (hT : Tab w) (hv : L = [] ∨ ∃ b off, a = some ⟨b, off, none⟩ ∧ RowV w b off L) (hL : L.length ≤ maxLen) (hs : ∀ x ∈ L, x.1.length ≤ maxLen) (hn : -9223372036854775808 ≤ n ∧ n ≤ 9223372036854775807) :
    Calls Tryd.prog 35 #[.slice a L.length cap, .int .i64 n] w fun e w' => e = .returned (.string (M.bs (M.encode (pgOf L n)).1)) ∧ Bel w w' := by
  have H13 := fun W x h t => encode_any (pgOf L n) x W (pgOf_small L n) h t hn
  unfold maxLen at hL hs
  simp only [pv, pgOf] at H13
  have bW : Bel w (w.alloc (.cells #[.int .i64 n, .int .i64 3, .int .i64 0, .int .i64 0, .string ⟨#[]⟩, .slice none 0 0] 29)) := Bel.al (Below.refl _ _) _
  have g0 : Bt 29 (w.alloc (.cells #[.int .i64 n, .int .i64 3, .int .i64 0, .int .i64 0, .string ⟨#[]⟩, .slice none 0 0] 29)) w.heap.size (.int .i64 n) (.int .i64 3) (.int .i64 0) (.int .i64 0) (.string ⟨#[]⟩) (.slice none 0 0) := heap_alloc_new w _
  go_enter Tryd.func35, Tryd.ntmps35
  go_wp2_with fail
  go_loopw [6] (fun i wr => ∃ (k : Nat) (x : Value), k ≤ L.length ∧ k ≤ 8 ∧ i = .int .i64 k ∧ OwnE 71 wr w.heap.size x ((L.take k).map ent1) ∧ Bt 29 wr w.heap.size (.int .i64 n) (.int .i64 3) (.int .i64 0) (.int .i64 0) (.string ⟨#[]⟩) x ∧ Bel w wr) (fun i _ => 8 - (intOf i).toNat)
  case atStart => exact ⟨0, _, by omega, by omega, rfl, OwnE.nil _ _ _, g0, bW⟩
  case round =>
    clear g0 bW
    obtain ⟨k, x, hk, hk8, rfl, hx, g0, hb⟩ := hrel
    obtain ⟨ax, cx, hxf, _⟩ := id hx.vals
    subst hxf
    by_cases hlt : k < L.length
    · by_cases hlt2 : k < 8
      · obtain ⟨b, off, rfl, hv2⟩ := hv.resolve_left (by rintro rfl; simp at hlt)
        clear hv
        have hv := hv2
        clear hv2
        have hbw := hv.lt (by omega)
        obtain ⟨c1, c2, c3⟩ := (hv.bel hb) k hlt
        obtain ⟨k1, k2, k3⟩ := hv k hlt
        have ht := hs L[k] (List.getElem_mem hlt)
        have HCC : Hid ((L.take (k + 1)).map ent1 = (L.take k).map ent1 ++ [ent1 L[k]]) := by
          show _ = _
          rw [List.take_succ_eq_append_getElem hlt, List.map_append]; rfl
        generalize L[k] = e at *
        obtain ⟨t, nn, mk⟩ := e
        simp only at ht c1 c2 c3 k1 k2 k3
        have z1 : (M.bs t).size = t.length := M.bs_size t
        have hm : bits BinOp.and IntKind.i64 nn 255 = nn % 256 := and_mask nn 8 (by omega)
        have HP1 := fun W => put_any (nn % 256) 1 W (by omega) (by omega)
        have hc1 : (M.bs t).extract 0 (min (t.length : Int) 20).toNat = M.bs (t.take 20) := cut_eq t 20
        have HT : Hid (ent1 (t, nn, mk) = (t.take 20, M.put (nn % 256) 1, mk)) := rfl
        rw [HT.out] at HCC
        have hCl : ((L.take k).map ent1).length ≤ 8 := by rw [List.length_map, List.length_take]; omega
        generalize t.take 20 = T1 at *
        generalize M.put (nn % 256) 1 = P1 at *
        generalize (L.take k).map ent1 = C at *
        have hbr : b < wr.heap.size := Nat.lt_of_lt_of_le hbw hb.size
        have q1 : (0 : Int) ≤ min (t.length : Int) 20 := by omega
        have q2 : min (t.length : Int) 20 ≤ (t.length : Int) := by omega
        have HX0 := hid hx
        have G0 := hid g0
        clear hs hv hx g0 H13 HT
        go_wp2_with fail
        have b6 : Bel wr wr.drew := Bel.dr (Below.refl _ _)
        have bx6 := hid (G0.out.bel b6)
        have own6 := hid (HX0.out.bel b6)
        have HB6 := hid (hb.tr b6)
        have HC : ∀ W, Bel wr.drew W → (W.cell? ⟨w.heap.size, 5, none⟩ = some (.slice ax (C.length) cx) ∧ W.cell? ⟨b, off + k * 3, none⟩ = some (.string (M.bs t)) ∧ W.cell? ⟨b, off + k * 3 + 1, none⟩ = some (.int .i64 nn) ∧ W.cell? ⟨b, off + k * 3 + 2, none⟩ = some (.bool mk)) := fun W hW => ⟨(bx6.out.bel hW).cells.2.2.2.2.2, (bel_cell (b6.tr hW) hbr _).trans c1, (bel_cell (b6.tr hW) hbr _).trans c2, (bel_cell (b6.tr hW) hbr _).trans c3⟩
        refine wp_last (fun KZ hKZ => ?_)
        refine wp_normal ?_
        refine region_until (S := fun W : World => W.cell? ⟨w.heap.size, 5, none⟩ = some (.slice ax (C.length) cx) ∧ W.cell? ⟨b, off + k * 3, none⟩ = some (.string (M.bs t)) ∧ W.cell? ⟨b, off + k * 3 + 1, none⟩ = some (.int .i64 nn) ∧ W.cell? ⟨b, off + k * 3 + 2, none⟩ = some (.bool mk)) (m := 31) (by kernel_rfl) ?_
        have hS := HC _ (Below.refl _ _)
        generalize wr.drew = W6 at b6 bx6 own6 HB6 HC hS ⊢
        refine take_next (i := 0) (.pointer (some ⟨w.heap.size, 5, none⟩)) [1, 29, 31] (by kernel_rfl) (by kernel_rfl) rfl (by kernel_rfl) (by kernel_rfl) (by kernel_rfl) (by kernel_rfl) (fun _ _ _ h => absurd h.1 (by simp)) (Or.inl ⟨by rfl, fun w' hSw => by obtain ⟨h1, h2, h3, h4⟩ := hSw; go_simp⟩) hS ?_
        simp only [Act.put]
        refine take_next (i := 1) (.slice ax (C.length) cx) [29, 31] (by kernel_rfl) (by kernel_rfl) rfl (by kernel_rfl) (by kernel_rfl) (by kernel_rfl) (by kernel_rfl) (fun _ _ _ h => absurd h.1 (by simp)) (Or.inl ⟨by rfl, fun w' hSw => by obtain ⟨h1, h2, h3, h4⟩ := hSw; go_simp⟩) hS ?_
        simp only [Act.put]
        refine take_next (i := 2) (.slice (some ⟨b, off, none⟩) L.length cap) [4, 5, 6, 14, 27, 28, 29, 31] (by kernel_rfl) (by kernel_rfl) rfl (by kernel_rfl) (by kernel_rfl) (by kernel_rfl) (by kernel_rfl) (fun _ _ _ h => absurd h.1 (by simp)) (Or.inl ⟨by rfl, fun w' hSw => by obtain ⟨h1, h2, h3, h4⟩ := hSw; go_simp⟩) hS ?_
        simp only [Act.put]
        refine take_next (i := 3) (.int .i64 (k : Int)) [4, 5, 6, 14, 27, 28, 29, 31] (by kernel_rfl) (by kernel_rfl) rfl (by kernel_rfl) (by kernel_rfl) (by kernel_rfl) (by kernel_rfl) (fun _ _ _ h => absurd h.1 (by simp)) (Or.inl ⟨by rfl, fun w' hSw => by obtain ⟨h1, h2, h3, h4⟩ := hSw; go_simp⟩) hS ?_
        simp only [Act.put]
        refine take_next (i := 4) (.pointer (some ⟨b, off + k * 3, none⟩)) [5, 6, 14, 27, 28, 29, 31] (by kernel_rfl) (by kernel_rfl) rfl (by kernel_rfl) (by kernel_rfl) (by kernel_rfl) (by kernel_rfl) (fun _ _ _ h => absurd h.1 (by simp)) (Or.inl ⟨by rfl, fun w' hSw => by obtain ⟨h1, h2, h3, h4⟩ := hSw; go_simp⟩) hS ?_
        simp only [Act.put]
        refine take_next (i := 5) (.pointer (some ⟨b, off + k * 3, none⟩)) [6, 14, 27, 28, 29, 31] (by kernel_rfl) (by kernel_rfl) rfl (by kernel_rfl) (by kernel_rfl) (by kernel_rfl) (by kernel_rfl) (fun _ _ _ h => absurd h.1 (by simp)) (Or.inl ⟨by rfl, fun w' hSw => by obtain ⟨h1, h2, h3, h4⟩ := hSw; go_simp⟩) hS ?_
        simp only [Act.put]
        refine take_next (i := 6) (.string (M.bs t)) [14, 27, 28, 29, 31] (by kernel_rfl) (by kernel_rfl) rfl (by kernel_rfl) (by kernel_rfl) (by kernel_rfl) (by kernel_rfl) (fun _ _ _ h => absurd h.1 (by simp)) (Or.inl ⟨by rfl, fun w' hSw => by obtain ⟨h1, h2, h3, h4⟩ := hSw; go_simp⟩) hS ?_
        simp only [Act.put]
        refine take_next (i := 7) (.slice (some ⟨b, off, none⟩) L.length cap) [9, 10, 11, 12, 13, 14, 27, 28, 29, 31] (by kernel_rfl) (by kernel_rfl) rfl (by kernel_rfl) (by kernel_rfl) (by kernel_rfl) (by kernel_rfl) (fun _ _ _ h => absurd h.1 (by simp)) (Or.inl ⟨by rfl, fun w' hSw => by obtain ⟨h1, h2, h3, h4⟩ := hSw; go_simp⟩) hS ?_
        simp only [Act.put]
        refine take_next (i := 8) (.int .i64 (k : Int)) [9, 10, 11, 12, 13, 14, 27, 28, 29, 31] (by kernel_rfl) (by kernel_rfl) rfl (by kernel_rfl) (by kernel_rfl) (by kernel_rfl) (by kernel_rfl) (fun _ _ _ h => absurd h.1 (by simp)) (Or.inl ⟨by rfl, fun w' hSw => by obtain ⟨h1, h2, h3, h4⟩ := hSw; go_simp⟩) hS ?_
        simp only [Act.put]
        refine take_next (i := 9) (.pointer (some ⟨b, off + k * 3, none⟩)) [10, 11, 12, 13, 14, 27, 28, 29, 31] (by kernel_rfl) (by kernel_rfl) rfl (by kernel_rfl) (by kernel_rfl) (by kernel_rfl) (by kernel_rfl) (fun _ _ _ h => absurd h.1 (by simp)) (Or.inl ⟨by rfl, fun w' hSw => by obtain ⟨h1, h2, h3, h4⟩ := hSw; go_simp⟩) hS ?_
        simp only [Act.put]
        refine take_next (i := 10) (.pointer (some ⟨b, off + k * 3, none⟩)) [11, 12, 13, 14, 27, 28, 29, 31] (by kernel_rfl) (by kernel_rfl) rfl (by kernel_rfl) (by kernel_rfl) (by kernel_rfl) (by kernel_rfl) (fun _ _ _ h => absurd h.1 (by simp)) (Or.inl ⟨by rfl, fun w' hSw => by obtain ⟨h1, h2, h3, h4⟩ := hSw; go_simp⟩) hS ?_
        simp only [Act.put]
        refine take_next (i := 11) (.string (M.bs t)) [12, 13, 14, 27, 28, 29, 31] (by kernel_rfl) (by kernel_rfl) rfl (by kernel_rfl) (by kernel_rfl) (by kernel_rfl) (by kernel_rfl) (fun _ _ _ h => absurd h.1 (by simp)) (Or.inl ⟨by rfl, fun w' hSw => by obtain ⟨h1, h2, h3, h4⟩ := hSw; go_simp⟩) hS ?_
        simp only [Act.put]
        refine take_next (i := 12) (.int .i64 (t.length : Int)) [13, 14, 27, 28, 29, 31] (by kernel_rfl) (by kernel_rfl) rfl (by kernel_rfl) (by kernel_rfl) (by kernel_rfl) (by kernel_rfl) (fun _ _ _ h => absurd h.1 (by simp)) (Or.inl ⟨by rfl, fun w' hSw => by obtain ⟨h1, h2, h3, h4⟩ := hSw; go_simp⟩) hS ?_
        simp only [Act.put]
        refine take_next (i := 13) (.int .i64 (min (t.length : Int) 20)) [14, 27, 28, 29, 31] (by kernel_rfl) (by kernel_rfl) rfl (by kernel_rfl) (by kernel_rfl) (by kernel_rfl) (by kernel_rfl) (fun _ _ _ h => absurd h.1 (by simp)) (Or.inl ⟨by rfl, fun w' hSw => by obtain ⟨h1, h2, h3, h4⟩ := hSw; go_simp⟩) hS ?_
        simp only [Act.put]
        refine take_next (i := 14) (.string (M.bs T1)) [27, 28, 29, 31] (by kernel_rfl) (by kernel_rfl) rfl (by kernel_rfl) (by kernel_rfl) (by kernel_rfl) (by kernel_rfl) (fun _ _ _ h => absurd h.1 (by simp)) (Or.inl ⟨by rfl, fun w' hSw => by obtain ⟨h1, h2, h3, h4⟩ := hSw; go_simp⟩) hS ?_
        simp only [Act.put]
        refine take_next (i := 15) (.slice (some ⟨b, off, none⟩) L.length cap) [17, 18, 19, 20, 21, 27, 28, 29, 31] (by kernel_rfl) (by kernel_rfl) rfl (by kernel_rfl) (by kernel_rfl) (by kernel_rfl) (by kernel_rfl) (fun _ _ _ h => absurd h.1 (by simp)) (Or.inl ⟨by rfl, fun w' hSw => by obtain ⟨h1, h2, h3, h4⟩ := hSw; go_simp⟩) hS ?_
        simp only [Act.put]
        refine take_next (i := 16) (.int .i64 (k : Int)) [17, 18, 19, 20, 21, 27, 28, 29, 31] (by kernel_rfl) (by kernel_rfl) rfl (by kernel_rfl) (by kernel_rfl) (by kernel_rfl) (by kernel_rfl) (fun _ _ _ h => absurd h.1 (by simp)) (Or.inl ⟨by rfl, fun w' hSw => by obtain ⟨h1, h2, h3, h4⟩ := hSw; go_simp⟩) hS ?_
        simp only [Act.put]
        refine take_next (i := 17) (.pointer (some ⟨b, off + k * 3, none⟩)) [18, 19, 20, 21, 27, 28, 29, 31] (by kernel_rfl) (by kernel_rfl) rfl (by kernel_rfl) (by kernel_rfl) (by kernel_rfl) (by kernel_rfl) (fun _ _ _ h => absurd h.1 (by simp)) (Or.inl ⟨by rfl, fun w' hSw => by obtain ⟨h1, h2, h3, h4⟩ := hSw; go_simp⟩) hS ?_
        simp only [Act.put]
        refine take_next (i := 18) (.pointer (some ⟨b, off + k * 3 + 1, none⟩)) [19, 20, 21, 27, 28, 29, 31] (by kernel_rfl) (by kernel_rfl) rfl (by kernel_rfl) (by kernel_rfl) (by kernel_rfl) (by kernel_rfl) (fun _ _ _ h => absurd h.1 (by simp)) (Or.inl ⟨by rfl, fun w' hSw => by obtain ⟨h1, h2, h3, h4⟩ := hSw; go_simp⟩) hS ?_
        simp only [Act.put]
        refine take_next (i := 19) (.int .i64 nn) [20, 21, 27, 28, 29, 31] (by kernel_rfl) (by kernel_rfl) rfl (by kernel_rfl) (by kernel_rfl) (by kernel_rfl) (by kernel_rfl) (fun _ _ _ h => absurd h.1 (by simp)) (Or.inl ⟨by rfl, fun w' hSw => by obtain ⟨h1, h2, h3, h4⟩ := hSw; go_simp⟩) hS ?_
        simp only [Act.put]
        refine take_next (i := 20) (.int .i64 (nn % 256)) [21, 27, 28, 29, 31] (by kernel_rfl) (by kernel_rfl) rfl (by kernel_rfl) (by kernel_rfl) (by kernel_rfl) (by kernel_rfl) (fun _ _ _ h => absurd h.1 (by simp)) (Or.inl ⟨by rfl, fun w' hSw => by obtain ⟨h1, h2, h3, h4⟩ := hSw; go_simp⟩) hS ?_
        simp only [Act.put]
        refine take_next (i := 22) (.slice (some ⟨b, off, none⟩) L.length cap) [24, 25, 26, 27, 28, 29, 31] (by kernel_rfl) (by kernel_rfl) rfl (by kernel_rfl) (by kernel_rfl) (by kernel_rfl) (by kernel_rfl) (fun _ _ _ h => absurd h.1 (by simp)) (Or.inl ⟨by rfl, fun w' hSw => by obtain ⟨h1, h2, h3, h4⟩ := hSw; go_simp⟩) hS ?_
        simp only [Act.put]
        refine take_next (i := 23) (.int .i64 (k : Int)) [24, 25, 26, 27, 28, 29, 31] (by kernel_rfl) (by kernel_rfl) rfl (by kernel_rfl) (by kernel_rfl) (by kernel_rfl) (by kernel_rfl) (fun _ _ _ h => absurd h.1 (by simp)) (Or.inl ⟨by rfl, fun w' hSw => by obtain ⟨h1, h2, h3, h4⟩ := hSw; go_simp⟩) hS ?_
        simp only [Act.put]
        refine take_next (i := 24) (.pointer (some ⟨b, off + k * 3, none⟩)) [25, 26, 27, 28, 29, 31] (by kernel_rfl) (by kernel_rfl) rfl (by kernel_rfl) (by kernel_rfl) (by kernel_rfl) (by kernel_rfl) (fun _ _ _ h => absurd h.1 (by simp)) (Or.inl ⟨by rfl, fun w' hSw => by obtain ⟨h1, h2, h3, h4⟩ := hSw; go_simp⟩) hS ?_
        simp only [Act.put]
        refine take_next (i := 25) (.pointer (some ⟨b, off + k * 3 + 2, none⟩)) [26, 27, 28, 29, 31] (by kernel_rfl) (by kernel_rfl) rfl (by kernel_rfl) (by kernel_rfl) (by kernel_rfl) (by kernel_rfl) (fun _ _ _ h => absurd h.1 (by simp)) (Or.inl ⟨by rfl, fun w' hSw => by obtain ⟨h1, h2, h3, h4⟩ := hSw; go_simp⟩) hS ?_
        simp only [Act.put]
        refine take_next (i := 26) (.bool mk) [27, 28, 29, 31] (by kernel_rfl) (by kernel_rfl) rfl (by kernel_rfl) (by kernel_rfl) (by kernel_rfl) (by kernel_rfl) (fun _ _ _ h => absurd h.1 (by simp)) (Or.inl ⟨by rfl, fun w' hSw => by obtain ⟨h1, h2, h3, h4⟩ := hSw; go_simp⟩) hS ?_
        simp only [Act.put]
        refine until_ready (rs := [21]) (by kernel_rfl) (by simp) ?_
        intro jj hjj
        simp only [List.mem_cons, List.not_mem_nil, or_false] at hjj
        subst hjj
        refine wpOp_step rfl (fun KX hKX => ?_)
        have HX := hid hKX
        clear hKX
        refine stepPut (by simp [Region.wanted]) 41 (.int .i64 1) (by rfl) (.int .i64 (nn % 256)) (by simp [Act.eval]) (HP1 _) ?_
        rintro e w4 ⟨rfl, b4⟩
        refine ⟨_, rfl, ?_⟩
        refine HX.out _ _ ⟨fun _ => HC _ b4, ?_⟩
        clear HX
        simp only [Act.put]
        have own4 := hid (own6.out.bel b4)
        have bx4 := hid (bx6.out.bel b4)
        have HB4 := hid (HB6.out.tr b4)
        have hS4 := HC _ b4
        refine until_ready (rs := [27]) (by kernel_rfl) (by simp) ?_
        intro jj hjj
        simp only [List.mem_cons, List.not_mem_nil, or_false] at hjj
        subst hjj
        refine wpOp_step rfl (fun KX hKX => ?_)
        have HX := hid hKX
        clear hKX
        go_simp
        refine HX.out _ _ ⟨fun _ => HC _ b4, ?_⟩
        clear HX
        refine until_ready (rs := [28]) (by kernel_rfl) (by simp) ?_
        intro jj hjj
        simp only [List.mem_cons, List.not_mem_nil, or_false] at hjj
        subst hjj
        refine wpOp_step rfl (fun KX hKX => ?_)
        have HX := hid hKX
        clear hKX
        go_simp
        refine HX.out _ _ ⟨fun _ => HC _ (b4.al _), ?_⟩
        clear HX
        have own7 := own4.out.al (.cells #[.string (M.bs T1), .string (M.bs P1), .bool mk] 71)
        have bx7 := bx4.out.bel (Bel.al (Below.refl _ _) (.cells #[.string (M.bs T1), .string (M.bs P1), .bool mk] 71))
        have bb7 := HB4.out.tr (Bel.al (Below.refl _ _) (.cells #[.string (M.bs T1), .string (M.bs P1), .bool mk] 71))
        have c7 : Cells3 (w4.alloc (.cells #[.string (M.bs T1), .string (M.bs P1), .bool mk] 71)) w4.heap.size (T1, P1, mk) := cells3_of (heap_alloc_new w4 _)
        have d7 := c7
        have hS7 := HC _ (b4.al (.cells #[.string (M.bs T1), .string (M.bs P1), .bool mk] 71))
        generalize (w4.alloc (.cells #[.string (M.bs T1), .string (M.bs P1), .bool mk] 71)) = W7 at own7 bx7 bb7 c7 d7 hS7 ⊢
        refine until_ready (rs := [29]) (by kernel_rfl) (by simp) ?_
        intro jj hjj
        simp only [List.mem_cons, List.not_mem_nil, or_false] at hjj
        subst hjj
        refine wpOp_step rfl (fun KX hKX => ?_)
        have HX := hid hKX
        clear hKX
        refine appS71 rfl (.tmp 22) (.tmp 49) (by rfl) w.heap.size (.slice ax (C.length) cx) C (by simp [Act.eval]) own7 (T1, P1, mk) w4.heap.size (by simp [Act.eval]) c7 (by omega) bb7.size ?_
        intro v8 W8 own8 g8
        have bx8 := bx7.grown g8 (own7.ne bx7 (by decide))
        have bb8 : Bel w W8 := below_grown bb7 own7 g8
        have nb8 : some b ≠ (Value.slice ax C.length cx).ownBlock := fun e => by have := (World.ownsRow.lt own7 _ e.symm).1; omega
        have hS8 : W8.cell? ⟨w.heap.size, 5, none⟩ = some (.slice ax (C.length) cx) ∧ W8.cell? ⟨b, off + k * 3, none⟩ = some (.string (M.bs t)) ∧ W8.cell? ⟨b, off + k * 3 + 1, none⟩ = some (.int .i64 nn) ∧ W8.cell? ⟨b, off + k * 3 + 2, none⟩ = some (.bool mk) := ⟨bx8.cells.2.2.2.2.2, (bel_cell bb8 hbw _).trans k1, (bel_cell bb8 hbw _).trans k2, (bel_cell bb8 hbw _).trans k3⟩
        refine HX.out _ _ ⟨fun _ => hS8, ?_⟩
        clear HX
        simp only [Act.put]
        have ne8 := own8.ne bx8 (by decide)
        obtain ⟨a8, cp8, hv8, _⟩ := own8.vals
        have hla : (C ++ [(T1, P1, mk)]).length = C.length + 1 := by rw [List.length_append]; rfl
        rw [hla] at hv8
        subst hv8
        have f5 := bx8.froz 5
        have c5 := bx8.cells.2.2.2.2.2
        refine until_ready (rs := [30]) (by kernel_rfl) (by simp) ?_
        intro jj hjj
        simp only [List.mem_cons, List.not_mem_nil, or_false] at hjj
        subst hjj
        refine wpOp_step rfl (fun KX hKX => ?_)
        have HX := hid hKX
        clear hKX
        go_simp
        refine HX.out _ _ ⟨fun _ => hS8, ?_⟩
        clear HX
        refine until_ready (rs := [31]) (by kernel_rfl) (by simp) ?_
        intro jj hjj
        simp only [List.mem_cons, List.not_mem_nil, or_false] at hjj
        subst hjj
        refine wpOp_step rfl (fun KX hKX => ?_)
        have HX := hid hKX
        clear hKX
        go_simp
        refine HX.out _ _ ⟨fun h => absurd h (by simp), ?_⟩
        clear HX
        refine until_done (by kernel_rfl) ⟨rfl, ?_⟩ _
        have bx9 := bx8.five (.slice a8 (C.length + 1) cp8)
        have own9 := own8.set (j := 5) (u := .slice a8 (C.length + 1) cp8) ne8
        have bb9 : Bel w (W8.setCell ⟨w.heap.size, 5, none⟩ (.slice a8 (C.length + 1) cp8)) := Below.setCell bb8 (by simp) _
        generalize W8.setCell ⟨w.heap.size, 5, none⟩ (.slice a8 (C.length + 1) cp8) = W9 at *
        refine hKZ _ _ ?_
        go_wp2_with fail
        go_roundw
        case rel => exact ⟨k + 1, _, by omega, by omega, by go_num, by rw [HCC.out]; exact own9, bx9, bb9⟩
        case measure => simp [intOf]; omega
      · skip
        have HE : Hid ((L.take k).map ent1 = (L.take 8).map ent1) := by
          show _ = _
          congr 1
          by_cases h8 : k = 8
          · rw [h8]
          · rw [List.take_of_length_le (by omega), List.take_of_length_le (by omega)]
        rw [HE.out] at hx g0
        obtain ⟨s0, s1, s2, s3, s4, s5⟩ := g0.cells
        have VX := hid hx.vals
        have H14 := H13 _ _ VX.out (hT.bel hb)
        have HPG : Hid (pgOf L n = { lsn := n, kind := 3, level := 0, right := 0, high := [], es := (L.take 8).map ent1 }) := rfl
        clear g0 hx hv hs H13 HE VX
        generalize (L.take 8).map ent1 = C at *
        go_wp2_with fail
        refine H14.mono ?_
        rintro e w5 ⟨rfl, b5⟩
        clear s0 s1 s2 s3 s4 s5 H14
        go_wp2_with fail
        go_ret
        exact ⟨by rw [HPG.out]; rfl, hb.tr b5⟩
    · skip
      have HE : Hid ((L.take k).map ent1 = (L.take 8).map ent1) := by
        show _ = _
        congr 1
        by_cases h8 : k = 8
        · rw [h8]
        · rw [List.take_of_length_le (by omega), List.take_of_length_le (by omega)]
      rw [HE.out] at hx g0
      obtain ⟨s0, s1, s2, s3, s4, s5⟩ := g0.cells
      have VX := hid hx.vals
      have H14 := H13 _ _ VX.out (hT.bel hb)
      have HPG : Hid (pgOf L n = { lsn := n, kind := 3, level := 0, right := 0, high := [], es := (L.take 8).map ent1 }) := rfl
      clear g0 hx hv hs H13 HE VX
      generalize (L.take 8).map ent1 = C at *
      go_wp2_with fail
      refine H14.mono ?_
      rintro e w5 ⟨rfl, b5⟩
      clear s0 s1 s2 s3 s4 s5 H14
      go_wp2_with fail
      go_ret
      exact ⟨by rw [HPG.out]; rfl, hb.tr b5⟩
end Go.Proofs.YtaepbmcmggnmpaaDoor
