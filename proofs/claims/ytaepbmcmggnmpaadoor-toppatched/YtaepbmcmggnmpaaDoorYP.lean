/-
  The contract of keys.Put, walked.
-/
import Derived.Test.YtaepbmcmggnmpaaDoorYW
namespace Go.Proofs.YtaepbmcmggnmpaaDoor.Ky
open Go.RowKit
set_option maxRecDepth 100000

/-- The cells from ⟨b, off⟩ on hold the values of L, three cells each. -/
def Row3 (w : World) (b off : Nat) (L : List M.V) : Prop := ∀ j (h : j < L.length),
  w.cell? ⟨b, off + j * 3, none⟩ = some (.string (M.bs L[j].1)) ∧ w.cell? ⟨b, off + j * 3 + 1, none⟩ = some (.int .i64 L[j].2.1) ∧ w.cell? ⟨b, off + j * 3 + 2, none⟩ = some (.bool L[j].2.2)
theorem Row3.lt {w : World} {b off : Nat} {L : List M.V} (h : Row3 w b off L) (hL : 0 < L.length) : b < w.heap.size := block_lt_of_cell (h 0 hL).1
theorem Row3.below {w w' : World} {b off B : Nat} {L : List M.V} (h : Row3 w b off L) (hb : Below B w w') (hB : b < B) : Row3 w' b off L := fun j hj =>
  ⟨(hb.cell (p := ⟨b, off + j * 3, none⟩) hB).trans (h j hj).1, (hb.cell (p := ⟨b, off + j * 3 + 1, none⟩) hB).trans (h j hj).2.1, (hb.cell (p := ⟨b, off + j * 3 + 2, none⟩) hB).trans (h j hj).2.2⟩

theorem grown_of {w w' : World} (h : Bel w w') : w.grownBy w' none := ⟨h.os, h.tape, h.output, h.size, fun k hk _ => h.block k hk⟩
theorem Own.bel {w w' : World} {base : Nat} {v : Value} {l : List UInt8} (h : Own w base v l) (hb : Bel w w') : Own w' base v l :=
  World.ownsRow.kept h (grown_of hb) (by cases v.ownBlock with | none => exact .inl rfl | some k => exact .inr (by simp))
theorem Own.al {w : World} {base : Nat} {v : Value} {l : List UInt8} (h : Own w base v l) (o : Obj) : Own (w.alloc o) base v l := World.ownsRow.alloc h o

/-- 'string(key)', key the call's own. -/
theorem conv_own (w : World) (base : Nat) (v : Value) (l : List UInt8) (h : Own w base v l) : (convert 54 9 v).run Tryd.prog w = .ok (.string (M.bs l)) w := by
  obtain ⟨hlen, h | ⟨g, cap, cur, hv, hg, hh, hn, hm, hs, ht⟩⟩ := h
  · obtain ⟨rfl, hn⟩ := h
    rw [List.length_eq_zero_iff.1 hn]
    exact run_convert_bytes_nil (P := Tryd.prog) w 54 5 Tryd.underlying54 Tryd.underlying5 0 0 9 Tryd.underlying9
  · have hc := World.ownsRow.cells (w := w) (base := base) (e := 5) (size := 1) (v := v) (n := l.length) (xs := l.map fun c => Value.int .u8 (c.toNat : Int)) ⟨hlen, .inr ⟨g, cap, cur, hv, hg, hh, hn, hm, hs, ht⟩⟩ (g := g) (by rw [hv]; rfl)
    subst hv
    have := run_convert_bytes_back (P := Tryd.prog) w 54 9 5 ⟨g, 0, none⟩ cap l Tryd.underlying54 Tryd.underlying5 Tryd.underlying9 (fun j hj => hc j _ (by simp [hj]))
    exact this

set_option maxHeartbeats 1000000 in
theorem put_some (L : List M.V) (b off cap : Nat) (w : World) (hv : Row3 w b off L) (hL : 0 < L.length) (hL2 : L.length ≤ 400) (hs : ∀ v ∈ L, v.1.length ≤ maxLen) :
    Calls Tryd.prog 27 #[.slice (some ⟨b, off, none⟩) L.length cap] w fun e w' => e = .returned (.tuple #[.string (M.bs (M.put L).1), .int .i64 ((M.put L).2 : Int)]) ∧ Bel w w' := by
  go_enter Tryd.func27, Tryd.ntmps27
  go_wp2_with fail
  have hbw := hv.lt hL
  go_loopw [4, 10] (fun kv i wr => ∃ k : Nat, k ≤ L.length ∧ i = .int .i64 k ∧ Own wr w.heap.size kv (M.keyOf (L.take k)) ∧ M.errOf (L.take k) = 0 ∧ Bel w wr) (fun _ i _ => L.length - (intOf i).toNat)
  case atStart => exact ⟨0, Nat.zero_le _, rfl, World.ownsRow_nil _ _ _ _, rfl, Below.refl _ _⟩
  case round =>
    obtain ⟨k, hk, rfl, hown, herr, hb⟩ := hrel
    by_cases hlt : k < L.length
    · obtain ⟨c1, c2, c3⟩ := (hv.below hb hbw) k hlt
      have HL : Hid (L.take (k + 1) = L.take k ++ [L[k]]) := List.take_succ_eq_append_getElem hlt
      have hvs := hs L[k] (List.getElem_mem hlt)
      have HP : Hid (M.chk L[k] ≠ 0 → M.put L = ([], M.chk L[k])) := by
        intro hne
        have e : M.errOf L = M.chk L[k] := by
          conv => lhs; rw [← List.take_append_drop k L, M.errOf_append _ _ herr, List.drop_eq_getElem_cons hlt]
          simp only [M.errOf, if_neg hne]
        unfold M.put
        rw [e, if_neg hne]
      have HO : Hid (M.chk L[k] = 0 → M.errOf (L.take k ++ [L[k]]) = 0) := fun h0 => by rw [M.errOf_snoc _ _ herr]; exact h0
      have hlen : (M.keyOf (L.take k)).length ≤ 20000 := by
        have := M.keyOf_length (L.take k) herr
        have := List.length_take_le k L
        omega
      generalize L[k] = v at *
      obtain ⟨t, n, f⟩ := v
      have hc := fun W => check_any (M.bs t) n f W (by rw [M.bs_size]; exact hvs)
      rw [M.bs_data] at hc
      have HO2 : Hid (Own wr w.heap.size u4 (M.keyOf (L.take k))) := hown
      have HR : Hid (M.errOf (L.take k) = 0) := herr
      clear hown herr hs hv
      have hbz := hb.size
      by_cases h0 : M.chk (t, n, f) = 0
      · rw [h0] at hc
        have H43 := M.one_length (t, n, f) h0
        have HK : Hid (M.keyOf (L.take (k + 1)) = M.keyOf (L.take k) ++ M.one (t, n, f)) := by show _ = _; rw [HL.out, M.keyOf_snoc]
        have HE : Hid (M.errOf (L.take (k + 1)) = 0) := by show _ = _; rw [HL.out]; exact HO.out h0
        cases f
        · have h1 := M.chk_number h0
          have HOne : Hid (M.one (t, n, false) = 16 :: M.putL 6 (n + 1099511627776).toNat) := rfl
          clear h0
          go_wp2_with fail
          refine (hc _).mono ?_
          rintro e w1 ⟨rfl, b1⟩
          have d1 : w1.cell? ⟨wr.heap.size, 0, none⟩ = some (.string (M.bs t)) := (b1.cell (p := ⟨wr.heap.size, 0, none⟩) (by simp)).trans (by simp [World.cell?_alloc_at])
          have d2 : w1.cell? ⟨wr.heap.size, 1, none⟩ = some (.int .i64 n) := (b1.cell (p := ⟨wr.heap.size, 1, none⟩) (by simp)).trans (by simp [World.cell?_alloc_at])
          have d3 : w1.cell? ⟨wr.heap.size, 2, none⟩ = some (.bool false) := (b1.cell (p := ⟨wr.heap.size, 2, none⟩) (by simp)).trans (by simp [World.cell?_alloc_at])
          have bz := b1.size
          have ho := (HO2.out.al _).bel b1
          go_wp2_with fail
          refine (appendNumber_any w.heap.size _ _ n w1 ho (by simp at bz; omega) hlen h1.1 h1.2).mono ?_
          rintro e w2 ⟨v', rfl, ho2, b2⟩
          clear ho
          go_wp2_with fail
          go_roundw
          case rel => exact ⟨k + 1, by omega, by go_num, by rw [HK.out, HOne.out]; exact ho2, HE.out, ((hb.al _).tr b1).trans b2⟩
          case measure => simp [intOf]; omega
        · have h1 := M.chk_text h0
          have HOne : Hid (M.one (t, n, true) = 32 :: (M.esc t ++ [0, 1])) := rfl
          clear h0
          go_wp2_with fail
          refine (hc _).mono ?_
          rintro e w1 ⟨rfl, b1⟩
          have d1 : w1.cell? ⟨wr.heap.size, 0, none⟩ = some (.string (M.bs t)) := (b1.cell (p := ⟨wr.heap.size, 0, none⟩) (by simp)).trans (by simp [World.cell?_alloc_at])
          have d2 : w1.cell? ⟨wr.heap.size, 1, none⟩ = some (.int .i64 n) := (b1.cell (p := ⟨wr.heap.size, 1, none⟩) (by simp)).trans (by simp [World.cell?_alloc_at])
          have d3 : w1.cell? ⟨wr.heap.size, 2, none⟩ = some (.bool true) := (b1.cell (p := ⟨wr.heap.size, 2, none⟩) (by simp)).trans (by simp [World.cell?_alloc_at])
          have bz := b1.size
          have ho := (HO2.out.al _).bel b1
          go_wp2_with fail
          refine (appendText_any w.heap.size _ _ (M.bs t) w1 ho (by simp at bz; omega) hlen (by rw [M.bs_size]; omega)).mono ?_
          rintro e w2 ⟨v', rfl, ho2, b2⟩
          clear ho
          rw [M.bs_data] at ho2
          go_wp2_with fail
          go_roundw
          case rel => exact ⟨k + 1, by omega, by go_num, by rw [HK.out, HOne.out]; exact ho2, HE.out, ((hb.al _).tr b1).trans b2⟩
          case measure => simp [intOf]; omega
      · have HP2 : Hid (M.put L = ([], M.chk (t, n, f))) := HP.out h0
        have h6 := M.chk_le (t, n, f)
        generalize M.chk (t, n, f) = E at *
        have q : ((E : Int) != 0) = true := by rw [bne_iff_ne]; omega
        go_wp2_with fail
        refine (hc _).mono ?_
        rintro e w1 ⟨rfl, b1⟩
        go_wp2_with fail
        go_ret2
        exact ⟨by rw [HP2.out]; rfl, (hb.al _).tr b1⟩
    · have hkc := conv_own wr w.heap.size _ _ hown
      have HF : Hid (M.put L = (M.keyOf (L.take k), 0)) := by
        show _ = _
        rw [List.take_of_length_le (by omega)] at herr ⊢
        unfold M.put; rw [if_pos herr]
      clear herr hown
      go_wp2_with fail
      go_ret2
      exact ⟨by rw [HF.out]; rfl, hb⟩
end Go.Proofs.YtaepbmcmggnmpaaDoor.Ky
