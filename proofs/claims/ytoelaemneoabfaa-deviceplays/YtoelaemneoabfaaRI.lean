/-
  The reference of layer 3: Fail, walked.
-/
import Derived.Test.YtoelaemneoabfaaRH
namespace Go.Proofs.Ytoelaemneoabfaa
open Go.RowKit

def Ref (Y : Nat → Prop) (w : World) (b : Nat) (R : Rf) : Prop := ∃ lv av dv kv, RefAt Y w b R lv av dv kv
structure GoodR (N : Nat) (R : Rf) : Prop where
  n : N ≤ 1000
  ne : 0 < R.last.length
  few : R.last.length ≤ 4096
  len : R.at'.length = R.data.length
  wait : R.at'.length ≤ N
  sec : ∀ m (h : m < R.at'.length), 0 ≤ R.at'[m] ∧ R.at'[m] < R.last.length
  keep : R.keep.length ≤ 1000
  fuse0 : 0 ≤ R.fuse
  fuse : R.fuse ≤ 9223372036854775807
  cmds0 : 0 ≤ R.cmds
  cmds : R.cmds ≤ N
/-- The sectors, when the first m of what waits was taken over. -/
def fold (K : List Int) (A : List Int) (D L : List M.Tx) : Nat → List M.Tx
  | 0 => L
  | m + 1 => if taken K m then (fold K A D L m).set (A[m]?.getD 0).toNat (D[m]?.getD []) else fold K A D L m
theorem fold_length (K A : List Int) (D L : List M.Tx) (m : Nat) : (fold K A D L m).length = L.length := by
  induction m with
  | zero => rfl
  | succ m ih => unfold fold; split <;> simp [ih]
def rFail (R : Rf) (K : List Int) : Rf := { last := fold K R.at' R.data R.last R.at'.length, at' := [], data := [], off := true, fuse := 0, keep := [], cmds := R.cmds }
theorem GoodR.fail {N : Nat} {R : Rf} (g : GoodR N R) (K : List Int) : GoodR N (rFail R K) :=
  ⟨g.n, by simpa [rFail, fold_length] using g.ne, by simpa [rFail, fold_length] using g.few, rfl, by simp [rFail], by intro m h; simp [rFail] at h, by simp [rFail], by simp [rFail], by simp [rFail], g.cmds0, g.cmds⟩
theorem csT_set (L : List M.Tx) (j : Nat) (t : M.Tx) : csT (L.set j t) = (csT L).set j (.string (M.bs t)) := by simp [csT, List.map_set]
/-- The loop of Fail and of Sync: the row at g, m rounds done. -/
def FI (w : World) (g n cap : Nat) (K : List Int) (R : Rf) (m : Nat) (wr : World) : Prop :=
  wr.ownsRow w.heap.size 9 1 (.slice (some ⟨g, 0, none⟩) n cap) n (csT (fold K R.at' R.data R.last m)) ∧ Bel w wr
theorem FI.skip {w wr : World} {g n cap : Nat} {K : List Int} {R : Rf} {m : Nat} (h : FI w g n cap K R m wr) (ht : taken K m = false) : FI w g n cap K R (m + 1) wr := by
  unfold FI fold; rw [ht]; exact h
theorem FI.store {w wr : World} {g n cap : Nat} {K : List Int} {R : Rf} {m : Nat} (h : FI w g n cap K R m wr) (ht : taken K m = true) (q : Nat) (t : M.Tx) (hq : R.at'[m]?.getD 0 = (q : Int)) (ht' : R.data[m]?.getD [] = t) :
    FI w g n cap K R (m + 1) (wr.setCell ⟨g, q, none⟩ (.string (M.bs t))) := by
  obtain ⟨h1, h2⟩ := h
  obtain ⟨s1, s2⟩ := h1.stored q (.string (M.bs t))
  refine ⟨?_, h2.grown s2 h2.size (by intro k hk; cases hk; exact (h1.lt g rfl).1)⟩
  unfold fold
  rw [ht, if_pos rfl, hq, ht', csT_set]
  exact s1
theorem FI.drew {w wr : World} {g n cap : Nat} {K : List Int} {R : Rf} {m : Nat} (h : FI w g n cap K R m wr) : FI w g n cap K R m wr.drew := ⟨h.1, h.2.dr⟩
theorem seesN_reads {Y : Nat → Prop} {w : World} {v : Value} {L : List Int} (h : SeesN Y w v L) : ReadsN w v L := by
  obtain ⟨a, cap, rfl, ⟨rfl, rfl, rfl⟩ | ⟨g, off, rfl, _, hc⟩⟩ := h
  · exact ReadsN.none _ _ _
  · exact ⟨_, cap, rfl, .inr ⟨g, off, rfl, hc⟩⟩
theorem blk7 {w : World} {b : Nat} {t : TypeId} {a0 a1 a2 a3 a4 a5 a6 : Value} (h : Blk w b #[a0, a1, a2, a3, a4, a5, a6] t) (c0 c1 c2 c3 c4 c5 c6 : Value) : Blk (w.setCells b 0 [c0, c1, c2, c3, c4, c5, c6]) b #[c0, c1, c2, c3, c4, c5, c6] t := by
  have z := ((((((h.set 0 c0).set 1 c1).set 2 c2).set 3 c3).set 4 c4).set 5 c5).set 6 c6
  simpa [World.setCells] using z
theorem keep7 (w : World) (b : Nat) (c0 c1 c2 c3 c4 c5 c6 : Value) : Keep (fun j => j ≠ b) w (w.setCells b 0 [c0, c1, c2, c3, c4, c5, c6]) :=
  (((((((Keep.refl _ w).set (p := ⟨b, 0, none⟩) (by simp) c0).set (p := ⟨b, 1, none⟩) (by simp) c1).set (p := ⟨b, 2, none⟩) (by simp) c2).set (p := ⟨b, 3, none⟩) (by simp) c3).set (p := ⟨b, 4, none⟩) (by simp) c4).set (p := ⟨b, 5, none⟩) (by simp) c5).set (p := ⟨b, 6, none⟩) (by simp) c6
/-- The reference's struct, stored whole. -/
theorem ref_stored {Y : Nat → Prop} {w wr : World} {b : Nat} {R : Rf} (h : Ref Y w b R) {g n cap : Nat} {L : List M.Tx} (hn : L.length = n) (ho : wr.ownsRow w.heap.size 9 1 (.slice (some ⟨g, 0, none⟩) n cap) n (csT L)) (hb : Bel w wr) (c : Int) :
    Ref (fun j => Y j ∨ (w.heap.size ≤ j ∧ j < (wr.setCells b 0 [.slice (some ⟨g, 0, none⟩) n cap, .slice none 0 0, .slice none 0 0, .bool true, .int .i64 0, .slice none 0 0, .int .i64 c]).heap.size)) (wr.setCells b 0 [.slice (some ⟨g, 0, none⟩) n cap, .slice none 0 0, .slice none 0 0, .bool true, .int .i64 0, .slice none 0 0, .int .i64 c]) b { last := L, at' := [], data := [], off := true, fuse := 0, keep := [], cmds := c } ∧
    Keep (fun j => j ≠ b ∧ j < w.heap.size) w (wr.setCells b 0 [.slice (some ⟨g, 0, none⟩) n cap, .slice none 0 0, .slice none 0 0, .bool true, .int .i64 0, .slice none 0 0, .int .i64 c]) := by
  obtain ⟨lv, av, dv, kv, h⟩ := h
  subst hn
  have hbw := h.blk.lt
  have hblk := h.blk.below hb hbw
  obtain ⟨hg0, hg1⟩ := ho.lt g rfl
  have hc : ∀ j (h : j < L.length), wr.cell? ⟨g, j, none⟩ = some (.string (M.bs L[j])) := fun j hj => by
    rw [ho.cellAt j (by omega)]; simp [csT, hj]
  have hk := keep7 wr b (.slice (some ⟨g, 0, none⟩) L.length cap) (.slice none 0 0) (.slice none 0 0) (.bool true) (.int .i64 0) (.slice none 0 0) (.int .i64 c)
  have hn7 := blk7 hblk (.slice (some ⟨g, 0, none⟩) L.length cap) (.slice none 0 0) (.slice none 0 0) (.bool true) (.int .i64 0) (.slice none 0 0) (.int .i64 c)
  generalize wr.setCells b 0 _ = W at *
  refine ⟨⟨.slice (some ⟨g, 0, none⟩) L.length cap, .slice none 0 0, .slice none 0 0, .slice none 0 0, ?_, ⟨_, cap, rfl, .inr ⟨g, 0, rfl, ⟨.inr ⟨hg0, Nat.lt_of_lt_of_le hg1 hk.size⟩, by omega⟩, fun j hj => ?_⟩⟩, ⟨none, 0, rfl, .inl ⟨rfl, rfl, rfl⟩⟩, ⟨none, 0, rfl, .inl ⟨rfl, rfl, rfl⟩⟩, ⟨none, 0, rfl, .inl ⟨rfl, rfl, rfl⟩⟩, rfl, .inl h.yb⟩, (Keep.of_bel (X := fun j => j ≠ b ∧ j < w.heap.size) hb (fun _ h => h.2)).tr (hk.weak fun _ h => h.1)⟩
  · exact hn7
  · rw [Nat.zero_add]
    exact (hk.cell (p := ⟨g, j, none⟩) (show g ≠ b by omega)).trans (hc j hj)
set_option maxHeartbeats 40000000 in
theorem rFail_any (Y : Nat → Prop) (b : Nat) (R : Rf) (N : Nat) (K : List Int) (kv : Value) (w : World) (h : Ref Y w b R) (g : GoodR N R) (hk : ReadsN w kv K) (hK : K.length ≤ 1000) :
    Calls Try.prog 34 #[.pointer (some ⟨b, 0, none⟩), kv] w fun e w' => e = .returned (.tuple #[]) ∧ Ref (fun j => Y j ∨ (w.heap.size ≤ j ∧ j < w'.heap.size)) w' b (rFail R K) ∧ Keep (fun j => j ≠ b ∧ j < w.heap.size) w w' := by
  have H := hid h
  have HK := hid hk
  obtain ⟨lv, av, dv, qv, h⟩ := h
  have hbl := h.blk.lt
  have hBlk := hid h.blk
  obtain ⟨v1, w1, ha, ho1, hb1⟩ := cpT h.last (by have := g.few; omega)
  obtain ⟨g1, cap1, rfl⟩ : ∃ g1 cap1, v1 = .slice (some ⟨g1, 0, none⟩) R.last.length cap1 := by
    rcases ho1.2 with ⟨_, e⟩ | ⟨g', cap', cur, e, _⟩
    · have := g.ne; omega
    · exact ⟨g', cap', e⟩
  have hat := h.at'
  have hdat := h.data
  obtain ⟨aa, acap, rfl, hat⟩ := hat
  obtain ⟨da, dcap, rfl, hdat⟩ := hdat
  obtain ⟨la, lcap, rfl, _⟩ := h.last
  have hA : Bel w (w.alloc (.cells #[] 9)) := Bel.al (Below.refl _ _) _
  have c0 : (w.alloc (.cells #[] 9)).cell? ⟨b, 0, none⟩ = some (.slice la R.last.length lcap) := (bel_cell hA hbl 0).trans (by rw [h.blk.cell]; rfl)
  have HG := hid g
  have HFI : Hid (FI w g1 R.last.length cap1 K R 0 w1) := ⟨ho1, hb1⟩
  have hlen := h.len
  obtain ⟨ka, kcap, rfl, hkc⟩ := hk
  have hkR : R.at'.length ≤ 1000 := by have := g.wait; have := g.n; omega
  clear h g hA ho1 hb1
  go_enter Try.func34, Try.ntmps34
  go_wp2_with (at_builtin; refine appL rfl _ _ rfl rfl rfl ha ?_)
  go_loopw [5] (fun i wr => ∃ m : Nat, m ≤ R.at'.length ∧ i = .int .i64 m ∧ Hid (FI w g1 R.last.length cap1 K R m wr)) (fun i _ => R.at'.length - (intOf i).toNat)
  case atStart => exact ⟨0, by omega, rfl, HFI⟩
  case round =>
    obtain ⟨m, hm, rfl, HI⟩ := hrel
    have hblk : Blk wr b _ 31 := hBlk.out.below HI.out.2 hbl
    have c1 : wr.cell? ⟨b, 1, none⟩ = some (.slice aa R.at'.length acap) := by rw [hblk.cell]; rfl
    have c2 : wr.cell? ⟨b, 2, none⟩ = some (.slice da R.data.length dcap) := by rw [hblk.cell]; rfl
    by_cases hlt : m < R.at'.length
    · obtain ⟨ag, ao, rfl, _, ac⟩ : ∃ g off, aa = some ⟨g, off, none⟩ ∧ (Y g ∧ g ≠ b) ∧ ∀ j (h : j < R.at'.length), w.cell? ⟨g, off + j, none⟩ = some (.int .i64 R.at'[j]) := by
        rcases hat with h | h
        · rw [h.2.2] at hlt; simp at hlt
        · exact h
      obtain ⟨dg, d0, rfl, _, dc⟩ : ∃ g off, da = some ⟨g, off, none⟩ ∧ (Y g ∧ g ≠ b) ∧ ∀ j (h : j < R.data.length), w.cell? ⟨g, off + j, none⟩ = some (.string (M.bs R.data[j])) := by
        rcases hdat with h | h
        · rw [h.2.2, List.length_nil] at hlen; omega
        · exact h
      have e1 := ac m hlt
      have e2 := dc m (by omega)
      have b1 := (bel_cell HI.out.2 (block_lt_of_cell e1) (ao + m)).trans e1
      have b2 := (bel_cell HI.out.2 (block_lt_of_cell e2) (d0 + m)).trans e2
      obtain ⟨hs0, hs1⟩ := HG.out.sec m hlt
      have HA : Hid (R.at'[m]?.getD 0 = R.at'[m]) := by show _ = _; simp [hlt]
      have HD : Hid (R.data[m]?.getD [] = R.data[m]'(by omega)) := by show _ = _; simp [show m < R.data.length by omega]
      have hmd : (m : Int) < (R.data.length : Int) := by omega
      have hma : (m : Int) < (R.at'.length : Int) := by omega
      clear e1 e2 ac dc hat hdat
      generalize R.at'[m] = x at *
      generalize R.data[m]'(by omega) = t at *
      obtain ⟨q, rfl⟩ : ∃ q : Nat, x = (q : Int) := ⟨x.toNat, by omega⟩
      have hq : q < R.last.length := by omega
      have rc : ∃ u, wr.cell? ⟨g1, q, none⟩ = some u := by
        rw [HI.out.1.cellAt q (by omega)]
        exact ⟨_, List.getElem?_eq_getElem (by rw [csT_length, fold_length]; omega)⟩
      obtain ⟨u, rc⟩ := rc
      have rf := HI.out.1.frozenAt q
      by_cases hk0 : K = []
      · have HT : Hid (FI w g1 R.last.length cap1 K R (m + 1) wr) := HI.out.skip (by rw [hk0]; rfl)
        clear HI HA HD hblk
        subst hk0
        go_wp2_with fail
        go_roundw
        case rel => exact ⟨m + 1, by omega, by go_num, HT⟩
        case measure => simp [intOf]; omega
      · obtain ⟨kg, koff, rfl, hcells⟩ := hkc.resolve_left hk0
        have hkl : 0 < K.length := List.length_pos_iff.2 hk0
        have hml := Nat.mod_lt m hkl
        have hkc0 := hcells (m % K.length) hml
        have hkc' := (bel_cell HI.out.2 (block_lt_of_cell hkc0) (koff + m % K.length)).trans hkc0
        have hrem : Int.tmod (m : Int) (K.length : Int) = ((m % K.length : Nat) : Int) := by rw [Int.tmod_eq_emod_of_nonneg (by omega)]; omega
        have HT : Hid (taken K m = (K[m % K.length] != 0)) := by show _ = _; simp [taken, hkl, hml]
        clear hcells hkc hkc0
        generalize K[m % K.length] = kx at *
        generalize m % K.length = r at *
        by_cases hkx : kx = 0
        · have HU : Hid (FI w g1 R.last.length cap1 K R (m + 1) wr) := HI.out.skip (by rw [HT.out, hkx]; rfl)
          subst hkx
          clear HI HA HD HT hblk
          go_wp2_with fail
          go_roundw
          case rel => exact ⟨m + 1, by omega, by go_num, HU⟩
          case measure => simp [intOf]; omega
        · have q3 : (kx == 0) = false := by simpa using hkx
          have HU : Hid (FI w g1 R.last.length cap1 K R (m + 1) (wr.setCell ⟨g1, q, none⟩ (.string (M.bs t))).drew) := (HI.out.store (by rw [HT.out]; simp [hkx]) q t HA.out HD.out).drew
          have hqn : (q : Int) < (R.last.length : Int) := by omega
          clear HI HA HD HT hblk
          go_wp2_with fail
          go_region
          go_wp2_with fail
          go_roundw
          case rel => exact ⟨m + 1, by omega, by go_num, HU⟩
          case measure => simp [intOf]; omega
    · obtain rfl : m = R.at'.length := by omega
      have c6 : wr.cell? ⟨b, 6, none⟩ = some (.int .i64 R.cmds) := by rw [hblk.cell]; rfl
      have hFF := hid (ref_stored H.out (by rw [fold_length]) HI.out.1 HI.out.2 R.cmds)
      have hth : wr.there b 0 (#[.slice (some ⟨g1, 0, none⟩) R.last.length cap1, .slice none 0 0, .slice none 0 0, .bool true, .int .i64 0, .slice none 0 0, .int .i64 R.cmds] : Array Value).size := fun j hj => by
        rw [hblk.cell, hblk.frozen]
        refine ⟨?_, rfl⟩
        have : j < 7 := hj
        simp
        omega
      have hone : (#[.slice (some ⟨g1, 0, none⟩) R.last.length cap1, .slice none 0 0, .slice none 0 0, .bool true, .int .i64 0, .slice none 0 0, .int .i64 R.cmds] : Array Value).all (·.oneCell') = true := by simp [Value.oneCell']
      have hi7 : (Try.prog.info? 31).map (·.size) = some (#[.slice (some ⟨g1, 0, none⟩) R.last.length cap1, .slice none 0 0, .slice none 0 0, .bool true, .int .i64 0, .slice none 0 0, .int .i64 R.cmds] : Array Value).size := by rw [info31]; rfl
      clear hblk HI
      go_wp2_with (refine wpList_store_mid rfl 31 (.tmp 57) (.tmp 56) rfl b 0 #[.slice (some ⟨g1, 0, none⟩) R.last.length cap1, .slice none 0 0, .slice none 0 0, .bool true, .int .i64 0, .slice none 0 0, .int .i64 R.cmds] (by rfl) (by rfl) hth ?i31 hone ?_)
      case i31 => exact hi7
      go_end0
      exact ⟨rfl, hFF.out⟩
end Go.Proofs.Ytoelaemneoabfaa
