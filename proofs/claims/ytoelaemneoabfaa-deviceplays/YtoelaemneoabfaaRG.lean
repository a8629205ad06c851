/-
  The reference of layer 3: what its state is in memory; the contract of its Read, walked.
-/
import Derived.Test.YtoelaemneoabfaaRF
namespace Go.Proofs.Ytoelaemneoabfaa
open Go.RowKit

/-- The reference's device. -/
structure Rf where
  last : List M.Tx
  at' : List Int
  data : List M.Tx
  off : Bool
  fuse : Int
  keep : List Int
  cmds : Int
/-- A slice value of texts, whose row lies in a block of Y. -/
def SeesT (Y : Nat → Prop) (w : World) (v : Value) (L : List M.Tx) : Prop := ∃ a cap, v = .slice a L.length cap ∧ ((a = none ∧ cap = 0 ∧ L = []) ∨ ∃ g off, a = some ⟨g, off, none⟩ ∧ Y g ∧ ∀ j (h : j < L.length), w.cell? ⟨g, off + j, none⟩ = some (.string (M.bs L[j])))
def SeesN (Y : Nat → Prop) (w : World) (v : Value) (L : List Int) : Prop := ∃ a cap, v = .slice a L.length cap ∧ ((a = none ∧ cap = 0 ∧ L = []) ∨ ∃ g off, a = some ⟨g, off, none⟩ ∧ Y g ∧ ∀ j (h : j < L.length), w.cell? ⟨g, off + j, none⟩ = some (.int .i64 L[j]))
theorem SeesT.keep {Y : Nat → Prop} {w w' : World} {v : Value} {L : List M.Tx} (h : SeesT Y w v L) (k : Keep Y w w') : SeesT Y w' v L := by
  obtain ⟨a, cap, rfl, h⟩ := h
  refine ⟨a, cap, rfl, h.imp id ?_⟩
  rintro ⟨g, off, rfl, hY, hc⟩
  exact ⟨g, off, rfl, hY, fun j hj => (k.cell (p := ⟨g, off + j, none⟩) hY).trans (hc j hj)⟩
theorem SeesN.keep {Y : Nat → Prop} {w w' : World} {v : Value} {L : List Int} (h : SeesN Y w v L) (k : Keep Y w w') : SeesN Y w' v L := by
  obtain ⟨a, cap, rfl, h⟩ := h
  refine ⟨a, cap, rfl, h.imp id ?_⟩
  rintro ⟨g, off, rfl, hY, hc⟩
  exact ⟨g, off, rfl, hY, fun j hj => (k.cell (p := ⟨g, off + j, none⟩) hY).trans (hc j hj)⟩
theorem SeesT.weak {Y Z : Nat → Prop} {w : World} {v : Value} {L : List M.Tx} (h : SeesT Y w v L) (hs : ∀ g, Y g → Z g) : SeesT Z w v L := by
  obtain ⟨a, cap, rfl, h | ⟨g, off, rfl, hY, hc⟩⟩ := h
  · exact ⟨a, cap, rfl, .inl h⟩
  · exact ⟨_, cap, rfl, .inr ⟨g, off, rfl, hs g hY, hc⟩⟩
theorem SeesN.weak {Y Z : Nat → Prop} {w : World} {v : Value} {L : List Int} (h : SeesN Y w v L) (hs : ∀ g, Y g → Z g) : SeesN Z w v L := by
  obtain ⟨a, cap, rfl, h | ⟨g, off, rfl, hY, hc⟩⟩ := h
  · exact ⟨a, cap, rfl, .inl h⟩
  · exact ⟨_, cap, rfl, .inr ⟨g, off, rfl, hs g hY, hc⟩⟩
/-- The reference's device at b is R; all its blocks are of Y. -/
structure RefAt (Y : Nat → Prop) (w : World) (b : Nat) (R : Rf) (lv av dv kv : Value) : Prop where
  blk : Blk w b #[lv, av, dv, .bool R.off, .int .i64 R.fuse, kv, .int .i64 R.cmds] 31
  last : SeesT (fun j => Y j ∧ j ≠ b) w lv R.last
  at' : SeesN (fun j => Y j ∧ j ≠ b) w av R.at'
  data : SeesT (fun j => Y j ∧ j ≠ b) w dv R.data
  keep : SeesN (fun j => Y j ∧ j ≠ b) w kv R.keep
  len : R.at'.length = R.data.length
  yb : Y b
theorem RefAt.kept {Y : Nat → Prop} {w w' : World} {b : Nat} {R : Rf} {lv av dv kv : Value} (h : RefAt Y w b R lv av dv kv) (k : Keep Y w w') : RefAt Y w' b R lv av dv kv :=
  have k' : Keep (fun j => Y j ∧ j ≠ b) w w' := k.weak fun _ h => h.1
  ⟨(k.block b h.yb).trans h.blk, h.last.keep k', h.at'.keep k', h.data.keep k', h.keep.keep k', h.len, h.yb⟩
/-- The last text of sector i among the first m. -/
def lastD (A : List Int) (D : List M.Tx) (i : Int) (s : M.Tx) : Nat → M.Tx
  | 0 => s
  | m + 1 => if A[m]?.getD 0 = i then D[m]?.getD [] else lastD A D i s m
def rCheck (R : Rf) (i : Int) : Int := if R.off then 7 else if i < 0 ∨ (R.last.length : Int) ≤ i then 1 else 0
def rRead (R : Rf) (i : Int) : M.Tx := if rCheck R i = 0 then lastD R.at' R.data i (R.last[i.toNat]?.getD []) R.at'.length else []
set_option maxHeartbeats 2000000 in
theorem rRead_any (Y : Nat → Prop) (b : Nat) (R : Rf) (lv av dv kv : Value) (i : Int) (w : World) (h : RefAt Y w b R lv av dv kv) (ha : R.at'.length ≤ 1000) :
    Calls Try.prog 32 #[.pointer (some ⟨b, 0, none⟩), .int .i64 i] w fun e w' => e = .returned (.tuple #[.string (M.bs (rRead R i)), .int .i64 (rCheck R i)]) ∧ w = w' := by
  have c0 := h.blk.cell 0
  have c1 := h.blk.cell 1
  have c2 := h.blk.cell 2
  have c3 := h.blk.cell 3
  simp at c0 c1 c2 c3
  cases ho : R.off with
  | true =>
    have HB : Hid (rRead R i = [] ∧ rCheck R i = 7) := ⟨by simp [rRead, rCheck, ho], by simp [rCheck, ho]⟩
    rw [ho] at c3
    clear h
    go_enter Try.func32, Try.ntmps32
    go_wp2_with fail
    go_ret2
    exact ⟨by rw [HB.out.1, HB.out.2]; rfl, rfl⟩
  | false =>
    rw [ho] at c3
    obtain ⟨la, lcap, rfl, hlast⟩ := h.last
    obtain ⟨aa, acap, rfl, hat⟩ := h.at'
    obtain ⟨da, dcap, rfl, hdat⟩ := h.data
    have hlen := h.len
    clear h
    by_cases hi : i < 0 ∨ (R.last.length : Int) ≤ i
    · have HB : Hid (rRead R i = [] ∧ rCheck R i = 1) := ⟨by simp [rRead, rCheck, ho, hi], by simp [rCheck, ho, hi]⟩
      by_cases h1 : i < 0
      · go_enter Try.func32, Try.ntmps32
        go_wp2_with fail
        go_ret2
        exact ⟨by rw [HB.out.1, HB.out.2]; rfl, rfl⟩
      · have q1 : decide (i < 0) = false := by simpa using h1
        have h2 : (R.last.length : Int) ≤ i := by omega
        go_enter Try.func32, Try.ntmps32
        go_wp2_with fail
        go_ret2
        exact ⟨by rw [HB.out.1, HB.out.2]; rfl, rfl⟩
    · have hc0 : rCheck R i = 0 := by simp [rCheck, ho, hi]
      obtain ⟨n, rfl⟩ : ∃ n : Nat, i = (n : Int) := ⟨i.toNat, by omega⟩
      have hn : n < R.last.length := by omega
      have HB : Hid (rRead R n = lastD R.at' R.data n R.last[n] R.at'.length ∧ rCheck R n = 0) := ⟨by simp [rRead, hc0, hn], hc0⟩
      obtain ⟨lg, lo, rfl, _, lc⟩ : ∃ g off, la = some ⟨g, off, none⟩ ∧ (Y g ∧ g ≠ b) ∧ ∀ j (h : j < R.last.length), w.cell? ⟨g, off + j, none⟩ = some (.string (M.bs R.last[j])) := by
        rcases hlast with h | h
        · rw [h.2.2] at hn; simp at hn
        · exact h
      have e0 := lc n hn
      have q1 : decide ((n : Int) < 0) = false := decide_eq_false (by omega)
      have q2 : decide ((R.last.length : Int) ≤ (n : Int)) = false := decide_eq_false (by omega)
      have hn' : (n : Int) < (R.last.length : Int) := by omega
      clear lc hlast hc0 hi
      generalize R.last[n] = s0 at *
      go_enter Try.func32, Try.ntmps32
      go_wp2_with fail
      go_loopw [6, 7] (fun s k wr => ∃ m : Nat, m ≤ R.at'.length ∧ k = .int .i64 m ∧ s = .string (M.bs (lastD R.at' R.data n s0 m)) ∧ w = wr) (fun _ k _ => R.at'.length - (intOf k).toNat)
      case atStart => exact ⟨0, by omega, rfl, rfl, rfl⟩
      case round =>
        obtain ⟨m, hm, rfl, rfl, rfl⟩ := hrel
        by_cases hlt : m < R.at'.length
        · obtain ⟨ag, ao, rfl, _, ac⟩ : ∃ g off, aa = some ⟨g, off, none⟩ ∧ (Y g ∧ g ≠ b) ∧ ∀ j (h : j < R.at'.length), w.cell? ⟨g, off + j, none⟩ = some (.int .i64 R.at'[j]) := by
            rcases hat with h | h
            · rw [h.2.2] at hlt; simp at hlt
            · exact h
          obtain ⟨dg, d0, rfl, _, dc⟩ : ∃ g off, da = some ⟨g, off, none⟩ ∧ (Y g ∧ g ≠ b) ∧ ∀ j (h : j < R.data.length), w.cell? ⟨g, off + j, none⟩ = some (.string (M.bs R.data[j])) := by
            rcases hdat with h | h
            · rw [h.2.2, List.length_nil] at hlen; omega
            · exact h
          have e1 := ac m hlt
          have e2 := dc m (by omega)
          have hml : (m : Int) < (R.at'.length : Int) := by omega
          have hmd : (m : Int) < (R.data.length : Int) := by omega
          have HS : Hid (lastD R.at' R.data n s0 (m + 1) = if R.at'[m] = (n : Int) then R.data[m]'(by omega) else lastD R.at' R.data n s0 m) := by
            show _ = _
            simp [lastD, hlt, show m < R.data.length by omega]
          clear ac dc hat hdat
          generalize R.at'[m] = x at *
          generalize R.data[m]'(by omega) = y at *
          by_cases hx : x = (n : Int)
          · subst hx
            go_wp2_with fail
            go_roundw
            case rel => exact ⟨m + 1, by omega, by go_num, by rw [HS.out, if_pos rfl], trivial⟩
            case measure => simp [intOf]; omega
          · have q3 : (x == (n : Int)) = false := by simpa using hx
            go_wp2_with fail
            go_roundw
            case rel => exact ⟨m + 1, by omega, by go_num, by rw [HS.out, if_neg hx], trivial⟩
            case measure => simp [intOf]; omega
        · obtain rfl : m = R.at'.length := by omega
          go_wp2_with fail
          go_ret2
          exact ⟨by rw [HB.out.1, HB.out.2]; rfl, rfl⟩
end Go.Proofs.Ytoelaemneoabfaa
