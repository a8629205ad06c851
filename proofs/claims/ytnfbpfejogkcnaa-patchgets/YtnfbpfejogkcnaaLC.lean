/-
  The law PatchChains, walked.
-/
import Derived.Test.YtnfbpfejogkcnaaLB
import Derived.ProofKit
import Derived.OpenShut
import Derived.ShutString
import Derived.Carry
namespace Go.Proofs.Ytnfbpfejogkcnaa
open Go.RowKit Go.ChangeShapes Go.WideShapes Go.ChangeAt

/-- The cells from ⟨b, off⟩ on hold the texts of L. -/
def RowT (w : World) (b off : Nat) (L : List (List UInt8)) : Prop := ∀ j (h : j < L.length), w.cell? ⟨b, off + j, none⟩ = some (.string (M.bs L[j]))
theorem RowT.bel {w w' : World} {b off : Nat} {L : List (List UInt8)} (h : RowT w b off L) (hb : Bel w w') : RowT w' b off L := fun j hj =>
  (hb.cell (p := ⟨b, off + j, none⟩) (block_lt_of_cell (h j hj))).trans (h j hj)
theorem add_lit (g o i : Nat) : (⟨g, o, none⟩ : Addr).add i = ⟨g, o + i, none⟩ := by unfold Addr.add; split <;> simp_all
theorem open_texts {H : Type} {enc : TypeId × Value → H} {W : World} {base : Nat} {r : Reach} {v : Value} {d : DataW H} {p : List MemPlace} (hv : Value.okWide Try.prog W r base 45 v)
    (h : DataW.Trod enc Try.prog W 0 (fun _ => true) true 45 v d p) : ∃ (L : List (List UInt8)) (a : Option Addr) (cap : Nat), v = .slice a L.length cap ∧ L.length ≤ maxLen ∧ ((L = [] ∨ ∃ g off, a = some ⟨g, off, none⟩ ∧ RowT W g off L) ∧ ∀ t ∈ L, t.length ≤ maxLen) := by
  obtain ⟨a, len, cap, rfl⟩ := okWide_slice Try.underlying45 hv
  obtain ⟨fuel, hf⟩ := h
  rcases open_strings Try.underlying45 Try.underlying9 (by kernel_rfl) hf with ⟨hcs, _⟩ | ⟨a', len', cap', ss, hcs, _, hl, hm, hz, _, hc, hsz⟩
  · have e : (Value.slice a len cap).cells.toList = [.slice a len cap] := rfl
    rw [e] at hcs
    obtain ⟨h1, h2, h3⟩ := Value.slice.inj (List.cons.inj hcs).1
    subst h1 h2 h3
    exact ⟨[], none, 0, rfl, by simp, .inl rfl, by simp⟩
  · have e : (Value.slice a len cap).cells.toList = [.slice a len cap] := rfl
    rw [e] at hcs
    obtain ⟨h1, h2, h3⟩ := Value.slice.inj (List.cons.inj hcs).1
    subst h1 h2 h3
    have hlz : len ≤ ss.length := by rw [hz]; simpa using hl
    have hlen : ((ss.take len).map fun s => s.data.toList).length = len := by rw [List.length_map, List.length_take]; omega
    refine ⟨(ss.take len).map fun s => s.data.toList, some a', cap, by rw [hlen], by rw [hlen]; omega, ?_, ?_⟩
    · by_cases h0 : len = 0
      · left; rw [h0]; rfl
      · right
        obtain ⟨b, off, spot⟩ := a'
        have hspot : spot = none := by simpa [Addr.add] using World.cell?_spot (hc 0 (by omega))
        subst hspot
        refine ⟨b, off, rfl, fun j hj => ?_⟩
        have hj' : j < len := by rw [hlen] at hj; exact hj
        have := hc j (by omega)
        rw [add_lit] at this
        rw [this, List.getElem_map, List.getElem_take, M.bs_of]
        simp [List.getD_eq_getElem?_getD, List.getElem?_eq_getElem (show j < ss.length by omega)]
    · intro t ht
      obtain ⟨s, hs, rfl⟩ := List.mem_map.1 ht
      have := hsz s (List.mem_of_mem_take hs)
      rw [Lib.size_eq] at this
      exact this

theorem cut_eq (t : List UInt8) (n : Nat) : (M.bs t).extract 0 (min (t.length : Int) (n : Int)).toNat = M.bs (t.take n) := by
  rw [M.extract_bs, M.bs_data, List.drop_zero]
  congr 1
  by_cases h : t.length ≤ n
  · rw [List.take_of_length_le (by omega), List.take_of_length_le h]
  · congr 1; omega
def forty : List UInt8 := [48, 49, 50, 51, 52, 53, 54, 55, 56, 57, 48, 49, 50, 51, 52, 53, 54, 55, 56, 57, 48, 49, 50, 51, 52, 53, 54, 55, 56, 57, 48, 49, 50, 51, 52, 53, 54, 55, 56, 57]
set_option maxHeartbeats 2000000 in
theorem chains_any (L : List (List UInt8)) (a : Option Addr) (cap : Nat) (w : World) (hL : L.length ≤ maxLen) (hs : (L = [] ∨ ∃ g off, a = some ⟨g, off, none⟩ ∧ RowT w g off L) ∧ ∀ t ∈ L, t.length ≤ maxLen) :
    Calls Try.prog 6 #[.slice a L.length cap] w fun e w' => e = .returned (.bool true) ∧ Bel w w' := by
  unfold maxLen at hL hs
  obtain ⟨hs, hm⟩ := hs
  have HS := hid hs
  have HM := hid hm
  clear hs hm
  go_enter Try.func6, Try.ntmps6
  go_wp2_with fail
  refine (speaks_any _).mono ?_
  rintro e w1 ⟨rfl, b1⟩
  go_wp2_with fail
  obtain ⟨S, hS⟩ : ∃ S, S = (⟨#[48, 49, 50, 51, 52, 53, 54, 55, 56, 57, 48, 49, 50, 51, 52, 53, 54, 55, 56, 57, 48, 49, 50, 51, 52, 53, 54, 55, 56, 57, 48, 49, 50, 51, 52, 53, 54, 55, 56, 57]⟩ : ByteArray) := ⟨_, rfl⟩
  rw [← hS]
  have hS40 : S.size = 40 := by rw [hS]; rfl
  have HSS : Hid (S = M.bs forty) := hS
  clear hS
  go_loopw [4, 5] (fun nv i wr => ∃ (k : Nat) (cur : List UInt8), k ≤ L.length ∧ k ≤ 20 ∧ i = .int .i64 k ∧ nv = .string (M.bs cur) ∧ cur.length = 40 ∧ Bel w wr) (fun _ i _ => L.length - (intOf i).toNat)
  case atStart => exact ⟨0, forty, Nat.zero_le _, Nat.zero_le _, rfl, by rw [HSS.out], rfl, b1⟩
  case round =>
    obtain ⟨k, cur, hk, hk2, rfl, rfl, hcl, hb⟩ := hrel
    by_cases hlt : k < L.length
    · by_cases hlt2 : k < 20
      · obtain ⟨g, off, rfl, hr⟩ : ∃ g off, a = some ⟨g, off, none⟩ ∧ RowT w g off L := by
          rcases HS.out with h | h
          · subst h; simp at hlt
          · exact h
        have ck := (hr.bel hb) k hlt
        have hsz : (M.bs L[k]).size = L[k].length := M.bs_size _
        have hmx := HM.out L[k] (List.getElem_mem hlt)
        have hce : (M.bs L[k]).extract 0 (min (L[k].length : Int) 40).toNat = M.bs (L[k].take 40) := cut_eq L[k] 40
        clear hr
        generalize L[k] = t at *
        have hlt40 : (t.take 40).length ≤ 40 := by rw [List.length_take]; omega
        have hsz2 : (M.bs (t.take 40)).size = (t.take 40).length := M.bs_size _
        generalize t.take 40 = u at *
        have hxs : S.extract u.length 40 = M.bs (forty.drop u.length) := by
          rw [HSS.out, M.extract_bs, M.bs_data, List.take_of_length_le (by rw [List.length_drop]; exact Nat.le_refl _)]
        have HAp : Hid (M.bs u ++ M.bs (forty.drop u.length) = M.bs (u ++ forty.drop u.length)) := M.bs_append _ _
        have hnl : (u ++ forty.drop u.length).length = 40 := by rw [List.length_append, List.length_drop, show forty.length = 40 from rfl]; omega
        have hsz3 : (M.bs (forty.drop u.length)).size = 40 - u.length := by rw [M.bs_size, List.length_drop]; rfl
        have hHap := HAp.out
        generalize u ++ forty.drop u.length = nx at *
        have H1 := fun W => diff_any cur nx W (by omega) (by omega)
        have H2 := fun x W hv => apply_any cur (M.diff cur nx) x W hv (by have := (M.diff_length cur nx).1; omega) (diff_small cur nx 100000 (by omega)) (by omega)
        rw [M.apply_diff cur nx (by omega) (by omega)] at H2
        generalize M.bs (forty.drop u.length) = V at *
        have q1 : ((M.bs nx).toList != (M.bs nx).toList) = false := by simp
        go_wp2_with fail
        go_region
        clear ck hce hsz hmx
        go_wp2_with fail
        refine (H1 _).mono ?_
        rintro e w2 ⟨v, rfl, o2, b2⟩
        go_wp2_with fail
        refine (H2 _ _ o2.vals).mono ?_
        rintro e w3 ⟨rfl, b3⟩
        clear o2 H1 H2
        go_wp2_with fail
        go_roundw
        case rel => exact ⟨k + 1, nx, by omega, by omega, by go_num, rfl, hnl, ((hb.dr).tr b2).tr b3⟩
        case measure => simp [intOf]; omega
      · have H1 := fun W => diff_any cur cur W (by omega) (by omega)
        rw [M.diff_self] at H1
        go_wp2_with fail
        refine (H1 _).mono ?_
        rintro e w2 ⟨v, rfl, o2, b2⟩
        obtain ⟨ao, cp, rfl, _⟩ := id o2.vals
        clear o2 H1
        simp only
        go_wp2_with fail
        go_ret
        exact ⟨rfl, hb.tr b2⟩
    · have H1 := fun W => diff_any cur cur W (by omega) (by omega)
      rw [M.diff_self] at H1
      go_wp2_with fail
      refine (H1 _).mono ?_
      rintro e w2 ⟨v, rfl, o2, b2⟩
      obtain ⟨ao, cp, rfl, _⟩ := id o2.vals
      clear o2 H1
      simp only
      go_wp2_with fail
      go_ret
      exact ⟨rfl, hb.tr b2⟩
end Go.Proofs.Ytnfbpfejogkcnaa
