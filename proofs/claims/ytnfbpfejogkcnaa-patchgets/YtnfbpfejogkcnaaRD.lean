/-
  The contract of the document's own Diff (concordanceref06), walked.
-/
import Derived.Test.YtnfbpfejogkcnaaQ
import Derived.Test.YtnfbpfejogkcnaaR
namespace Go.Proofs.Ytnfbpfejogkcnaa
open Go.RowKit

theorem dif_at (a b : List UInt8) (k : Nat) (h1 : k < (M.bs a).size) (h2 : k < (M.bs b).size) : M.dif a b k = ((M.bs a)[k] != (M.bs b)[k]) := by
  unfold M.dif
  rw [List.getD_eq_getElem?_getD, List.getD_eq_getElem?_getD, List.getElem?_eq_getElem (by rw [← M.bs_size]; exact h1), List.getElem?_eq_getElem (by rw [← M.bs_size]; exact h2)]
  rfl
theorem dif_yes {a b : List UInt8} {k : Nat} {h1 : k < (M.bs a).size} {h2 : k < (M.bs b).size} (h : M.dif a b k = true) : (((M.bs a)[k].toNat : Int) == ((M.bs b)[k].toNat : Int)) = false ∧ (((M.bs a)[k].toNat : Int) != ((M.bs b)[k].toNat : Int)) = true := by
  rw [dif_at a b k h1 h2, bne_iff_ne] at h
  have : ¬ ((M.bs a)[k].toNat : Int) = ((M.bs b)[k].toNat : Int) := fun e => h (by apply UInt8.toNat_inj.1; omega)
  exact ⟨by rw [beq_eq_false_iff_ne]; exact this, by rw [bne_iff_ne]; exact this⟩
theorem dif_no {a b : List UInt8} {k : Nat} {h1 : k < (M.bs a).size} {h2 : k < (M.bs b).size} (h : M.dif a b k = false) : (((M.bs a)[k].toNat : Int) == ((M.bs b)[k].toNat : Int)) = true ∧ (((M.bs a)[k].toNat : Int) != ((M.bs b)[k].toNat : Int)) = false := by
  rw [dif_at a b k h1 h2, bne_eq_false_iff_eq] at h
  rw [h]; simp
def boolN : Value → Nat
  | .bool true => 1
  | _ => 0
theorem rdiff_neq (a b : List UInt8) (w : World) (h : a.length ≠ b.length ∨ (a.length = b.length ∧ 65535 < b.length)) :
    Calls Try.prog 11 #[.string (M.bs a), .string (M.bs b)] w fun e w' => e = .returned (.slice none 0 0) ∧ w = w' := by
  have za : (M.bs a).size = a.length := M.bs_size a
  have zb : (M.bs b).size = b.length := M.bs_size b
  rcases h with h | ⟨h, h2⟩
  · have q : (((a.length : Nat) : Int) != (b.length : Int)) = true := by rw [bne_iff_ne]; omega
    go_enter Try.func11, Try.ntmps11
    go_wp2_with fail
    go_ret
    exact ⟨rfl, rfl⟩
  · have q : (((a.length : Nat) : Int) != (b.length : Int)) = false := by rw [bne_eq_false_iff_eq]; omega
    go_enter Try.func11, Try.ntmps11
    go_wp2_with fail
    go_ret
    exact ⟨rfl, rfl⟩

set_option maxHeartbeats 4000000 in
theorem rdiff_same (a b : List UInt8) (w : World) (h : a.length = b.length) (hb : b.length ≤ 65535) :
    Calls Try.prog 11 #[.string (M.bs a), .string (M.bs b)] w fun e w' => ∃ v, e = .returned v ∧ OwnP 50 w' w.heap.size v (M.pcs b (M.ivs (M.dif a b) b.length)) ∧ Bel w w' := by
  have za : (M.bs a).size = b.length := by rw [M.bs_size]; exact h
  have zb : (M.bs b).size = b.length := M.bs_size b
  have q : (((M.bs a).size : Int) != ((M.bs b).size : Int)) = false := by rw [bne_eq_false_iff_eq, za, zb]
  go_enter Try.func11, Try.ntmps11
  go_wp2_with fail
  go_loopw [5, 6] (fun ov iv wr => ∃ i : Nat, i ≤ b.length ∧ iv = .int .i64 i ∧ OwnP 50 wr w.heap.size ov (M.pcs b (M.ivs (M.dif a b) i)) ∧ Bel w wr ∧
      (∀ s e R, M.ivs (M.dif a b) i = (s, e) :: R → ∀ j, i ≤ j → j < b.length → M.dif a b j = true → e + 4 ≤ j)) (fun _ iv _ => b.length - (intOf iv).toNat)
  case atStart => exact ⟨0, Nat.zero_le _, rfl, OwnP.nil _ _ _, Below.refl _ _, fun s e R hh => by simp [M.ivs] at hh⟩
  case round =>
    obtain ⟨i, hi, rfl, hown, hbel, hfar⟩ := hrel
    have HO := hid hown
    have HFar := hid hfar
    clear hown hfar
    by_cases hlt : i < b.length
    · have hka : i < (M.bs a).size := by rw [za]; exact hlt
      have hkb : i < (M.bs b).size := by rw [zb]; exact hlt
      by_cases hd : M.dif a b i = true
      · have q2 := (dif_yes (h1 := hka) (h2 := hkb) hd).1
        have HI : Hid (M.ivs (M.dif a b) (i + 1) = (i, i + 1) :: M.ivs (M.dif a b) i) := by
          show _ = _
          simp only [M.ivs, hd, if_true]
          match hr : M.ivs (M.dif a b) i with
          | [] => rfl
          | (s, e) :: R =>
            have := HFar.out s e R hr i (by omega) hlt hd
            simp only [M.step]
            rw [if_neg (by omega)]
        clear hd
        go_wp2_with fail
        go_quiet (fail)
        have b0 : Bel wr (wr.drewN nq) := below_drewN (Below.refl _ _) _
        generalize wr.drewN nq = W1 at b0 ⊢
        have HO1 := hid (HO.out.bel b0)
        have HB1 := hid (hbel.tr b0)
        clear b0 q2
        go_wp2_with fail
        go_loopw [7, 8] (fun ev mv wr' => ∃ e : Nat, i < e ∧ e ≤ b.length ∧ ev = .int .i64 e ∧ M.ivs (M.dif a b) e = (i, e) :: M.ivs (M.dif a b) i ∧ (mv = .bool true ∨ (mv = .bool false ∧ ∀ j, e ≤ j → j < e + 4 → j < b.length → M.dif a b j = false)) ∧ Bel W1 wr')
          (fun ev mv _ => 2 * (b.length - (intOf ev).toNat) + boolN mv)
        case atStart => exact ⟨i + 1, by omega, by omega, by go_num, HI.out, .inl rfl, Below.refl _ _⟩
        case round =>
          obtain ⟨e, he1, he2, rfl, hiv, hm, hb2⟩ := hrel
          obtain ⟨W2, rfl⟩ : ∃ W2, W2 = wr := ⟨_, rfl⟩
          have HIv := hid hiv
          have HB2 := hid hb2
          clear hiv hb2
          rcases hm with rfl | ⟨rfl, hno⟩
          · go_wp2_with fail
            go_loopw [7, 8, 9] (fun ev mv kv wr' => ∃ k : Nat, e ≤ k ∧ k ≤ e + 4 ∧ k ≤ b.length ∧ ev = .int .i64 e ∧ mv = .bool false ∧ kv = .int .i64 k ∧ (∀ j, e ≤ j → j < k → M.dif a b j = false) ∧ Bel W2 wr')
              (fun _ _ kv _ => b.length - (intOf kv).toNat)
            case atStart => exact ⟨e, by omega, by omega, by omega, rfl, rfl, rfl, fun j h1 h2 => by omega, Below.refl _ _⟩
            case round =>
              obtain ⟨k, hk1, hk2, hk3, rfl, rfl, rfl, hnk, hb3⟩ := hrel
              by_cases h4 : k < e + 4
              · by_cases hn : k < b.length
                · have hka : k < (M.bs a).size := by rw [za]; exact hn
                  have hkb : k < (M.bs b).size := by rw [zb]; exact hn
                  by_cases hdk : M.dif a b k = true
                  · have q3 := (dif_yes (h1 := hka) (h2 := hkb) hdk).2
                    have HN : Hid (M.ivs (M.dif a b) (k + 1) = (i, k + 1) :: M.ivs (M.dif a b) i) := by
                      show _ = _
                      have e1 := M.ivs_skip (M.dif a b) e k hk1 hnk
                      rw [HIv.out] at e1
                      simp only [M.ivs, hdk, if_true, e1, M.step]
                      rw [if_pos h4]
                    clear hdk hnk
                    go_wp2_with fail
                    go_quiet (fail)
                    have b3 : Bel wr (wr.drewN nq) := below_drewN (Below.refl _ _) _
                    generalize wr.drewN nq = W3 at b3 ⊢
                    go_wp2_with fail
                    go_roundw
                    case rel => exact ⟨k + 1, by omega, by omega, by go_num, HN.out, .inl rfl, (HB2.out.tr hb3).tr b3⟩
                    case measure => simp [intOf, boolN]; omega
                  · rw [Bool.not_eq_true] at hdk
                    have q3 := (dif_no (h1 := hka) (h2 := hkb) hdk).2
                    have HN : Hid (∀ j, e ≤ j → j < k + 1 → M.dif a b j = false) := fun j h1 h2 => by
                      by_cases ej : j = k
                      · rw [ej]; exact hdk
                      · exact hnk j h1 (by omega)
                    clear hdk hnk
                    go_wp2_with fail
                    go_quiet (fail)
                    have b3 : Bel wr (wr.drewN nq) := below_drewN (Below.refl _ _) _
                    generalize wr.drewN nq = W3 at b3 ⊢
                    go_wp2_with fail
                    go_roundw
                    case rel => exact ⟨k + 1, by omega, by omega, by omega, rfl, rfl, by go_num, HN.out, hb3.tr b3⟩
                    case measure => simp [intOf]; omega
                · have HN : Hid (∀ j, e ≤ j → j < e + 4 → j < b.length → M.dif a b j = false) := fun j h1 _ h3 => hnk j h1 (by omega)
                  clear hnk
                  go_wp2_with fail
                  go_roundw
                  case rel => exact ⟨e, by omega, by omega, rfl, HIv.out, .inr ⟨rfl, HN.out⟩, HB2.out.tr hb3⟩
                  case measure => simp [intOf, boolN]
              · have HN : Hid (∀ j, e ≤ j → j < e + 4 → j < b.length → M.dif a b j = false) := fun j h1 h2 _ => hnk j h1 (by omega)
                clear hnk
                go_wp2_with fail
                go_roundw
                case rel => exact ⟨e, by omega, by omega, rfl, HIv.out, .inr ⟨rfl, HN.out⟩, HB2.out.tr hb3⟩
                case measure => simp [intOf, boolN]
          · have ho := HO1.out.bel HB2.out
            have hbz : w.heap.size ≤ W2.heap.size := (HB1.out.tr HB2.out).size
            have hex : (M.bs b).extract i e = M.bs (M.pc b (i, e)).2 := by rw [M.extract_bs, M.bs_data]; rfl
            have hpl : (M.pcs b (M.ivs (M.dif a b) i)).length ≤ 1000000 := by rw [M.pcs_length]; have := M.ivs_length (M.dif a b) i; omega
            have HC : Hid (M.pcs b ((i, e) :: M.ivs (M.dif a b) i) = M.pcs b (M.ivs (M.dif a b) i) ++ [((i : Int), (M.pc b (i, e)).2)]) := by show _ = _; rw [M.pcs_cons]; rfl
            have HN := hid hno
            clear hno
            go_wp2_with (first
              | (at_builtin; refine app50 rfl _ _ rfl w.heap.size _ _ rfl ho (i : Int) (M.pc b (i, e)).2 W2.heap.size rfl rfl hpl hbz ?_; intro v1 w3 o3 b3; clear ho))
            go_roundw
            case rel => exact ⟨e, by omega, rfl, by rw [HIv.out, HC.out]; exact o3, Below.trans (HB1.out.tr HB2.out) b3, fun s e' R hR j h1 h2 h3 => by
              rw [HIv.out] at hR
              obtain ⟨h5, _⟩ := List.cons.inj hR
              obtain ⟨_, rfl⟩ := Prod.mk.inj h5
              by_cases h6 : e + 4 ≤ j
              · exact h6
              · have := HN.out j h1 (by omega) h2
                rw [this] at h3; cases h3⟩
            case measure => simp [intOf]; omega
      · rw [Bool.not_eq_true] at hd
        have q2 := (dif_no (h1 := hka) (h2 := hkb) hd).1
        have HI : Hid (M.ivs (M.dif a b) (i + 1) = M.ivs (M.dif a b) i) := by show _ = _; simp only [M.ivs, hd]; rfl
        clear hd
        go_wp2_with fail
        go_quiet (fail)
        have b0 : Bel wr (wr.drewN nq) := below_drewN (Below.refl _ _) _
        generalize wr.drewN nq = W1 at b0 ⊢
        have HO1 := hid (HO.out.bel b0)
        go_wp2_with fail
        go_roundw
        case rel => exact ⟨i + 1, by omega, by go_num, by rw [HI.out]; exact HO1.out, hbel.tr b0, fun s e R hR j h1 h2 h3 => by rw [HI.out] at hR; exact HFar.out s e R hR j (by omega) h2 h3⟩
        case measure => simp [intOf]; omega
    · obtain rfl : i = b.length := by omega
      go_wp2_with fail
      go_ret
      exact ⟨_, rfl, HO.out, hbel⟩
/-- The document's 'Diff' of any two texts. -/
theorem rdiff_any (a b : List UInt8) (w : World) :
    Calls Try.prog 11 #[.string (M.bs a), .string (M.bs b)] w fun e w' => ∃ v, e = .returned v ∧ OwnP 50 w' w.heap.size v (M.diff a b) ∧ Bel w w' := by
  unfold M.diff
  split
  · rename_i h
    exact rdiff_same a b w h.1 h.2
  · rename_i h
    refine (rdiff_neq a b w (by omega)).mono ?_
    rintro e w' ⟨rfl, rfl⟩
    exact ⟨_, rfl, OwnP.nil _ _ _, Below.refl _ _⟩
end Go.Proofs.Ytnfbpfejogkcnaa
