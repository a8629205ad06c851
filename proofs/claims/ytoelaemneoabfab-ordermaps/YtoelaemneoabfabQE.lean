/-
  The contracts of the map's Delete and From at texts, walked.
-/
import Derived.Test.YtoelaemneoabfabQF
namespace Go.Proofs.Ytoelaemneoabfab
open Go.RowKit
set_option maxRecDepth 100000

theorem csS_del (L : M.Ents (List UInt8)) (k : List UInt8) (hh : M.has M.cfS L k = true) : csS (M.del M.cfS L k) = (csS L).take (M.pos M.cfS L k * 2) ++ (csS L).drop ((M.pos M.cfS L k + 1) * 2) := by
  have hpl := M.pos_lt_of_has hh
  rw [M.del_old L k hh, csS_append, csS_take L _ (by omega), csS_drop L _ (by omega)]
set_option maxHeartbeats 4000000 in
theorem delS (X : Nat → Prop) (L : M.Ents (List UInt8)) (hu : M.Up M.cfS L) (k : List UInt8) (b : Nat) (w : World) (hL : L.length ≤ 1000) (hm : MapS X w b L) :
    Calls Try.prog 9 #[.pointer (some ⟨b, 0, none⟩), (Value.string (M.bs k))] w fun e w' => e = .returned (.bool (M.has M.cfS L k)) ∧ MapS X w' b (M.del M.cfS L k) ∧ Keep X w w' := by
  have hF := findS X L hu k b w hL hm
  obtain ⟨v, hb, hbx, ho, hob, hX⟩ := hm
  have c := hb.cell
  have hbl := hb.lt
  by_cases hh : M.has M.cfS L k = true
  · have hpl := M.pos_lt_of_has hh
    have hcs := csS_del L k hh
    have hlen := M.del_length (cf := M.cfS) L k
    rw [hh] at hF hlen
    simp only [if_true] at hlen
    rcases rowS_of ho with ⟨rfl, rfl⟩ | ⟨g, cap, rfl, hr⟩
    · simp [M.has] at hh
    · obtain ⟨m, hml⟩ : ∃ m, L.length = m + 1 := ⟨L.length - 1, by omega⟩
      have hEl : Hid ((M.del M.cfS L k).length = m) := by show _ = _; omega
      have HS := fun w1 (b1 : Bel w w1) => sdel2 (fun k => X k ∨ k = b) m (M.pos M.cfS L k) g cap (csS L) w1 (by rw [← hml]; exact (ho.bel b1).both hob) (by omega) (by omega) (csS_one L)
      rw [← hcs] at HS
      have HX := hid hbx
      have HXl := hid hX
      have HH := hid hh
      rw [hml] at c
      clear hcs ho hr hbx hX hh hlen hu
      generalize M.pos M.cfS L k = q at *
      have hq : q ≤ 1000 := by omega
      go_enter Try.func9, Try.ntmps9
      go_wp2_with fail
      refine hF.mono ?_
      clear hF
      rintro e w1 ⟨rfl, b1⟩
      have c' := (bel_cell b1 hbl 0).trans c
      have HB := hid (hb.bel b1)
      have hs1 := HS w1 b1
      clear HS hb
      go_wp2_with fail
      refine hs1.mono ?_
      clear hs1
      rintro e w2 ⟨rfl, ho', k'⟩
      have d := (HB.out.keep k' (.inr rfl)).cell
      have df := (HB.out.keep k' (.inr rfl)).frozen
      have HT := hid (Held.turn HB.out HX.out (fun j hj => Nat.lt_of_lt_of_le (HXl.out j hj) b1.size) k' ho' rfl)
      clear ho' k'
      go_wp2_with fail
      go_ret
      exact ⟨by rw [HH.out]; rfl, by show Held _ _ _ _ _ _ _ _; rw [hEl.out]; exact HT.out.1, (Keep.of_bel b1 HXl.out).tr HT.out.2⟩
  · have hf : M.has M.cfS L k = false := by simpa using hh
    have HH := hid hf
    have HM : Hid (∀ w1, Bel w w1 → MapS X w1 b (M.del M.cfS L k) ∧ Keep X w w1) := fun w1 b1 => by
      rw [M.del_none L k hf]
      exact ⟨Held.bel ⟨v, hb, hbx, ho, hob, hX⟩ b1, Keep.of_bel b1 hX⟩
    rw [hf] at hF
    clear hb ho hbx hX hh hf hu
    go_enter Try.func9, Try.ntmps9
    go_wp2_with fail
    refine hF.mono ?_
    clear hF
    rintro e w1 ⟨rfl, b1⟩
    go_wp2_with fail
    go_ret
    exact ⟨by rw [HH.out]; rfl, HM.out w1 b1⟩
theorem fromS (p : Option Addr) (k : List UInt8) (w : World) : Calls Try.prog 17 #[.pointer p, .string (M.bs k)] w fun e w' => e = .returned (.func (.func 38) #[] #[.pointer (some ⟨w.heap.size, 0, none⟩), .pointer (some ⟨w.heap.size + 1, 0, none⟩)]) ∧ (w.alloc (.cells #[.pointer p] 42)).alloc (.cells #[.string (M.bs k)] 9) = w' := by
  go_enter Try.func17, Try.ntmps17
  go_wp2_with fail
  go_ret
  exact ⟨rfl, rfl⟩
set_option maxHeartbeats 2000000 in
theorem fromcS (Z : Nat → Prop) (L : M.Ents (List UInt8)) (hu : M.Up M.cfS L) (k : List UInt8) (b B C : Nat) (w : World) (hL : L.length ≤ 1000) (hm : MapS Z w b L) (hB : Bx w B 42 (.pointer (some ⟨b, 0, none⟩))) (hC : Bx w C 9 (.string (M.bs k))) (g : Nat) (lb : Array Value) (J Jx : (Nat → Prop) → M.Ents (List UInt8) → World → Prop) (hA : Abides J) (hAx : Abides Jx)
    (hY : Yields g lb kvS (L.drop (M.pos M.cfS L k)) J Jx) (X : Nat → Prop) (h0 : J X [] w) :
    Calls Try.prog 38 #[.func (.func g) #[] lb, .pointer (some ⟨B, 0, none⟩), .pointer (some ⟨C, 0, none⟩)] w fun e w' => e = .returned (.tuple #[]) ∧ Keep X w w' ∧ Told (L.drop (M.pos M.cfS L k)) J Jx X w' := by
  have hF := findS Z L hu k b w hL hm
  have H := hid (fun w1 (b1 : Bel w w1) => tellFromS Z L b (M.pos M.cfS L k) w1 hL (M.pos_le (cf := M.cfS) L k) (Held.bel hm b1) g lb J Jx hA hAx hY X (hA.weak _ _ _ _ (hA.more _ _ _ _ h0 b1) (fun k h => .inl h)))
  have HX := hid (hA.lt _ _ _ h0)
  have c := hB.cell
  have d := hC.cell
  have hbl := hB.lt
  clear hY h0 hA hAx hm hu hB
  generalize M.pos M.cfS L k = q at *
  go_enter Try.func38, Try.ntmps38
  go_wp2_with fail
  refine hF.mono ?_
  clear hF
  rintro e w1 ⟨rfl, b1⟩
  have c' := (bel_cell b1 hbl 0).trans c
  have H1 := H.out w1 b1
  clear H
  go_wp2_with fail
  refine H1.mono ?_
  rintro e w2 ⟨rfl, k2, ht⟩
  go_wp2_with fail
  go_end0
  exact ⟨rfl, (Keep.of_bel b1 HX.out).tr k2, ht⟩
end Go.Proofs.Ytoelaemneoabfab
