/-
  The contract of the laws' 'speaks', walked.
-/
import Derived.Test.YtoelaemneoabfabV
namespace Go.Proofs.Ytoelaemneoabfab
open Go.RowKit

theorem lenS (X : Nat → Prop) (L : M.Ents (List UInt8)) (b : Nat) (w : World) (hm : MapS X w b L) :
    Calls Try.prog 14 #[.pointer (some ⟨b, 0, none⟩)] w fun e w' => e = .returned (.int .i64 (L.length : Nat)) ∧ w = w' := by
  obtain ⟨v, hb, _, ho, _⟩ := hm
  have c := hb.cell
  rcases rowS_of ho with ⟨rfl, rfl⟩ | ⟨g, cap, rfl, _⟩
  · clear ho hb
    go_enter Try.func14, Try.ntmps14
    go_wp2_with fail
    go_ret
    exact ⟨rfl, rfl⟩
  · clear ho hb
    go_enter Try.func14, Try.ntmps14
    go_wp2_with fail
    go_ret
    exact ⟨rfl, rfl⟩

def spJ (B : Nat) : (Nat → Prop) → List Int → World → Prop := fun X pre W => pre = [] ∧ (∃ u, Bx W B 3 (.int .i64 u)) ∧ ¬ X B ∧ ∀ k, X k → k < W.heap.size
def spX (B : Nat) : (Nat → Prop) → List Int → World → Prop := fun X pre W => (∃ x r, pre = [x] ++ r ∧ r = [] ∧ Bx W B 3 (.int .i64 x)) ∧ ¬ X B ∧ ∀ k, X k → k < W.heap.size
theorem spJ_abides (B : Nat) : Abides (spJ B) := by
  refine ⟨fun X pre W h => h.2.2.2, fun X pre W W' h b => ⟨h.1, ?_, ?_, ?_⟩, fun X Y pre W h hs => ⟨h.1, h.2.1, fun hy => h.2.2.1 (hs _ hy), fun k hk => h.2.2.2 k (hs k hk)⟩⟩
  · obtain ⟨u, hu⟩ := h.2.1; exact ⟨u, hu.bel b⟩
  · rintro (hx | ⟨hx, _⟩)
    · exact h.2.2.1 hx
    · obtain ⟨u, hu⟩ := h.2.1; have := hu.lt; omega
  · rintro k (hk | ⟨_, hk⟩)
    · have := h.2.2.2 k hk; have := b.size; omega
    · exact hk
theorem spX_abides (B : Nat) : Abides (spX B) := by
  refine ⟨fun X pre W h => h.2.2, fun X pre W W' h b => ⟨?_, ?_, ?_⟩, fun X Y pre W h hs => ⟨h.1, fun hy => h.2.1 (hs _ hy), fun k hk => h.2.2 k (hs k hk)⟩⟩
  · obtain ⟨x, r, h1, h2, hu⟩ := h.1; exact ⟨x, r, h1, h2, hu.bel b⟩
  · rintro (hx | ⟨hx, _⟩)
    · exact h.2.1 hx
    · obtain ⟨x, r, h1, h2, hu⟩ := h.1; have := hu.lt; omega
  · rintro k (hk | ⟨_, hk⟩)
    · have := h.2.2 k hk; have := b.size; omega
    · exact hk
set_option maxHeartbeats 400000 in
theorem sp_yields (B : Nat) (L : List Int) : Yields 30 #[.pointer (some ⟨B, 0, none⟩)] entN L (spJ B) (spX B) := by
  refine ⟨enters_of Try.func30 (by kernel_rfl) rfl, fun X pre x W hp hJ => ?_⟩
  obtain ⟨rfl, ⟨u, hu⟩, hB, hX⟩ := hJ
  have c := hu.cell
  have cf := hu.frozen
  have HF : Hid (spX B X ([] ++ [x]) (W.setCell ⟨B, 0, none⟩ (.int .i64 x)) ∧ Keep X W (W.setCell ⟨B, 0, none⟩ (.int .i64 x))) := by
    refine ⟨⟨⟨x, [], rfl, rfl, hu.set _⟩, hB, fun k hk => ?_⟩, (Keep.refl X W).set (p := ⟨B, 0, none⟩) hB _⟩
    have := hX k hk; simp [World.setCell]; omega
  clear hu hB hX hp
  unfold entN
  go_enter Try.func30, Try.ntmps30
  go_wp2_with fail
  go_ret
  exact ⟨HF.out.2, .inr ⟨rfl, HF.out.1⟩⟩
theorem eqIn_nilFunc (w : World) (d : Nat) (f : Fn) (a l : Array Value) : (Op.equalIn (d + 1) 54 (.func f a l) .nilFunc).run Try.prog w = .ok false w := by
  simp [Op.equalIn, run_underlying Try.underlying54]
theorem neq_nilFunc (w : World) (f : Fn) (a l : Array Value) : (binOp .eql 54 (.func f a l) .nilFunc).run Try.prog w = .ok (.bool false) w := by
  simp only [binOp]
  simp [Op.equal, Op.maxDepth, eqIn_nilFunc w 9999]
set_option maxHeartbeats 4000000 in
theorem speaks_any (w : World) : Calls Try.prog 7 #[] w fun e w' => e = .returned (.bool true) ∧ Bel w w' := by
  have q := neq_nilFunc
  go_enter Try.func7, Try.ntmps7
  go_wp2_with fail
  have h0 := Held.new 3 1 49 w
  refine (useN _ [] 1 w.heap.size _ (by simp) h0).mono ?_
  rintro e w1 ⟨rfl, h1, k1⟩
  go_wp2_with fail
  refine (useN _ _ 2 w.heap.size _ (by simp) h1).mono ?_
  rintro e w2 ⟨rfl, h2, k2⟩
  go_wp2_with fail
  refine (useN _ _ 1 w.heap.size _ (by simp) h2).mono ?_
  rintro e w3 ⟨rfl, h3, k3⟩
  have e3 : (([] : List Int).erase 1 ++ [1]).erase 2 ++ [2] = [1, 2] := by decide
  rw [e3] at h3
  have e4 : ([1, 2] : List Int).erase 1 ++ [1] = [2, 1] := by decide
  rw [e4] at h3
  have K3 := hid ((((Keep.refl _ w).al (fun k h => h) _).tr (k1.tr (k2.tr k3))))
  have H3 := hid h3
  clear h0 h1 h2 h3 k1 k2 k3 e3 e4
  go_wp2_with fail
  refine (oldestN _ _).mono ?_
  rintro e w4 ⟨rfl, rfl⟩
  go_wp2_with fail
  have hb3 : w.heap.size < w3.heap.size := by
    obtain ⟨v, hb, _⟩ := H3.out
    exact hb.lt
  have bB : Bel w3 ((w3.alloc (.cells #[.int .i64 0] 3)).alloc (.cells #[.pointer (some ⟨w.heap.size, 0, none⟩)] 74)) := Bel.al (Bel.al (Below.refl _ _) _) _
  have hB1 : Bx ((w3.alloc (.cells #[.int .i64 0] 3)).alloc (.cells #[.pointer (some ⟨w.heap.size, 0, none⟩)] 74)) w3.heap.size 3 (.int .i64 0) := (Bx.new _ _ _).al _
  have hB2 : Bx ((w3.alloc (.cells #[.int .i64 0] 3)).alloc (.cells #[.pointer (some ⟨w.heap.size, 0, none⟩)] 74)) (w3.heap.size + 1) 74 (.pointer (some ⟨w.heap.size, 0, none⟩)) := by
    have := Bx.new (w3.alloc (.cells #[.int .i64 0] 3)) 74 (.pointer (some ⟨w.heap.size, 0, none⟩))
    simpa using this
  have HO := hid (oldestcN (fun k => k < w.heap.size) [2, 1] w.heap.size (w3.heap.size + 1) _ (by simp) (H3.out.bel bB) hB2 30 #[.pointer (some ⟨w3.heap.size, 0, none⟩)] (spJ w3.heap.size) (spX w3.heap.size) (spJ_abides _) (spX_abides _) (sp_yields _ _) (fun k => k < w3.heap.size)
    ⟨rfl, ⟨0, hB1⟩, by simp, fun k hk => by simp; omega⟩)
  refine HO.out.mono ?_
  clear HO
  rintro e w5 ⟨rfl, k5, h5⟩
  have hX : Hid (Bx w5 w3.heap.size 3 (.int .i64 2)) := by
    rcases h5 with h5 | ⟨pre, hp, ⟨⟨x, r, rfl, rfl, hx⟩, _⟩⟩
    · have := h5.1; cases this
    · obtain ⟨t, ht⟩ := hp
      simp at ht
      rw [ht.1] at hx
      exact hx
  have H5 : Hid (Rec (fun k => k < w.heap.size) w5 w.heap.size [2, 1]) := by
    refine Held.keep (Y := fun k => k < w3.heap.size) (H3.out.bel bB) k5 hb3 (fun v hv g hg => ?_)
    obtain ⟨v', hb', _, ho, _⟩ := H3.out
    have := hv.symm.trans (hb'.bel bB)
    injection this with this
    injection this with this
    simp at this
    subst this
    exact (ho.1.lt g hg).2
  have K5 : Hid (Keep (fun k => k < w.heap.size) w w5) := (K3.out.tr ((Keep.of_bel bB (fun k h => h)).weak (fun k (h : k < w.heap.size) => by show k < w3.heap.size; omega))).tr (k5.weak (fun k (h : k < w.heap.size) => by show k < w3.heap.size; omega))
  clear h5 k5 hB1 hB2 bB K3 H3
  go_wp2_with fail
  have h6 := Held.new 70 2 26 w5
  refine (setS _ [] (by simp [M.Up]) [97] 1 w5.heap.size _ (by simp) h6).mono ?_
  rintro e w6 ⟨rfl, h7, k7⟩
  have e7 : M.set M.cfS [] [97] 1 = [([97], 1)] := rfl
  rw [e7] at h7
  have H7 := hid h7
  have hX7 : Hid (Bx w6 w3.heap.size 3 (.int .i64 2)) := (hX.out.al _).keep k7 hX.out.lt
  have b7 : Hid (Bel w5 w6) := ((Keep.refl _ _).al (fun k h => h) _).tr k7 |>.below
  have H57 : Hid (Rec (fun k => k < w.heap.size) w6 w.heap.size [2, 1]) := H5.out.bel b7.out
  have K7 : Hid (Keep (fun k => k < w.heap.size) w w6) := K5.out.tr ((Keep.of_bel b7.out (fun k h => h)).weak (fun k (h : k < w.heap.size) => by
    show k < w5.heap.size
    have := K5.out.size
    omega))
  clear h6 h7 e7 k7 K5 H5 hX
  go_wp2_with fail
  refine (getS _ _ (by simp [M.Up]) [97] w5.heap.size _ (by simp) H7.out).mono ?_
  rintro e w8 ⟨rfl, b8⟩
  have H8 := hid (H7.out.bel b8)
  have hX8 := hid (hX7.out.bel b8)
  have hc8 := hX8.out.cell
  have H58 := hid (H57.out.bel b8)
  have hg : M.get M.cfS [([97], 1)] [97] = 1 := by decide +kernel
  have hh : M.has M.cfS [([97], 1)] [97] = true := by decide +kernel
  have K8 : Hid (Keep (fun k => k < w.heap.size) w w8) := K7.out.tr ((Keep.of_bel b8 (fun k h => h)).weak (fun k (h : k < w.heap.size) => by
    show k < w6.heap.size
    have := K7.out.size
    omega))
  clear b8
  go_wp2_with fail
  refine (lenN _ _ _ _ H58.out).mono ?_
  rintro e w9 ⟨rfl, rfl⟩
  go_wp2_with fail
  refine (lenS _ _ _ _ H8.out).mono ?_
  rintro e w9 ⟨rfl, rfl⟩
  go_wp2_with fail
  go_ret
  exact ⟨rfl, K8.out.below⟩
end Go.Proofs.Ytoelaemneoabfab
