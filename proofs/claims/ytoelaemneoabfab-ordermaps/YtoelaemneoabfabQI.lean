/-
  The contract of the law's own 'told', walked.
-/
import Derived.Test.YtoelaemneoabfabQH
namespace Go.Proofs.Ytoelaemneoabfab
open Go.RowKit
set_option maxRecDepth 100000

/-- A function that tells D, whatever has been made since w. -/
def Ranges (f : Nat) (lb : Array Value) (D : M.Ents Tx) (w : World) : Prop :=
  (∀ args w, (callFunc f args).run Try.prog w = .ok (.enter f args) w) ∧
  ∀ W, Bel w W → ∀ g lb' J Jx, Abides J → Abides Jx → Yields g lb' kvS D J Jx → ∀ X, J X [] W →
    Calls Try.prog f (#[.func (.func g) #[] lb'] ++ lb) W fun e w' => e = .returned (.tuple #[]) ∧ Keep X W w' ∧ Told D J Jx X w'
theorem bx_at {W : World} {n : Nat} (t : TypeId) (v : Value) (h : W.heap.size = n) : Bx (W.alloc (.cells #[v] t)) n t v := by subst h; exact Bx.new W t v
set_option maxHeartbeats 4000000 in
theorem told_any (X : Nat → Prop) (E : M.Ents Tx) (R : M.Rm) (hR : M.Rel E R) (hE : E.length ≤ 900) (k : Tx) (b f : Nat) (lb : Array Value) (kv vv : Value) (w : World) (hm : MapS X w b E) (hs : ShowM w kv vv R)
    (hX : ∀ a n c, (kv = .slice (some a) n c ∨ vv = .slice (some a) n c) → X a.block) (hF : Ranges f lb (E.drop (M.pos M.cfS E k)) w) :
    Calls Try.prog 15 #[.pointer (some ⟨b, 0, none⟩), .func (.func f) #[] lb, .agg #[kv, vv], .string (M.bs k)] w fun e w' => e = .returned (.bool true) ∧ Keep X w w' ∧ MapS X w' b E := by
  have hRl : R.length ≤ 1000 := by have := hR.length; omega
  have HFR := fun W h => rfromS R k kv vv W hRl h
  rw [hR.from_ k] at HFR
  have hD : ∀ e ∈ E.drop (M.pos M.cfS E k), e ∈ E := fun e he => List.mem_of_mem_drop he
  have hDl : (E.drop (M.pos M.cfS E k)).length ≤ 1000 := by rw [List.length_drop]; omega
  generalize E.drop (M.pos M.cfS E k) = D at *
  have b2 : Bel w ((w.alloc (.cells #[.pointer (some ⟨b, 0, none⟩)] 42)).alloc (.cells #[kv, vv] 30)) := Bel.al (Bel.al (Below.refl _ _) _) _
  have g0 : Bx ((w.alloc (.cells #[.pointer (some ⟨b, 0, none⟩)] 42)).alloc (.cells #[kv, vv] 30)) w.heap.size 42 (.pointer (some ⟨b, 0, none⟩)) := (Bx.new w 42 _).al _
  have g1 : C2 ((w.alloc (.cells #[.pointer (some ⟨b, 0, none⟩)] 42)).alloc (.cells #[kv, vv] 30)) (w.heap.size + 1) kv vv := by
    have := heap_alloc_new (w.alloc (.cells #[.pointer (some ⟨b, 0, none⟩)] 42)) (.cells #[kv, vv] 30)
    rw [World.size_alloc] at this
    exact this
  have hz2 : ((w.alloc (.cells #[.pointer (some ⟨b, 0, none⟩)] 42)).alloc (.cells #[kv, vv] 30)).heap.size = w.heap.size + 1 + 1 := by simp
  have c0 := cell_of (i := 0) g1 rfl
  have c1 := cell_of (i := 1) g1 rfl
  go_enter Try.func15, Try.ntmps15
  go_wp2_with fail
  generalize (w.alloc (.cells #[.pointer (some ⟨b, 0, none⟩)] 42)).alloc (.cells #[kv, vv] 30) = W2 at *
  refine (HFR _ (hs.bel b2)).mono ?_
  clear HFR
  rintro e w3 ⟨wx, rfl, hown, b3⟩
  rw [hz2] at hown
  have hz3 := b3.size
  have hlm : (D.map (·.1)).length = D.length := by simp
  rw [hlm] at hown
  obtain ⟨ax, cx, rfl⟩ := row_form hown
  have b4 : Bel w3 (((w3.alloc (.cells #[.slice ax D.length cx] 27)).alloc (.cells #[.int .i64 0] 3)).alloc (.cells #[.bool true] 4)) := Bel.al (Bel.al (Bel.al (Below.refl _ _) _) _) _
  have x0 : Bx (((w3.alloc (.cells #[.slice ax D.length cx] 27)).alloc (.cells #[.int .i64 0] 3)).alloc (.cells #[.bool true] 4)) w3.heap.size 27 (.slice ax D.length cx) := ((Bx.new w3 27 _).al _).al _
  have x1 : Bx (((w3.alloc (.cells #[.slice ax D.length cx] 27)).alloc (.cells #[.int .i64 0] 3)).alloc (.cells #[.bool true] 4)) (w3.heap.size + 1) 3 (.int .i64 0) := (bx_at 3 _ (by simp)).al _
  have x2 : Bx (((w3.alloc (.cells #[.slice ax D.length cx] 27)).alloc (.cells #[.int .i64 0] 3)).alloc (.cells #[.bool true] 4)) (w3.heap.size + 1 + 1) 4 (.bool true) := bx_at 4 _ (by simp)
  have hz4 : (((w3.alloc (.cells #[.slice ax D.length cx] 27)).alloc (.cells #[.int .i64 0] 3)).alloc (.cells #[.bool true] 4)).heap.size = w3.heap.size + 1 + 1 + 1 := by simp
  have hfe := hF.1
  have HF := hid hF.2
  clear hF
  go_wp2_with fail
  generalize ((w3.alloc (.cells #[.slice ax D.length cx] 27)).alloc (.cells #[.int .i64 0] 3)).alloc (.cells #[.bool true] 4) = W4 at *
  have bb4 : Bel w W4 := (b2.tr b3).tr b4
  have hXl : ∀ j, X j → j < w.heap.size := hm.lt
  obtain ⟨S, hS⟩ : ∃ S : Sites, S = ⟨b, w3.heap.size + 1, w3.heap.size, w3.heap.size + 1 + 1, w.heap.size + 1, w.heap.size, kv, vv, .slice ax D.length cx, More X w W4⟩ := ⟨_, rfl⟩
  have ok : S.ok := by
    subst hS
    have hnew : ∀ j, w.heap.size ≤ j → j < w3.heap.size + 1 + 1 + 1 → More X w W4 j := fun j h1 h2 => .inr ⟨h1, by omega⟩
    have hrow : ∀ a n c, (kv = .slice (some a) n c ∨ vv = .slice (some a) n c) → More X w W4 a.block ∧ a.block ≠ w3.heap.size + 1 ∧ a.block ≠ w3.heap.size + 1 + 1 := fun a n c h => by
      have h1 := hX a n c h
      have h2 := hXl _ h1
      exact ⟨.inl h1, by omega, by omega⟩
    refine ⟨hnew _ (by simp only; omega) (by simp only; omega), hnew _ (by simp only; omega) (by simp only; omega), hnew _ (by simp only; omega) (by simp only; omega), hnew _ (by simp only; omega) (by simp only; omega), hnew _ (by simp only; omega) (by simp only; omega), ?_, fun a n c h => hrow a n c (.inl h), fun a n c h => hrow a n c (.inr h), by simp only; omega, by simp only; omega, by simp only; omega⟩
    intro a n c h
    simp only at h
    have := World.ownsRow.lt hown a.block (by rw [h]; rfl)
    exact ⟨hnew _ (by omega) (by omega), by simp only; omega, by simp only; omega⟩
  have T0 : TO S E R D X 0 W4 := by
    have hrw : ShowsT W4 (.slice ax D.length cx) (D.map (·.1)) := by
      have h1 : W4.ownsRow (w.heap.size + 1 + 1) 9 1 (.slice ax D.length cx) (D.map (·.1)).length (csT (D.map (·.1))) := by rw [hlm]; exact own_kept hown b4
      rcases own_rowT h1 with ⟨h2, h3⟩ | ⟨g, cap, h2, _, h3⟩
      · exact ⟨none, 0, by rw [h2, h3]; rfl, .inl h3⟩
      · exact ⟨_, cap, h2, .inr ⟨g, 0, rfl, h3⟩⟩
    subst hS
    refine ⟨x1, x0, x2, (g1.bel b3).bel b4, (g0.bel b3).bel b4, hrw, hs.bel bb4, (hm.more bb4).weak ?_, fun h => ?_, fun h => ?_⟩
    · rintro j (h | h)
      · exact .inl h
      · exact h
    · have := hXl _ h; simp only at this; omega
    · have := hXl _ h; simp only at this; omega
  have hY := to_yields S ok E R D hR hE hD hDl
  have hc := HF.out W4 bb4 35 _ _ _ (toJ_abides S E R D) noneT_abides hY X T0
  have HK := hid (Keep.of_bel bb4 hXl)
  clear HF hY T0 hown x0 x1 x2 g0 g1 c0 c1 hm hs
  subst hS
  refine hc.mono ?_
  clear hc
  rintro e w5 ⟨rfl, k5, ht⟩
  have T5 : TO _ E R D X D.length w5 := ht.resolve_right (fun h => h.elim fun _ h => h.2.elim)
  have c5 := T5.right.cell
  have d5 := T5.at'.cell
  have e5 := T5.want.cell
  have M5 := hid (show MapS X w5 b E from T5.map.weak (fun j hj => .inl hj))
  have K5 := hid (HK.out.tr k5)
  clear T5 ht k5 HK ok
  go_wp2_with fail
  go_ret
  exact ⟨by simp, K5.out, M5.out⟩
end Go.Proofs.Ytoelaemneoabfab
