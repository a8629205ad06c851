/-
  The example of layer 13 (speaks), walked.
-/
import Derived.Test.YtcmplklefeicbaaT
namespace Go.Proofs.Ytcmplklefeicbaa.M
def spk (i : Nat) : List UInt8 := ([[99], [97], [100], [98]] : List (List UInt8))[i]?.getD []
def sp : Nat → Pg
  | 0 => ⟨0, 3, 0, 0, [], []⟩
  | i + 1 => insP (sp i) (spk i, [], false)
theorem sp_ok (i : Nat) (h : i < 4) : insE (sp i) (spk i, [], false) = 0 := by
  match i, h with
  | 0, _ => decide +kernel
  | 1, _ => decide +kernel
  | 2, _ => decide +kernel
  | 3, _ => decide +kernel
def upB : List En → Bool
  | [] => true
  | e :: r => r.all (fun f => ltS e.1 f.1) && upB r
theorem up_of : ∀ (L : List En), upB L = true → Up cfS L
  | [], _ => List.Pairwise.nil
  | e :: r, h => by
    simp only [upB, Bool.and_eq_true, List.all_eq_true] at h
    exact List.Pairwise.cons (fun f hf => (cfS_lt _ _).2 (h.1 f hf)) (up_of r h.2)
theorem sp_es (i : Nat) (h : i ≤ 4) : upB (sp i).es = true ∧ (sp i).es.length = i ∧ (sp i).high = [] ∧ (sp i).kind = 3 ∧ (sp i).level = 0 := by
  match i, h with
  | 0, _ => decide +kernel
  | 1, _ => decide +kernel
  | 2, _ => decide +kernel
  | 3, _ => decide +kernel
  | 4, _ => decide +kernel
theorem sp_small (i : Nat) (h : i ≤ 4) : ((sp i).es.all fun e => decide (e.1.length ≤ 1000) && decide (e.2.1.length ≤ 1000)) = true := by
  match i, h with
  | 0, _ => decide +kernel
  | 1, _ => decide +kernel
  | 2, _ => decide +kernel
  | 3, _ => decide +kernel
  | 4, _ => decide +kernel
theorem sp_cut (m : Nat) (hm : m ≤ (sp 4).es.length) (h1 : ∀ j, j < m → szs ((sp 4).es.take j) < szs ((sp 4).es.drop j)) (h2 : szs ((sp 4).es.drop m) ≤ szs ((sp 4).es.take m)) : m = 2 := by
  have hl := (sp_es 4 (by omega)).2.1
  rw [hl] at hm
  match m, hm with
  | 0, _ => exact absurd h2 (by decide +kernel)
  | 1, _ => exact absurd h2 (by decide +kernel)
  | 2, _ => rfl
  | 3, _ => exact absurd (h1 2 (by omega)) (by decide +kernel)
  | 4, _ => exact absurd (h1 2 (by omega)) (by decide +kernel)
end Go.Proofs.Ytcmplklefeicbaa.M
namespace Go.Proofs.Ytcmplklefeicbaa
open Go.RowKit
set_option maxRecDepth 100000

theorem sp_sm (i : Nat) (h : i ≤ 4) : Sm (M.sp i) := by
  obtain ⟨_, h2, h3, _⟩ := M.sp_es i h
  refine ⟨by rw [h3]; simp, by omega, fun e he => ?_⟩
  have := List.all_eq_true.1 (M.sp_small i h) e he
  simpa using this
/-- The example, i entries put in. -/
structure SPk (w wr : World) (p : M.Pg) (x : Value) : Prop where
  b0 : Blk wr w.heap.size #[.int .i64 p.lsn, .int .i64 p.kind, .int .i64 p.level, .int .i64 p.right, .string (M.bs p.high), x] 30
  b1 : Blk wr (w.heap.size + 1) #[.string (M.bs (M.spk 0)), .string (M.bs (M.spk 1)), .string (M.bs (M.spk 2)), .string (M.bs (M.spk 3))] 9
  own : wr.ownsRow (w.heap.size + 1 + 1) 40 3 x p.es.length (csE p.es)
  below : Bel w wr
theorem SPk.bel {w wr wr' : World} {p : M.Pg} {x : Value} (h : SPk w wr p x) (k : Bel wr wr') : SPk w wr' p x :=
  ⟨h.b0.below k h.b0.lt, h.b1.below k h.b1.lt, own_bel h.own k, h.below.tr k⟩
theorem SPk.start (w : World) : SPk w ((w.alloc (.cells #[.int .i64 0, .int .i64 3, .int .i64 0, .int .i64 0, .string ⟨#[]⟩, .slice none 0 0] 30)).alloc (.cells #[.string ⟨#[99]⟩, .string ⟨#[97]⟩, .string ⟨#[100]⟩, .string ⟨#[98]⟩] 9)) (M.sp 0) (.slice none 0 0) := by
  obtain ⟨h1, h2⟩ := heap_two w (.cells #[.int .i64 0, .int .i64 3, .int .i64 0, .int .i64 0, .string ⟨#[]⟩, .slice none 0 0] 30) (.cells #[.string ⟨#[99]⟩, .string ⟨#[97]⟩, .string ⟨#[100]⟩, .string ⟨#[98]⟩] 9)
  exact ⟨h1, h2, World.ownsRow_nil _ _ _ _, Bel.al (Bel.al (Below.refl _ _) _) _⟩
theorem SPk.key {w wr : World} {p : M.Pg} {x : Value} (h : SPk w wr p x) (i : Nat) (hi : i < 4) : wr.cell? ⟨w.heap.size + 1, i, none⟩ = some (.string (M.bs (M.spk i))) := by
  rw [h.b1.cell]
  match i, hi with
  | 0, _ => rfl
  | 1, _ => rfl
  | 2, _ => rfl
  | 3, _ => rfl
set_option maxHeartbeats 8000000 in
theorem speaks_any (w : World) : Calls Try.prog 8 #[] w fun e w' => e = .returned (.bool true) ∧ Bel w w' := by
  have HS0 := hid (SPk.start w)
  go_enter Try.func8, Try.ntmps8
  go_wp2_with fail
  go_loopw [12] (fun iv wr => ∃ (i : Nat) (p : M.Pg) (a : Option Addr) (c : Nat), i ≤ 4 ∧ iv = .int .i64 i ∧ Hid (p = M.sp i) ∧ Hid (SPk w wr p (.slice a p.es.length c))) (fun iv _ => 4 - (intOf iv).toNat)
  case atStart => exact ⟨0, M.sp 0, none, 0, by omega, rfl, rfl, HS0⟩
  case round =>
    obtain ⟨i, p, a, c, hi, rfl, hp, HI⟩ := hrel
    by_cases hlt : i < 4
    · have hil : (i : Int) < 4 := by omega
      have k0 := HI.out.key i hlt
      obtain ⟨t0, t1, t2, t3, t4, t5⟩ := blk_cells HI.out.b0
      have hins := insert_any p (.slice a p.es.length c) (M.spk i, [], false) wr (by rw [hp.out]; exact sp_sm i (by omega)) (own_vs HI.out.own) (by rw [hp.out]; exact M.up_of _ (M.sp_es i (by omega)).1) (by rw [M.spk]; match i, hlt with | 0, _ => decide | 1, _ => decide | 2, _ => decide | 3, _ => decide) (by simp)
      have hE : M.insE p (M.spk i, [], false) = 0 := by rw [hp.out]; exact M.sp_ok i hlt
      have hP : M.insP p (M.spk i, [], false) = M.sp (i + 1) := by rw [hp.out]; rfl
      rw [hE, hP] at hins
      have HINS := hid hins
      have hp' := hid (show M.sp (i + 1) = M.sp (i + 1) from rfl)
      clear hins hE hP
      generalize M.spk i = kk at *
      generalize hq : M.sp (i + 1) = q at *
      have HQ := hid hq
      clear hq
      go_wp2_with (go_at_call 11; refine HINS.out.mono ?_; rintro e w2 ⟨x2, rfl, o2, k2⟩; obtain ⟨a2, c2, rfl⟩ := row_form o2; have I3 := hid ((HI.out.bel k2).bel (Bel.al (Below.refl _ _) (.cells #[.int .i64 q.lsn, .int .i64 q.kind, .int .i64 q.level, .int .i64 q.right, .string (M.bs q.high), .slice a2 q.es.length c2] 30))); have O3 := hid (own_bel o2 (Bel.al (Below.refl _ _) (.cells #[.int .i64 q.lsn, .int .i64 q.kind, .int .i64 q.level, .int .i64 q.right, .string (M.bs q.high), .slice a2 q.es.length c2] 30))); have Z2 := hid HI.out.b1.lt; clear o2 k2 t0 t1 t2 t3 t4 t5; obtain ⟨t0, t1, t2, t3, t4, t5⟩ := blk_cells I3.out.b0; have f0 := I3.out.b0.frozen 0; have f1 := I3.out.b0.frozen 1; have f2 := I3.out.b0.frozen 2; have f3 := I3.out.b0.frozen 3; have f4 := I3.out.b0.frozen 4; have f5 := I3.out.b0.frozen 5)
      have NXT : Hid (SPk w (((((((w2.alloc (.cells #[.int .i64 q.lsn, .int .i64 q.kind, .int .i64 q.level, .int .i64 q.right, .string (M.bs q.high), .slice a2 q.es.length c2] 30)).setCell ⟨w.heap.size, 0, none⟩ (.int .i64 q.lsn)).setCell ⟨w.heap.size, 1, none⟩ (.int .i64 q.kind)).setCell ⟨w.heap.size, 2, none⟩ (.int .i64 q.level)).setCell ⟨w.heap.size, 3, none⟩ (.int .i64 q.right)).setCell ⟨w.heap.size, 4, none⟩ (.string (M.bs q.high))).setCell ⟨w.heap.size, 5, none⟩ (.slice a2 q.es.length c2)) q (.slice a2 q.es.length c2)) :=
        ⟨set6 I3.out.b0 (.int .i64 q.lsn) (.int .i64 q.kind) (.int .i64 q.level) (.int .i64 q.right) (.string (M.bs q.high)) (.slice a2 q.es.length c2), other6 I3.out.b1 (show w.heap.size + 1 ≠ w.heap.size by omega) (.int .i64 q.lsn) (.int .i64 q.kind) (.int .i64 q.level) (.int .i64 q.right) (.string (M.bs q.high)) (.slice a2 q.es.length c2), own_base (ownc6 O3.out (row_ne O3.out I3.out.b0 (by decide)) (.int .i64 q.lsn) (.int .i64 q.kind) (.int .i64 q.level) (.int .i64 q.right) (.string (M.bs q.high)) (.slice a2 q.es.length c2)) (by have := Z2.out; omega), bel6 I3.out.below (Nat.le_refl _) (.int .i64 q.lsn) (.int .i64 q.kind) (.int .i64 q.level) (.int .i64 q.right) (.string (M.bs q.high)) (.slice a2 q.es.length c2)⟩
      clear I3 O3 t0 t1 t2 t3 t4 t5 f0 f1 f2 f3 f4 f5
      generalize (((((((w2.alloc (.cells #[.int .i64 q.lsn, .int .i64 q.kind, .int .i64 q.level, .int .i64 q.right, .string (M.bs q.high), .slice a2 q.es.length c2] 30)).setCell ⟨w.heap.size, 0, none⟩ (.int .i64 q.lsn)).setCell ⟨w.heap.size, 1, none⟩ (.int .i64 q.kind)).setCell ⟨w.heap.size, 2, none⟩ (.int .i64 q.level)).setCell ⟨w.heap.size, 3, none⟩ (.int .i64 q.right)).setCell ⟨w.heap.size, 4, none⟩ (.string (M.bs q.high))).setCell ⟨w.heap.size, 5, none⟩ (.slice a2 q.es.length c2)) = w3 at *
      go_roundw
      case rel => exact ⟨i + 1, q, a2, c2, by omega, by go_num, hid HQ.out.symm, NXT⟩
      case measure => simp [intOf]; omega
    · obtain rfl : i = 4 := by omega
      have hil : ¬ ((4 : Nat) : Int) < 4 := by omega
      obtain ⟨t0, t1, t2, t3, t4, t5⟩ := blk_cells HI.out.b0
      have hsp := M.sp_es 4 (by omega)
      have hsm := sp_sm 4 (by omega)
      have hcut := M.sp_cut
      rw [← hp.out] at hsp hsm hcut
      obtain ⟨b, off, hab, hcap, hblt, hrow⟩ : ∃ b off, a = some ⟨b, off, none⟩ ∧ p.es.length ≤ c ∧ b < wr.heap.size ∧ Row3 wr b off p.es := by
        rcases own_vs HI.out.own with ⟨h, h0⟩ | ⟨b, off, cap, h, h1, h2, h3⟩
        · have := hsp.2.1; rw [h0] at this; simp at this
        · cases h; exact ⟨b, off, rfl, h1, h2, h3⟩
      subst hab
      have h99 : M.bs (p.es[2]?.getD ([], [], false)).1 = ⟨#[99]⟩ := by rw [hp.out]; decide +kernel
      have hcov : M.rises [99] (p.es.take 2) = true := by rw [hp.out]; decide +kernel
      have hsm1 : Sm { p with es := p.es.take 2, high := [99], right := 7 } := ⟨by simp, by have := hsp.2.1; simp; omega, fun e he => hsm.each e (List.mem_of_mem_take he)⟩
      have hl2 : (p.es.take 2).length = 2 := by rw [List.length_take, hsp.2.1]; rfl
      have HRT : Hid (∀ (W : World) (a1 : Option Addr) (c1 : Nat), Vs W (.slice a1 2 c1) (p.es.take 2) → Calls Try.prog 20 #[.agg #[.int .i64 p.lsn, .int .i64 p.kind, .int .i64 p.level, .int .i64 7, .string ⟨#[99]⟩, .slice a1 2 c1]] W fun e w' => e = .returned (.bool true) ∧ Bel W w') := fun W a1 c1 hv => by
        have := right_leaf { p with es := p.es.take 2, high := [99], right := 7 } (.slice a1 2 c1) W hsm1 hv hsp.2.2.2.1 (by show p.level ≤ 0; rw [hsp.2.2.2.2]; omega)
        rwa [hcov] at this
      have HS2 : Hid (Calls Try.prog 18 #[pv p (.slice (some ⟨b, off, none⟩) p.es.length c), .int .i64 7] wr fun e w' => ∃ a1 c1 a2 c2, e = .returned (.tuple #[.agg #[.int .i64 p.lsn, .int .i64 p.kind, .int .i64 p.level, .int .i64 7, .string ⟨#[99]⟩, .slice a1 2 c1], .agg #[.int .i64 p.lsn, .int .i64 p.kind, .int .i64 p.level, .int .i64 p.right, .string (M.bs p.high), .slice a2 2 c2], .int .i64 0]) ∧ w'.ownsRow wr.heap.size 40 3 (.slice a1 2 c1) 2 (csE (p.es.take 2)) ∧ Bel wr w') := (split_yes p b off c 7 wr hsm hcap hblt hrow (by rw [hsp.2.1]; omega) (by omega) (by omega)).mono (by
        rintro e w' ⟨i, hin, ⟨m, q1, q2, q3, q4⟩, x1, x2, rfl, o1, o2, k⟩
        have hm2 := hcut m q1 q2 q3
        obtain rfl : i = 2 := by have := hsp.2.1; omega
        have e4 : p.es.length - 2 = 2 := by rw [hsp.2.1]
        rw [e4] at o2
        obtain ⟨a1, c1, rfl⟩ := row_form o1
        obtain ⟨a2, c2, rfl⟩ := row_form o2
        exact ⟨a1, c1, a2, c2, by show Ending.returned (.tuple #[.agg #[_, _, _, _, .string (M.bs (p.es[2]?.getD ([], [], false)).1), _], _, _]) = _; rw [h99], o1, k⟩)
      have HLINK := hid (fun W => link_yes 258 W (by omega) (by omega))
      have h258 : M.bs (M.putL 2 258) = ⟨#[1, 2]⟩ := by decide +kernel
      rw [h258] at HLINK
      have hkind : p.kind = 3 := hsp.2.2.2.1
      have HL2 := hid hl2
      clear hcut hsp hsm hrow hcap hblt hkind hsm1 hl2 h99 hcov h258
      go_wp2_with (first
        | (go_at_call 18; refine HS2.out.mono ?_; rintro e w2 ⟨a1, c1, a2, c2, rfl, o1, k2⟩; have KB := hid (HI.out.below.tr k2); have HV : Hid (∀ W, Bel w2 W → Vs W (.slice a1 2 c1) (p.es.take 2)) := (fun W hW => (own_vs (by rw [HL2.out]; exact o1)).bel hW); clear o1 k2)
        | (go_at_call 20; refine (HRT.out _ a1 c1 (HV.out _ (Bel.al (Bel.al (Below.refl _ _) _) _))).mono ?_; rintro e w3 ⟨rfl, k3⟩; have KC := hid (KB.out.tr ((Bel.al (Bel.al (Below.refl _ _) _) _).tr k3)); clear k3)
        | (go_at_call 25; refine (HLINK.out _).mono ?_; rintro e w4 ⟨rfl, k4⟩))
      go_ret
      exact ⟨rfl, KC.out.tr k4⟩
end Go.Proofs.Ytcmplklefeicbaa
