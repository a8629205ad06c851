/-
  The law OrderNumbers, walked.
-/
import Derived.Test.YtoelaemneoabfabS
namespace Go.Proofs.Ytoelaemneoabfab
open Go.RowKit

/-- The map behind k rounds of Set(l[i], i). -/
def bldN (L : List Int) : Nat → M.Ents Int
  | 0 => []
  | k + 1 => if h : k < L.length then M.set M.cfI (bldN L k) L[k] k else bldN L k
theorem bldN_up (L : List Int) : ∀ k, M.Up M.cfI (bldN L k)
  | 0 => List.Pairwise.nil
  | k + 1 => by
    unfold bldN
    split
    · exact M.up_set M.ordI _ (bldN_up L k) _ _
    · exact bldN_up L k
theorem bldN_length (L : List Int) : ∀ k, (bldN L k).length ≤ k
  | 0 => Nat.le_refl _
  | k + 1 => by
    have := bldN_length L k
    unfold bldN
    split
    · rw [M.set_length]; split <;> omega
    · omega
theorem bldN_mem (L : List Int) : ∀ k (e : Int × Int), e ∈ bldN L k → ∃ j, ∃ h : j < L.length, j < k ∧ e.2 = j ∧ e.1 = L[j]
  | 0, e, h => by cases h
  | k + 1, e, h => by
    unfold bldN at h
    split at h
    · rename_i hk
      rcases (M.mem_set M.ordI _ (bldN_up L k) _ _ _).1 h with rfl | ⟨h, _⟩
      · exact ⟨k, hk, by omega, rfl, rfl⟩
      · obtain ⟨j, hj, h1, h2, h3⟩ := bldN_mem L k e h
        exact ⟨j, hj, by omega, h2, h3⟩
    · obtain ⟨j, hj, h1, h2, h3⟩ := bldN_mem L k e h
      exact ⟨j, hj, by omega, h2, h3⟩
theorem bldN_stop (L : List Int) (k : Nat) (h : L.length ≤ k) : ∀ d, bldN L (k + d) = bldN L k
  | 0 => rfl
  | d + 1 => by
    show bldN L ((k + d) + 1) = _
    conv => lhs; unfold bldN
    rw [dif_neg (by omega)]
    exact bldN_stop L k h d
theorem bldN_end (L : List Int) (k : Nat) (h : k ≤ 60) (hk : L.length ≤ k ∨ k = 60) : bldN L k = bldN L 60 := by
  rcases hk with hk | rfl
  · rw [show 60 = k + (60 - k) by omega]; exact (bldN_stop L k hk _).symm
  · rfl
/-- All of these are keys. -/
def Keys (L : List Int) (k : Nat) (E : M.Ents Int) : Prop := ∀ j (h : j < L.length), j < k → ∃ v, (L[j], v) ∈ E
theorem Keys.set {L : List Int} {k : Nat} {E : M.Ents Int} (h : Keys L k E) (hu : M.Up M.cfI E) (y v : Int) : Keys L k (M.set M.cfI E y v) := fun j hj hjk => by
  by_cases e : L[j] = y
  · exact ⟨v, (M.mem_set M.ordI _ hu _ _ _).2 (.inl (by rw [e]))⟩
  · obtain ⟨u, hu'⟩ := h j hj hjk
    exact ⟨u, (M.mem_set M.ordI _ hu _ _ _).2 (.inr ⟨hu', e⟩)⟩
theorem bldN_keys (L : List Int) : ∀ k, Keys L k (bldN L k)
  | 0, j, hj, h => by omega
  | k + 1, j, hj, h => by
    unfold bldN
    split
    · rename_i hk
      by_cases e : j = k
      · subst e
        exact ⟨_, (M.mem_set M.ordI _ (bldN_up L j) _ _ _).2 (.inl rfl)⟩
      · exact (bldN_keys L k).set (bldN_up L k) _ _ j hj (by omega)
    · exact bldN_keys L k j hj (by omega)

/-- What a slice value shows; its memory is of the blocks below b. -/
def ShowsB (b : Nat) (w : World) (v : Value) (L : List Int) : Prop := ∃ a cap, v = .slice a L.length cap ∧ (L = [] ∨ ∃ g off, a = some ⟨g, off, none⟩ ∧ g < b ∧ RowN w g off L)
theorem ShowsB.bel {b : Nat} {w w' : World} {v : Value} {L : List Int} (h : ShowsB b w v L) (hb : Bel w w') : ShowsB b w' v L := by
  obtain ⟨a, cap, hv, h | ⟨g, off, ha, hg, hr⟩⟩ := h
  · exact ⟨a, cap, hv, .inl h⟩
  · exact ⟨a, cap, hv, .inr ⟨g, off, ha, hg, hr.bel hb⟩⟩
theorem ShowsB.keep {b : Nat} {X : Nat → Prop} {w w' : World} {v : Value} {L : List Int} (h : ShowsB b w v L) (hb : Keep X w w') (hX : ∀ k, k < b → X k) : ShowsB b w' v L := by
  obtain ⟨a, cap, hv, h | ⟨g, off, ha, hg, hr⟩⟩ := h
  · exact ⟨a, cap, hv, .inl h⟩
  · exact ⟨a, cap, hv, .inr ⟨g, off, ha, hg, fun j hj => (hb.cell (p := ⟨g, off + j, none⟩) (hX g hg)).trans (hr j hj)⟩⟩

/-- Between two rounds: n, last, right, the map, and what they look at. -/
structure ON (L : List Int) (stop : Int) (lv : Value) (b Bn Bl Br BL Bs : Nat) (X : Nat → Prop) (pre : M.Ents Int) (W : World) : Prop where
  n : Bx W Bn 3 (.int .i64 (pre.length : Nat))
  last : ∃ q, Bx W Bl 3 (.int .i64 q) ∧ ∀ h : pre ≠ [], q = (pre.getLast h).1
  right : Bx W Br 4 (.bool true)
  l : Bx W BL 28 lv
  s : Bx W Bs 3 (.int .i64 stop)
  row : ShowsB b W lv L
  map : ∃ E, MapI (fun k => X k ∨ (k < b ∨ k = Bn ∨ k = Bl ∨ k = Br)) W b E ∧ M.Up M.cfI E ∧ E.length ≤ 60 + pre.length ∧ Keys L 60 E
  xn : ¬ X Bn
  xl : ¬ X Bl
  xr : ¬ X Br
def onJ (L : List Int) (stop : Int) (lv : Value) (b Bn Bl Br BL Bs : Nat) : (Nat → Prop) → M.Ents Int → World → Prop := fun X pre W => ON L stop lv b Bn Bl Br BL Bs X pre W ∧ ∀ j : Nat, 1 ≤ j → j ≤ pre.length → stop ≠ j
def onX (L : List Int) (stop : Int) (lv : Value) (b Bn Bl Br BL Bs : Nat) : (Nat → Prop) → M.Ents Int → World → Prop := fun X pre W => ON L stop lv b Bn Bl Br BL Bs X pre W ∧ stop = pre.length
theorem ON.lt {L : List Int} {stop : Int} {lv : Value} {b Bn Bl Br BL Bs : Nat} {X : Nat → Prop} {pre : M.Ents Int} {W : World} (h : ON L stop lv b Bn Bl Br BL Bs X pre W) : ∀ k, X k → k < W.heap.size := by
  obtain ⟨E, hE, _⟩ := h.map
  exact fun k hk => hE.lt k (.inl hk)
theorem ON.more {L : List Int} {stop : Int} {lv : Value} {b Bn Bl Br BL Bs : Nat} {X : Nat → Prop} {pre : M.Ents Int} {W W' : World} (h : ON L stop lv b Bn Bl Br BL Bs X pre W) (hb : Bel W W') : ON L stop lv b Bn Bl Br BL Bs (More X W W') pre W' := by
  obtain ⟨E, hE, h2⟩ := h.map
  obtain ⟨q, hq, hq2⟩ := h.last
  refine ⟨h.n.bel hb, ⟨q, hq.bel hb, hq2⟩, h.right.bel hb, h.l.bel hb, h.s.bel hb, h.row.bel hb, ⟨E, (hE.more hb).weak ?_, h2⟩, ?_, ?_, ?_⟩
  · rintro k ((hk | hk) | hk)
    · exact .inl (.inl hk)
    · exact .inr hk
    · exact .inl (.inr hk)
  · rintro (hk | ⟨hk, _⟩)
    · exact h.xn hk
    · have := h.n.lt; omega
  · rintro (hk | ⟨hk, _⟩)
    · exact h.xl hk
    · have := hq.lt; omega
  · rintro (hk | ⟨hk, _⟩)
    · exact h.xr hk
    · have := h.right.lt; omega
theorem ON.weak {L : List Int} {stop : Int} {lv : Value} {b Bn Bl Br BL Bs : Nat} {X Y : Nat → Prop} {pre : M.Ents Int} {W : World} (h : ON L stop lv b Bn Bl Br BL Bs X pre W) (hs : ∀ k, Y k → X k) : ON L stop lv b Bn Bl Br BL Bs Y pre W := by
  obtain ⟨E, hE, h2⟩ := h.map
  exact ⟨h.n, h.last, h.right, h.l, h.s, h.row, ⟨E, hE.weak (fun k hk => hk.elim (fun h => .inl (hs k h)) .inr), h2⟩, fun hy => h.xn (hs _ hy), fun hy => h.xl (hs _ hy), fun hy => h.xr (hs _ hy)⟩
theorem onJ_abides (L : List Int) (stop : Int) (lv : Value) (b Bn Bl Br BL Bs : Nat) : Abides (onJ L stop lv b Bn Bl Br BL Bs) :=
  ⟨fun _ _ _ h => h.1.lt, fun _ _ _ _ h hb => ⟨h.1.more hb, h.2⟩, fun _ _ _ _ h hs => ⟨h.1.weak hs, h.2⟩⟩
theorem onX_abides (L : List Int) (stop : Int) (lv : Value) (b Bn Bl Br BL Bs : Nat) : Abides (onX L stop lv b Bn Bl Br BL Bs) :=
  ⟨fun _ _ _ h => h.1.lt, fun _ _ _ _ h hb => ⟨h.1.more hb, h.2⟩, fun _ _ _ _ h hs => ⟨h.1.weak hs, h.2⟩⟩
set_option maxHeartbeats 2000000 in
theorem on_yields (L : List Int) (stop : Int) (lv : Value) (b Bn Bl Br BL Bs : Nat) (hne : Bn ≠ Bl ∧ Bn ≠ Br ∧ Bl ≠ Br) (hlo : BL < b ∧ Bs < b) (hbb : b < Bn ∧ b < Bl ∧ b < Br) (M0 : M.Ents Int) (hM : M0 = bldN L 60) :
    Yields 26 #[.pointer (some ⟨Bn, 0, none⟩), .pointer (some ⟨Bl, 0, none⟩), .pointer (some ⟨BL, 0, none⟩), .pointer (some ⟨Br, 0, none⟩), .pointer (some ⟨b, 0, none⟩), .pointer (some ⟨Bs, 0, none⟩)] kvI M0 (onJ L stop lv b Bn Bl Br BL Bs) (onX L stop lv b Bn Bl Br BL Bs) := by
  refine ⟨enters_of Try.func26 (by kernel_rfl) rfl, fun X pre x W hp hJ => ?_⟩
  obtain ⟨hJ, hst⟩ := hJ
  obtain ⟨E, hE, hu, hEl, hK⟩ := hJ.map
  obtain ⟨q, hq, hql⟩ := hJ.last
  obtain ⟨ek, ev⟩ := x
  have hpl : pre.length + 1 ≤ 60 := by
    have h1 := hp.length_le
    have h2 := bldN_length L 60
    rw [hM] at h1
    simp at h1; omega
  obtain ⟨j, hj, hj60, hev, hek⟩ := bldN_mem L 60 (ek, ev) (by rw [← hM]; exact hp.subset (by simp))
  simp only at hev hek
  subst hev
  obtain ⟨a, cap, hlv, hrow⟩ := hJ.row
  obtain ⟨g, off, rfl, hgb, hr⟩ : ∃ g off, a = some ⟨g, off, none⟩ ∧ g < b ∧ RowN W g off L := by
    rcases hrow with h | h
    · subst h; simp at hj
    · exact h
  subst hlv
  have c0 := hr j hj
  rw [← hek] at c0
  have cn := hJ.n.cell
  have cnf := hJ.n.frozen
  have cl := hq.cell
  have clf := hq.frozen
  have cL := hJ.l.cell
  have cs := hJ.s.cell
  -- what the walk leaves behind
  have hk2 : Keep (fun k => k ≠ Bl ∧ k ≠ Bn) W ((W.setCell ⟨Bl, 0, none⟩ (.int .i64 ek)).setCell ⟨Bn, 0, none⟩ (.int .i64 ((pre.length : Int) + 1))) :=
    ((Keep.refl _ W).set (p := ⟨Bl, 0, none⟩) (by simp) _).set (p := ⟨Bn, 0, none⟩) (by simp) _
  have hE2 : MapI (fun k => X k ∨ (k < b ∨ k = Bn ∨ k = Bl ∨ k = Br)) ((W.setCell ⟨Bl, 0, none⟩ (.int .i64 ek)).setCell ⟨Bn, 0, none⟩ (.int .i64 ((pre.length : Int) + 1))) b E := by
    refine hE.keep hk2 (by omega) (fun v hv g hg => ?_)
    obtain ⟨v', hb', _, ho, _⟩ := hE
    have := hv.symm.trans hb'
    injection this with this
    injection this with this
    simp at this
    subst this
    have := ho.2 g hg
    exact ⟨fun e => this (by simp [e]), fun e => this (by simp [e])⟩
  have hS := fun y => setI _ E hu y j b _ (by omega) hE2
  have hlast : pre ≠ [] → q < ek := fun h => by
    have hup : M.Up M.cfI (pre ++ [(ek, (j : Int))]) := (bldN_up L 60).sublist (by rw [← hM]; exact hp.sublist)
    have := (List.pairwise_append.1 hup).2.2 (pre.getLast h) (List.getLast_mem h) (ek, (j : Int)) (by simp)
    rw [← hql h] at this
    unfold M.cfI at this
    simp only at this
    split at this
    · assumption
    · split at this <;> omega
  have HF : Hid (∀ y w3, MapI (fun k => X k ∨ (k < b ∨ k = Bn ∨ k = Bl ∨ k = Br)) w3 b (M.set M.cfI E y j) → Keep (fun k => X k ∨ (k < b ∨ k = Bn ∨ k = Bl ∨ k = Br)) ((W.setCell ⟨Bl, 0, none⟩ (.int .i64 ek)).setCell ⟨Bn, 0, none⟩ (.int .i64 ((pre.length : Int) + 1))) w3 →
      Keep X W w3 ∧ Bx w3 Bn 3 (.int .i64 ((pre.length : Int) + 1)) ∧ Bx w3 Bs 3 (.int .i64 stop) ∧ ON L stop (.slice (some ⟨g, off, none⟩) L.length cap) b Bn Bl Br BL Bs X (pre ++ [(ek, (j : Int))]) w3) := by
    intro y w3 hm hk3
    have hn2 : Bx ((W.setCell ⟨Bl, 0, none⟩ (.int .i64 ek)).setCell ⟨Bn, 0, none⟩ (.int .i64 ((pre.length : Int) + 1))) Bn 3 (.int .i64 ((pre.length : Int) + 1)) := (hJ.n.other _ hne.1 _).set _
    have hl2 : Bx ((W.setCell ⟨Bl, 0, none⟩ (.int .i64 ek)).setCell ⟨Bn, 0, none⟩ (.int .i64 ((pre.length : Int) + 1))) Bl 3 (.int .i64 ek) := (hq.set _).other _ (fun e => hne.1 e.symm) _
    have hn3 := hn2.keep hk3 (.inr (.inr (.inl rfl)))
    refine ⟨?_, hn3, (hJ.s.keep hk2 (by omega)).keep hk3 (.inr (.inl hlo.2)), ?_⟩
    · refine (hk2.weak (fun k hk => ?_)).tr (hk3.weak (fun k hk => .inl hk))
      exact ⟨fun e => hJ.xl (by rw [← e]; exact hk), fun e => hJ.xn (by rw [← e]; exact hk)⟩
    · refine ⟨by simpa using hn3, ⟨ek, hl2.keep hk3 (.inr (.inr (.inr (.inl rfl)))), fun h => by simp⟩, (hJ.right.keep hk2 ⟨fun e => hne.2.2 e.symm, fun e => hne.2.1 e.symm⟩).keep hk3 (.inr (.inr (.inr (.inr rfl)))), (hJ.l.keep hk2 (by omega)).keep hk3 (.inr (.inl hlo.1)), (hJ.s.keep hk2 (by omega)).keep hk3 (.inr (.inl hlo.2)), ?_, ?_, hJ.xn, hJ.xl, hJ.xr⟩
      · exact (ShowsB.keep (X := fun k => k ≠ Bl ∧ k ≠ Bn) ⟨_, cap, rfl, .inr ⟨g, off, rfl, hgb, hr⟩⟩ hk2 (fun k hk => by omega)).keep hk3 (fun k hk => .inr (.inl hk))
      · exact ⟨_, hm, M.up_set M.ordI _ hu _ _, by rw [M.set_length]; simp; split <;> omega, hK.set hu _ _⟩
  have HST := hid hst
  have hcn : Bl ≠ Bn := fun e => hne.1 e.symm
  have hnl := hJ.n.lt
  have hll := hq.lt
  have hblt : Bl < W.heap.size ∧ Bn < W.heap.size := ⟨hll, hnl⟩
  clear hE hE2 hk2 hst hJ hr hM hp hek hK hEl hu hq hql
  have hjj : (j : Int) < (L.length : Int) := by omega
  unfold kvI
  by_cases hpre : pre = []
  · subst hpre
    go_enter Try.func26, Try.ntmps26
    go_wp2_with fail
    refine (hS _).mono ?_
    rintro e w3 ⟨rfl, hm, hk3⟩
    obtain ⟨r1, r2, r3, r4⟩ := HF.out _ w3 hm hk3
    have d1 : w3.cell? ⟨Bn, 0, none⟩ = some (.int .i64 1) := by simpa using r2.cell
    have d2 := r3.cell
    have R1 := hid r1
    have R4 := hid r4
    clear hm hk3 r1 r2 r3 r4 hS HF hlast
    by_cases he : stop = 1
    · have hb : ((1 : Int) != stop) = false := by rw [he]; simp
      go_wp2_with fail
      go_ret
      exact ⟨R1.out, .inr ⟨rfl, R4.out, by rw [he]; simp⟩⟩
    · have hb : ((1 : Int) != stop) = true := by rw [bne_iff_ne]; omega
      go_wp2_with fail
      go_ret
      refine ⟨R1.out, .inl ⟨rfl, R4.out, fun i h1 h2 => ?_⟩⟩
      simp at h2
      have : i = 1 := by omega
      subst this
      exact he
  · have hq1 := hlast hpre
    have hn0 : 0 < pre.length := by
      rcases pre with _ | _
      · exact absurd rfl hpre
      · simp
    have hq2 : ¬ ek ≤ q := by omega
    clear hlast
    go_enter Try.func26, Try.ntmps26
    go_wp2_with fail
    refine (hS _).mono ?_
    rintro e w3 ⟨rfl, hm, hk3⟩
    obtain ⟨r1, r2, r3, r4⟩ := HF.out _ w3 hm hk3
    have d1 := r2.cell
    have d2 := r3.cell
    have R1 := hid r1
    have R4 := hid r4
    clear hm hk3 r1 r2 r3 r4
    by_cases he : stop = (pre.length : Int) + 1
    · have hb : ((pre.length : Int) + 1 != stop) = false := by rw [he]; simp
      go_wp2_with fail
      go_ret
      exact ⟨R1.out, .inr ⟨rfl, R4.out, by rw [he]; simp⟩⟩
    · have hb : ((pre.length : Int) + 1 != stop) = true := by rw [bne_iff_ne]; omega
      go_wp2_with fail
      go_ret
      refine ⟨R1.out, .inl ⟨rfl, R4.out, fun i h1 h2 => ?_⟩⟩
      simp at h2
      by_cases e : i = pre.length + 1
      · subst e; intro e2; exact he (by rw [e2]; simp)
      · exact HST.out i h1 (by omega)
theorem bldN_min (L : List Int) : (bldN L 60).length ≤ 60 ∧ (bldN L 60).length ≤ L.length := by
  refine ⟨bldN_length L 60, ?_⟩
  by_cases h : L.length ≤ 60
  · rw [← bldN_end L L.length h (.inl (Nat.le_refl _))]; exact bldN_length L _
  · have := bldN_length L 60; omega
theorem ret_b (b : Bool) (h : b = true) : Ending.returned (.bool b) = .returned (.bool true) := by rw [h]
/-- What is left behind the range. -/
theorem on_end {L : List Int} {stop : Int} {lv : Value} {b Bn Bl Br BL Bs : Nat} {X : Nat → Prop} {W : World} (h : Told (bldN L 60) (onJ L stop lv b Bn Bl Br BL Bs) (onX L stop lv b Bn Bl Br BL Bs) X W) :
    ∃ n : Nat, n ≤ 60 ∧ n ≤ L.length ∧ ¬ (0 < stop ∧ stop < n) ∧ Bx W Bn 3 (.int .i64 n) ∧ Bx W Br 4 (.bool true) ∧ Bx W BL 28 lv ∧ Bx W Bs 3 (.int .i64 stop) ∧ ShowsB b W lv L ∧
      ∃ E, (∃ Y, MapI Y W b E) ∧ M.Up M.cfI E ∧ E.length ≤ 120 ∧ Keys L 60 E := by
  have hm := bldN_min L
  have key : ∃ pre, pre.length ≤ (bldN L 60).length ∧ ON L stop lv b Bn Bl Br BL Bs X pre W ∧ ¬ (0 < stop ∧ stop < pre.length) := by
    rcases h with h | ⟨pre, hp, h⟩
    · refine ⟨_, Nat.le_refl _, h.1, fun hs => ?_⟩
      exact h.2 stop.toNat (by omega) (by omega) (by omega)
    · refine ⟨pre, hp.length_le, h.1, fun hs => ?_⟩
      have := h.2
      omega
  obtain ⟨pre, hl, ho, hs⟩ := key
  obtain ⟨E, hE, hu, hEl, hK⟩ := ho.map
  exact ⟨pre.length, by omega, by omega, hs, ho.n, ho.right, ho.l, ho.s, ho.row, E, ⟨_, hE⟩, hu, by omega, hK⟩
set_option maxHeartbeats 4000000 in
set_option maxRecDepth 100000 in
theorem numbers_any (L : List Int) (a : Option Addr) (cap : Nat) (stop : Int) (w : World) (hL : L.length ≤ maxLen) (hs : L = [] ∨ ∃ g off, a = some ⟨g, off, none⟩ ∧ RowN w g off L) :
    Calls Try.prog 5 #[.slice a L.length cap, .int .i64 stop] w fun e w' => e = .returned (.bool true) ∧ Bel w w' := by
  unfold maxLen at hL
  have hB : ShowsB w.heap.size w (.slice a L.length cap) L := by
    refine ⟨a, cap, rfl, ?_⟩
    rcases hs with h | ⟨g, off, ha, hr⟩
    · exact .inl h
    · by_cases h0 : 0 < L.length
      · exact .inr ⟨g, off, ha, hr.lt h0, hr⟩
      · exact .inl (List.length_eq_zero_iff.1 (by omega))
  have HB := hid hB
  clear hs hB
  go_enter Try.func5, Try.ntmps5
  go_wp2_with fail
  refine (speaks_any _).mono ?_
  rintro e w1 ⟨rfl, b1⟩
  have hz1 : w.heap.size + 1 < w1.heap.size := by have := b1.size; simp at this; omega
  have cL := (Bx.al (Bx.new w 28 (.slice a L.length cap)) (.cells #[.int .i64 stop] 3)).bel b1
  have cS : Bx w1 (w.heap.size + 1) 3 (.int .i64 stop) := by
    have := (Bx.new (w.alloc (.cells #[.slice a L.length cap] 28)) 3 (.int .i64 stop)).bel b1
    simpa using this
  have HB1 : Hid (ShowsB w1.heap.size w1 (.slice a L.length cap) L) := by
    obtain ⟨a', cap', he, h⟩ := (HB.out.bel (Bel.al (Bel.al (Below.refl _ _) _) _)).bel b1
    refine ⟨a', cap', he, h.imp id ?_⟩
    rintro ⟨g, off, h1, h2, h3⟩
    exact ⟨g, off, h1, by omega, h3⟩
  have HBel : Hid (Bel w w1) := (Bel.al (Bel.al (Below.refl _ _) _) _).tr b1
  clear b1 HB
  go_wp2_with fail
  have H0 := hid (Held.new 80 2 59 w1)
  go_loopw [6] (fun i wr => ∃ k : Nat, k ≤ L.length ∧ k ≤ 60 ∧ i = .int .i64 k ∧ Hid (MapI (fun j => j < w1.heap.size) wr w1.heap.size (bldN L k)) ∧ Hid (Keep (fun j => j < w1.heap.size) w1 wr)) (fun i _ => 60 - (intOf i).toNat)
  case atStart => exact ⟨0, Nat.zero_le _, by omega, rfl, H0.out, (Keep.refl _ _).al (fun _ h => h) _⟩
  case round =>
    clear H0
    obtain ⟨k, hk, hk6, rfl, HM, HK⟩ := hrel
    have dL := (cL.keep HK.out (by show _ < _; omega)).cell
    by_cases hgo : k < L.length ∧ k < 60
    · obtain ⟨h1, h2⟩ := hgo
      obtain ⟨g, off, rfl, hg, hr⟩ : ∃ g off, a = some ⟨g, off, none⟩ ∧ g < w1.heap.size ∧ RowN w1 g off L := by
        obtain ⟨a', cap', he, h⟩ := HB1.out
        injection he with he1 he2 he3
        subst he1
        rcases h with h | h
        · subst h; simp at h1
        · exact h
      have ck := (HK.out.cell (p := ⟨g, off + k, none⟩) hg).trans (hr k h1)
      have hkl : (k : Int) < (L.length : Int) := by omega
      have hk60 : (k : Int) < 60 := by omega
      have hbl := bldN_length L k
      have HS := hid (setI _ (bldN L k) (bldN_up L k) L[k] k w1.heap.size wr (by omega) HM.out)
      have hE : Hid (bldN L (k + 1) = M.set M.cfI (bldN L k) L[k] k) := by show _ = _; conv => lhs; unfold bldN; rw [dif_pos h1]
      clear hr
      generalize L[k] = lk at *
      go_wp2_with fail
      refine HS.out.mono ?_
      rintro e w2 ⟨rfl, m2, k2⟩
      have HM2 := hid m2
      have HK2 := hid (HK.out.tr k2)
      clear m2 k2 HS
      go_wp2_with fail
      go_roundw
      case rel => exact ⟨k + 1, by omega, by omega, by go_num, by unfold Hid; rw [hE.out]; exact HM2.out, HK2.out⟩
      case measure => simp [intOf]; omega
    · have HE : Hid (bldN L k = bldN L 60) := bldN_end L k hk6 (by omega)
      have HM0 : Hid (MapI (fun j => j < w1.heap.size) wr w1.heap.size (bldN L 60)) := by have := HM.out; rw [HE.out] at this; exact this
      clear HM HE
      have hgd : ((k : Int) < (L.length : Int) ∧ ¬ (k : Int) < 60) ∨ ¬ (k : Int) < (L.length : Int) := by omega
      have bW : Hid (Bel wr ((((wr.alloc (.cells #[.int .i64 0] 3)).alloc (.cells #[.int .i64 0] 3)).alloc (.cells #[.bool true] 4)).alloc (.cells #[.pointer (some ⟨w1.heap.size, 0, none⟩)] 78))) := Bel.al (Bel.al (Bel.al (Bel.al (Below.refl _ _) _) _) _) _
      have hbw : w1.heap.size < wr.heap.size := by
        obtain ⟨v, hb, _⟩ := HM0.out
        exact hb.lt
      have HY := hid (on_yields L stop (.slice a L.length cap) w1.heap.size (wr.heap.size + 1) wr.heap.size (wr.heap.size + 1 + 1) w.heap.size (w.heap.size + 1) (by omega) (by omega) (by omega) (bldN L 60) rfl)
      have HJ : Hid (onJ L stop (.slice a L.length cap) w1.heap.size (wr.heap.size + 1) wr.heap.size (wr.heap.size + 1 + 1) w.heap.size (w.heap.size + 1) (fun j => j < w1.heap.size) [] ((((wr.alloc (.cells #[.int .i64 0] 3)).alloc (.cells #[.int .i64 0] 3)).alloc (.cells #[.bool true] 4)).alloc (.cells #[.pointer (some ⟨w1.heap.size, 0, none⟩)] 78))) := by
        have n1 := Bx.new wr 3 (.int .i64 0)
        have n2 := Bx.new (wr.alloc (.cells #[.int .i64 0] 3)) 3 (.int .i64 0)
        have n3 := Bx.new ((wr.alloc (.cells #[.int .i64 0] 3)).alloc (.cells #[.int .i64 0] 3)) 4 (.bool true)
        simp only [World.size_alloc] at n2 n3
        refine ⟨⟨(n2.al _).al _, ⟨0, ((n1.al _).al _).al _, fun h => absurd rfl h⟩, n3.al _, (cL.keep HK.out (by show _ < _; omega)).bel bW.out, (cS.keep HK.out (by show _ < _; omega)).bel bW.out, (HB1.out.keep HK.out (fun _ h => h)).bel bW.out, ⟨bldN L 60, (HM0.out.more bW.out).weak ?_, bldN_up L 60, by have := bldN_length L 60; simp; omega, bldN_keys L 60⟩, by omega, by omega, by omega⟩, fun j h1 h2 => by simp at h2; omega⟩
        rintro j (hj | hj | hj)
        · exact .inl hj
        · exact .inl hj
        · refine .inr ?_
          simp only [World.size_alloc]
          omega
      have HO := hid (allcI _ (bldN L 60) w1.heap.size (wr.heap.size + 1 + 1 + 1) _ (by have := bldN_length L 60; omega) (HM0.out.bel bW.out) (by
        have := Bx.new (((wr.alloc (.cells #[.int .i64 0] 3)).alloc (.cells #[.int .i64 0] 3)).alloc (.cells #[.bool true] 4)) 78 (.pointer (some ⟨w1.heap.size, 0, none⟩))
        simpa only [World.size_alloc] using this) 26 _ _ _ (onJ_abides _ _ _ _ _ _ _ _ _) (onX_abides _ _ _ _ _ _ _ _ _) HY.out _ HJ.out)
      have HK3 : Hid (∀ w4, Keep (fun j => j < w1.heap.size) ((((wr.alloc (.cells #[.int .i64 0] 3)).alloc (.cells #[.int .i64 0] 3)).alloc (.cells #[.bool true] 4)).alloc (.cells #[.pointer (some ⟨w1.heap.size, 0, none⟩)] 78)) w4 → Bel w w4) := by
        intro w4 h4
        have := (HK.out.tr ((Keep.of_bel bW.out (X := fun j => j < w1.heap.size) (fun j (hj : j < w1.heap.size) => by omega)).tr h4)).below
        exact HBel.out.tr this
      clear HY HJ bW HM0 HK HB1 cL cS
      obtain ⟨W0, rfl⟩ : ∃ W0, W0 = wr := ⟨_, rfl⟩
      rcases hgd with ⟨h1, h2⟩ | h1
      all_goals
        go_wp2_with fail
        refine (allI _ _).mono ?_
        rintro e w3 ⟨rfl, rfl⟩
        go_wp2_with fail
        refine HO.out.mono ?_
        rintro e w4 ⟨rfl, k4, h4⟩
        have HB4 := hid (HK3.out w4 k4)
        obtain ⟨n, hn60, hnL, hs, cn, cr, cl, cs, hrow, E, ⟨Y, hE⟩, hu, hEl, hK⟩ := on_end h4
        have HE := hid hE
        have HU := hid hu
        have HKk := hid hK
        have HR := hid hrow
        clear HO k4 h4 HK3 hE hu hK hrow dL
        have dn := cn.cell
        have dr := cr.cell
        have dl := cl.cell
        have ds := cs.cell
        have hs3 : (0 < stop ∧ (n : Int) ≤ stop) ∨ ¬ 0 < stop := by omega
        rcases hs3 with ⟨h3, h5⟩ | h3
        all_goals
          go_wp2_with fail
          clear dn dr dl ds
          go_loopw [10] (fun i wr => ∃ k : Nat, k ≤ L.length ∧ k ≤ 60 ∧ i = .int .i64 k ∧ Hid (Bel w4 wr)) (fun i _ => 60 - (intOf i).toNat)
          case atStart => exact ⟨0, Nat.zero_le _, by omega, rfl, Below.refl _ _⟩
          case round =>
            obtain ⟨k2, hk2, hk62, rfl, HBr⟩ := hrel
            have dl := (cl.bel HBr.out).cell
            by_cases hgo2 : k2 < L.length ∧ k2 < 60
            · obtain ⟨j1, j2⟩ := hgo2
              obtain ⟨g, off, rfl, hg, hr⟩ : ∃ g off, a = some ⟨g, off, none⟩ ∧ g < w1.heap.size ∧ RowN w4 g off L := by
                obtain ⟨a', cap', he, h⟩ := HR.out
                injection he with he1 he2 he3
                subst he1
                rcases h with h | h
                · subst h; simp at j1
                · exact h
              have ck := (hr.bel HBr.out) k2 j1
              have hkl2 : (k2 : Int) < (L.length : Int) := by omega
              have hk602 : (k2 : Int) < 60 := by omega
              have hh : M.has M.cfI E L[k2] = true := (M.has_iff M.ordI E HU.out _).2 (HKk.out k2 j1 j2)
              have HS := hid (getI _ E HU.out L[k2] w1.heap.size wr (by omega) (HE.out.bel HBr.out))
              rw [hh] at HS
              clear hr hh
              generalize L[k2] = lk at *
              generalize M.get M.cfI E lk = gv at *
              go_wp2_with fail
              refine HS.out.mono ?_
              rintro e w5 ⟨rfl, b5⟩
              have HB5 := hid (HBr.out.tr b5)
              clear b5 HS
              go_wp2_with fail
              go_roundw
              case rel => exact ⟨k2 + 1, by omega, by omega, by go_num, HB5.out⟩
              case measure => simp [intOf]; omega
            · have dn := (cn.bel HBr.out).cell
              have dr := (cr.bel HBr.out).cell
              have hgd2 : ((k2 : Int) < (L.length : Int) ∧ ¬ (k2 : Int) < 60) ∨ ¬ (k2 : Int) < (L.length : Int) := by omega
              have HFin := hid (HB4.out.tr HBr.out)
              rcases hgd2 with ⟨h11, h12⟩ | h11
              all_goals
                go_wp2_with fail
                go_ret
                exact ⟨ret_b _ (decide_eq_true (by omega)), HFin.out⟩
end Go.Proofs.Ytoelaemneoabfab
