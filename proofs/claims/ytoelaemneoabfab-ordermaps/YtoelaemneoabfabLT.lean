/-
  The law OrderTurned, walked.
-/
import Derived.Test.YtoelaemneoabfabS
import Derived.Deep.QuietTactic
import Derived.BigQuiet
namespace Go.Proofs.Ytoelaemneoabfab
open Go.RowKit

abbrev Tx := List UInt8
def csT (L : List Tx) : List Value := L.map fun k => .string (M.bs k)
theorem csT_length (L : List Tx) : (csT L).length = L.length * 1 := by simp [csT]
/-- The cells from ⟨b, off⟩ on hold the texts of L. -/
def RowT (w : World) (b off : Nat) (L : List Tx) : Prop := ∀ j (h : j < L.length), w.cell? ⟨b, off + j, none⟩ = some (.string (M.bs L[j]))
theorem RowT.lt {w : World} {b off : Nat} {L : List Tx} (h : RowT w b off L) (hL : 0 < L.length) : b < w.heap.size := block_lt_of_cell (h 0 hL)
theorem RowT.bel {w w' : World} {b off : Nat} {L : List Tx} (h : RowT w b off L) (hb : Bel w w') : RowT w' b off L := fun j hj =>
  (hb.cell (p := ⟨b, off + j, none⟩) (h.lt (by omega))).trans (h j hj)
theorem rowT_of {X : Nat → Prop} {w : World} {v : Value} {L : List Tx} (h : Own 9 1 X w v L.length (csT L)) : v = .slice none 0 0 ∧ L = [] ∨ ∃ g cap, v = .slice (some ⟨g, 0, none⟩) L.length cap ∧ RowT w g 0 L := by
  have h' := h.1
  obtain ⟨⟨hlen, ⟨h1, h2⟩ | ⟨g, cap, cur, hv, hg, hh, hn, hm, hs, ht⟩⟩, _⟩ := h
  · exact .inl ⟨h1, List.length_eq_zero_iff.1 h2⟩
  · refine .inr ⟨g, cap, hv, fun j hj => ?_⟩
    have hc := World.ownsRow.cells h' (g := g) (by rw [hv]; rfl) j (.string (M.bs L[j])) (by simp [csT, hj])
    rwa [add_lit] at hc

/-- Keys set one after the other, each with its length. -/
def bldT (ks : List Tx) : M.Ents Tx := ks.foldl (fun E k => M.set M.cfS E k (k.length : Nat)) []
theorem bldT_snoc (ks : List Tx) (k : Tx) : bldT (ks ++ [k]) = M.set M.cfS (bldT ks) k (k.length : Nat) := by simp [bldT, List.foldl_append]
theorem snoc_ind {α : Type} {P : List α → Prop} (h0 : P []) (h1 : ∀ l x, P l → P (l ++ [x])) : ∀ l, P l := by
  intro l
  suffices h : ∀ n (l : List α), l.length = n → P l from h _ l rfl
  intro n
  induction n with
  | zero => intro l h; rw [List.length_eq_zero_iff.1 h]; exact h0
  | succ n ih =>
    intro l h
    obtain ⟨l', x, rfl⟩ : ∃ l' x, l = l' ++ [x] := ⟨l.dropLast, l.getLast (by intro e; simp [e] at h), (List.dropLast_concat_getLast _).symm⟩
    exact h1 l' x (ih l' (by simpa using h))
theorem bldT_up (ks : List Tx) : M.Up M.cfS (bldT ks) := by
  refine snoc_ind (P := fun ks => M.Up M.cfS (bldT ks)) List.Pairwise.nil (fun l x ih => ?_) ks
  show M.Up M.cfS (bldT (l ++ [x]))
  rw [bldT_snoc]
  exact M.up_set M.ordS _ ih _ _
theorem bldT_mem (ks : List Tx) : ∀ e : Tx × Int, e ∈ bldT ks ↔ ∃ k ∈ ks, e = (k, (k.length : Int)) := by
  refine snoc_ind (P := fun ks => ∀ e : Tx × Int, e ∈ bldT ks ↔ ∃ k ∈ ks, e = (k, (k.length : Int))) (by simp [bldT]) (fun l x ih e => ?_) ks
  rw [bldT_snoc, M.mem_set M.ordS _ (bldT_up l), ih]
  constructor
  · rintro (rfl | ⟨⟨k, hk, rfl⟩, _⟩)
    · exact ⟨x, by simp, rfl⟩
    · exact ⟨k, by simp [hk], rfl⟩
  · rintro ⟨k, hk, rfl⟩
    by_cases e : k = x
    · exact .inl (by rw [e])
    · exact .inr ⟨⟨k, by simpa [e] using hk, rfl⟩, e⟩
theorem bldT_length (ks : List Tx) : (bldT ks).length ≤ ks.length := by
  refine snoc_ind (P := fun ks => (bldT ks).length ≤ ks.length) (by simp [bldT]) (fun l x ih => ?_) ks
  rw [bldT_snoc, M.set_length]
  simp; split <;> omega
theorem bldT_reverse (ks : List Tx) : bldT ks.reverse = bldT ks :=
  M.up_ext M.ordS _ _ (bldT_up _) (bldT_up _) (fun e => by rw [bldT_mem, bldT_mem]; simp)

/-- 'append(x, k)' of one text, x the call's own. -/
theorem one_newT (w : World) (c0 : Value) : ∀ j u, [c0][j]? = some u → (w.alloc (.cells #[c0] 9)).cell? ((⟨w.heap.size, 0, none⟩ : Addr).add j) = some u := by
  intro j u h
  rw [add_lit, World.cell?_alloc_at (hn := rfl)]
  simpa using h
theorem appTx (X : Nat → Prop) (L : List Tx) (x : Tx) (v : Value) (w : World) (hL : L.length ≤ 1000) (ho : Own 9 1 X w v L.length (csT L)) (hX : ∀ k, X k → k < w.heap.size) :
    ∃ v' w', (∀ ty, (Builtin.append_ #[27, 27] ty #[v, .slice (some ⟨w.heap.size, 0, none⟩) 1 1]).run Try.prog (w.alloc (.cells #[.string (M.bs x)] 9)) = .ok v' w') ∧ Own 9 1 X w' v' (L.length + 1) (csT (L ++ [x])) ∧ Keep X w w' := by
  obtain ⟨i0, hi, hz0, hz1, hz2⟩ := info_parts info9
  have hcs : csT (L ++ [x]) = csT L ++ [.string (M.bs x)] := by simp [csT]
  have hone : ∀ u ∈ [Value.string (M.bs x)], u.oneCell' = true := by intro u hu; simp at hu; subst hu; rfl
  have hgrow : ∀ (base : Option Addr) (c : Nat) (_ : c < L.length + 1) (_ : (Builtin.firstCells i0.size L.length (.slice base L.length c)).run Try.prog (w.alloc (.cells #[.string (M.bs x)] 9)).drew = .ok (csT L).toArray (w.alloc (.cells #[.string (M.bs x)] 9)).drew),
      ∃ v' w', (∀ ty, (Builtin.append_ #[27, 27] ty #[.slice base L.length c, .slice (some ⟨w.heap.size, 0, none⟩) 1 1]).run Try.prog (w.alloc (.cells #[.string (M.bs x)] 9)) = .ok v' w') ∧ Own 9 1 X w' v' (L.length + 1) (csT (L ++ [x])) ∧ Keep X w w' := by
    intro base c hc hf
    refine ⟨_, _, fun ty => run_append_grow_src _ 27 27 ty 9 i0 _ Try.underlying27 hi hz0 base L.length c _ hf _ 1 _
      (Src.ofSlice _ Try.underlying27 ⟨w.heap.size, 0, none⟩ 1 1 [.string (M.bs x)] (by rw [hz1]; rfl) (one_newT w _) hone) hc (by omega) (by rw [hz2]; exact growslice_fits hc (by omega)), ?_, ?_⟩
    · refine ⟨⟨by rw [csT_length]; simp, .inr ⟨_, _, _, rfl, Nat.zero_le _, heap_alloc_new _ _, grownCap_ge _ _ _ _, grownCap_le_maxLen _ _ _ _ (by unfold maxLen; omega), ?_, ?_⟩⟩, fun g hg hx => ?_⟩
      · rw [Array.size_append, size_zeroCells]
        have := grownCap_ge (w.alloc (.cells #[.string (M.bs x)] 9)) (L.length + 1) c 9
        simp only [List.size_toArray, List.length_append, csT_length, List.length_cons, List.length_nil]
        show _ + _ * 1 = _
        omega
      · rw [hcs, Array.toList_append, List.take_left' (by simp [csT_length] <;> omega)]
      · have : g = (w.alloc (.cells #[.string (M.bs x)] 9)).heap.size := by simpa [Value.ownBlock] using hg.symm
        have := hX g hx
        simp at *; omega
    · exact (((Keep.refl X w).al hX _).dr).al hX _
  rcases ho.1.2 with ⟨rfl, hn⟩ | ⟨g, cap, cur, rfl, _, hg, hn, hm, hs, ht⟩
  · rw [hn] at hgrow ⊢
    exact hgrow none 0 (by omega) (by rw [List.length_eq_zero_iff.1 hn]; exact run_firstCells_none _ _ 0 0 0)
  · have hgl := (Array.getElem?_eq_some_iff.1 hg).1
    have hg' : (w.alloc (.cells #[.string (M.bs x)] 9)).heap[g]? = some (.cells cur 9 (0, 0)) := (Below.heap_alloc _ _ _ hgl).trans hg
    by_cases hr : L.length + 1 ≤ cap
    · refine ⟨_, _, fun ty => run_append_room _ 27 ty 9 i0 Try.underlying27 hi g L.length cap cur hg' ⟨w.heap.size, 0, none⟩ 1 1 [.string (M.bs x)] (by rw [hz1]; rfl) (one_newT w _) hone hr (by rw [hz1, hs]; simp; omega), ?_, ?_⟩
      · refine ⟨⟨by rw [csT_length]; simp, .inr ⟨g, cap, _, rfl, Nat.zero_le _, setRow_heap _ g cur _ 9 _ hg', hr, hm, ?_, ?_⟩⟩, fun g' hg' => ?_⟩
        · rw [hz1]; simp [hs]; omega
        · rw [hz1, ht, hcs, List.take_left' (by simp [csT_length] <;> omega)]
        · obtain rfl : g = g' := by simpa [Value.ownBlock] using hg'
          exact ho.2 g rfl
      · exact ((Keep.refl X w).al hX _).setRow (ho.2 g rfl) _
    · refine hgrow _ _ (by omega) ?_
      rw [hz1]
      refine run_firstCells_some _ 1 L.length ⟨g, 0, none⟩ L.length cap (csT L) (csT_length L) (fun j u hj => ?_)
      have := ho.1.cells (g := g) rfl j u hj
      rw [add_lit] at this ⊢
      show (w.alloc (.cells #[.string (M.bs x)] 9)).cell? _ = _
      rw [World.cell?_alloc_past _ _ _ hgl]
      exact this


def otJ (B : Nat) : (Nat → Prop) → M.Ents Tx → World → Prop := fun X pre W => Held 9 1 27 X W B pre.length (csT (pre.map (·.1)))
theorem otJ_abides (B : Nat) : Abides (otJ B) := ⟨fun _ _ _ h => Held.lt h, fun _ _ _ _ h b => Held.more h b, fun _ _ _ _ h hs => Held.weak h hs⟩
theorem noneT_abides : Abides (fun (_ : Nat → Prop) (_ : M.Ents Tx) (_ : World) => False) := ⟨fun _ _ _ h => h.elim, fun _ _ _ _ h => h.elim, fun _ _ _ _ h => h.elim⟩
set_option maxHeartbeats 1000000 in
theorem ot_yields28 (L : M.Ents Tx) (B : Nat) (hL : L.length ≤ 900) (hl : ∀ e ∈ L, e.2 = (e.1.length : Int)) :
    Yields 28 #[.pointer (some ⟨B, 0, none⟩)] kvS L (otJ B) (fun _ _ _ => False) := by
  refine ⟨enters_of Try.func28 (by kernel_rfl) rfl, fun X pre x W hp hJ => ?_⟩
  obtain ⟨ek, ev⟩ := x
  have hev : ev = (ek.length : Int) := hl (ek, ev) (hp.subset (by simp))
  subst hev
  have hpl : pre.length ≤ 900 := by have := hp.length_le; simp at this; omega
  obtain ⟨v, hb, hbx, ho, hob, hX⟩ := hJ
  have ho' : Own 9 1 X W v (pre.map (·.1)).length (csT (pre.map (·.1))) := by rw [List.length_map]; exact ho
  obtain ⟨v', w2, hrun, ho2, k2⟩ := appTx (fun k => X k ∨ k = B) (pre.map (·.1)) ek v W (by simp; omega) (ho'.both hob) (fun j hj => by
    rcases hj with hj | rfl
    · exact hX j hj
    · exact hb.lt)
  have hpm : (pre.map (·.1)).length + 1 = pre.length + 1 := by simp
  have hpe : pre.map (·.1) ++ [ek] = (pre ++ [(ek, (ek.length : Int))]).map (·.1) := by simp
  rw [hpm, hpe] at ho2
  obtain ⟨g', cap', rfl⟩ : ∃ g cap, v' = .slice (some ⟨g, 0, none⟩) (pre.length + 1) cap := by
    rcases ho2.1.2 with ⟨_, h0⟩ | ⟨g, cap, _, h, _⟩
    · omega
    · exact ⟨g, cap, h⟩
  have HT := hid (Held.turn hb hbx hX k2 ho2 rfl)
  have c := hb.cell
  have d := (hb.keep k2 (.inr rfl)).cell
  have df := (hb.keep k2 (.inr rfl)).frozen
  have hsz : (M.bs ek).size = ek.length := M.bs_size ek
  have hlen : Hid ((pre ++ [(ek, (ek.length : Int))]).length = pre.length + 1) := by show _ = _; simp
  clear hb hbx ho ho' hob hX k2 ho2 hp hl
  unfold kvS
  go_enter Try.func28, Try.ntmps28
  go_wp2_with (at_builtin; refine Lib.wpList_append_run _ rfl _ _ _ _ rfl _ _ rfl rfl _ _ (hrun _) ?_)
  go_ret
  refine ⟨HT.out.2, rfl, ?_⟩
  show Held _ _ _ _ _ _ _ _
  rw [hlen.out]; exact HT.out.1
set_option maxHeartbeats 1000000 in
theorem ot_yields29 (L : M.Ents Tx) (B : Nat) (hL : L.length ≤ 900) (hl : ∀ e ∈ L, e.2 = (e.1.length : Int)) :
    Yields 29 #[.pointer (some ⟨B, 0, none⟩)] kvS L (otJ B) (fun _ _ _ => False) := by
  refine ⟨enters_of Try.func29 (by kernel_rfl) rfl, fun X pre x W hp hJ => ?_⟩
  obtain ⟨ek, ev⟩ := x
  have hev : ev = (ek.length : Int) := hl (ek, ev) (hp.subset (by simp))
  subst hev
  have hpl : pre.length ≤ 900 := by have := hp.length_le; simp at this; omega
  obtain ⟨v, hb, hbx, ho, hob, hX⟩ := hJ
  have ho' : Own 9 1 X W v (pre.map (·.1)).length (csT (pre.map (·.1))) := by rw [List.length_map]; exact ho
  obtain ⟨v', w2, hrun, ho2, k2⟩ := appTx (fun k => X k ∨ k = B) (pre.map (·.1)) ek v W (by simp; omega) (ho'.both hob) (fun j hj => by
    rcases hj with hj | rfl
    · exact hX j hj
    · exact hb.lt)
  have hpm : (pre.map (·.1)).length + 1 = pre.length + 1 := by simp
  have hpe : pre.map (·.1) ++ [ek] = (pre ++ [(ek, (ek.length : Int))]).map (·.1) := by simp
  rw [hpm, hpe] at ho2
  obtain ⟨g', cap', rfl⟩ : ∃ g cap, v' = .slice (some ⟨g, 0, none⟩) (pre.length + 1) cap := by
    rcases ho2.1.2 with ⟨_, h0⟩ | ⟨g, cap, _, h, _⟩
    · omega
    · exact ⟨g, cap, h⟩
  have HT := hid (Held.turn hb hbx hX k2 ho2 rfl)
  have c := hb.cell
  have d := (hb.keep k2 (.inr rfl)).cell
  have df := (hb.keep k2 (.inr rfl)).frozen
  have hsz : (M.bs ek).size = ek.length := M.bs_size ek
  have hlen : Hid ((pre ++ [(ek, (ek.length : Int))]).length = pre.length + 1) := by show _ = _; simp
  clear hb hbx ho ho' hob hX k2 ho2 hp hl
  unfold kvS
  go_enter Try.func29, Try.ntmps29
  go_wp2_with (at_builtin; refine Lib.wpList_append_run _ rfl _ _ _ _ rfl _ _ rfl rfl _ _ (hrun _) ?_)
  go_ret
  refine ⟨HT.out.2, rfl, ?_⟩
  show Held _ _ _ _ _ _ _ _
  rw [hlen.out]; exact HT.out.1

/-- Two maps, neither of which touches the other. -/
structure TW (b0 ba bb : Nat) (w1 wr : World) (A B : M.Ents Tx) : Prop where
  ab : ∃ va vb, Bx wr ba 26 va ∧ Bx wr bb 26 vb ∧ MapS (fun j => j < b0 ∨ j = bb ∨ vb.ownBlock = some j) wr ba A ∧ MapS (fun j => j < b0 ∨ j = ba ∨ va.ownBlock = some j) wr bb B
  kp : Keep (fun j => j < b0) w1 wr
theorem TW.swap {b0 ba bb : Nat} {w1 wr : World} {A B : M.Ents Tx} (h : TW b0 ba bb w1 wr A B) : TW b0 bb ba w1 wr B A := by
  obtain ⟨va, vb, h1, h2, h3, h4⟩ := h.ab
  exact ⟨⟨vb, va, h2, h1, h4, h3⟩, h.kp⟩
theorem bx_inj {w : World} {b : Nat} {t t' : TypeId} {u v : Value} (h : Bx w b t u) (h' : Bx w b t' v) : u = v := by
  have := h.symm.trans h'
  injection this with this
  injection this with this
  simpa using this
theorem TW.step {b0 ba bb : Nat} {w1 wr : World} {A B : M.Ents Tx} (h : TW b0 ba bb w1 wr A B) :
    ∃ Z, MapS Z wr ba A ∧ ∀ w2 A', MapS Z w2 ba A' → Keep Z wr w2 → TW b0 ba bb w1 w2 A' B := by
  obtain ⟨va, vb, h1, h2, h3, h4⟩ := h.ab
  refine ⟨_, h3, fun w2 A' hm hk => ?_⟩
  obtain ⟨va', g1, g2, g3, g4, g5⟩ := id hm
  obtain ⟨vb', f1, f2, f3, f4, f5⟩ := h4
  obtain rfl := bx_inj h2 f1
  have k1 := h2.keep hk (.inr (.inl rfl))
  refine ⟨⟨va', vb, g1, k1, hm, ⟨vb, k1, ?_, ?_, f4, ?_⟩⟩, h.kp.tr (hk.weak (fun k hk => .inl hk))⟩
  · rintro (hb | hb | hb)
    · exact f2 (.inl hb)
    · exact f2 (.inr (.inl hb))
    · exact g3.2 bb hb (.inr (.inl rfl))
  · have := f3.keep hk (fun g hg => .inr (.inr hg))
    refine ⟨this.1, fun g hg => ?_⟩
    rintro (hb | hb | hb)
    · exact f3.2 g hg (.inl hb)
    · exact f3.2 g hg (.inr (.inl hb))
    · exact g3.2 g hb (.inr (.inr hg))
  · rintro k (hk' | hk' | hk')
    · exact g5 k (.inl hk')
    · subst hk'; exact g1.lt
    · exact (g3.1.lt k hk').2
theorem TW.bel {b0 ba bb : Nat} {w1 wr w2 : World} {A B : M.Ents Tx} (h : TW b0 ba bb w1 wr A B) (hb : Bel wr w2) : TW b0 ba bb w1 w2 A B := by
  obtain ⟨va, vb, h1, h2, h3, h4⟩ := h.ab
  exact ⟨⟨va, vb, h1.bel hb, h2.bel hb, h3.bel hb, h4.bel hb⟩, h.kp.tr (Keep.of_bel hb (fun k hk => h3.lt k (.inl hk)))⟩
theorem TW.new (w1 : World) : TW w1.heap.size w1.heap.size (w1.heap.size + 1) w1 ((w1.alloc (.cells #[.slice none 0 0] 26)).alloc (.cells #[.slice none 0 0] 26)) [] [] := by
  have n1 := Bx.new w1 26 (.slice none 0 0)
  have n2 := Bx.new (w1.alloc (.cells #[.slice none 0 0] 26)) 26 (.slice none 0 0)
  simp only [World.size_alloc] at n2
  refine ⟨⟨.slice none 0 0, .slice none 0 0, n1.al _, n2, ⟨_, n1.al _, ?_, ⟨World.ownsRow_nil _ _ _ _, by simp [Value.ownBlock]⟩, by simp [Value.ownBlock], ?_⟩, ⟨_, n2, ?_, ⟨World.ownsRow_nil _ _ _ _, by simp [Value.ownBlock]⟩, by simp [Value.ownBlock], ?_⟩⟩, ((Keep.refl _ _).al (fun _ h => h) _).al (fun _ h => h) _⟩
  · simp [Value.ownBlock]
  · rintro k (h | h | h)
    · simp; omega
    · simp; omega
    · simp [Value.ownBlock] at h
  · simp [Value.ownBlock]
  · rintro k (h | h | h)
    · simp; omega
    · simp; omega
    · simp [Value.ownBlock] at h
/-- The texts, cut. -/
def cutT (l : List Tx) : List Tx := (l.take 30).map (·.take 20)
theorem cutT_length (l : List Tx) : (cutT l).length = min l.length 30 := by simp [cutT]; omega
theorem cutT_get (l : List Tx) (i : Nat) (h : i < (cutT l).length) (h' : i < l.length) : (cutT l)[i] = l[i].take 20 := by simp [cutT]
theorem cut_eq (t : Tx) : (M.bs t).extract 0 (min (t.length : Int) 20).toNat = M.bs (t.take 20) := by
  rw [M.extract_bs, M.bs_data, List.drop_zero]
  congr 1
  by_cases h : t.length ≤ 20
  · rw [List.take_of_length_le (by omega), List.take_of_length_le h]
  · congr 1; omega
def Rise (ks : List Tx) : Prop := ∀ i (h : i + 1 < ks.length), M.ltS ks[i] ks[i + 1] = true
theorem keys_rise (ks : List Tx) : Rise ((bldT ks).map (·.1)) := by
  intro i h
  have hu := List.pairwise_iff_getElem.1 (bldT_up ks) i (i + 1) (by simp at h; omega) (by simpa using h) (by omega)
  rw [M.cfS_lt] at hu
  simpa using hu
theorem not_le_of_lt {a b : Tx} (h : M.ltS a b = true) : (Op.bytesLess (M.bs b).toList (M.bs a).toList || (M.bs b).toList == (M.bs a).toList) = false := by
  rw [M.bs_toList, M.bs_toList]
  have h1 : M.ltS b a = false := by
    cases hba : M.ltS b a
    · rfl
    · have := M.ltS_trans _ _ _ h hba; rw [M.ltS_irrefl] at this; cases this
  have h2 : (b == a) = false := by
    rw [beq_eq_false_iff_ne]
    intro e
    rw [e, M.ltS_irrefl] at h; cases h
  unfold M.ltS at h1
  rw [h1, h2]; rfl
theorem bldT_len (ks : List Tx) : ∀ e ∈ bldT ks, e.2 = (e.1.length : Int) := fun e he => by
  obtain ⟨k, _, rfl⟩ := (bldT_mem ks e).1 he
  rfl
set_option maxHeartbeats 4000000 in
set_option maxRecDepth 100000 in
theorem turned_any (l : List Tx) (a : Option Addr) (cap : Nat) (w : World) (hL : l.length ≤ maxLen) (hs : l = [] ∨ ∃ g off, a = some ⟨g, off, none⟩ ∧ RowT w g off l) (hm : ∀ t ∈ l, t.length ≤ maxLen) :
    Calls Try.prog 6 #[.slice a l.length cap] w fun e w' => e = .returned (.bool true) ∧ Bel w w' := by
  unfold maxLen at hL hm
  have HS := hid hs
  have HM := hid hm
  clear hs hm
  obtain ⟨N, hN⟩ : ∃ N, N = min l.length 30 := ⟨_, rfl⟩
  have hmin : min (l.length : Int) 30 = (N : Int) := by omega
  have hNl : N ≤ l.length := by omega
  have hN30 : N ≤ 30 := by omega
  have HKl : Hid ((cutT l).length = N) := by show _ = _; rw [cutT_length, hN]
  clear hN
  go_enter Try.func6, Try.ntmps6
  go_wp2_with fail
  refine (speaks_any _).mono ?_
  rintro e w1 ⟨rfl, b1⟩
  have HB1 := hid b1
  have hz1 := b1.size
  clear b1
  go_wp2_with fail
  have H0 := hid (TW.new w1)
  go_loopw [6] (fun i wr => ∃ (k : Nat), k ≤ N ∧ i = .int .i64 k ∧ Hid (TW w1.heap.size w1.heap.size (w1.heap.size + 1) w1 wr (bldT ((cutT l).take k)) (bldT ((cutT l).reverse.take k)))) (fun i _ => N - (intOf i).toNat)
  case atStart => exact ⟨0, Nat.zero_le _, rfl, H0.out⟩
  case round =>
    clear H0
    obtain ⟨k, hk, rfl, HT⟩ := hrel
    by_cases hlt : k < N
    · obtain ⟨g, off, rfl, hr⟩ : ∃ g off, a = some ⟨g, off, none⟩ ∧ RowT w g off l := by
        rcases HS.out with h | h
        · subst h; simp at hNl; omega
        · exact h
      have hBw : Hid (Bel w wr) := HB1.out.tr (HT.out.kp.below)
      have ck := (hr.bel hBw.out) k (by omega)
      have HK1 : Hid ((cutT l).take (k + 1) = (cutT l).take k ++ [l[k].take 20]) := by
        show _ = _
        rw [List.take_succ_eq_append_getElem (by rw [HKl.out]; exact hlt), cutT_get l k _ (by omega)]
      have hsz : (M.bs l[k]).size = l[k].length := M.bs_size _
      have hmx := HM.out l[k] (List.getElem_mem (by omega))
      have hce := cut_eq l[k]
      have hkl : (k : Int) < (l.length : Int) := by omega
      generalize l[k] = t at *
      have hsz2 : (M.bs (t.take 20)).size = (t.take 20).length := M.bs_size _
      have HD := hid (HT.out.bel (Bel.dr (Below.refl _ _)))
      have hBl : ∀ j, (bldT ((cutT l).take j)).length ≤ 30 ∧ (bldT ((cutT l).reverse.take j)).length ≤ 30 := fun j => by
        have h1 := bldT_length ((cutT l).take j)
        have h2 := bldT_length ((cutT l).reverse.take j)
        have h3 := HKl.out
        rw [List.length_take] at h1 h2
        rw [List.length_reverse] at h2
        omega
      have HBl := hid hBl
      clear hBl
      obtain ⟨Z, hZ, hZs⟩ := HD.out.step
      have HSa := hid (setS Z _ (bldT_up _) (t.take 20) ((t.take 20).length : Nat) w1.heap.size wr.drew (by have := (HBl.out k).1; omega) hZ)
      rw [← bldT_snoc] at HSa
      have HZs := hid hZs
      clear hZ hZs
      have HR := hid hr
      clear hr
      generalize t.take 20 = kt at *
      go_wp2_with fail
      go_region
      clear ck hce hsz hmx
      go_wp2_with fail
      refine HSa.out.mono ?_
      rintro e w2 ⟨rfl, m2, k2⟩
      have HD2 := hid (HZs.out w2 _ m2 k2)
      clear m2 k2 HSa HZs HD HT
      have hidx : (N : Int) - 1 - (k : Int) = ((N - 1 - k : Nat) : Int) := by omega
      have hix : N - 1 - k < l.length := by omega
      have hBw2 : Hid (Bel w w2) := HB1.out.tr (HD2.out.kp.below)
      have ck := (HR.out.bel hBw2.out) (N - 1 - k) hix
      have HK2 : Hid ((cutT l).reverse.take (k + 1) = (cutT l).reverse.take k ++ [l[N - 1 - k].take 20]) := by
        show _ = _
        have h3 := HKl.out
        rw [List.take_succ_eq_append_getElem (by rw [List.length_reverse, h3]; exact hlt), List.getElem_reverse]
        congr 2
        have : (cutT l).length - 1 - k = N - 1 - k := by rw [h3]
        rw [← cutT_get l (N - 1 - k) (by rw [h3]; omega) hix]
        congr 1
      have hsz : (M.bs l[N - 1 - k]).size = l[N - 1 - k].length := M.bs_size _
      have hmx := HM.out l[N - 1 - k] (List.getElem_mem hix)
      have hce := cut_eq l[N - 1 - k]
      have hkl2 : ((N - 1 - k : Nat) : Int) < (l.length : Int) := by omega
      generalize l[N - 1 - k] = t2 at *
      have hsz3 : (M.bs (t2.take 20)).size = (t2.take 20).length := M.bs_size _
      have HD3 := hid (HD2.out.bel (Bel.dr (Below.refl _ _)))
      obtain ⟨Z2, hZ2, hZs2⟩ := HD3.out.swap.step
      have HSb := hid (setS Z2 _ (bldT_up _) (t2.take 20) ((t2.take 20).length : Nat) (w1.heap.size + 1) w2.drew (by have := (HBl.out k).2; omega) hZ2)
      rw [← bldT_snoc] at HSb
      have HZs2 := hid hZs2
      clear hZ2 hZs2
      generalize t2.take 20 = kt2 at *
      generalize N - 1 - k = ix at *
      go_wp2_with fail
      go_region
      clear ck hce hsz hmx
      go_wp2_with fail
      refine HSb.out.mono ?_
      rintro e w3 ⟨rfl, m3, k3⟩
      have HD4 := hid (HZs2.out w3 _ m3 k3).swap
      clear m3 k3 HSb HZs2 HD3 HD2
      go_wp2_with fail
      go_roundw
      case rel => exact ⟨k + 1, by omega, by go_num, by unfold Hid; rw [HK1.out, HK2.out]; exact HD4.out⟩
      case measure => simp [intOf]; omega
    · have hkN : k = N := by omega
      subst hkN
      have HT2 : Hid (TW w1.heap.size w1.heap.size (w1.heap.size + 1) w1 wr (bldT (cutT l)) (bldT (cutT l))) := by
        have h := HT.out
        rw [List.take_of_length_le (by rw [HKl.out]; omega), List.take_of_length_le (by rw [List.length_reverse, HKl.out]; omega), bldT_reverse] at h
        exact h
      clear HT
      obtain ⟨W0, rfl⟩ : ∃ W0, W0 = wr := ⟨_, rfl⟩
      have hM0 : (bldT (cutT l)).length ≤ 30 := by have := bldT_length (cutT l); rw [HKl.out] at this; omega
      have HU := hid (bldT_up (cutT l))
      have HKr := hid (keys_rise (cutT l))
      have HY1 := hid (fun B => ot_yields28 (bldT (cutT l)) B (by omega) (bldT_len _))
      have HY2 := hid (fun B => ot_yields29 (bldT (cutT l)) B (by omega) (bldT_len _))
      generalize bldT (cutT l) = M0 at *
      go_wp2_with fail
      refine (allS _ _).mono ?_
      rintro e w3 ⟨rfl, rfl⟩
      go_wp2_with fail
      have bW : Hid (Bel W0 (((W0.alloc (.cells #[.slice none 0 0] 27)).alloc (.cells #[.slice none 0 0] 27)).alloc (.cells #[.pointer (some ⟨w1.heap.size, 0, none⟩)] 42))) := Bel.al (Bel.al (Bel.al (Below.refl _ _) _) _) _
      obtain ⟨va, vb, _, hb2, hma, hmb⟩ := HT2.out.ab
      have hbw := hb2.lt
      have n1 := Bx.new W0 27 (.slice none 0 0)
      have n2 := Bx.new (W0.alloc (.cells #[.slice none 0 0] 27)) 27 (.slice none 0 0)
      have n3 := Bx.new ((W0.alloc (.cells #[.slice none 0 0] 27)).alloc (.cells #[.slice none 0 0] 27)) 42 (.pointer (some ⟨w1.heap.size, 0, none⟩))
      simp only [World.size_alloc] at n2 n3
      have HA1 := hid (allcS _ M0 w1.heap.size (W0.heap.size + 1 + 1) _ (by omega) (hma.bel bW.out) n3 28 _ _ _ (otJ_abides W0.heap.size) noneT_abides (HY1.out W0.heap.size) (fun j => j < W0.heap.size + 1 + 1 + 1 ∧ j ≠ W0.heap.size) (by
        refine ⟨_, (n1.al _).al _, by simp, ⟨World.ownsRow_nil _ _ _ _, by simp [Value.ownBlock]⟩, by simp [Value.ownBlock], fun j hj => by simp only [World.size_alloc]; exact hj.1⟩))
      have N2 := hid (n2.al (.cells #[.pointer (some ⟨w1.heap.size, 0, none⟩)] 42))
      clear hma hmb hb2 n1 n2 n3
      refine HA1.out.mono ?_
      rintro e w4 ⟨rfl, k4, h4⟩
      obtain h4 | ⟨_, _, h4⟩ := h4
      · have HX4 := hid h4
        have b4 : Hid (Bel W0 w4) := ((Keep.of_bel bW.out (fun k h => h)).tr (k4.weak (fun j (hj : j < W0.heap.size) => ⟨by omega, by omega⟩))).below
        have N4 : Hid (Bx w4 (W0.heap.size + 1) 27 (.slice none 0 0)) := N2.out.keep k4 ⟨by omega, by omega⟩
        have hz4 : W0.heap.size + 1 + 1 + 1 ≤ w4.heap.size := by have := k4.size; simp only [World.size_alloc] at this; exact this
        clear HA1 k4 h4 N2 bW
        go_wp2_with fail
        refine (allS _ _).mono ?_
        rintro e w5 ⟨rfl, rfl⟩
        go_wp2_with fail
        have HT4 := hid (HT2.out.bel b4.out)
        obtain ⟨va2, vb2, _, _, _, hmb2⟩ := HT4.out.ab
        have n3 := Bx.new w4 42 (.pointer (some ⟨w1.heap.size + 1, 0, none⟩))
        have b5 : Hid (Bel w4 (w4.alloc (.cells #[.pointer (some ⟨w1.heap.size + 1, 0, none⟩)] 42))) := Bel.al (Below.refl _ _) _
        have HA2 := hid (allcS _ M0 (w1.heap.size + 1) w4.heap.size _ (by omega) (hmb2.bel b5.out) n3 29 _ _ _ (otJ_abides (W0.heap.size + 1)) noneT_abides (HY2.out (W0.heap.size + 1)) (fun j => j < w4.heap.size + 1 ∧ j ≠ W0.heap.size + 1) (by
          refine ⟨_, N4.out.al _, by simp, ⟨World.ownsRow_nil _ _ _ _, by simp [Value.ownBlock]⟩, by simp [Value.ownBlock], fun j hj => by simp only [World.size_alloc]; exact hj.1⟩))
        clear hmb2 n3
        refine HA2.out.mono ?_
        rintro e w6 ⟨rfl, k6, h6⟩
        obtain h6 | ⟨_, _, h6⟩ := h6
        · have HTf : Hid (TW w1.heap.size w1.heap.size (w1.heap.size + 1) w1 w6 M0 M0) := by
            have hb : Bel W0 w6 := ((Keep.of_bel b4.out (fun k h => h)).tr ((Keep.of_bel b5.out (X := fun k => k < W0.heap.size) (fun j (hj : j < W0.heap.size) => by omega)).tr (k6.weak (fun j (hj : j < W0.heap.size) => ⟨by omega, by omega⟩)))).below
            exact HT2.out.bel hb
          obtain ⟨vx, x1, x2, x3, x4, x5⟩ := HX4.out
          have k46 : Keep (fun j => j < w4.heap.size ∧ j ≠ W0.heap.size + 1) w4 w6 := (Keep.of_bel b5.out (fun j hj => hj.1)).tr (k6.weak (fun j hj => ⟨by omega, hj.2⟩))
          have X1 := x1.keep k46 ⟨x1.lt, by omega⟩
          have X3 := x3.keep k46 (fun g hg => ⟨(x3.1.lt g hg).2, fun e => x3.2 g hg (by rw [e]; exact ⟨by omega, by omega⟩)⟩)
          obtain ⟨vy, y1, y2, y3, y4, y5⟩ := h6
          have lk : (M0.map (·.1)).length = M0.length := List.length_map ..
          rw [← lk] at X3 y3
          have HKr2 : Hid (Rise (M0.map (·.1))) := HKr.out
          have hkl : (M0.map (·.1)).length ≤ 30 := by rw [lk]; exact hM0
          obtain ⟨ax, cx, hvx, hrx⟩ : ∃ ax cx, vx = .slice ax (M0.map (·.1)).length cx ∧ (0 < (M0.map (·.1)).length → ∃ g, ax = some ⟨g, 0, none⟩ ∧ RowT w6 g 0 (M0.map (·.1))) := by
            rcases rowT_of X3 with ⟨rfl, h0⟩ | ⟨g, cp, rfl, hr⟩
            · exact ⟨none, 0, by rw [h0]; rfl, fun h => by rw [h0] at h; simp at h⟩
            · exact ⟨_, cp, rfl, fun _ => ⟨g, rfl, hr⟩⟩
          obtain ⟨ay, cy, hvy, hry⟩ : ∃ ay cy, vy = .slice ay (M0.map (·.1)).length cy ∧ (0 < (M0.map (·.1)).length → ∃ g, ay = some ⟨g, 0, none⟩ ∧ RowT w6 g 0 (M0.map (·.1))) := by
            rcases rowT_of y3 with ⟨rfl, h0⟩ | ⟨g, cp, rfl, hr⟩
            · exact ⟨none, 0, by rw [h0]; rfl, fun h => by rw [h0] at h; simp at h⟩
            · exact ⟨_, cp, rfl, fun _ => ⟨g, rfl, hr⟩⟩
          subst hvx hvy
          have HRX := hid hrx
          have HRY := hid hry
          have cX := X1.cell
          have cY := y1.cell
          have HX1 := hid X1
          have HY1' := hid y1
          have HQ : ∀ p n, (p = w1.heap.size ∨ p = w1.heap.size + 1) → Calls Try.prog 14 #[.pointer (some ⟨p, 0, none⟩)] (w6.drewN n) fun e w' => e = .returned (.int .i64 ((M0.map (·.1)).length : Nat)) ∧ w' = w6.drewN n := fun p n hp => by
            obtain ⟨_, _, _, _, h, h'⟩ := (HTf.out.bel (w2 := w6.drewN n) ⟨rfl, rfl, rfl, Nat.le_refl _, fun _ _ => rfl⟩).ab
            rw [lk]
            rcases hp with rfl | rfl
            · exact (lenS _ M0 w1.heap.size (w6.drewN n) h).mono (fun e w' ⟨a, b⟩ => ⟨a, b.symm⟩)
            · exact (lenS _ M0 (w1.heap.size + 1) (w6.drewN n) h').mono (fun e w' ⟨a, b⟩ => ⟨a, b.symm⟩)
          clear HA2 k6 x1 x2 x3 x4 x5 y1 y2 y3 y4 y5 k46 X1 X3 hrx hry HKr HY1 HY2 lk
          generalize M0.map (·.1) = KS at *
          have hq0 : ((KS.length : Int) != (KS.length : Int)) = false := by simp
          go_wp2_with fail
          go_quiet ((go_at_call 14; exact Calls.quiet_of_same (HQ _ _ (by first | exact .inl rfl | exact .inr rfl))))
          clear HQ cX cY
          have HBf := hid ((HB1.out.tr HTf.out.kp.below).tr (show Bel w6 (w6.drewN nq) from ⟨rfl, rfl, rfl, Nat.le_refl _, fun _ _ => rfl⟩))
          have HX7 := hid (HX1.out.bel (show Bel w6 (w6.drewN nq) from ⟨rfl, rfl, rfl, Nat.le_refl _, fun _ _ => rfl⟩))
          have HY7 := hid (HY1'.out.bel (show Bel w6 (w6.drewN nq) from ⟨rfl, rfl, rfl, Nat.le_refl _, fun _ _ => rfl⟩))
          have HRX7 : Hid (0 < KS.length → ∃ g, ax = some ⟨g, 0, none⟩ ∧ RowT (w6.drewN nq) g 0 KS) := HRX.out
          have HRY7 : Hid (0 < KS.length → ∃ g, ay = some ⟨g, 0, none⟩ ∧ RowT (w6.drewN nq) g 0 KS) := HRY.out
          generalize w6.drewN nq = w7 at *
          have cX7 := HX7.out.cell
          have cY7 := HY7.out.cell
          go_wp2_with fail
          clear cX7 cY7
          go_loopw [10] (fun i wr => ∃ k2 : Nat, k2 ≤ KS.length ∧ i = .int .i64 k2 ∧ Hid (Bel w7 wr)) (fun i _ => KS.length - (intOf i).toNat)
          case atStart => exact ⟨0, Nat.zero_le _, rfl, Below.refl _ _⟩
          case round =>
            obtain ⟨k2, hk2, rfl, HBr⟩ := hrel
            have cX := (HX7.out.bel HBr.out).cell
            have cY := (HY7.out.bel HBr.out).cell
            by_cases hlt2 : k2 < KS.length
            · obtain ⟨gx, rfl, hrx⟩ := HRX7.out (by omega)
              obtain ⟨gy, rfl, hry⟩ := HRY7.out (by omega)
              have c1 := (hrx.bel HBr.out) k2 hlt2
              have c2 := (hry.bel HBr.out) k2 hlt2
              rw [Nat.zero_add] at c1 c2
              have hkk : (k2 : Int) < (KS.length : Int) := by omega
              by_cases h0 : k2 = 0
              · subst h0
                have hd : decide ((0 : Int) < ((0 : Nat) : Int)) = false := by simp
                clear hrx hry
                generalize KS[0] = kk at *
                go_wp2_with fail
                go_quiet (fail)
                have HB8 := hid (HBr.out.tr (show Bel wr (wr.drewN nq) from ⟨rfl, rfl, rfl, Nat.le_refl _, fun _ _ => rfl⟩))
                clear c1 c2 cX cY
                go_wp2_with fail
                go_roundw
                case rel => exact ⟨1, by omega, rfl, HB8.out⟩
                case measure => simp [intOf]; omega
              · have c3 := (hrx.bel HBr.out) (k2 - 1) (by omega)
                rw [Nat.zero_add] at c3
                have hle : (Op.bytesLess (M.bs KS[k2]).toList (M.bs KS[k2 - 1]).toList || (M.bs KS[k2]).toList == (M.bs KS[k2 - 1]).toList) = false := by
                  have := HKr2.out (k2 - 1) (by omega)
                  have e : k2 - 1 + 1 = k2 := by omega
                  simp only [e] at this
                  exact not_le_of_lt this
                have hidx : (k2 : Int) - 1 = ((k2 - 1 : Nat) : Int) := by omega
                have hd : decide (0 < k2) = true := by simp; omega
                have hd2 : 0 < k2 := by omega
                have hix : k2 - 1 < KS.length := by omega
                clear hrx hry
                generalize KS[k2 - 1] = kj at *
                generalize KS[k2] = kk at *
                generalize k2 - 1 = k3 at *
                go_wp2_with fail
                go_quiet (fail)
                have HB8 := hid (HBr.out.tr (show Bel wr (wr.drewN nq) from ⟨rfl, rfl, rfl, Nat.le_refl _, fun _ _ => rfl⟩))
                clear c1 c2 c3 cX cY
                go_wp2_with fail
                go_roundw
                case rel => exact ⟨k2 + 1, by omega, by go_num, HB8.out⟩
                case measure => simp [intOf]; omega
            · have HFin := hid (HBf.out.tr HBr.out)
              go_wp2_with fail
              go_ret
              exact ⟨rfl, HFin.out⟩
        · exact h6.elim
      · exact h4.elim
end Go.Proofs.Ytoelaemneoabfab
