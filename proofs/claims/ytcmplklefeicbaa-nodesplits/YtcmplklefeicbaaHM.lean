/-
  What the law NodeHolds keeps: a leaf with room, and a map that tells its keys.
-/
import Derived.Test.YtcmplklefeicbaaRM
import Derived.Test.YtcmplklefeicbaaU
import Derived.Maps.OwnSet
import Derived.StringKeys
namespace Go.Proofs.Ytcmplklefeicbaa
open Go.RowKit
set_option maxRecDepth 100000

/-- A leaf of entries that aren't too long, with no less than no room. -/
structure HI (p : M.Pg) : Prop where
  kind : p.kind = 3
  level : p.level = 0
  high : p.high = []
  up : M.Up M.cfS p.es
  each : ∀ e ∈ p.es, e.1.length ≤ 64 ∧ e.2.1.length ≤ 100
  room : M.szs p.es ≤ 489
theorem hi_new : HI ⟨0, 3, 0, 0, [], []⟩ := ⟨rfl, rfl, rfl, List.Pairwise.nil, by simp, by simp [M.szs]⟩
theorem szs_ge (L : List M.En) : L.length * 3 ≤ M.szs L := by
  induction L with
  | nil => simp [M.szs]
  | cons e L ih => simp only [M.szs, M.szE, List.length_cons]; omega
theorem HI.len {p : M.Pg} (h : HI p) : p.es.length ≤ 163 := by have := szs_ge p.es; have := h.room; omega
theorem HI.sm {p : M.Pg} (h : HI p) : Sm p := by
  refine ⟨by rw [h.high]; simp, by have := h.len; omega, fun e he => ?_⟩
  obtain ⟨h1, h2⟩ := h.each e he
  exact ⟨by omega, by omega⟩
theorem HI.rises {p : M.Pg} (h : HI p) : M.rises p.high p.es = true := by
  refine M.rises_yes fun j hj => ?_
  unfold M.okAt
  rw [h.high]
  simp only [Bool.and_eq_true, Bool.or_eq_true, decide_eq_true_eq]
  refine ⟨?_, rfl⟩
  by_cases h0 : j = 0
  · exact .inl h0
  · right
    have := List.pairwise_iff_getElem.1 h.up (j - 1) j (by omega) hj (by omega)
    rw [M.cfS_lt] at this
    simpa [hj, show j - 1 < p.es.length by omega] using this
theorem HI.free {p : M.Pg} (h : HI p) : 0 ≤ M.free p := by
  have := h.room
  simp only [M.free, h.high, List.length_nil]; omega
theorem has_set (L : M.Ents (List UInt8)) (hu : M.Up M.cfS L) (k : List UInt8) (v : M.V) (k' : List UInt8) : M.has M.cfS (M.set M.cfS L k v) k' = (decide (k' = k) || M.has M.cfS L k') := by
  have h1 := M.has_iff M.ordS (M.set M.cfS L k v) (M.up_set M.ordS L hu k v) k'
  have h2 := M.has_iff M.ordS L hu k'
  rw [Bool.eq_iff_iff, h1, Bool.or_eq_true, decide_eq_true_eq, h2]
  constructor
  · rintro ⟨v', h⟩
    rcases (M.mem_set M.ordS L hu k v _).1 h with h | ⟨h, _⟩
    · exact .inl (congrArg Prod.fst h)
    · exact .inr ⟨v', h⟩
  · rintro (rfl | ⟨v', h⟩)
    · exact ⟨v, (M.mem_set M.ordS L hu k' v _).2 (.inl rfl)⟩
    · by_cases e : k' = k
      · subst e; exact ⟨v, (M.mem_set M.ordS L hu k' v _).2 (.inl rfl)⟩
      · exact ⟨v', (M.mem_set M.ordS L hu k v _).2 (.inr ⟨h, e⟩)⟩
theorem has_del (L : M.Ents (List UInt8)) (hu : M.Up M.cfS L) (k k' : List UInt8) : M.has M.cfS (M.del M.cfS L k) k' = (!decide (k' = k) && M.has M.cfS L k') := by
  have h1 := M.has_iff M.ordS (M.del M.cfS L k) (M.up_del L hu k) k'
  have h2 := M.has_iff M.ordS L hu k'
  rw [Bool.eq_iff_iff, h1, Bool.and_eq_true, h2]
  simp only [Bool.not_eq_true', decide_eq_false_iff_not]
  constructor
  · rintro ⟨v', h⟩
    have := (M.mem_del M.ordS L hu k _).1 h
    exact ⟨this.2, v', this.1⟩
  · rintro ⟨h, v', h'⟩
    exact ⟨v', (M.mem_del M.ordS L hu k _).2 ⟨h', h⟩⟩
theorem szs_mid (L : List M.En) (i : Nat) (e : M.En) : M.szs (L.take i ++ e :: L.drop i) = M.szs L + M.szE e := by
  have h : M.szs L = M.szs (L.take i) + M.szs (L.drop i) := by rw [← M.szs_append, List.take_append_drop]
  rw [M.szs_append, M.szs, h]; omega
theorem szs_cut (L : List M.En) (i : Nat) : M.szs (L.take i ++ L.drop (i + 1)) ≤ M.szs L := by
  have h : M.szs L = M.szs (L.take i) + M.szs (L.drop i) := by rw [← M.szs_append, List.take_append_drop]
  rw [M.szs_append, h]
  by_cases hi : i < L.length
  · rw [List.drop_eq_getElem_cons hi, M.szs]; omega
  · rw [List.drop_eq_nil_of_le (by omega), M.szs]; omega
/-- One more entry. -/
theorem HI.ins {p : M.Pg} (h : HI p) (k v : List UInt8) (m : Bool) (hk : k.length ≤ 64) (hv : v.length ≤ 100) :
    (M.has M.cfS p.es k = true ∧ M.insE p (k, v, m) = 12) ∨ (M.has M.cfS p.es k = false ∧ M.insE p (k, v, m) = 8 ∧ M.free p < (M.szE (k, v, m) : Int)) ∨
      (M.has M.cfS p.es k = false ∧ M.insE p (k, v, m) = 0 ∧ HI (M.insP p (k, v, m)) ∧ (M.insP p (k, v, m)).es.length = p.es.length + 1 ∧ ∀ k', M.has M.cfS (M.insP p (k, v, m)).es k' = (decide (k' = k) || M.has M.cfS p.es k')) := by
  have hc : M.cov p.high k = true := by rw [h.high]; rfl
  have h1 : ¬ 64 < k.length := by omega
  have h2 : ¬ 100 < v.length := by omega
  by_cases hh : M.has M.cfS p.es k = true
  · exact .inl ⟨hh, by simp [M.insE, h1, h2, hc, hh]⟩
  · have hh' : M.has M.cfS p.es k = false := by simpa using hh
    by_cases hf : M.free p < (M.szE (k, v, m) : Int)
    · exact .inr (.inl ⟨hh', by simp [M.insE, h1, h2, hc, hh', hf], hf⟩)
    · have hE : M.insE p (k, v, m) = 0 := by simp [M.insE, h1, h2, hc, hh', hf]
      have hP : M.insP p (k, v, m) = { p with es := M.set M.cfS p.es k (v, m) } := by simp [M.insP, hE]
      have hset := M.set_new p.es k (v, m) hh'
      refine .inr (.inr ⟨hh', hE, ?_, ?_, ?_⟩)
      · rw [hP]
        refine ⟨h.kind, h.level, h.high, M.up_set M.ordS _ h.up _ _, fun e he => ?_, ?_⟩
        · rcases (M.mem_set M.ordS p.es h.up k (v, m) e).1 he with rfl | ⟨he, _⟩
          · exact ⟨hk, hv⟩
          · exact h.each e he
        · show M.szs (M.set M.cfS p.es k (v, m)) ≤ 489
          rw [hset, szs_mid]
          simp only [M.free, h.high, List.length_nil] at hf
          have := h.room
          omega
      · rw [hP]
        show (M.set M.cfS p.es k (v, m)).length = _
        rw [M.set_length, hh']; rfl
      · rw [hP]
        exact has_set p.es h.up k (v, m)
theorem HI.del {p : M.Pg} (h : HI p) (k : List UInt8) (hh : M.has M.cfS p.es k = true) : HI { p with es := M.del M.cfS p.es k } ∧ (M.del M.cfS p.es k).length + 1 = p.es.length := by
  refine ⟨⟨h.kind, h.level, h.high, M.up_del _ h.up _, fun e he => h.each e ((M.mem_del M.ordS p.es h.up k e).1 he).1, ?_⟩, ?_⟩
  · show M.szs (M.del M.cfS p.es k) ≤ 489
    rw [M.del_old _ _ hh]
    exact Nat.le_trans (szs_cut _ _) h.room
  · have := M.del_length (cf := M.cfS) p.es k
    have h2 := M.pos_lt_of_has hh
    rw [hh] at this
    simp at this
    omega

/-- How a bool of the map reads. -/
def RBl (v : Value) : Option (DataW Unit × List MemPlace) := match v with
  | .bool b => some (.lit (.bool b), [])
  | _ => none
theorem RBl_inv {v : Value} {b : Bool} {ps : List MemPlace} (h : RBl v = some (.lit (.bool b), ps)) : v = .bool b := by
  unfold RBl at h
  split at h
  · simp only [Option.some.injEq, Prod.mk.injEq, DataW.lit.injEq, Lit.bool.injEq] at h
    rw [h.1]
  · cases h
theorem law9 : Maps.Keyed Try.prog 9 := Maps.string_keyed Try.underlying9
/-- Block mb is a map of as many keys, those of F. -/
def MapS (w : World) (mb n : Nat) (F : List UInt8 → Bool) (s : Nat) : Prop := ∃ D : DataW Unit, w.ownsMap Try.prog 9 RBl mb n D ∧ (∀ k, D.atKey (.string k) (.lit (.bool false)) = .lit (.bool (F k))) ∧ (∀ k, Maps.has D (.string k) = F k) ∧ Maps.size D = s
theorem MapS.same {w w' : World} {mb n s : Nat} {F : List UInt8 → Bool} (h : MapS w mb n F s) (hb : w'.heap[mb]? = w.heap[mb]?) : MapS w' mb n F s := by
  obtain ⟨D, ⟨es, clock, h1, h2⟩, h3⟩ := h
  exact ⟨D, ⟨es, clock, hb.trans h1, h2⟩, h3⟩
theorem MapS.lt {w : World} {mb n s : Nat} {F : List UInt8 → Bool} (h : MapS w mb n F s) : mb < w.heap.size := by
  obtain ⟨D, h1, _⟩ := h
  exact h1.lt
theorem MapS.bel {w w' : World} {mb n s : Nat} {F : List UInt8 → Bool} (h : MapS w mb n F s) (k : Bel w w') : MapS w' mb n F s := h.same (k.block mb h.lt)
theorem MapS.new (w : World) : MapS (w.alloc (.map #[] 0)) w.heap.size 0 (fun _ => false) 0 :=
  ⟨_, World.ownsMap_made w Try.prog 9 RBl, fun _ => rfl, fun _ => rfl, rfl⟩
theorem MapS.look {w : World} {mb n s : Nat} {F : List UInt8 → Bool} (h : MapS w mb n F s) (k : List UInt8) (hk : k.length ≤ 64) : (Instr.lookup 58 (.map (some mb)) (.string (M.bs k)) false).run Try.prog w = .ok (.bool (F k)) w := by
  obtain ⟨D, h1, h2, _⟩ := h
  obtain ⟨v, ps, hr, hv⟩ := h1.lookup law9 Try.underlying58 (z := .bool false) (by kernel_rfl) (zd := .lit (.bool false)) rfl (WideMaps.keyOf_string_mk Try.underlying9 (s := M.bs k) (by rw [M.bs_size]; unfold maxLen; omega))
  rw [M.bs_data, h2 k] at hv
  rw [hr, RBl_inv hv]
theorem MapS.len {w : World} {mb n s : Nat} {F : List UInt8 → Bool} (h : MapS w mb n F s) (ty : TypeId) : (Builtin.len_ #[58] ty #[.map (some mb)]).run Try.prog w = .ok (.int .i64 (s : Nat)) w := by
  obtain ⟨D, h1, _, _, h4⟩ := h
  rw [h1.len Try.underlying58 ty, h4]
theorem MapS.store {w : World} {mb n s : Nat} {F : List UInt8 → Bool} (h : MapS w mb n F s) (hn : n < maxLen) (k : List UInt8) (hk : k.length ≤ 64) (hF : F k = false) :
    ∃ w', (Instr.mapUpdate 58 (.map (some mb)) (.string (M.bs k)) (.bool true)).run Try.prog w = .ok () w' ∧ MapS w' mb (n + 1) (fun k' => decide (k' = k) || F k') (s + 1) ∧ w.mapTurned w' mb := by
  obtain ⟨D, h1, h2, h3, h4⟩ := h
  have htidy := h1.tidy law9
  obtain ⟨w', hr, g3, g4⟩ := h1.store law9 Try.underlying58 hn (WideMaps.keyOf_string_mk Try.underlying9 (s := M.bs k) (by rw [M.bs_size]; unfold maxLen; omega)) (show RBl (.bool true) = some (.lit (.bool true), []) from rfl)
  rw [M.bs_data] at g3
  refine ⟨w', hr, ⟨_, g3, fun k' => ?_, fun k' => ?_, ?_⟩, g4⟩
  · by_cases e : k' = k
    · subst e
      rw [Maps.atKey_put_same htidy.isMap (by trivial)]
      simp
    · rw [Maps.atKey_put_other (by simpa using e), h2]
      simp [e]
  · by_cases e : k' = k
    · subst e
      rw [Maps.has_put_same htidy.isMap (by trivial)]
      simp
    · rw [Maps.has_put_other (by simpa using e), h3]
      simp [e]
  · rw [Maps.size_put htidy, h3, hF, h4]; simp
theorem MapS.drop {w : World} {mb n s : Nat} {F : List UInt8 → Bool} (h : MapS w mb n F s) (k : List UInt8) (hk : k.length ≤ 64) (hF : F k = true) (ty : TypeId) :
    ∃ w', (Builtin.delete_ #[58, 9] ty #[.map (some mb), .string (M.bs k)]).run Try.prog w = .ok (.tuple #[]) w' ∧ MapS w' mb n (fun k' => !decide (k' = k) && F k') (s - 1) ∧ w.mapTurned w' mb := by
  obtain ⟨D, h1, h2, h3, h4⟩ := h
  have htidy := h1.tidy law9
  obtain ⟨w', hr, g3, g4⟩ := h1.drop law9 Try.underlying58 (WideMaps.keyOf_string_mk Try.underlying9 (s := M.bs k) (by rw [M.bs_size]; unfold maxLen; omega)) ty
  rw [M.bs_data] at g3
  refine ⟨w', hr, ⟨_, g3, fun k' => ?_, fun k' => ?_, ?_⟩, g4⟩
  · by_cases e : k' = k
    · subst e
      rw [Maps.atKey_del_same]
      simp
    · rw [Maps.atKey_del_other (by simpa using e), h2]
      simp [e]
  · by_cases e : k' = k
    · subst e
      rw [Maps.has_del_same]
      simp
    · rw [Maps.has_del_other (by simpa using e), h3]
      simp [e]
  · have := Maps.size_del htidy (k := .string k)
    rw [h3, hF, h4] at this
    simp at this
    omega
theorem turned_block {w w' : World} {mb j : Nat} (h : w.mapTurned w' mb) (hj : j < w.heap.size) (hn : j ≠ mb) : w'.heap[j]? = w.heap[j]? :=
  h.grown.block j hj (by simpa using hn)
end Go.Proofs.Ytcmplklefeicbaa
