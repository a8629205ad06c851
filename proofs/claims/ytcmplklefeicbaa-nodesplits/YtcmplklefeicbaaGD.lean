/-
  What node and the document answer, side by side: put in, marked, removed.
-/
import Derived.Test.YtcmplklefeicbaaGC
import Derived.Test.YtcmplklefeicbaaFA
namespace Go.Proofs.Ytcmplklefeicbaa
open Go.RowKit
set_option maxRecDepth 100000

theorem up_of_rises {high : List UInt8} {es : List M.En} (h : M.rises high es = true) : M.Up M.cfS es := by
  have hok : ∀ j (hj : j + 1 < es.length), M.cfS (es[j]'(by omega)).1 (es[j + 1]'hj).1 < 0 := fun j hj => by
    have := List.all_eq_true.1 h (j + 1) (List.mem_range.2 hj)
    have hj' : j < es.length := by omega
    simp only [M.okAt, Bool.and_eq_true, Bool.or_eq_true, decide_eq_true_eq, Nat.add_sub_cancel, List.getElem?_eq_getElem hj, List.getElem?_eq_getElem hj', Option.getD_some] at this
    rw [M.cfS_lt]
    rcases this.1 with h0 | h0
    · omega
    · exact h0
  refine List.pairwise_iff_getElem.2 fun i j hi hj hij => ?_
  obtain ⟨d, rfl⟩ : ∃ d, j = i + 1 + d := ⟨j - i - 1, by omega⟩
  clear hij
  induction d with
  | zero => exact hok i hj
  | succ d ih => exact M.ordS.trans _ _ _ (ih (by omega)) (hok (i + 1 + d) hj)
theorem sm_no : Sm M.noPg := ⟨by simp [M.noPg], by simp [M.noPg], by simp [M.noPg]⟩
/-- Both answer r and en. -/
def Both (f g : FuncId) (p : M.Pg) (args : List Value) (r : M.Pg) (en : Int) : Prop :=
  (∀ x w, Vs w x p.es → Calls Try.prog f (#[pv p x] ++ args.toArray) w fun e w' => ∃ x', e = .returned (.tuple #[pv r x', .int .i64 en]) ∧ w'.ownsRow w.heap.size 40 3 x' r.es.length (csE r.es) ∧ Bel w w') ∧
    (∀ y w, Vs w y p.es → Calls Try.prog g (#[pv p y] ++ args.toArray) w fun e w' => ∃ y', e = .returned (.tuple #[pv r y', .int .i64 en]) ∧ w'.ownsRow w.heap.size 43 3 y' r.es.length (csE r.es) ∧ Bel w w')
theorem ins_both {p : M.Pg} (hs : Sm p) (h9 : p.es.length ≤ 900) (hu : M.Up M.cfS p.es) (k v : List UInt8) (m : Bool) (hk : k.length ≤ 80) (hv : v.length ≤ 120) : ∃ r en, Sm r ∧ Both 11 12 p [ev (k, v, m)] r en := by
  refine ⟨M.insP p (k, v, m), M.insE p (k, v, m), ?_, fun x w hx => ?_, fun y w hy => ?_⟩
  · by_cases hE : M.insE p (k, v, m) = 0
    · have hP : M.insP p (k, v, m) = { p with es := M.set M.cfS p.es k (v, m) } := by simp [M.insP, hE]
      rw [hP]
      have hl := M.set_length (cf := M.cfS) p.es k (v, m)
      refine ⟨hs.high, ?_, fun e he => ?_⟩
      · show (M.set M.cfS p.es k (v, m)).length ≤ 1000
        rw [hl]; split <;> omega
      · rcases (M.mem_set M.ordS p.es hu k (v, m) e).1 he with rfl | ⟨he, _⟩
        · exact ⟨by show k.length ≤ 1000; omega, by show v.length ≤ 1000; omega⟩
        · exact hs.each e he
    · have hP : M.insP p (k, v, m) = M.noPg := by simp [M.insP, hE]
      rw [hP]; exact sm_no
  · exact insert_any p x (k, v, m) w hs hx hu (by show k.length ≤ _; omega) (by show v.length ≤ _; omega)
  · exact rins_any p y (k, v, m) w hs h9 hy hu (by show k.length ≤ _; omega) (by show v.length ≤ _; omega)
theorem rem_both {p : M.Pg} (hs : Sm p) (h9 : p.es.length ≤ 900) (hu : M.Up M.cfS p.es) (k : List UInt8) : ∃ r en, Sm r ∧ Both 16 17 p [.string (M.bs k)] r en := by
  cases hh : M.has M.cfS p.es k with
  | false =>
    refine ⟨M.noPg, 11, sm_no, fun x w hx => ?_, fun y w hy => ?_⟩
    · exact (remove_none p x k w hs hx.vals hu hh).mono fun e w' ⟨h1, h2⟩ => ⟨.slice none 0 0, h1, World.ownsRow_nil _ _ _ _, h2⟩
    · exact (rremove_none p y k w hs hy.vals hu hh).mono fun e w' ⟨h1, h2⟩ => ⟨.slice none 0 0, h1, World.ownsRow_nil _ _ _ _, h2⟩
  | true =>
    have hlt := M.pos_lt_of_has hh
    refine ⟨{ p with es := M.del M.cfS p.es k }, 0, ⟨hs.high, ?_, fun e he => hs.each e ((M.mem_del M.ordS p.es hu k e).1 he).1⟩, fun x w hx => remove_yes p x k w hs hx hu hh, fun y w hy => ?_⟩
    · have := M.del_length (cf := M.cfS) p.es k
      have := hs.es
      show (M.del M.cfS p.es k).length ≤ 1000
      omega
    · rcases hy with ⟨rfl, h0⟩ | ⟨b, off, cap, rfl, hc, hb, hr⟩
      · rw [h0] at hlt; simp at hlt
      · exact rremove_some p b off cap k w hs h9 hc hb hr hu hh
theorem mark_both {p : M.Pg} (hs : Sm p) (hu : M.Up M.cfS p.es) (k : List UInt8) (m : Bool) : ∃ r en, Sm r ∧ Both 14 15 p [.string (M.bs k), .bool m] r en := by
  cases hh : M.has M.cfS p.es k with
  | false =>
    refine ⟨M.noPg, 11, sm_no, fun x w hx => ?_, fun y w hy => ?_⟩
    · exact (mark_none p x k m w hs hx.vals hu hh).mono fun e w' ⟨h1, h2⟩ => ⟨.slice none 0 0, h1, World.ownsRow_nil _ _ _ _, h2⟩
    · exact (rmark_none p y k m w hs hy.vals hu hh).mono fun e w' ⟨h1, h2⟩ => ⟨.slice none 0 0, h1, World.ownsRow_nil _ _ _ _, h2⟩
  | true =>
    have hlt := M.pos_lt_of_has hh
    by_cases hm : m = (p.es[M.pos M.cfS p.es k]'hlt).2.2
    · refine ⟨M.noPg, 17, sm_no, fun x w hx => ?_, fun y w hy => ?_⟩
      · rcases hx with ⟨rfl, h0⟩ | ⟨b, off, cap, rfl, hc, hb, hr⟩
        · rw [h0] at hlt; simp at hlt
        · exact (mark_same p b off cap k w hs hb hr hu hh _ rfl hlt m hm).mono fun e w' ⟨h1, h2⟩ => ⟨.slice none 0 0, h1, World.ownsRow_nil _ _ _ _, h2⟩
      · rcases hy with ⟨rfl, h0⟩ | ⟨b, off, cap, rfl, hc, hb, hr⟩
        · rw [h0] at hlt; simp at hlt
        · exact (rmark_same p b off cap k w hs hb hr hu hh _ rfl hlt m hm).mono fun e w' ⟨h1, h2⟩ => ⟨.slice none 0 0, h1, World.ownsRow_nil _ _ _ _, h2⟩
    · obtain ⟨mk, hmk⟩ : ∃ mk, mk = (p.es[M.pos M.cfS p.es k]'hlt).2.2 := ⟨_, rfl⟩
      have hm2 : m = !mk := by rw [← hmk] at hm; cases m <;> cases mk <;> simp_all
      subst hm2
      have hlen := M.mark_length p.es (M.pos M.cfS p.es k) (!mk)
      refine ⟨{ p with es := M.mark p.es (M.pos M.cfS p.es k) (!mk) }, 0, ⟨hs.high, by show (M.mark p.es _ _).length ≤ 1000; rw [hlen]; exact hs.es, fun e he => ?_⟩, fun x w hx => ?_, fun y w hy => ?_⟩
      · obtain ⟨e', he', h1, h2⟩ := M.mark_mem p.es _ _ e he
        rw [← h1, ← h2]
        exact hs.each e' he'
      · rcases hx with ⟨rfl, h0⟩ | ⟨b, off, cap, rfl, hc, hb, hr⟩
        · rw [h0] at hlt; simp at hlt
        · refine (mark_yes p b off cap k w hs hc hb hr hu hh _ rfl hlt mk hmk).mono ?_
          rintro e w' ⟨x', h1, h2, h3⟩
          exact ⟨x', h1, by show w'.ownsRow w.heap.size 40 3 x' (M.mark p.es _ _).length _; rw [hlen]; exact h2, h3⟩
      · rcases hy with ⟨rfl, h0⟩ | ⟨b, off, cap, rfl, hc, hb, hr⟩
        · rw [h0] at hlt; simp at hlt
        · refine (rmark_yes p b off cap k w hs hc hb hr hu hh _ rfl hlt mk hmk).mono ?_
          rintro e w' ⟨x', h1, h2, h3⟩
          exact ⟨x', h1, by show w'.ownsRow w.heap.size 43 3 x' (M.mark p.es _ _).length _; rw [hlen]; exact h2, h3⟩
end Go.Proofs.Ytcmplklefeicbaa
