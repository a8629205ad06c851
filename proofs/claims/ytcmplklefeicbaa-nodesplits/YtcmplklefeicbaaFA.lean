/-
  What the law NodeBack does, step by step.
-/
import Derived.Test.YtcmplklefeicbaaEE
namespace Go.Proofs.Ytcmplklefeicbaa
open Go.RowKit
set_option maxRecDepth 100000

theorem del_set (L : M.Ents (List UInt8)) (hu : M.Up M.cfS L) (k : List UInt8) (v : M.V) (hh : M.has M.cfS L k = false) : M.del M.cfS (M.set M.cfS L k v) k = L := by
  have hs := M.up_set M.ordS L hu k v
  refine M.up_ext M.ordS _ _ (M.up_del _ hs k) hu fun e => ?_
  rw [M.mem_del M.ordS _ hs k e, M.mem_set M.ordS L hu k v e]
  have hn : ∀ e ∈ L, e.1 ≠ k := fun e he hk => by
    have := (M.has_iff M.ordS L hu k).2 ⟨e.2, by rw [← hk]; exact he⟩
    rw [hh] at this; cases this
  constructor
  · rintro ⟨rfl | ⟨h1, _⟩, h2⟩
    · exact absurd rfl h2
    · exact h1
  · exact fun h => ⟨.inr ⟨h, hn e h⟩, hn e h⟩
theorem has_same (L : M.Ents (List UInt8)) (hu : M.Up M.cfS L) (k : List UInt8) (v : M.V) : M.has M.cfS (M.set M.cfS L k v) k = true := by
  rw [has_set L hu k v k]; simp
/-- An entry that is put in, and removed again. -/
theorem back_step {p : M.Pg} (hs : Sm p) (h9 : p.es.length ≤ 900) (hu : M.Up M.cfS p.es) (k v : List UInt8) (m : Bool) (hE : M.insE p (k, v, m) = 0) :
    ∃ r : M.Pg, Sm r ∧ M.free r = M.free p - (M.szE (k, v, m) : Int) ∧
      (∀ x w, Vs w x p.es → Calls Try.prog 11 #[pv p x, ev (k, v, m)] w fun e w' => ∃ x', e = .returned (.tuple #[pv r x', .int .i64 0]) ∧ w'.ownsRow w.heap.size 40 3 x' r.es.length (csE r.es) ∧ Bel w w') ∧
      (∀ x w, Vs w x r.es → Calls Try.prog 16 #[pv r x, .string (M.bs k)] w fun e w' => ∃ x', e = .returned (.tuple #[pv p x', .int .i64 0]) ∧ w'.ownsRow w.heap.size 40 3 x' p.es.length (csE p.es) ∧ Bel w w') := by
  have hP : M.insP p (k, v, m) = { p with es := M.set M.cfS p.es k (v, m) } := by simp [M.insP, hE]
  have hlk : k.length ≤ 64 ∧ v.length ≤ 100 ∧ M.has M.cfS p.es k = false := by
    unfold M.insE at hE
    simp only at hE
    split at hE
    · cases hE
    · split at hE
      · cases hE
      · split at hE
        · cases hE
        · split at hE
          · cases hE
          · exact ⟨by omega, by omega, by simp_all⟩
  obtain ⟨h1, h2, hh⟩ := hlk
  have hset := M.set_new p.es k (v, m) hh
  have hl := M.set_length (cf := M.cfS) p.es k (v, m)
  rw [hh] at hl
  have hsr : Sm { p with es := M.set M.cfS p.es k (v, m) } := ⟨hs.high, by show (M.set M.cfS p.es k (v, m)).length ≤ 1000; rw [hl]; simp; omega, fun e he => by
    rcases (M.mem_set M.ordS p.es hu k (v, m) e).1 he with rfl | ⟨he, _⟩
    · exact ⟨by show k.length ≤ 1000; omega, by show v.length ≤ 1000; omega⟩
    · exact hs.each e he⟩
  have hus := M.up_set M.ordS _ hu k (v, m)
  refine ⟨{ p with es := M.set M.cfS p.es k (v, m) }, hsr, ?_, fun x w hv => ?_, fun x w hv => ?_⟩
  · have := szs_midD p.es (M.pos M.cfS p.es k) (k, v, m)
    simp only [M.free, hset]
    omega
  · have := insert_any p x (k, v, m) w hs hv hu (by show k.length ≤ _; omega) (by show v.length ≤ _; omega)
    rw [hE, hP] at this
    exact this
  · have := remove_yes { p with es := M.set M.cfS p.es k (v, m) } x k w hsr hv hus (has_same p.es hu k (v, m))
    simp only [del_set p.es hu k (v, m) hh] at this
    exact this
/-- An entry that is marked, and unmarked again. -/
theorem mark_step {p : M.Pg} (hs : Sm p) (hu : M.Up M.cfS p.es) (k : List UInt8) (hh : M.has M.cfS p.es k = true) (i : Nat) (hi : i = M.pos M.cfS p.es k) (hlt : i < p.es.length) (mk : Bool) (hmk : mk = (p.es[i]'hlt).2.2) :
    ∃ r : M.Pg, Sm r ∧ M.free r = M.free p ∧
      (∀ x w, Vs w x p.es → Calls Try.prog 14 #[pv p x, .string (M.bs k), .bool (!mk)] w fun e w' => ∃ x', e = .returned (.tuple #[pv r x', .int .i64 0]) ∧ w'.ownsRow w.heap.size 40 3 x' r.es.length (csE r.es) ∧ Bel w w') ∧
      (∀ x w, Vs w x r.es → Calls Try.prog 14 #[pv r x, .string (M.bs k), .bool mk] w fun e w' => ∃ x', e = .returned (.tuple #[pv p x', .int .i64 0]) ∧ w'.ownsRow w.heap.size 40 3 x' p.es.length (csE p.es) ∧ Bel w w') := by
  have hke := M.mark_keys p.es i (!mk)
  obtain ⟨hpos, hhas⟩ := M.pos_keys (cf := M.cfS) (M.mark p.es i (!mk)) p.es k hke
  have hu2 := M.up_keys (cf := M.cfS) hke.symm hu
  have hlen := M.mark_length p.es i (!mk)
  have hsr : Sm { p with es := M.mark p.es i (!mk) } := ⟨hs.high, by show (M.mark p.es i (!mk)).length ≤ 1000; rw [hlen]; exact hs.es, fun e he => by
    obtain ⟨e', he', h1, h2⟩ := M.mark_mem p.es i (!mk) e he
    rw [← h1, ← h2]
    exact hs.each e' he'⟩
  refine ⟨{ p with es := M.mark p.es i (!mk) }, hsr, by simp only [M.free, M.mark_szs], fun x w hv => ?_, fun x w hv => ?_⟩
  · rcases hv with ⟨rfl, h0⟩ | ⟨b, off, cap, rfl, hc, hb, hr⟩
    · rw [h0] at hh; cases hh
    · have := mark_yes p b off cap k w hs hc hb hr hu hh i hi hlt mk hmk
      rw [← hlen] at this
      rw [hlen] at this
      refine this.mono ?_
      rintro e w' ⟨x', h1, h2, h3⟩
      exact ⟨x', h1, by show w'.ownsRow w.heap.size 40 3 x' (M.mark p.es i (!mk)).length _; rw [hlen]; exact h2, h3⟩
  · rcases hv with ⟨rfl, h0⟩ | ⟨b, off, cap, rfl, hc, hb, hr⟩
    · have h0 : M.mark p.es i (!mk) = [] := h0
      rw [h0] at hlen
      simp at hlen
      omega
    · have hlt2 : i < (M.mark p.es i (!mk)).length := by rw [hlen]; exact hlt
      have := mark_yes { p with es := M.mark p.es i (!mk) } b off cap k w hsr hc hb hr hu2 (by rw [hhas]; exact hh) i (by rw [hpos]; exact hi) hlt2 (!mk) (M.mark_at p.es i (!mk) hlt2).symm
      rw [Bool.not_not] at this
      simp only [M.mark_mark] at this
      have hself : M.mark p.es i mk = p.es := by rw [hmk]; exact M.mark_self p.es i hlt
      rw [hself] at this
      refine this.mono ?_
      rintro e w' ⟨x', h1, h2, h3⟩
      exact ⟨x', h1, by rw [hlen] at h2; exact h2, h3⟩
end Go.Proofs.Ytcmplklefeicbaa
