/-
  The contracts of the map's Set, Get, Len, walked.
-/
import Derived.Test.YtoelaemneoabfabN
namespace Go.Proofs.Ytoelaemneoabfab
open Go.RowKit

/-- A box's slice turned: a new one in its place. -/
theorem Held.turn {e size : Nat} {t : TypeId} {X : Nat → Prop} {w w1 w2 : World} {b n : Nat} {v v' : Value} {xs : List Value} (hb : Bx w b t v) (hx : ¬ X b) (hX : ∀ k, X k → k < w.heap.size) (hk : Keep (fun k => X k ∨ k = b) w w1) (ho : Own e size (fun k => X k ∨ k = b) w1 v' n xs) (h2 : w2 = w1.setCell ⟨b, 0, none⟩ v') :
    Held e size t X w2 b n xs ∧ Keep X w w2 := by
  subst h2
  have hb1 : Bx w1 b t v := hb.keep hk (.inr rfl)
  have k2 : Keep (fun k => k ≠ b) w1 (w1.setCell ⟨b, 0, none⟩ v') := (Keep.refl _ _).set (by simp) _
  refine ⟨⟨v', hb1.set v', hx, ?_, ?_, ?_⟩, ?_⟩
  · have := ho.keep k2 (fun g hg e => ho.2 g hg (.inr e))
    exact ⟨this.1, fun g hg h => ho.2 g hg (.inl h)⟩
  · intro h; exact ho.2 b h (.inr rfl)
  · intro k hk'; have := hX k hk'; have := hk.size; simp [World.setCell]; omega
  · exact (hk.weak (fun k h => .inl h)).tr ((Keep.refl X w1).set (by simpa using hx) v')
theorem Own.both {e size : Nat} {X : Nat → Prop} {w : World} {v : Value} {n b : Nat} {xs : List Value} (h : Own e size X w v n xs) (hb : v.ownBlock ≠ some b) : Own e size (fun k => X k ∨ k = b) w v n xs :=
  ⟨h.1, fun g hg h1 => h1.elim (fun h1 => h.2 g hg h1) (fun h1 => hb (by rw [← h1]; exact hg))⟩

/-- A value of the row turned. -/
theorem ownSetS {X : Nat → Prop} {w : World} {g cap i : Nat} {L : M.Ents (List UInt8)} {x : Int} (ho : Own 70 2 X w (.slice (some ⟨g, 0, none⟩) L.length cap) L.length (csS L)) (hi : i < L.length) :
    Own 70 2 X (w.setCell ⟨g, i * 2 + 1, none⟩ (.int .i64 x)) (.slice (some ⟨g, 0, none⟩) L.length cap) L.length (csS (L.take i ++ (L[i].1, x) :: L.drop (i + 1))) := by
  rcases ho.1.2 with ⟨h, _⟩ | ⟨g', cap', cur, h, _, hg, hn, hm, hs, ht⟩
  · cases h
  · injection h with h1 h2 h3
    injection h1 with h1
    injection h1 with h1
    subst h1 h3
    have hl := csS_length L
    refine ⟨⟨by rw [csS_length]; simp; omega, .inr ⟨g, cap, cur.setIfInBounds (i * 2 + 1) (.int .i64 x), rfl, Nat.zero_le _, ?_, hn, hm, by simp [hs], ?_⟩⟩, ho.2⟩
    · rw [setCell_eq_setRow w g (i * 2 + 1) cur 70 (0, 0) _ hg]
      exact setRow_heap w g cur _ 70 _ hg
    · have e : L = L.take i ++ (L[i].1, L[i].2) :: L.drop (i + 1) := by
        conv => lhs; rw [← List.take_append_drop i L, List.drop_eq_getElem_cons hi]
      have ht2 : (cur.setIfInBounds (i * 2 + 1) (.int .i64 x)).toList.take (L.length * 2) = (csS L).set (i * 2 + 1) (.int .i64 x) := by
        rw [Array.toList_setIfInBounds, List.take_set, ht]
      rw [ht2]
      have hcs : ∀ y : Int, csS (L.take i ++ (L[i].1, y) :: L.drop (i + 1)) = (csS (L.take i) ++ [(Value.string (M.bs (L[i].1)))]) ++ .int .i64 y :: csS (L.drop (i + 1)) := fun y => by
        rw [csS_append]; simp [csS]
      conv => lhs; rw [e, hcs]
      rw [hcs]
      have hlen : (csS (L.take i) ++ [(Value.string (M.bs (L[i].1)))]).length = i * 2 + 1 := by simp [csS_length]; omega
      rw [← hlen, List.set_append_right _ _ (Nat.le_refl _)]
      simp
set_option maxHeartbeats 2000000 in
theorem setS (X : Nat → Prop) (L : M.Ents (List UInt8)) (hu : M.Up M.cfS L) (k : List UInt8) (x : Int) (b : Nat) (w : World) (hL : L.length ≤ 1000) (hm : MapS X w b L) :
    Calls Try.prog 11 #[.pointer (some ⟨b, 0, none⟩), (Value.string (M.bs k)), .int .i64 x] w fun e w' => e = .returned (.tuple #[]) ∧ MapS X w' b (M.set M.cfS L k x) ∧ Keep X w w' := by
  have hF := findS X L hu k b w hL hm
  have hp := M.pos_le (cf := M.cfS) L k
  obtain ⟨v, hb, hbx, ho, hob, hX⟩ := hm
  have c := hb.cell
  have cf := hb.frozen
  by_cases hh : M.has M.cfS L k = true
  · have hpl := M.pos_lt_of_has hh
    have HS := M.set_old L k x hh
    rcases rowS_of ho with ⟨rfl, rfl⟩ | ⟨g, cap, rfl, hr⟩
    · simp [M.has] at hh
    · obtain ⟨c1, c2⟩ := hr _ hpl
      rw [hh] at hF
      have fin : Hid (∀ w1, Bel w w1 → MapS X (w1.setCell ⟨g, M.pos M.cfS L k * 2 + 1, none⟩ (.int .i64 x)) b (M.set M.cfS L k x) ∧ Keep X w (w1.setCell ⟨g, M.pos M.cfS L k * 2 + 1, none⟩ (.int .i64 x))) := by
        intro w1 b1
        have hlen : (M.set M.cfS L k x).length = L.length := by rw [M.set_length, hh]; simp
        have := ownSetS (x := x) (ho.bel b1) hpl
        rw [← HS] at this
        have hgb : g ≠ b := fun e => hob (by rw [← e]; rfl)
        refine ⟨⟨_, (hb.bel b1).other _ (fun e => hgb e.symm) _, hbx, by rw [hlen]; exact this, hob, fun j hj => ?_⟩, ?_⟩
        · have := hX j hj; have := b1.size; simp [World.setCell]; omega
        · exact (Keep.of_bel b1 hX).set (p := ⟨g, _, none⟩) (ho.2 g rfl) _
      have hgl := block_lt_of_cell c2
      have hfz : w.frozen? ⟨g, 0 + M.pos M.cfS L k * 2 + 1, none⟩ = false := by
        rcases ho.1.2 with ⟨h, _⟩ | ⟨g', cap', cur, h, _, hg, _⟩
        · cases h
        · injection h with h1 h2 h3
          injection h1 with h1
          injection h1 with h1
          subst h1
          simp [World.frozen?, hg]
      clear HS ho hr hp hh hu
      generalize M.pos M.cfS L k = q at *
      generalize L[q] = E at *
      rw [Nat.zero_add] at c2 c1 hfz
      have hbl := hb.lt
      clear hb
      go_enter Try.func11, Try.ntmps11
      go_wp2_with fail
      refine hF.mono ?_
      clear hF
      rintro e w1 ⟨rfl, b1⟩
      have c' := (bel_cell b1 hbl 0).trans c
      have d2 := (bel_cell b1 hgl (q * 2 + 1)).trans c2
      have d3 := (b1.frozen (p := ⟨g, q * 2 + 1, none⟩) hgl).trans hfz
      go_wp2_with fail
      refine bodyPost_ret (v := .tuple #[]) (results_none rfl _ _ _) rfl ?_
      exact ⟨rfl, fin.out w1 b1⟩
  · have hh' : M.has M.cfS L k = false := by simpa using hh
    rw [hh'] at hF
    have HS := M.set_new L k x hh'
    have hlen : Hid ((M.set M.cfS L k x).length = L.length + 1) := by show _ = _; rw [M.set_length, hh']; simp
    have hins := fun w1 (b1 : Bel w w1) => insertS (fun j => X j ∨ j = b) L k x (M.pos M.cfS L k) v w1 hL hp ((ho.bel b1).both hob) (fun j hj => by
      have := b1.size
      rcases hj with hj | rfl
      · have := hX j hj; omega
      · have := hb.lt; omega)
    rw [← HS] at hins
    have HX : Hid (¬ X b) := hbx
    clear HS hh hh' hp hu ho hbx
    generalize M.pos M.cfS L k = q at *
    generalize M.set M.cfS L k x = L' at *
    have hbl := hb.lt
    go_enter Try.func11, Try.ntmps11
    go_wp2_with fail
    refine hF.mono ?_
    clear hF
    rintro e w1 ⟨rfl, b1⟩
    have c' := (bel_cell b1 hbl 0).trans c
    have HB := hb.bel b1
    have hi := hins w1 b1
    clear hins
    go_wp2_with fail
    refine hi.mono ?_
    clear hi
    rintro e w2 ⟨v', rfl, ho', k'⟩
    obtain ⟨g', cap', rfl⟩ : ∃ g cap, v' = .slice (some ⟨g, 0, none⟩) (L.length + 1) cap := by
      rcases ho'.1.2 with ⟨_, h0⟩ | ⟨g, cap, _, h, _⟩
      · omega
      · exact ⟨g, cap, h⟩
    have d := (HB.keep k' (.inr rfl)).cell
    have df := (HB.keep k' (.inr rfl)).frozen
    have HT := Held.turn HB HX.out (fun j hj => Nat.lt_of_lt_of_le (hX j hj) b1.size) k' ho' rfl
    clear ho'
    go_wp2_with fail
    go_end0
    exact ⟨rfl, by show Held _ _ _ _ _ _ _ _; rw [hlen.out]; exact HT.1, (Keep.of_bel b1 hX).tr HT.2⟩
/-- A value of the row turned. -/
theorem ownSetI {X : Nat → Prop} {w : World} {g cap i : Nat} {L : M.Ents (Int)} {x : Int} (ho : Own 80 2 X w (.slice (some ⟨g, 0, none⟩) L.length cap) L.length (csI L)) (hi : i < L.length) :
    Own 80 2 X (w.setCell ⟨g, i * 2 + 1, none⟩ (.int .i64 x)) (.slice (some ⟨g, 0, none⟩) L.length cap) L.length (csI (L.take i ++ (L[i].1, x) :: L.drop (i + 1))) := by
  rcases ho.1.2 with ⟨h, _⟩ | ⟨g', cap', cur, h, _, hg, hn, hm, hs, ht⟩
  · cases h
  · injection h with h1 h2 h3
    injection h1 with h1
    injection h1 with h1
    subst h1 h3
    have hl := csI_length L
    refine ⟨⟨by rw [csI_length]; simp; omega, .inr ⟨g, cap, cur.setIfInBounds (i * 2 + 1) (.int .i64 x), rfl, Nat.zero_le _, ?_, hn, hm, by simp [hs], ?_⟩⟩, ho.2⟩
    · rw [setCell_eq_setRow w g (i * 2 + 1) cur 80 (0, 0) _ hg]
      exact setRow_heap w g cur _ 80 _ hg
    · have e : L = L.take i ++ (L[i].1, L[i].2) :: L.drop (i + 1) := by
        conv => lhs; rw [← List.take_append_drop i L, List.drop_eq_getElem_cons hi]
      have ht2 : (cur.setIfInBounds (i * 2 + 1) (.int .i64 x)).toList.take (L.length * 2) = (csI L).set (i * 2 + 1) (.int .i64 x) := by
        rw [Array.toList_setIfInBounds, List.take_set, ht]
      rw [ht2]
      have hcs : ∀ y : Int, csI (L.take i ++ (L[i].1, y) :: L.drop (i + 1)) = (csI (L.take i) ++ [(Value.int .i64 (L[i].1))]) ++ .int .i64 y :: csI (L.drop (i + 1)) := fun y => by
        rw [csI_append]; simp [csI]
      conv => lhs; rw [e, hcs]
      rw [hcs]
      have hlen : (csI (L.take i) ++ [(Value.int .i64 (L[i].1))]).length = i * 2 + 1 := by simp [csI_length]; omega
      rw [← hlen, List.set_append_right _ _ (Nat.le_refl _)]
      simp
set_option maxHeartbeats 2000000 in
theorem setI (X : Nat → Prop) (L : M.Ents (Int)) (hu : M.Up M.cfI L) (k : Int) (x : Int) (b : Nat) (w : World) (hL : L.length ≤ 1000) (hm : MapI X w b L) :
    Calls Try.prog 24 #[.pointer (some ⟨b, 0, none⟩), (Value.int .i64 k), .int .i64 x] w fun e w' => e = .returned (.tuple #[]) ∧ MapI X w' b (M.set M.cfI L k x) ∧ Keep X w w' := by
  have hF := findI X L hu k b w hL hm
  have hp := M.pos_le (cf := M.cfI) L k
  obtain ⟨v, hb, hbx, ho, hob, hX⟩ := hm
  have c := hb.cell
  have cf := hb.frozen
  by_cases hh : M.has M.cfI L k = true
  · have hpl := M.pos_lt_of_has hh
    have HS := M.set_old L k x hh
    rcases rowI_of ho with ⟨rfl, rfl⟩ | ⟨g, cap, rfl, hr⟩
    · simp [M.has] at hh
    · obtain ⟨c1, c2⟩ := hr _ hpl
      rw [hh] at hF
      have fin : Hid (∀ w1, Bel w w1 → MapI X (w1.setCell ⟨g, M.pos M.cfI L k * 2 + 1, none⟩ (.int .i64 x)) b (M.set M.cfI L k x) ∧ Keep X w (w1.setCell ⟨g, M.pos M.cfI L k * 2 + 1, none⟩ (.int .i64 x))) := by
        intro w1 b1
        have hlen : (M.set M.cfI L k x).length = L.length := by rw [M.set_length, hh]; simp
        have := ownSetI (x := x) (ho.bel b1) hpl
        rw [← HS] at this
        have hgb : g ≠ b := fun e => hob (by rw [← e]; rfl)
        refine ⟨⟨_, (hb.bel b1).other _ (fun e => hgb e.symm) _, hbx, by rw [hlen]; exact this, hob, fun j hj => ?_⟩, ?_⟩
        · have := hX j hj; have := b1.size; simp [World.setCell]; omega
        · exact (Keep.of_bel b1 hX).set (p := ⟨g, _, none⟩) (ho.2 g rfl) _
      have hgl := block_lt_of_cell c2
      have hfz : w.frozen? ⟨g, 0 + M.pos M.cfI L k * 2 + 1, none⟩ = false := by
        rcases ho.1.2 with ⟨h, _⟩ | ⟨g', cap', cur, h, _, hg, _⟩
        · cases h
        · injection h with h1 h2 h3
          injection h1 with h1
          injection h1 with h1
          subst h1
          simp [World.frozen?, hg]
      clear HS ho hr hp hh hu
      generalize M.pos M.cfI L k = q at *
      generalize L[q] = E at *
      rw [Nat.zero_add] at c2 c1 hfz
      have hbl := hb.lt
      clear hb
      go_enter Try.func24, Try.ntmps24
      go_wp2_with fail
      refine hF.mono ?_
      clear hF
      rintro e w1 ⟨rfl, b1⟩
      have c' := (bel_cell b1 hbl 0).trans c
      have d2 := (bel_cell b1 hgl (q * 2 + 1)).trans c2
      have d3 := (b1.frozen (p := ⟨g, q * 2 + 1, none⟩) hgl).trans hfz
      go_wp2_with fail
      refine bodyPost_ret (v := .tuple #[]) (results_none rfl _ _ _) rfl ?_
      exact ⟨rfl, fin.out w1 b1⟩
  · have hh' : M.has M.cfI L k = false := by simpa using hh
    rw [hh'] at hF
    have HS := M.set_new L k x hh'
    have hlen : Hid ((M.set M.cfI L k x).length = L.length + 1) := by show _ = _; rw [M.set_length, hh']; simp
    have hins := fun w1 (b1 : Bel w w1) => insertI (fun j => X j ∨ j = b) L k x (M.pos M.cfI L k) v w1 hL hp ((ho.bel b1).both hob) (fun j hj => by
      have := b1.size
      rcases hj with hj | rfl
      · have := hX j hj; omega
      · have := hb.lt; omega)
    rw [← HS] at hins
    have HX : Hid (¬ X b) := hbx
    clear HS hh hh' hp hu ho hbx
    generalize M.pos M.cfI L k = q at *
    generalize M.set M.cfI L k x = L' at *
    have hbl := hb.lt
    go_enter Try.func24, Try.ntmps24
    go_wp2_with fail
    refine hF.mono ?_
    clear hF
    rintro e w1 ⟨rfl, b1⟩
    have c' := (bel_cell b1 hbl 0).trans c
    have HB := hb.bel b1
    have hi := hins w1 b1
    clear hins
    go_wp2_with fail
    refine hi.mono ?_
    clear hi
    rintro e w2 ⟨v', rfl, ho', k'⟩
    obtain ⟨g', cap', rfl⟩ : ∃ g cap, v' = .slice (some ⟨g, 0, none⟩) (L.length + 1) cap := by
      rcases ho'.1.2 with ⟨_, h0⟩ | ⟨g, cap, _, h, _⟩
      · omega
      · exact ⟨g, cap, h⟩
    have d := (HB.keep k' (.inr rfl)).cell
    have df := (HB.keep k' (.inr rfl)).frozen
    have HT := Held.turn HB HX.out (fun j hj => Nat.lt_of_lt_of_le (hX j hj) b1.size) k' ho' rfl
    clear ho'
    go_wp2_with fail
    go_end0
    exact ⟨rfl, by show Held _ _ _ _ _ _ _ _; rw [hlen.out]; exact HT.1, (Keep.of_bel b1 hX).tr HT.2⟩
end Go.Proofs.Ytoelaemneoabfab
