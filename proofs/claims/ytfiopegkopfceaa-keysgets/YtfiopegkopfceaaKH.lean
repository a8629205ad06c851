/-
  The contract of keys.Get, walked.
-/
import Derived.Test.YtfiopegkopfceaaKF
namespace Go.Proofs.Ytfiopegkopfceaa
open Go.RowKit

theorem info36 : (Try.prog.info? 36).map (fun i => (i.zero, i.size, i.bytes)) = some (some (.agg #[.string ⟨#[]⟩, .int .i64 0, .bool false]), 3, 32) := by kernel_rfl

/-- A value's three cells. -/
def cells3 (v : M.V) : List Value := [.string (M.bs v.1), .int .i64 v.2.1, .bool v.2.2]
theorem cells3_length (L : List M.V) : (L.flatMap cells3).length = L.length * 3 := by
  induction L with
  | nil => rfl
  | cons v L ih => simp [List.flatMap_cons, ih, cells3]; omega
theorem cells3_at : ∀ (L : List M.V) (j : Nat) (h : j < L.length), (L.flatMap cells3)[j * 3]? = some (.string (M.bs L[j].1)) ∧ (L.flatMap cells3)[j * 3 + 1]? = some (.int .i64 L[j].2.1) ∧ (L.flatMap cells3)[j * 3 + 2]? = some (.bool L[j].2.2)
  | v :: L, 0, _ => by simp [List.flatMap_cons, cells3]
  | v :: L, j + 1, h => by
    have := cells3_at L j (by simpa using h)
    simp only [List.flatMap_cons, cells3, List.cons_append, List.nil_append, List.getElem_cons_succ]
    rw [show (j + 1) * 3 = j * 3 + 1 + 1 + 1 by omega]
    simpa using this

/-- A slice of values (of type e) that is the call's own holds L. -/
def OwnV (e : TypeId) (w : World) (base : Nat) (v : Value) (L : List M.V) : Prop := w.ownsRow base e 3 v L.length (L.flatMap cells3)
theorem OwnV.bel {e : TypeId} {w w' : World} {base : Nat} {v : Value} {L : List M.V} (h : OwnV e w base v L) (hb : Bel w w') : OwnV e w' base v L :=
  World.ownsRow.kept h (grown_of hb) (by cases v.ownBlock with | none => exact .inl rfl | some k => exact .inr (by simp))
theorem OwnV.al {e : TypeId} {w : World} {base : Nat} {v : Value} {L : List M.V} (h : OwnV e w base v L) (o : Obj) : OwnV e (w.alloc o) base v L := World.ownsRow.alloc h o

/-- The cells that a slice value shows hold L. -/
def Vals (w : World) (x : Value) (L : List M.V) : Prop := ∃ a cap, x = .slice a L.length cap ∧ (L = [] ∨ ∃ b off, a = some ⟨b, off, none⟩ ∧ Row3 w b off L)
theorem OwnV.vals {e : TypeId} {w : World} {base : Nat} {v : Value} {L : List M.V} (h : OwnV e w base v L) : Vals w v L := by
  have h' := h
  obtain ⟨hlen, ⟨h1, h2⟩ | ⟨g, cap, cur, hv, hg, hh, hn, hm, hs, ht⟩⟩ := h
  · exact ⟨none, 0, by rw [h2]; exact h1, .inl (List.length_eq_zero_iff.1 h2)⟩
  · refine ⟨_, _, hv, .inr ⟨g, 0, rfl, fun j hj => ?_⟩⟩
    have hc := World.ownsRow.cells h' (g := g) (by rw [hv]; rfl)
    have ha : ∀ i, (⟨g, 0, none⟩ : Addr).add i = ⟨g, 0 + i, none⟩ := fun i => by unfold Addr.add; split <;> simp_all
    obtain ⟨k0, k1, k2⟩ := cells3_at L j hj
    refine ⟨?_, ?_, ?_⟩
    · rw [← ha]; exact hc _ _ k0
    · rw [Nat.add_assoc, ← ha]; exact hc _ _ k1
    · rw [Nat.add_assoc, ← ha]; exact hc _ _ k2
theorem Vals.bel {w w' : World} {x : Value} {L : List M.V} (h : Vals w x L) (hb : Bel w w') : Vals w' x L := by
  obtain ⟨a, cap, hx, h | ⟨b, off, ha, hr⟩⟩ := h
  · exact ⟨a, cap, hx, .inl h⟩
  · by_cases hL : 0 < L.length
    · exact ⟨a, cap, hx, .inr ⟨b, off, ha, hr.below hb (hr.lt hL)⟩⟩
    · exact ⟨a, cap, hx, .inl (List.length_eq_zero_iff.1 (by omega))⟩

theorem cell_three_new (w : World) (a b c : Value) (t : TypeId) : ∀ j u, [a, b, c][j]? = some u → (w.alloc (.cells #[a, b, c] t)).cell? ((⟨w.heap.size, 0, none⟩ : Addr).add j) = some u := by
  intro j u h
  have ha : (⟨w.heap.size, 0, none⟩ : Addr).add j = ⟨w.heap.size, j, none⟩ := by unfold Addr.add; split <;> simp_all
  rw [ha, World.cell?_alloc_at (hn := rfl)]
  simpa using h

/-- 'append(l, v)' of one value, l the call's own. -/
theorem appV {ops : Array Oper} {rest : List Oper} {o : Oper} {a : Act} {Q : Exit → Act → World → Prop} {w : World} (hgd : o.guard = none) (s x : Operand)
    (ho : o.op = .call { callee := .builtin .append, args := #[s, x], argTypes := #[24, 24] }) (base : Nat) (v : Value) (L : List M.V) (hs : a.eval s = v) (hown : OwnV 36 w base v L) (t : List UInt8) (n : Int) (b : Bool)
    (g : Nat) (hg : g = w.heap.size) (hx : a.eval x = .slice (some ⟨g, 0, none⟩) 1 1) (hlen : L.length ≤ 100000) (hbase : base ≤ w.heap.size)
    (h : ∀ v' w', OwnV 36 w' base v' (L ++ [(t, n, b)]) → (w.alloc (.cells #[.string (M.bs t), .int .i64 n, .bool b] 36)).grownBy w' v.ownBlock → Below base w w' → wpList Try.prog ops Q rest (a.put o.dst v') w') :
    wpList Try.prog ops Q (o :: rest) a (w.alloc (.cells #[.string (M.bs t), .int .i64 n, .bool b] 36)) := by
  obtain ⟨i0, hi, hz0, hz1, hz2⟩ := info_parts info36
  subst hg
  refine wpList_append_own _ hgd s x 24 ho base 36 i0 _ 3 32 Try.underlying24 hi hz0 hz1 hz2 rfl (by decide) v L.length _ hs (World.ownsRow.alloc hown _) ⟨w.heap.size, 0, none⟩ 1 1 (cells3 (t, n, b)) hx rfl (cell_three_new _ _ _ _ _) ?_ (by unfold maxLen; omega) (by omega) (by simp; omega) ?_
  · intro u hu; simp [cells3] at hu; rcases hu with rfl | rfl | rfl <;> rfl
  · intro v' w' h1 h2 _
    refine h v' w' ?_ h2 ?_
    · unfold OwnV; simpa using h1
    · refine ((Below.refl base w).alloc hbase _).grown h2 (by simp; omega) (fun k hk => ?_)
      exact (World.ownsRow.lt hown k hk).1

def lenOf : Value → Nat
  | .string s => s.size
  | _ => 0

set_option maxHeartbeats 1000000 in
theorem get_any (l : List UInt8) (w : World) (hl : l.length ≤ 600) :
    Calls Try.prog 14 #[.string (M.bs l)] w fun e w' => ∃ x, e = .returned (.tuple #[x, .int .i64 ((M.get l).2 : Int)]) ∧ OwnV 36 w' w.heap.size x (M.get l).1 ∧ Bel w w' := by
  obtain ⟨R, hR⟩ : ∃ R, R = M.get l := ⟨_, rfl⟩
  rw [← hR]
  have HR : Hid (M.getF l.length l [] = R) := hR.symm
  clear hR
  go_enter Try.func14, Try.ntmps14
  go_wp2
  go_loopw [0, 4] (fun sv lv wr => ∃ (rem : List UInt8) (acc : List M.V), sv = .string (M.bs rem) ∧ acc.length + rem.length ≤ 600 ∧ OwnV 36 wr w.heap.size lv acc ∧ M.getF rem.length rem acc = R ∧ Bel w wr) (fun sv _ _ => lenOf sv)
  case atStart => exact ⟨l, [], rfl, by simpa using hl, World.ownsRow_nil _ _ _ _, HR.out, Below.refl _ _⟩
  case round =>
    obtain ⟨rem, acc, rfl, hlen, hown, hget, hb⟩ := hrel
    by_cases hr : rem = []
    · subst hr
      have HG : Hid (R = (acc, 0)) := by show _ = _; rw [← hget]; rfl
      clear hget
      have q : (M.bs []).toList = [] := M.bs_toList []
      go_wp2_with fail
      go_ret2
      exact ⟨_, by rw [HG.out]; rfl, by rw [HG.out]; exact hown, hb⟩
    · have HO : Hid (OwnV 36 wr w.heap.size u4 acc) := hown
      clear hown
      have hsz : (M.bs rem).size = rem.length := M.bs_size rem
      have q1 : (M.bs rem).toList.isEmpty = false := by rw [M.bs_toList]; simpa using hr
      have q2 : ¬ (M.bs rem).toList = [] := by rw [M.bs_toList]; exact hr
      have hr0 : 0 < rem.length := by
        have : rem.length ≠ 0 := fun h => hr (List.length_eq_zero_iff.1 h)
        omega
      have H := fun W => first_any (M.bs rem) W (by omega) (by omega)
      rw [M.bs_data] at H
      by_cases he : (M.firstV rem).2.2 = 0
      · have hu := M.firstV_used rem he
        have HS : Hid (M.getF (rem.drop (M.firstV rem).2.1).length (rem.drop (M.firstV rem).2.1) (acc ++ [(M.firstV rem).1]) = R) := by show _ = _; rw [← M.getF_step rem acc hr he]; exact hget
        clear hget
        rw [he] at H
        clear he
        generalize (M.firstV rem).1 = X at *
        generalize (M.firstV rem).2.1 = u at *
        obtain ⟨t, n, b⟩ := X
        have hx : Hid ((M.bs rem).extract u (M.bs rem).size = M.bs (rem.drop u)) := by show _ = _; rw [M.extract_bs, M.bs_data, M.bs_size, List.take_of_length_le (by rw [List.length_drop]; omega)]
        go_wp2_with fail
        refine (H _).mono ?_
        rintro e w1 ⟨rfl, b1⟩
        have ho := HO.out.bel b1
        have hz1 := b1.size
        have hbz := hb.size
        go_wp2_with (first
          | (at_builtin; refine appV rfl _ _ rfl w.heap.size _ _ rfl (OwnV.al ho _) t n b (w1.heap.size + 1) (by simp) rfl (by omega) (by simp; omega) ?_; intro v1 w2 o2 g2 b2))
        go_roundw
        case rel => exact ⟨rem.drop u, acc ++ [(t, n, b)], by rw [← hx.out, hsz], by rw [List.length_drop]; simp; omega, o2, HS.out, Below.trans (Bel.al (hb.tr b1) _) b2⟩
        case measure => simp [lenOf]; omega
      · have HS : Hid (R = ([], (M.firstV rem).2.2)) := by show _ = _; rw [← hget, M.getF_stop rem acc hr he]
        clear hget
        generalize (M.firstV rem).1 = X at *
        generalize (M.firstV rem).2.1 = u at *
        generalize (M.firstV rem).2.2 = E at *
        have q : ((E : Int) != 0) = true := by rw [bne_iff_ne]; omega
        obtain ⟨t, n, b⟩ := X
        go_wp2_with fail
        refine (H _).mono ?_
        rintro e w1 ⟨rfl, b1⟩
        go_wp2_with fail
        go_ret2
        exact ⟨_, by rw [HS.out]; rfl, by rw [HS.out]; exact World.ownsRow_nil _ _ _ _, Bel.al (hb.tr b1) _⟩

theorem put_nil (a : Option Addr) (cap : Nat) (w : World) :
    Calls Try.prog 12 #[.slice a 0 cap] w fun e w' => e = .returned (.tuple #[.string (M.bs []), .int .i64 0]) ∧ Bel w w' := by
  have kn := run_convert_bytes_nil (P := Try.prog) w 53 5 Try.underlying53 Try.underlying5 0 0 9 Try.underlying9
  go_enter Try.func12, Try.ntmps12
  go_wp2_with fail
  refine wp_loop_rounds 1 ?_
  rw [rounds_succ]
  go_wp2_with fail
  go_ret2
  exact ⟨rfl, Below.refl _ _⟩
/-- 'Put' of whatever list. -/
theorem put_any (L : List M.V) (x : Value) (w : World) (hv : Vals w x L) (hL2 : L.length ≤ 400) (hs : ∀ v ∈ L, v.1.length ≤ maxLen) :
    Calls Try.prog 12 #[x] w fun e w' => e = .returned (.tuple #[.string (M.bs (M.put L).1), .int .i64 ((M.put L).2 : Int)]) ∧ Bel w w' := by
  obtain ⟨a, cap, rfl, hv⟩ := hv
  by_cases h0 : L = []
  · subst h0; exact put_nil a cap w
  · obtain h | ⟨b, off, rfl, hr⟩ := hv
    · exact absurd h h0
    · refine put_some L b off cap w hr ?_ hL2 hs
      have : L.length ≠ 0 := fun h => h0 (List.length_eq_zero_iff.1 h)
      omega
end Go.Proofs.Ytfiopegkopfceaa
