/-
  The law's own 'told': what its range does with each key, walked.
-/
import Derived.Test.YtoelaemneoabfabQE
namespace Go.Proofs.Ytoelaemneoabfab
open Go.RowKit
set_option maxRecDepth 100000

/-- What is looked at while the map is told: where it stands. -/
structure Sites where
  (b Ba Bw Br Bm Bp : Nat)
  (kv vv wx : Value)
  (K : Nat → Prop)
structure Sites.ok (S : Sites) : Prop where
  ka : S.K S.Ba
  kw : S.K S.Bw
  kr : S.K S.Br
  km : S.K S.Bm
  kp : S.K S.Bp
  ww : ∀ a n c, S.wx = .slice (some a) n c → S.K a.block ∧ a.block ≠ S.Ba ∧ a.block ≠ S.Br
  kk : ∀ a n c, S.kv = .slice (some a) n c → S.K a.block ∧ a.block ≠ S.Ba ∧ a.block ≠ S.Br
  vk : ∀ a n c, S.vv = .slice (some a) n c → S.K a.block ∧ a.block ≠ S.Ba ∧ a.block ≠ S.Br
  ar : S.Ba ≠ S.Br
  na : S.Bw ≠ S.Ba ∧ S.Bm ≠ S.Ba ∧ S.Bp ≠ S.Ba
  nr : S.Bw ≠ S.Br ∧ S.Bm ≠ S.Br ∧ S.Bp ≠ S.Br
def ShowsT (w : World) (v : Value) (L : List Tx) : Prop := ∃ a cap, v = .slice a L.length cap ∧ (L = [] ∨ ∃ g off, a = some ⟨g, off, none⟩ ∧ RowT w g off L)
theorem ShowsT.bel {w w' : World} {v : Value} {L : List Tx} (h : ShowsT w v L) (hb : Bel w w') : ShowsT w' v L := by
  obtain ⟨a, c, rfl, h | ⟨g, off, rfl, h1⟩⟩ := h
  · exact ⟨a, c, rfl, .inl h⟩
  · exact ⟨_, c, rfl, .inr ⟨g, off, rfl, h1.bel hb⟩⟩
theorem ShowsT.keep {X : Nat → Prop} {w w' : World} {v : Value} {L : List Tx} (h : ShowsT w v L) (hb : Keep X w w') (hX : ∀ a n c, v = .slice (some a) n c → X a.block) : ShowsT w' v L := by
  obtain ⟨a, c, rfl, h | ⟨g, off, rfl, h1⟩⟩ := h
  · exact ⟨a, c, rfl, .inl h⟩
  · exact ⟨_, c, rfl, .inr ⟨g, off, rfl, fun j hj => (hb.cell (p := ⟨g, off + j, none⟩) (hX ⟨g, off, none⟩ L.length c rfl)).trans (h1 j hj)⟩⟩
theorem C2.keep {X : Nat → Prop} {w w' : World} {b : Nat} {x y : Value} (h : C2 w b x y) (k : Keep X w w') (hX : X b) : C2 w' b x y := (k.block b hX).trans h
/-- Between two rounds: so many were told. -/
structure TO (S : Sites) (E : M.Ents Tx) (R : M.Rm) (D : M.Ents Tx) (X : Nat → Prop) (n : Nat) (W : World) : Prop where
  at' : Bx W S.Ba 3 (.int .i64 (n : Nat))
  want : Bx W S.Bw 27 S.wx
  right : Bx W S.Br 4 (.bool true)
  m : C2 W S.Bm S.kv S.vv
  p : Bx W S.Bp 42 (.pointer (some ⟨S.b, 0, none⟩))
  rowW : ShowsT W S.wx (D.map (·.1))
  rowM : ShowM W S.kv S.vv R
  map : MapS (fun k => X k ∨ S.K k) W S.b E
  xa : ¬ X S.Ba
  xr : ¬ X S.Br
section
variable {S : Sites} {E : M.Ents Tx} {R : M.Rm} {D : M.Ents Tx} {X Y : Nat → Prop} {n : Nat} {W W' : World}
theorem TO.lt (h : TO S E R D X n W) : ∀ k, X k → k < W.heap.size := fun k hk => h.map.lt k (.inl hk)
theorem TO.more (h : TO S E R D X n W) (hb : Bel W W') : TO S E R D (More X W W') n W' := by
  refine ⟨h.at'.bel hb, h.want.bel hb, h.right.bel hb, h.m.bel hb, h.p.bel hb, h.rowW.bel hb, h.rowM.bel hb, (h.map.more hb).weak ?_, ?_, ?_⟩
  · rintro k ((hk | hk) | hk)
    · exact .inl (.inl hk)
    · exact .inr hk
    · exact .inl (.inr hk)
  · rintro (hk | ⟨hk, _⟩)
    · exact h.xa hk
    · have := h.at'.lt; omega
  · rintro (hk | ⟨hk, _⟩)
    · exact h.xr hk
    · have := h.right.lt; omega
theorem TO.weak (h : TO S E R D X n W) (hs : ∀ k, Y k → X k) : TO S E R D Y n W :=
  ⟨h.at', h.want, h.right, h.m, h.p, h.rowW, h.rowM, h.map.weak (fun k hk => hk.elim (fun h => .inl (hs k h)) .inr), fun hy => h.xa (hs _ hy), fun hy => h.xr (hs _ hy)⟩
theorem TO.bel (h : TO S E R D X n W) (hb : Bel W W') : TO S E R D X n W' := (h.more hb).weak (fun _ hk => .inl hk)
theorem TO.turn (ok : S.ok) (h : TO S E R D X n W) (k : Keep (fun k => X k ∨ S.K k) W W') (hm : MapS (fun k => X k ∨ S.K k) W' S.b E) : TO S E R D X n W' :=
  ⟨h.at'.keep k (.inr ok.ka), h.want.keep k (.inr ok.kw), h.right.keep k (.inr ok.kr), h.m.keep k (.inr ok.km), h.p.keep k (.inr ok.kp),
    h.rowW.keep k (fun a n c e => .inr (ok.ww a n c e).1), h.rowM.keep k (fun a n c e => .inr (e.elim (fun e => (ok.kk a n c e).1) (fun e => (ok.vk a n c e).1))), hm, h.xa, h.xr⟩
theorem TO.store (ok : S.ok) (h : TO S E R D X n W) : TO S E R D X (n + 1) ((W.setCell ⟨S.Br, 0, none⟩ (.bool true)).setCell ⟨S.Ba, 0, none⟩ (.int .i64 ((n : Int) + 1))) ∧ Keep X W ((W.setCell ⟨S.Br, 0, none⟩ (.bool true)).setCell ⟨S.Ba, 0, none⟩ (.int .i64 ((n : Int) + 1))) := by
  have hk2 : Keep (fun k => k ≠ S.Br ∧ k ≠ S.Ba) W ((W.setCell ⟨S.Br, 0, none⟩ (.bool true)).setCell ⟨S.Ba, 0, none⟩ (.int .i64 ((n : Int) + 1))) :=
    ((Keep.refl _ W).set (p := ⟨S.Br, 0, none⟩) (by simp) _).set (p := ⟨S.Ba, 0, none⟩) (by simp) _
  refine ⟨⟨?_, h.want.keep hk2 ⟨ok.nr.1, ok.na.1⟩, (h.right.set _).other _ (fun e => ok.ar e.symm) _, h.m.keep hk2 ⟨ok.nr.2.1, ok.na.2.1⟩, h.p.keep hk2 ⟨ok.nr.2.2, ok.na.2.2⟩,
    h.rowW.keep hk2 (fun a n c e => ⟨(ok.ww a n c e).2.2, (ok.ww a n c e).2.1⟩), h.rowM.keep hk2 (fun a n c e => e.elim (fun e => ⟨(ok.kk a n c e).2.2, (ok.kk a n c e).2.1⟩) (fun e => ⟨(ok.vk a n c e).2.2, (ok.vk a n c e).2.1⟩)), ?_, h.xa, h.xr⟩, ?_⟩
  · have h1 : Bx _ S.Ba 3 _ := (h.at'.other (Value.bool true) ok.ar 0).set (.int .i64 ((n : Int) + 1))
    simpa using h1
  · obtain ⟨v', hb', hnb, ho, _⟩ := id h.map
    refine h.map.keep hk2 ⟨fun e => hnb (by rw [e]; exact .inr ok.kr), fun e => hnb (by rw [e]; exact .inr ok.ka)⟩ (fun v hv g hg => ?_)
    have := hv.symm.trans hb'
    injection this with this
    injection this with this
    simp at this
    subst this
    have := ho.2 g hg
    exact ⟨fun e => this (by rw [e]; exact .inr ok.kr), fun e => this (by rw [e]; exact .inr ok.ka)⟩
  · exact hk2.weak (fun k hk => ⟨fun e => h.xr (by rw [← e]; exact hk), fun e => h.xa (by rw [← e]; exact hk)⟩)
end
def toJ (S : Sites) (E : M.Ents Tx) (R : M.Rm) (D : M.Ents Tx) : (Nat → Prop) → M.Ents Tx → World → Prop := fun X pre W => TO S E R D X pre.length W
theorem toJ_abides (S : Sites) (E : M.Ents Tx) (R : M.Rm) (D : M.Ents Tx) : Abides (toJ S E R D) := ⟨fun _ _ _ h => h.lt, fun _ _ _ _ h hb => h.more hb, fun _ _ _ _ h hs => h.weak hs⟩
theorem prefix_at {α : Type} {A pre : List α} {x : α} (h : pre ++ [x] <+: A) : ∃ hl : pre.length < A.length, A[pre.length] = x := by
  obtain ⟨t, rfl⟩ := h
  refine ⟨by simp, ?_⟩
  simp
set_option maxHeartbeats 4000000 in
theorem to_yields (S : Sites) (ok : S.ok) (E : M.Ents Tx) (R : M.Rm) (D : M.Ents Tx) (hR : M.Rel E R) (hE : E.length ≤ 900) (hD : ∀ e ∈ D, e ∈ E) (hDl : D.length ≤ 1000) :
    Yields 35 #[.pointer (some ⟨S.Ba, 0, none⟩), .pointer (some ⟨S.Bw, 0, none⟩), .pointer (some ⟨S.Br, 0, none⟩), .pointer (some ⟨S.Bm, 0, none⟩), .pointer (some ⟨S.Bp, 0, none⟩)] kvS D (toJ S E R D) (fun _ _ _ => False) := by
  refine ⟨enters_of Try.func35 (by kernel_rfl) rfl, fun X pre x W hp hJ => ?_⟩
  obtain ⟨hl, hx⟩ := prefix_at hp
  obtain ⟨ek, ev⟩ := x
  have hmem : (ek, ev) ∈ E := hD _ (by rw [← hx]; exact List.getElem_mem hl)
  have hhas : M.has M.cfS E ek = true := (M.has_iff M.ordS E hR.up ek).2 ⟨ev, hmem⟩
  have hget : M.get M.cfS E ek = ev := M.get_of_mem M.ordS E hR.up ek ev hmem
  have hrg := hR.get ek
  rw [hhas, hget] at hrg
  have hRl : R.length ≤ 1000 := by have := hR.length; omega
  have HRG := fun W h => rgetS R ek S.kv S.vv W hRl h
  rw [hrg] at HRG
  have HG := fun W h => getS (fun k => X k ∨ S.K k) E hR.up ek S.b W (by omega) h
  rw [hhas, hget] at HG
  have HDL := fun W h => delS (fun k => X k ∨ S.K k) E hR.up ek S.b W (by omega) h
  rw [hhas] at HDL
  have hdl : (M.del M.cfS E ek).length ≤ 1000 := by rw [M.del_length]; omega
  have HST := fun W h => setS (fun k => X k ∨ S.K k) (M.del M.cfS E ek) (M.up_del E hR.up ek) ek ev S.b W hdl h
  have hsd := M.set_del hR.up ek hhas
  rw [hget] at hsd
  rw [hsd] at HST
  have HJ0 := hid hJ
  unfold toJ at hJ
  have hJ : TO S E R D X pre.length W := hJ
  have c1 := hJ.at'.cell
  have c2 := hJ.want.cell
  obtain ⟨a, cap, hwx, hrow⟩ := hJ.rowW
  obtain ⟨g, off, ha, hr⟩ : ∃ g off, a = some ⟨g, off, none⟩ ∧ RowT W g off (D.map (·.1)) := by
    rcases hrow with h | h
    · have := congrArg List.length h; simp at this; subst this; simp at hl
    · exact h
  subst ha
  have c3 := hr pre.length (by simpa using hl)
  rw [show (D.map (·.1))[pre.length]'(by simpa using hl) = ek by simp [hx]] at c3
  rw [hwx] at c2
  rw [List.length_map] at c2
  have c4 := cell_of (i := 0) hJ.m rfl
  have c5 := cell_of (i := 1) hJ.m rfl
  have hll : (pre.length : Int) < (D.length : Int) := by omega
  have HT := hid hJ
  clear hJ hrow hr hmem hhas hget hrg hsd hx HJ0 hp
  unfold kvS
  go_enter Try.func35, Try.ntmps35
  go_wp2_with fail
  refine (HRG _ HT.out.rowM).mono ?_
  rintro e w1 ⟨rfl, b1⟩
  have HT1 := hid (HT.out.bel b1)
  have K1 := hid (Keep.of_bel b1 HT.out.lt)
  clear c1 c2 c3 c4 c5 HT b1
  have d1 := HT1.out.right.cell
  have d2 := HT1.out.right.frozen
  have d3 := HT1.out.at'.cell
  have d4 := HT1.out.at'.frozen
  have d5 := HT1.out.p.cell
  have nar : ¬ S.Ba = S.Br := ok.ar
  have nra : ¬ S.Br = S.Ba := fun e => ok.ar e.symm
  have npr : ¬ S.Bp = S.Br := ok.nr.2.2
  have npa : ¬ S.Bp = S.Ba := ok.na.2.2
  have hwp : IntKind.i64.wrap ((pre.length : Int) + 1) = (pre.length : Int) + 1 := by rw [IntKind.wrap_i64]; omega
  go_wp2_with fail
  obtain ⟨HT2, K2⟩ := HT1.out.store ok
  have HT2 := hid HT2
  have K2 := hid K2
  generalize (w1.setCell ⟨S.Br, 0, none⟩ (.bool true)).setCell ⟨S.Ba, 0, none⟩ (.int .i64 ((pre.length : Int) + 1)) = w2 at *
  refine (HG _ HT2.out.map).mono ?_
  rintro e w3 ⟨rfl, b3⟩
  have HT3 := hid (HT2.out.bel b3)
  have K3 := hid (K2.out.tr (Keep.of_bel b3 HT2.out.lt))
  clear d1 d2 d3 d4 d5 b3
  have d5 := HT3.out.p.cell
  go_wp2_with fail
  refine (HDL _ HT3.out.map).mono ?_
  rintro e w4 ⟨rfl, m4, k4⟩
  have p4 := HT3.out.p.keep k4 (.inr ok.kp)
  have d6 := p4.cell
  have HS4 := HST _ m4
  have K4 := hid (k4)
  clear m4 k4 d5 p4
  go_wp2_with fail
  refine HS4.mono ?_
  clear HS4
  rintro e w5 ⟨rfl, m5, k5⟩
  have HT5 := hid (HT3.out.turn ok (K4.out.tr k5) m5)
  have K5 := hid (K3.out.tr ((K4.out.tr k5).weak (fun k hk => .inl hk)))
  clear m5 k5 d6
  go_wp2_with fail
  go_ret
  exact ⟨K1.out.tr K5.out, .inl ⟨rfl, by show TO S E R D X _ _; rw [List.length_append]; exact HT5.out⟩⟩
end Go.Proofs.Ytoelaemneoabfab
