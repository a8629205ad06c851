/-
  The law DevicePlays: device and reference beside each other.
-/
import Derived.Test.YtoelaemneoabfaaRS
import Derived.Test.YtoelaemneoabfaaLG
namespace Go.Proofs.Ytoelaemneoabfaa
open Go.RowKit
set_option maxRecDepth 100000

theorem Dev.grown {X : Nat → Prop} {w w' : World} {d : Nat} {S : St} (h : Dev X w d S) (k : Keep (fun j => ¬ X j ∧ j < w.heap.size) w w') : Dev (fun j => X j ∨ (w.heap.size ≤ j ∧ j < w'.heap.size)) w' d S := by
  obtain ⟨mb, n, wv, kv, h⟩ := h
  have hk := k.size
  have lw := fun g hg => (h.wait.lt g hg).2
  have lk := fun g hg => (h.keep.lt g hg).2
  have lb := h.blk.lt
  have lm := h.map.lt
  refine ⟨mb, n, wv, kv, (k.block d ⟨h.xb, lb⟩).trans h.blk, h.map.same (k.block mb ⟨h.xm, lm⟩), h.room, row_keep h.wait k (fun g hg => ⟨h.xw g hg, lw g hg⟩), row_keep h.keep k (fun g hg => ⟨h.xk g hg, lk g hg⟩), ?_, ?_, ?_, ?_, ?_⟩
  · rintro (hx | ⟨hx, _⟩)
    · exact h.xb hx
    · omega
  · rintro (hx | ⟨hx, _⟩)
    · exact h.xm hx
    · omega
  · rintro g hg (hx | ⟨hx, _⟩)
    · exact h.xw g hg hx
    · have := lw g hg; omega
  · rintro g hg (hx | ⟨hx, _⟩)
    · exact h.xk g hg hx
    · have := lk g hg; omega
  · rintro j (hx | ⟨_, hx⟩)
    · exact Nat.lt_of_lt_of_le (h.lt j hx) hk
    · exact hx
theorem Dev.past {X : Nat → Prop} {w w' : World} {d b : Nat} {S : St} (h : Dev X w d S) (hb : X b) (k : Keep (fun j => j ≠ b ∧ j < w.heap.size) w w') : Dev (fun j => X j ∨ (w.heap.size ≤ j ∧ j < w'.heap.size)) w' d S :=
  h.grown (k.weak fun _ hj => ⟨fun e => hj.1 (e ▸ hb), hj.2⟩)
/-- The device at d and the reference at b, beside what the call was handed. -/
def PB (w0 wr : World) (d : Nat) (S : St) (b : Nat) (R : Rf) : Prop := ∃ X : Nat → Prop, (∀ j, j < w0.heap.size → X j) ∧ Ref X wr b R ∧ Dev X wr d S ∧ Keep (fun j => j < w0.heap.size) w0 wr ∧ w0.heap.size ≤ b
theorem Ref.yb {Y : Nat → Prop} {w : World} {b : Nat} {R : Rf} (h : Ref Y w b R) : Y b := by
  obtain ⟨lv, av, dv, kv, h⟩ := h
  exact h.yb
theorem Ref.keepAll {Y : Nat → Prop} {w w' : World} {b : Nat} {R : Rf} (h : Ref Y w b R) (k : Keep Y w w') : Ref Y w' b R := by
  obtain ⟨lv, av, dv, kv, h⟩ := h
  exact ⟨lv, av, dv, kv, h.kept k⟩
theorem PB.dev {w0 w : World} {d b : Nat} {S : St} {R : Rf} (h : PB w0 w d S b R) : ∃ X : Nat → Prop, Dev X w d S ∧ ∀ w' S' d', Dev X w' d' S' → Keep X w w' → PB w0 w' d' S' b R := by
  obtain ⟨X, h1, h2, h3, h4, h5⟩ := h
  exact ⟨X, h3, fun w' S' d' hd k => ⟨X, h1, h2.keepAll k, hd, h4.tr (k.weak h1), h5⟩⟩
theorem PB.ref {w0 w : World} {d b : Nat} {S : St} {R : Rf} (h : PB w0 w d S b R) : ∃ Y : Nat → Prop, Ref Y w b R ∧ (∀ j, Y j → j < w.heap.size) ∧ ∀ w' R', Ref (fun j => Y j ∨ (w.heap.size ≤ j ∧ j < w'.heap.size)) w' b R' → Keep (fun j => j ≠ b ∧ j < w.heap.size) w w' → PB w0 w' d S b R' := by
  obtain ⟨X, h1, h2, h3, h4, h5⟩ := h
  refine ⟨X, h2, h3.lt, fun w' R' hr k => ⟨_, fun j hj => .inl (h1 j hj), hr, h3.past h2.yb k, h4.tr (k.weak fun j hj => ⟨by omega, by have := h4.size; omega⟩), h5⟩⟩
theorem PB.bel {w0 w w' : World} {d b : Nat} {S : St} {R : Rf} (h : PB w0 w d S b R) (k : Bel w w') : PB w0 w' d S b R := by
  obtain ⟨X, h1, h4⟩ := h.dev
  exact h4 _ _ _ (h1.bel k) (Keep.of_bel k h1.lt)
theorem PB.below {w0 w : World} {d b : Nat} {S : St} {R : Rf} (h : PB w0 w d S b R) : Bel w0 w := by
  obtain ⟨X, h1, h2, h3, h4, h5⟩ := h
  exact h4.below
theorem PB.do_ {w0 w : World} {d b : Nat} {S : St} {R : Rf} (h : PB w0 w d S b R) (N : Nat) (what i : Int) (t : M.Tx) (a : Option Addr) (kcap : Nat) (K : List Int) (g : Good N S) (hN : N + 1 ≤ 1000)
    (hk : ReadsN w (.slice a K.length kcap) K) (hkc : K.length ≤ kcap) (hkm : K.length ≤ maxLen) (ht : t.length ≤ maxLen) :
    Calls Try.prog 16 #[.pointer (some ⟨d, 0, none⟩), .agg #[.int .i64 what, .int .i64 i, .string (M.bs t), .slice a K.length kcap]] w fun e w' => e = .returned (.tuple #[.string (M.bs (doT (kindI what) S i)), .int .i64 (doE (kindI what) S i (t.take 300))]) ∧ PB w0 w' d (doS (kindI what) S i (t.take 300) (K.take 9)) b R ∧ Keep (fun j => j < w0.heap.size) w w' := by
  have hw0 := h
  obtain ⟨X, h1, h2, h3, h4, h5⟩ := h
  refine (do_any X d S N what i t a kcap K w h3 g hN hk hkc hkm ht).mono ?_
  rintro e w' ⟨rfl, hd, k⟩
  exact ⟨rfl, ⟨X, h1, h2.keepAll k, hd, h4.tr (k.weak h1), h5⟩, k.weak h1⟩
theorem PB.done_ {w0 w : World} {d b : Nat} {S : St} {R : Rf} (h : PB w0 w d S b R) (N : Nat) (what i : Int) (t : M.Tx) (a : Option Addr) (kcap : Nat) (K : List Int) (g : GoodR N R) (hN : N + 1 ≤ 1000)
    (hk : ReadsN w (.slice a K.length kcap) K) (hkc : K.length ≤ kcap) (hkm : K.length ≤ maxLen) (ht : t.length ≤ maxLen) :
    Calls Try.prog 17 #[.pointer (some ⟨b, 0, none⟩), .agg #[.int .i64 what, .int .i64 i, .string (M.bs t), .slice a K.length kcap]] w fun e w' => e = .returned (.tuple #[.string (M.bs (doRT (kindI what) R i)), .int .i64 (doRE (kindI what) R i (t.take 300))]) ∧ PB w0 w' d S b (doR (kindI what) R i (t.take 300) (K.take 9)) ∧ Keep (fun j => j < w0.heap.size) w w' := by
  obtain ⟨X, h1, h2, h3, h4, h5⟩ := h
  refine (done_any X b R N what i t a kcap K w h2 g hN h3.lt hk hkc hkm ht).mono ?_
  rintro e w' ⟨rfl, hr, k⟩
  have k0 : Keep (fun j => j < w0.heap.size) w w' := k.weak fun j hj => ⟨by omega, by have := h4.size; omega⟩
  exact ⟨rfl, ⟨_, fun j hj => .inl (h1 j hj), hr, h3.past h2.yb k, h4.tr k0, h5⟩, k0⟩
theorem PB.same_ {w0 w : World} {d b : Nat} {S : St} {R : Rf} (h : PB w0 w d S b R) (N : Nat) (hs : Sim S R) (g : Good N S) (gr : GoodR N R) :
    Calls Try.prog 18 #[.pointer (some ⟨d, 0, none⟩), .pointer (some ⟨b, 0, none⟩)] w fun e w' => e = .returned (.bool true) ∧ PB w0 w' d S b R ∧ Keep (fun j => j < w0.heap.size) w w' := by
  obtain ⟨X, h1, h2, h3, h4, h5⟩ := id h
  refine (same_any X X d b S R N w h3 h2 hs g gr h3.lt).mono ?_
  rintro e w' ⟨rfl, k⟩
  exact ⟨rfl, h.bel k, Keep.of_bel k (fun j hj => Nat.lt_of_lt_of_le hj h4.size)⟩
theorem ref_start (w0 w : World) (n : Nat) (v : Value) (hv : w.ownsRow w0.heap.size 9 1 v n (csT (List.replicate n (pad [])))) (k : Bel w0 w) (W : World) (hB : Blk W w.heap.size #[v, .slice none 0 0, .slice none 0 0, .bool false, .int .i64 0, .slice none 0 0, .int .i64 0] 31) (hW : Bel w W) :
    Ref (fun j => w0.heap.size ≤ j ∧ j < W.heap.size) W w.heap.size (rNew n) := by
  have hv' := own_kept hv hW
  have hz := k.size
  have hl := fun g hg => (hv.lt g hg).2
  refine ⟨v, .slice none 0 0, .slice none 0 0, .slice none 0 0, hB, ?_, ⟨none, 0, rfl, .inl ⟨rfl, rfl, rfl⟩⟩, ⟨none, 0, rfl, .inl ⟨rfl, rfl, rfl⟩⟩, ⟨none, 0, rfl, .inl ⟨rfl, rfl, rfl⟩⟩, rfl, ⟨hz, hB.lt⟩⟩
  rcases hv'.2 with ⟨rfl, e⟩ | ⟨g, cap, cur, rfl, _⟩
  · subst e
    exact ⟨none, 0, rfl, .inl ⟨rfl, rfl, rfl⟩⟩
  · refine ⟨_, cap, by simp [rNew], .inr ⟨g, 0, rfl, ⟨⟨(hv'.lt g rfl).1, (hv'.lt g rfl).2⟩, by have := hl g rfl; omega⟩, fun j hj => ?_⟩⟩
    rw [Nat.zero_add, hv'.cellAt j (by simpa [rNew] using hj)]
    simp [csT, rNew] at hj ⊢
    simp [hj]
theorem PB.start {w w2 w3 : World} {d n : Nat} (hd : Dev (fun j => j < w.heap.size) w2 d (new n)) (k2 : Bel w w2) (v : Value) (hv : w3.ownsRow w2.heap.size 9 1 v n (csT (List.replicate n (pad [])))) (k3 : Bel w2 w3) (W : World) (hB : Blk W w3.heap.size #[v, .slice none 0 0, .slice none 0 0, .bool false, .int .i64 0, .slice none 0 0, .int .i64 0] 31) (hW : Bel w3 W) :
    PB w W d (new n) w3.heap.size (rNew n) := by
  have hr := ref_start w2 w3 n v hv k3 W hB hW
  have k4 : Bel w2 W := k3.tr hW
  have h23 := k3.size
  have h02 := k2.size
  exact ⟨_, fun _ hj => .inl hj, hr.weak fun _ hj => .inr hj, hd.grown (Keep.of_bel k4 fun _ h => h.2), (Keep.of_bel k2 fun _ h => h).tr (Keep.of_bel k4 (fun j hj => by omega)), by omega⟩
end Go.Proofs.Ytoelaemneoabfaa
