/-
  The contract of patch.Apply, walked.
-/
import Derived.Test.YtaepbmcmggnmpaaDoorXB
import Derived.Laws.IdiomStrings
import Derived.Lib.LazyBuf
namespace Go.Proofs.YtaepbmcmggnmpaaDoor.Pt
open Go.RowKit
set_option maxRecDepth 100000

/-- The cells of block B hold the bytes of l, and may be written. -/
def At (w : World) (B : Nat) (l : List UInt8) : Prop := ∀ j (h : j < l.length), w.cell? ⟨B, j, none⟩ = some (.int .u8 (l[j].toNat : Int)) ∧ w.frozen? ⟨B, j, none⟩ = false
theorem At.set {w : World} {B : Nat} {l : List UInt8} (h : At w B l) (i : Nat) (c : UInt8) (hi : i < l.length) : At (w.setCell ⟨B, i, none⟩ (.int .u8 (c.toNat : Int))) B (l.set i c) := by
  intro j hj
  rw [List.length_set] at hj
  refine ⟨?_, (World.frozen?_setCell _ _ _ _).trans (h j hj).2⟩
  by_cases e : i = j
  · subst e
    rw [World.cell?_setCell_same _ _ _ (h i hi).1, List.getElem_set_self]
  · rw [World.cell?_setCell_other _ _ _ _ (fun he => e (by injection he)), List.getElem_set_ne e]
    exact (h j hj).1
theorem At.bel {w w' : World} {B : Nat} {l : List UInt8} (h : At w B l) (b : Bel w w') (hB : B < w.heap.size) : At w' B l := fun j hj =>
  ⟨(b.cell (p := ⟨B, j, none⟩) hB).trans (h j hj).1, (b.frozen (p := ⟨B, j, none⟩) hB).trans (h j hj).2⟩
theorem put1_cons (l : List UInt8) (o : Nat) (c : UInt8) (t : List UInt8) (h : o + (t.length + 1) ≤ l.length) : M.put1 (l.set o c) (o + 1) t = M.put1 l o (c :: t) := by
  apply List.ext_getElem?
  intro j
  rw [M.getElem?_put1 _ _ _ _ (by rw [List.length_set]; omega), M.getElem?_put1 _ _ _ _ (by simp only [List.length_cons]; omega)]
  simp only [List.length_cons]
  by_cases h1 : j = o
  · subst h1
    rw [if_neg (by omega), if_pos (by omega), List.getElem?_set_self (by omega), Nat.sub_self]; rfl
  · by_cases h2 : o + 1 ≤ j ∧ j < o + 1 + t.length
    · rw [if_pos h2, if_pos (by omega), show j - o = (j - (o + 1)) + 1 by omega]; rfl
    · rw [if_neg h2, if_neg (by omega), List.getElem?_set_ne (by omega)]
theorem put1_nil (l : List UInt8) (o : Nat) : M.put1 l o [] = l := by simp [M.put1]
def bcs (t : List UInt8) : List Value := t.map fun x => Value.int .u8 (x.toNat : Int)
theorem At.copy {B : Nat} : ∀ (t : List UInt8) {w : World} {l : List UInt8} (_h : At w B l) (o : Nat) (_ho : o + t.length ≤ l.length), At (w.setCells B o (bcs t)) B (M.put1 l o t)
  | [], w, l, h, o, _ => by rw [put1_nil]; exact h
  | c :: t, w, l, h, o, ho => by
    simp only [List.length_cons] at ho
    have := At.copy t (h.set o c (by omega)) (o + 1) (by rw [List.length_set]; omega)
    rw [put1_cons l o c t (by omega)] at this
    exact this
theorem below_setCells {n B : Nat} {w0 : World} (hB : n ≤ B) : ∀ (vs : List Value) (o : Nat) (w : World), Below n w0 w → Below n w0 (w.setCells B o vs)
  | [], _, _, h => h
  | v :: r, o, _, h => below_setCells hB r (o + 1) _ (Below.setCell (p := ⟨B, o, none⟩) h hB v)
theorem size_setCells (B : Nat) : ∀ (vs : List Value) (o : Nat) (w : World), (w.setCells B o vs).heap.size = w.heap.size
  | [], _, _ => rfl
  | v :: r, o, w => (size_setCells B r (o + 1) _).trans (by simp)

/-- '[]byte(s)'. -/
theorem bytes_of (w : World) (l : List UInt8) : ∃ cap W, (convert 9 54 (.string (M.bs l))).run Tryd.prog w = .ok (.slice (some ⟨w.heap.size, 0, none⟩) l.length cap) W ∧ l.length ≤ cap ∧ At W w.heap.size l ∧ Bel w W ∧ W.heap.size = w.heap.size + 1 := by
  have h := run_bytes_of_string (P := Tryd.prog) w 9 54 5 (M.bs l) Tryd.underlying9 Tryd.underlying54 Tryd.underlying5
  rw [M.bs_size] at h
  refine ⟨_, _, h, ?_, ?_, Bel.al (Bel.dr (Below.refl _ _)) _, by simp⟩
  · exact grownCap_ge _ _ _ _
  intro j hj
  constructor
  · refine (World.cell?_alloc_mark w.drew _ _ _ _).trans ?_
    rw [bytesRow_at _ _ _ (by simpa [M.bs] using hj)]
    rfl
  · refine (World.frozen?_alloc_mark w.drew _ _ _ _ _).trans ?_
    have : j < (bytesRow (M.bs l) (grownCap w l.length 0 5)).size := by
      simp [bytesRow, M.bs]; omega
    simp; omega
/-- 'string(b)'. -/
theorem string_of (w : World) (B cap : Nat) (l : List UInt8) (h : At w B l) : (convert 54 9 (.slice (some ⟨B, 0, none⟩) l.length cap)).run Tryd.prog w = .ok (.string (M.bs l)) w := by
  refine run_convert_bytes_back (P := Tryd.prog) w 54 9 5 ⟨B, 0, none⟩ cap l Tryd.underlying54 Tryd.underlying5 Tryd.underlying9 ?_
  intro j hj
  have e : (⟨B, 0, none⟩ : Addr).add j = ⟨B, j, none⟩ := by unfold Addr.add; split <;> simp_all
  rw [e]
  exact (h j hj).1
theorem size5 (w : World) : (Go.sizeOf 5).run Tryd.prog w = .ok 1 w := by
  obtain ⟨i0, hi, hz0, hz1, hz2⟩ := info_parts info5
  simp [Go.sizeOf, typeInfo, hi, hz1]
/-- 'copy(b[o:], t)', which fits. -/
theorem copy_of (w : World) (B : Nat) (l t : List UInt8) (o m c : Nat) (ty : TypeId) (h : At w B l) (ho : o + t.length ≤ l.length) (hm : t.length ≤ m) :
    (Builtin.copy_ #[54, 9] ty #[.slice (some ⟨B, o, none⟩) m c, .string (M.bs t)]).run Tryd.prog w = .ok (goInt t.length) (w.setCells B o (bcs t)) := by
  have := Go.run_copy_string (P := Tryd.prog) w 54 9 ty 5 B o m c (M.bs t) Tryd.underlying54 size5 (by rw [M.bs_size]; exact hm)
    (fun j hj => by rw [M.bs_size] at hj; rw [(h (o + j) (by omega)).1]; rfl) (fun j hj => by rw [M.bs_size] at hj; exact (h (o + j) (by omega)).2)
  rw [M.bs_size] at this
  exact this

set_option maxHeartbeats 2000000 in
theorem apply_some (s : List UInt8) (L : List M.Pc) (b off cap : Nat) (w : World) (hv : Row2 w b off L) (hL : 0 < L.length) (hL2 : L.length ≤ 100000) (hs : ∀ p ∈ L, p.2.length ≤ 100000) (_hz : s.length ≤ 100000) :
    Calls Tryd.prog 40 #[.string (M.bs s), .slice (some ⟨b, off, none⟩) L.length cap] w fun e w' => e = .returned (.tuple #[.string (M.bs (M.apply s L).1), .int .i64 ((M.apply s L).2 : Int)]) ∧ Bel w w' := by
  have hbw := hv.lt hL
  have Hr := right_some L b off cap w hv hL hL2 hs
  by_cases hR : M.right L = true
  · have hall := M.right_all hR
    rw [hR] at Hr
    have e0 : M.apply s L = M.applyF s L := by unfold M.apply; rw [if_pos hR]
    rw [e0]
    obtain ⟨R, hR2⟩ : ∃ R, R = M.applyF s L := ⟨_, rfl⟩
    rw [← hR2]
    have HR : Hid (M.applyF s L = R) := hR2.symm
    clear hR2 e0 hR
    go_enter Tryd.func40, Tryd.ntmps40
    go_wp2_with fail
    refine Hr.mono ?_
    rintro e w1 ⟨rfl, b1⟩
    obtain ⟨cp, W, hcv, hcp, hat, b2, hsz⟩ := bytes_of w1 s
    have hz1 := b1.size
    clear Hr
    go_wp2_with fail
    go_loopw [16] (fun i wr => ∃ (k : Nat) (cur : List UInt8), k ≤ L.length ∧ i = .int .i64 k ∧ At wr w1.heap.size cur ∧ cur.length = s.length ∧ M.applyF cur (L.drop k) = R ∧ Bel w wr ∧ w1.heap.size < wr.heap.size) (fun i _ => L.length - (intOf i).toNat)
    case atStart => exact ⟨0, s, Nat.zero_le _, rfl, hat, rfl, HR.out, b1.tr b2, by omega⟩
    case round =>
      obtain ⟨k, cur, hk, rfl, hat2, hcl, hap, hb, hlt2⟩ := hrel
      clear hcv hat HR
      by_cases hlt : k < L.length
      · obtain ⟨c1, c2⟩ := (hv.below hb hbw) k hlt
        have hvs := hall L[k] (List.getElem_mem hlt)
        rw [List.drop_eq_getElem_cons hlt] at hap
        simp only [M.applyF] at hap
        have HS := hid hap
        clear hap hs hv hall
        generalize L[k] = v at *
        obtain ⟨a, t⟩ := v
        simp only at hvs c1 c2
        obtain ⟨ha0, ha1, hne, htl⟩ := hvs
        obtain ⟨a, rfl⟩ := Int.eq_ofNat_of_zero_le ha0
        have H := fun W => end_any (a : Int) t W (by omega) (by omega)
        have htp : 0 < t.length := by
          have : t.length ≠ 0 := fun h => hne (List.length_eq_zero_iff.1 h)
          omega
        clear hne
        by_cases hbig : (s.length : Int) < (a : Int) + (t.length : Int)
        · have HF : Hid (R = ([], 6)) := by show _ = _; rw [← HS.out, if_pos (by simp only; rw [hcl]; exact hbig)]
          clear HS
          go_wp2_with fail
          refine (H _).mono ?_
          rintro e w3 ⟨rfl, b3⟩
          go_wp2_with fail
          go_ret2
          exact ⟨by rw [HF.out]; rfl, (hb.al _).tr b3⟩
        · have HF : Hid (M.applyF (M.put1 cur a t) (L.drop (k + 1)) = R) := by show _ = _; rw [← HS.out, if_neg (by simp only; rw [hcl]; exact hbig)]; simp
          clear HS
          go_wp2_with fail
          refine (H _).mono ?_
          rintro e w3 ⟨rfl, b3⟩
          have hb1 : wr.heap.size < w3.heap.size := by have := b3.size; simp at this; omega
          have d1 : w3.cell? ⟨wr.heap.size, 0, none⟩ = some (.int .i64 (a : Int)) := (b3.cell (p := ⟨wr.heap.size, 0, none⟩) (by simp)).trans (by simp [World.cell?_alloc_at])
          have d2 : w3.cell? ⟨wr.heap.size, 1, none⟩ = some (.string (M.bs t)) := (b3.cell (p := ⟨wr.heap.size, 1, none⟩) (by simp)).trans (by simp [World.cell?_alloc_at])
          have hat3 : At w3 w1.heap.size cur := (hat2.bel (Bel.al (Below.refl _ _) _) hlt2).bel b3 (by simp; omega)
          have hq := fun ty => copy_of w3.drew w1.heap.size cur t a (s.length - a) (cp - a) ty hat3 (by omega) (by omega)
          have q1 : ¬ cp - a = 0 := by omega
          have q2 : ¬ (cp : Int) - (a : Int) = 0 := by omega
          have q3 : ((cp : Int) - (a : Int)).toNat = cp - a := by omega
          have q4 : ((s.length : Int) - (a : Int)).toNat = s.length - a := by omega
          have q5 : (a : Int) ≤ (s.length : Int) := by omega
          have q6 : ¬ cp = a := by omega
          have HA : Hid (At (w3.drew.setCells w1.heap.size a (bcs t)) w1.heap.size (M.put1 cur a t)) := At.copy t (w := w3.drew) hat3 a (by omega)
          have HB : Hid (Bel w (w3.drew.setCells w1.heap.size a (bcs t))) := below_setCells (by omega) _ _ _ (((hb.al _).tr b3).dr)
          have HZ : Hid ((w3.drew.setCells w1.heap.size a (bcs t)).heap.size = w3.heap.size) := size_setCells _ _ _ _
          have HL : Hid ((M.put1 cur a t).length = s.length) := by show _ = _; rw [M.put1_length _ _ _ (by omega)]; exact hcl
          clear hat2 hat3
          go_wp2_with fail
          go_region
          clear hq q1 q2 q3 q4 q5 q6 d1 d2 H
          generalize w3.drew.setCells w1.heap.size a (bcs t) = W4 at *
          go_wp2_with fail
          go_roundw
          case rel => exact ⟨k + 1, _, by omega, by go_num, HA.out, HL.out, HF.out, HB.out, by rw [HZ.out]; omega⟩
          case measure => simp [intOf]; omega
      · have HF : Hid (R = (cur, 0)) := by show _ = _; rw [← hap, List.drop_of_length_le (by omega)]; rfl
        have hst := string_of wr w1.heap.size cp cur hat2
        rw [hcl] at hst
        clear hap hat2
        go_wp2_with fail
        go_ret2
        exact ⟨by rw [HF.out]; rfl, hb⟩
  · have e0 : M.apply s L = ([], 1) := by unfold M.apply; rw [if_neg hR]
    rw [e0]
    rw [Bool.not_eq_true] at hR
    rw [hR] at Hr
    clear e0 hR
    go_enter Tryd.func40, Tryd.ntmps40
    go_wp2_with fail
    refine Hr.mono ?_
    rintro e w1 ⟨rfl, b1⟩
    go_wp2_with fail
    go_ret2
    exact ⟨rfl, b1⟩
theorem apply_nil (s : List UInt8) (a : Option Addr) (cap : Nat) (w : World) (_hz : s.length ≤ 100000) :
    Calls Tryd.prog 40 #[.string (M.bs s), .slice a 0 cap] w fun e w' => e = .returned (.tuple #[.string (M.bs (M.apply s []).1), .int .i64 ((M.apply s []).2 : Int)]) ∧ Bel w w' := by
  have Hr := right_nil a cap w
  have e1 : M.right [] = true := rfl
  have e2 : M.apply s [] = (s, 0) := rfl
  rw [e1] at Hr
  rw [e2]
  clear e1 e2
  go_enter Tryd.func40, Tryd.ntmps40
  go_wp2_with fail
  refine Hr.mono ?_
  rintro e w1 ⟨rfl, b1⟩
  obtain ⟨cp, W, hcv, hcp, hat, b2, hsz⟩ := bytes_of w1 s
  have hst := string_of W w1.heap.size cp s hat
  clear hat Hr
  go_wp2_with fail
  refine wp_loop_rounds 1 ?_
  rw [rounds_succ]
  go_wp2_with fail
  go_ret2
  exact ⟨rfl, b1.tr b2⟩
/-- 'Apply' of any pieces. -/
theorem apply_any (s : List UInt8) (L : List M.Pc) (x : Value) (w : World) (hv : Vals w x L) (hL2 : L.length ≤ 100000) (hs : ∀ p ∈ L, p.2.length ≤ 100000) (hz : s.length ≤ 100000) :
    Calls Tryd.prog 40 #[.string (M.bs s), x] w fun e w' => e = .returned (.tuple #[.string (M.bs (M.apply s L).1), .int .i64 ((M.apply s L).2 : Int)]) ∧ Bel w w' := by
  obtain ⟨a, cap, rfl, hv⟩ := hv
  by_cases h0 : L = []
  · subst h0; exact apply_nil s a cap w hz
  · obtain h | ⟨b, off, rfl, hr⟩ := hv
    · exact absurd h h0
    · refine apply_some s L b off cap w hr ?_ hL2 hs hz
      have : L.length ≠ 0 := fun h => h0 (List.length_eq_zero_iff.1 h)
      omega
end Go.Proofs.YtaepbmcmggnmpaaDoor.Pt
