/-
  Plain mathematics of layer 5: the page of any bytes, as the document's answer reads it, is the one that the program reads. Nothing of the program is named here.
-/
import Derived.Test.YtaepbmcmggnmpaaDoorRT
namespace Go.Proofs.YtaepbmcmggnmpaaDoor.M
open Go.RowKit

theorem put_get (a : List UInt8) (z : Nat) (hz : a.length = z) (h1 : 1 ≤ z) (h7 : z ≤ 7) : put (get a : Int) z = a := by
  subst hz
  have hl := getN_lt a
  have hg : get a = getN a := by unfold get; rw [if_pos h7]
  rw [hg, put_len _ _ h1 h7 (by omega) (by rw [Int.toNat_natCast]; exact hl), Int.toNat_natCast]
  exact eq_getN _ _ (putL_length _ _) (getN_put _ _ hl)
theorem get_lt (a : List UInt8) (z : Nat) (hz : a.length = z) (h7 : z ≤ 7) : get a < 256 ^ z := by
  subst hz
  unfold get; rw [if_pos h7]; exact getN_lt a
theorem rtext_back {r r' a : List UInt8} {n : Nat} {b : Bool} (h : rtext (r, b) n = (a, (r', false))) : b = false ∧ r = a ++ r' ∧ a.length = n := by
  unfold rtext at h
  simp only at h
  split at h
  · simp only [Prod.mk.injEq] at h
    cases h.2.2
  · rename_i hn
    rw [not_or] at hn
    simp only [Prod.mk.injEq] at h
    obtain ⟨rfl, rfl, rfl⟩ := h
    exact ⟨rfl, (List.take_append_drop n r).symm, by rw [List.length_take]; omega⟩
theorem rnum_back {r r' : List UInt8} {m z : Nat} {b : Bool} (h : rnum (r, b) z = (m, (r', false))) (h1 : 1 ≤ z) (h7 : z ≤ 7) : b = false ∧ r = put (m : Int) z ++ r' ∧ m < 256 ^ z := by
  unfold rnum at h
  simp only [Prod.mk.injEq] at h
  obtain ⟨hm, h2⟩ := h
  obtain ⟨a, ha⟩ : ∃ a, (rtext (r, b) z).1 = a := ⟨_, rfl⟩
  obtain ⟨hb, hr, hl⟩ := rtext_back (show rtext (r, b) z = (a, (r', false)) from Prod.ext ha h2)
  rw [ha] at hm
  subst hm
  exact ⟨hb, by rw [put_get a z hl h1 h7]; exact hr, get_lt a z hl h7⟩
theorem ent_back {r r' : List UInt8} {m : Nat} {e : En} {b : Bool} (h : ent (r, b) = (m, e, (r', false))) (hm : m ≤ 1) : b = false ∧ r = encE e ++ r' ∧ e.1.length < 256 ∧ e.2.1.length < 256 := by
  obtain ⟨m1, r1, b1, e1⟩ : ∃ m1 r1 b1, rnum (r, b) 1 = (m1, (r1, b1)) := ⟨_, _, _, rfl⟩
  obtain ⟨k, r2, b2, e2⟩ : ∃ k r2 b2, rnum (r1, b1) 1 = (k, (r2, b2)) := ⟨_, _, _, rfl⟩
  obtain ⟨v, r3, b3, e3⟩ : ∃ v r3 b3, rnum (r2, b2) 1 = (v, (r3, b3)) := ⟨_, _, _, rfl⟩
  obtain ⟨ky, r4, b4, e4⟩ : ∃ ky r4 b4, rtext (r3, b3) k = (ky, (r4, b4)) := ⟨_, _, _, rfl⟩
  obtain ⟨vl, r5, b5, e5⟩ : ∃ vl r5 b5, rtext (r4, b4) v = (vl, (r5, b5)) := ⟨_, _, _, rfl⟩
  unfold ent at h
  simp only [e1, e2, e3, e4, e5, Prod.mk.injEq] at h
  obtain ⟨rfl, rfl, rfl, rfl⟩ := h
  obtain ⟨rfl, q5, l5⟩ := rtext_back e5
  obtain ⟨rfl, q4, l4⟩ := rtext_back e4
  obtain ⟨rfl, q3, l3⟩ := rnum_back e3 (by omega) (by omega)
  obtain ⟨rfl, q2, l2⟩ := rnum_back e2 (by omega) (by omega)
  obtain ⟨rfl, q1, l1⟩ := rnum_back e1 (by omega) (by omega)
  refine ⟨rfl, ?_, by simp only; omega, by simp only; omega⟩
  have hmm : markN (decide (m1 = 1)) = m1 := by
    by_cases h : m1 = 1
    · subst h; rfl
    · have : m1 = 0 := by omega
      subst this; rfl
  unfold encE
  simp only [hmm, l4, l5]
  rw [q1, q2, q3, q4, q5]
  simp only [List.append_assoc]; rfl
theorem ents_back : ∀ (n : Nat) (r : List UInt8) (b : Bool) (acc es : List En) (r' : List UInt8), ents n (r, b) acc = some (es, (r', false)) → b = false ∧ ∃ L, es = acc ++ L ∧ L.length = n ∧ r = L.flatMap encE ++ r' := by
  intro n
  induction n with
  | zero =>
    intro r b acc es r' h
    simp only [ents, Option.some.injEq, Prod.mk.injEq] at h
    obtain ⟨rfl, rfl, rfl⟩ := h
    exact ⟨rfl, [], by simp, rfl, by simp⟩
  | succ n ih =>
    intro r b acc es r' h
    obtain ⟨m, e, r1, b1, he⟩ : ∃ m e r1 b1, ent (r, b) = (m, e, (r1, b1)) := ⟨_, _, _, _, rfl⟩
    simp only [ents, he] at h
    split at h
    · cases h
    · rename_i hn
      rw [not_or] at hn
      obtain ⟨rfl, L, hes, hL, hr⟩ := ih r1 b1 _ es r' h
      obtain ⟨rfl, hr0, _⟩ := ent_back he (by omega)
      exact ⟨rfl, e :: L, by rw [hes, List.append_assoc]; rfl, by simp [hL], by rw [hr0, hr, List.flatMap_cons, List.append_assoc]⟩
theorem noughts_eq {s : List UInt8} (h : noughts s = true) : s = List.replicate s.length 0 := by
  unfold noughts at h
  rw [List.all_eq_true] at h
  rw [List.eq_replicate_iff]
  exact ⟨rfl, fun x hx => by simpa using h x hx⟩
theorem headN_back {b : List UInt8} {k l rt n : Nat} {hi r : List UInt8} (h : headN b = ((k, l, rt, hi), n, (r, false))) :
    b = put (k : Int) 1 ++ put (l : Int) 1 ++ put (rt : Int) 2 ++ (put (hi.length : Int) 1 ++ put (n : Int) 2 ++ hi) ++ r ∧ k < 256 ∧ l < 256 ∧ rt < 65536 ∧ hi.length < 256 ∧ n < 65536 := by
  obtain ⟨k1, r1, b1, e1⟩ : ∃ m1 r1 b1, rnum (b, false) 1 = (m1, (r1, b1)) := ⟨_, _, _, rfl⟩
  obtain ⟨l1, r2, b2, e2⟩ : ∃ k r2 b2, rnum (r1, b1) 1 = (k, (r2, b2)) := ⟨_, _, _, rfl⟩
  obtain ⟨t1, r3, b3, e3⟩ : ∃ v r3 b3, rnum (r2, b2) 2 = (v, (r3, b3)) := ⟨_, _, _, rfl⟩
  obtain ⟨h1, r4, b4, e4⟩ : ∃ ky r4 b4, rnum (r3, b3) 1 = (ky, (r4, b4)) := ⟨_, _, _, rfl⟩
  obtain ⟨n1, r5, b5, e5⟩ : ∃ vl r5 b5, rnum (r4, b4) 2 = (vl, (r5, b5)) := ⟨_, _, _, rfl⟩
  obtain ⟨hh, r6, b6, e6⟩ : ∃ vl r6 b6, rtext (r5, b5) h1 = (vl, (r6, b6)) := ⟨_, _, _, rfl⟩
  unfold headN at h
  simp only [e1, e2, e3, e4, e5, e6, Prod.mk.injEq] at h
  obtain ⟨⟨rfl, rfl, rfl, rfl⟩, rfl, rfl, rfl⟩ := h
  obtain ⟨rfl, q6, l6⟩ := rtext_back e6
  obtain ⟨rfl, q5, l5⟩ := rnum_back e5 (by omega) (by omega)
  obtain ⟨rfl, q4, l4⟩ := rnum_back e4 (by omega) (by omega)
  obtain ⟨rfl, q3, l3⟩ := rnum_back e3 (by omega) (by omega)
  obtain ⟨rfl, q2, l2⟩ := rnum_back e2 (by omega) (by omega)
  obtain ⟨_, q1, l1⟩ := rnum_back e1 (by omega) (by omega)
  refine ⟨?_, by omega, by omega, by omega, by omega, by omega⟩
  rw [l6, q1, q2, q3, q4, q5, q6]
  simp only [List.append_assoc]; rfl
/-- A body that is read is the body of what is read. -/
theorem pageN_back (b : List UInt8) (hb : b.length = 496) (h : (pageN b).2 = true) : inB (pageN b).1 = true ∧ 0 ≤ free (pageN b).1 ∧ body (pageN b).1 = b ∧ (pageN b).1.lsn = 0 := by
  have hi : inB (pageN b).1 = true := by
    unfold pageN at h ⊢
    split at h
    · cases h
    · rename_i es r he
      simp only [Bool.and_eq_true] at h
      exact h.2
  unfold pageN at h hi ⊢
  obtain ⟨⟨k, l, rt, hg⟩, n, r0, b0, hh⟩ : ∃ p n r b0, headN b = (p, n, (r, b0)) := ⟨_, _, _, _, rfl⟩
  cases he : ents (headN b).2.1 (headN b).2.2 [] with
  | none => rw [he] at h; cases h
  | some q =>
    obtain ⟨es, r', b'⟩ := q
    rw [he] at h hi
    simp only at h hi ⊢
    simp only [Bool.and_eq_true, Bool.not_eq_true'] at h
    obtain ⟨⟨rfl, hn⟩, _⟩ := h
    rw [hh] at he
    obtain ⟨rfl, L, hes, hL, hr⟩ := ents_back _ _ _ _ _ _ he
    rw [List.nil_append] at hes
    subst hes
    obtain ⟨hbb, hk, hl, hrt, hhl, hnn⟩ := headN_back hh
    have hp : pgN b es = ⟨0, k, l, rt, hg, es⟩ := by unfold pgN; rw [hh]
    rw [hp] at hi ⊢
    have hpre : b = pre ⟨0, k, l, rt, hg, es⟩ ++ r' := by
      unfold pre head1 head2
      simp only
      rw [hL]
      conv => lhs; rw [hbb, hr]
      simp only [List.append_assoc]
    have h6 := (inB_parts hi).2.2.2.2.2
    have hfl := flat_length es h6
    have hlen : 7 + hg.length + szs es + r'.length = 496 := by
      have e := congrArg List.length hbb
      rw [hr] at e
      simp only [List.length_append, hfl] at e
      rw [put_1 (k : Int) (by omega) (by omega), put_1 (l : Int) (by omega) (by omega), put_2 (rt : Int) (by omega) (by omega), put_1 (hg.length : Int) (by omega) (by omega), put_2 (n : Int) (by omega) (by omega)] at e
      omega
    have hf : 0 ≤ free ⟨0, k, l, rt, hg, es⟩ := by unfold free; simp only; omega
    refine ⟨hi, hf, ?_, rfl⟩
    have hpl := (pre_length hi hf).1
    simp only at hpl
    unfold body
    rw [hpl, show 496 - (7 + hg.length + szs es) = r'.length by omega, ← noughts_eq hn]
    exact hpre.symm
theorem lsnL_btw (s : List UInt8) (h : s.length = 512) : btw 0 (lsnL s : Int) 281474976710655 = true := by
  rw [btw_iff]
  unfold lsnL
  rw [if_pos h]
  have := get_lt (s.take 6) 6 (by rw [List.length_take]; omega) (by omega)
  omega
theorem inB_lsn {p : Pg} (h : inB p = true) (n : Int) (hn : btw 0 n 281474976710655 = true) : inB { p with lsn := n } = true := by
  unfold inB at h ⊢
  simp only [Bool.and_eq_true] at h ⊢
  obtain ⟨⟨⟨⟨⟨_, a⟩, b⟩, c⟩, d⟩, e⟩ := h
  exact ⟨⟨⟨⟨⟨hn, a⟩, b⟩, c⟩, d⟩, e⟩
theorem whole_parts {s : List UInt8} (h : s.length = 512) (hn : noughts s = false) (hw : whole s = true) : sealL (s.take 508) = s ∧ s.take 6 = (s.drop 502).take 6 := by
  unfold whole at hw
  simp only [hn, Bool.false_or, Bool.and_eq_true, beq_iff_eq] at hw
  have := good_seal s (by omega)
  rw [hw.2.1, h, beq_iff_eq] at this
  exact ⟨this, hw.2.2⟩
theorem build_back (s : List UInt8) (h : s.length = 512) (hn : noughts s = false) (hw : whole s = true) : build (lsnL s : Int) (bodyL s) = s := by
  obtain ⟨h1, h2⟩ := whole_parts h hn hw
  have hb : bodyL s = (s.drop 6).take 496 := by unfold bodyL; rw [if_pos h]
  have hl : lsnL s = get (s.take 6) := by unfold lsnL; rw [if_pos h]
  unfold build
  rw [if_pos ⟨lsnL_btw s h, by rw [hb, List.length_take, List.length_drop]; omega⟩, hl, show ((6 : Int)) = ((6 : Nat) : Int) from rfl, put_get (s.take 6) 6 (by rw [List.length_take]; omega) (by omega) (by omega), hb]
  conv => rhs; rw [← h1]
  congr 1
  conv => lhs; rw [List.append_assoc]; arg 2; arg 2; rw [h2]
  rw [show s.drop 502 = (s.drop 6).drop 496 by rw [List.drop_drop], ← List.take_add, ← List.take_add]
/-- What is decoded is encoded as it was. -/
theorem encode_back (s : List UInt8) (h : s.length = 512) (hn : noughts s = false) (hw : whole s = true) (hp : (pageN (bodyL s)).2 = true) : encode { (pageN (bodyL s)).1 with lsn := (lsnL s : Int) } = (s, 0) := by
  have hb : (bodyL s).length = 496 := by unfold bodyL; rw [if_pos h, List.length_take, List.length_drop]; omega
  obtain ⟨h1, h2, h3, h4⟩ := pageN_back _ hb hp
  generalize (pageN (bodyL s)).1 = p at *
  unfold encode
  rw [if_pos (inB_lsn h1 _ (lsnL_btw s h)), if_neg (by show ¬ free p < 0; omega)]
  show (build _ (body p), 0) = _
  rw [h3, build_back s h hn hw]
def byteAt (s : List UInt8) (i : Nat) : Nat := (s.getD i 0).toNat
/-- The entries, as the document's answer reads them. -/
def rl (s : List UInt8) : Nat → Nat → List En → Option (List En)
  | 0, _, acc => some acc
  | n + 1, at', acc => if 502 < at' + 3 ∨ 502 < at' + 3 + byteAt s (at' + 1) + byteAt s (at' + 2) then none else
      rl s n (at' + 3 + byteAt s (at' + 1) + byteAt s (at' + 2)) (acc ++ [((s.drop (at' + 3)).take (byteAt s (at' + 1)), (s.drop (at' + 3 + byteAt s (at' + 1))).take (byteAt s (at' + 2)), decide (byteAt s at' = 1))])
def rpg (s : List UInt8) (es : List En) : Pg := { lsn := get (s.take 6), kind := byteAt s 6, level := byteAt s 7, right := get ((s.drop 8).take 2), high := (s.drop 13).take (byteAt s 10), es := es }
def rpage (s : List UInt8) : Option Pg := if 502 < 13 + byteAt s 10 then none else (rl s (get ((s.drop 11).take 2)) (13 + byteAt s 10) []).map (rpg s)
def rback (s : List UInt8) (o : Option Pg) : Pg × Nat :=
  match o with
  | none => (zeroP, 2)
  | some p => if encode p = (s, 0) then (p, 0) else (zeroP, 2)
def rest (s : List UInt8) (i : Nat) : List UInt8 := (s.drop i).take (502 - i)
theorem rest_length {s : List UInt8} (h : s.length = 512) (i : Nat) : (rest s i).length = 502 - i := by unfold rest; rw [List.length_take, List.length_drop]; omega
theorem rtext_rest {s : List UInt8} (i n : Nat) (a r' : List UInt8) (h : rtext (rest s i, false) n = (a, (r', false))) (hs : s.length = 512) : i + n ≤ 502 + (i - 502) ∧ a = (s.drop i).take n ∧ r' = rest s (i + n) := by
  unfold rtext at h
  simp only at h
  split at h
  · simp only [Prod.mk.injEq] at h
    cases h.2.2
  · rename_i hn
    rw [not_or, rest_length hs] at hn
    simp only [Prod.mk.injEq] at h
    obtain ⟨rfl, rfl, _⟩ := h
    refine ⟨by omega, ?_, ?_⟩
    · unfold rest; rw [List.take_take, Nat.min_eq_left (by omega)]
    · unfold rest; rw [List.drop_take, List.drop_drop, show 502 - i - n = 502 - (i + n) by omega]
theorem take1 (s : List UInt8) (i : Nat) (h : i < s.length) : (s.drop i).take 1 = [s[i]] := by
  rw [List.drop_eq_getElem_cons h]; rfl
theorem get_take1 (s : List UInt8) (i : Nat) (h : i < s.length) : get ((s.drop i).take 1) = byteAt s i := by
  rw [take1 s i h]
  unfold byteAt get getN
  simp [List.getD_eq_getElem?_getD, List.getElem?_eq_getElem h]
theorem rnum_rest {s : List UInt8} (i n m : Nat) (r' : List UInt8) (h : rnum (rest s i, false) n = (m, (r', false))) (hs : s.length = 512) : i + n ≤ 502 + (i - 502) ∧ m = get ((s.drop i).take n) ∧ r' = rest s (i + n) := by
  unfold rnum at h
  simp only [Prod.mk.injEq] at h
  obtain ⟨hm, h2⟩ := h
  obtain ⟨a, ha⟩ : ∃ a, (rtext (rest s i, false) n).1 = a := ⟨_, rfl⟩
  obtain ⟨q1, q2, q3⟩ := rtext_rest i n a r' (Prod.ext ha h2) hs
  rw [ha] at hm
  exact ⟨q1, by rw [← hm, q2], q3⟩
theorem rtext_b {r r' : Rd} {a : List UInt8} {n : Nat} (h : rtext r n = (a, r')) (hb : r'.2 = false) : r.2 = false := by
  obtain ⟨r, b⟩ := r
  obtain ⟨r', b'⟩ := r'
  simp only at hb; subst hb
  exact (rtext_back h).1
theorem rnum_b {r r' : Rd} {a n : Nat} (h : rnum r n = (a, r')) (hb : r'.2 = false) : r.2 = false := by
  unfold rnum at h
  simp only [Prod.mk.injEq] at h
  exact rtext_b (show rtext r n = ((rtext r n).1, r') from Prod.ext rfl h.2) hb
theorem ents_rl (s : List UInt8) (hs : s.length = 512) : ∀ (n i : Nat) (acc es : List En) (r : List UInt8), i ≤ 502 → ents n (rest s i, false) acc = some (es, (r, false)) → rl s n i acc = some es := by
  intro n
  induction n with
  | zero =>
    intro i acc es r hi h
    simp only [ents, Option.some.injEq, Prod.mk.injEq] at h
    simp only [rl, h.1]
  | succ n ih =>
    intro i acc es r hi h
    obtain ⟨m1, r1, b1, e1⟩ : ∃ m1 r1 b1, rnum (rest s i, false) 1 = (m1, (r1, b1)) := ⟨_, _, _, rfl⟩
    obtain ⟨k, r2, b2, e2⟩ : ∃ k r2 b2, rnum (r1, b1) 1 = (k, (r2, b2)) := ⟨_, _, _, rfl⟩
    obtain ⟨v, r3, b3, e3⟩ : ∃ v r3 b3, rnum (r2, b2) 1 = (v, (r3, b3)) := ⟨_, _, _, rfl⟩
    obtain ⟨ky, r4, b4, e4⟩ : ∃ ky r4 b4, rtext (r3, b3) k = (ky, (r4, b4)) := ⟨_, _, _, rfl⟩
    obtain ⟨vl, r5, b5, e5⟩ : ∃ vl r5 b5, rtext (r4, b4) v = (vl, (r5, b5)) := ⟨_, _, _, rfl⟩
    simp only [ents, ent, e1, e2, e3, e4, e5] at h
    split at h
    · cases h
    · rename_i hn
      rw [not_or, Bool.not_eq_true] at hn
      obtain ⟨hb5, hm⟩ := hn
      subst hb5
      have hb4 := rtext_b e5 rfl
      simp only at hb4; subst hb4
      have hb3 := rtext_b e4 rfl
      simp only at hb3; subst hb3
      have hb2 := rnum_b e3 rfl
      simp only at hb2; subst hb2
      have hb1 := rnum_b e2 rfl
      simp only at hb1; subst hb1
      obtain ⟨p1, q1, rfl⟩ := rnum_rest _ _ _ _ e1 hs
      obtain ⟨p2, q2, rfl⟩ := rnum_rest _ _ _ _ e2 hs
      obtain ⟨p3, q3, rfl⟩ := rnum_rest _ _ _ _ e3 hs
      obtain ⟨p4, q4, rfl⟩ := rtext_rest _ _ _ _ e4 hs
      obtain ⟨p5, q5, rfl⟩ := rtext_rest _ _ _ _ e5 hs
      rw [get_take1 s _ (by omega)] at q1 q2 q3
      simp only [Nat.add_assoc, Nat.reduceAdd] at q1 q2 q3 q4 q5 p1 p2 p3 p4 p5 h
      subst q1 q2 q3 q4 q5
      have hh := ih _ _ es r (by omega) h
      rw [rl, if_neg (by omega)]
      simp only [Nat.add_assoc] at hh ⊢
      exact hh
theorem rpage_of (s : List UInt8) (hs : s.length = 512) (h : (pageN (bodyL s)).2 = true) : rpage s = some { (pageN (bodyL s)).1 with lsn := (lsnL s : Int) } := by
  have hb : bodyL s = rest s 6 := by unfold bodyL rest; rw [if_pos hs]
  have hl : lsnL s = get (s.take 6) := by unfold lsnL; rw [if_pos hs]
  rw [hb] at h ⊢
  obtain ⟨k1, r1, b1, e1⟩ : ∃ m1 r1 b1, rnum (rest s 6, false) 1 = (m1, (r1, b1)) := ⟨_, _, _, rfl⟩
  obtain ⟨l1, r2, b2, e2⟩ : ∃ k r2 b2, rnum (r1, b1) 1 = (k, (r2, b2)) := ⟨_, _, _, rfl⟩
  obtain ⟨t1, r3, b3, e3⟩ : ∃ v r3 b3, rnum (r2, b2) 2 = (v, (r3, b3)) := ⟨_, _, _, rfl⟩
  obtain ⟨h1, r4, b4, e4⟩ : ∃ ky r4 b4, rnum (r3, b3) 1 = (ky, (r4, b4)) := ⟨_, _, _, rfl⟩
  obtain ⟨n1, r5, b5, e5⟩ : ∃ vl r5 b5, rnum (r4, b4) 2 = (vl, (r5, b5)) := ⟨_, _, _, rfl⟩
  obtain ⟨hh, r6, b6, e6⟩ : ∃ vl r6 b6, rtext (r5, b5) h1 = (vl, (r6, b6)) := ⟨_, _, _, rfl⟩
  have hhead : headN (rest s 6) = ((k1, l1, t1, hh), n1, (r6, b6)) := by unfold headN; simp only [e1, e2, e3, e4, e5, e6]
  unfold pageN at h ⊢
  cases he : ents (headN (rest s 6)).2.1 (headN (rest s 6)).2.2 [] with
  | none => rw [he] at h; cases h
  | some q =>
    obtain ⟨es, r', b'⟩ := q
    rw [he] at h
    simp only at h ⊢
    simp only [Bool.and_eq_true, Bool.not_eq_true'] at h
    obtain ⟨⟨rfl, _⟩, _⟩ := h
    rw [hhead] at he
    simp only at he
    have hb6 := (ents_back _ _ _ _ _ _ he).1
    subst hb6
    have hb5 := rtext_b e6 rfl
    simp only at hb5; subst hb5
    have hb4 := rnum_b e5 rfl
    simp only at hb4; subst hb4
    have hb3 := rnum_b e4 rfl
    simp only at hb3; subst hb3
    have hb2 := rnum_b e3 rfl
    simp only at hb2; subst hb2
    have hb1 := rnum_b e2 rfl
    simp only at hb1; subst hb1
    obtain ⟨p1, q1, rfl⟩ := rnum_rest _ _ _ _ e1 hs
    obtain ⟨p2, q2, rfl⟩ := rnum_rest _ _ _ _ e2 hs
    obtain ⟨p3, q3, rfl⟩ := rnum_rest _ _ _ _ e3 hs
    obtain ⟨p4, q4, rfl⟩ := rnum_rest _ _ _ _ e4 hs
    obtain ⟨p5, q5, rfl⟩ := rnum_rest _ _ _ _ e5 hs
    obtain ⟨p6, q6, rfl⟩ := rtext_rest _ _ _ _ e6 hs
    rw [get_take1 s _ (by omega)] at q1 q2 q4
    simp only [Nat.reduceAdd] at q1 q2 q3 q4 q5 q6 p6 he
    subst q1 q2 q3 q4 q5 q6
    have hrl := ents_rl s hs _ _ _ _ _ (by omega) he
    unfold rpage
    rw [if_neg (by omega), hrl]
    simp only [Option.map_some, Option.some.injEq]
    unfold rpg pgN
    rw [hhead, hl]
/-- The document's answer is the program's. -/
theorem rback_eq (s : List UInt8) (hs : s.length = 512) (hn : noughts s = false) (hw : whole s = true) : rback s (rpage s) = decodeN s := by
  have hd : decodeN s = if (pageN (bodyL s)).2 = true then ({ (pageN (bodyL s)).1 with lsn := (lsnL s : Int) }, 0) else (zeroP, 2) := by
    unfold decodeN
    rw [if_neg (by omega), if_neg (by omega), if_neg (by simp [hn]), if_pos hw]
  by_cases h : (pageN (bodyL s)).2 = true
  · rw [hd, if_pos h, rpage_of s hs h]
    unfold rback
    simp only
    rw [if_pos (encode_back s hs hn hw h)]
  · rw [hd, if_neg h]
    cases hr : rpage s with
    | none => rfl
    | some p =>
      unfold rback
      simp only
      rw [if_neg]
      intro he
      have := decodeN_encode p (by rw [he])
      rw [he, hd, if_neg h] at this
      simp only [Prod.mk.injEq] at this
      omega
end Go.Proofs.YtaepbmcmggnmpaaDoor.M
