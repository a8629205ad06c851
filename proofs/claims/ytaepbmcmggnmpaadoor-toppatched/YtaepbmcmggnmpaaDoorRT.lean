/-
  Plain mathematics of layer 5: the page of a page's bytes is that page.
-/
import Derived.Test.YtaepbmcmggnmpaaDoorH
namespace Go.Proofs.YtaepbmcmggnmpaaDoor.M
open Go.RowKit

theorem rtext_app (A B : List UInt8) (n : Nat) (h : A.length = n) : rtext (A ++ B, false) n = (A, (B, false)) := by
  unfold rtext
  rw [if_neg (by rintro (h' | h'); cases h'; simp only [List.length_append] at h'; omega)]
  simp only
  rw [List.take_left' h, List.drop_left' h]
theorem rnum_put (n : Int) (z : Nat) (B : List UInt8) (h1 : 1 ≤ z) (h7 : z ≤ 7) (h0 : 0 ≤ n) (h : n.toNat < 256 ^ z) : rnum (put n z ++ B, false) z = (n.toNat, (B, false)) := by
  have hl := put_length n z h1 h7 h0 h
  unfold rnum
  rw [rtext_app _ B z hl]
  simp only
  unfold get
  rw [if_pos (by omega), put_len n z h1 h7 h0 h, getN_put z n.toNat h]
theorem rnum1 (n : Int) (B : List UInt8) (h0 : 0 ≤ n) (h : n ≤ 255) : rnum (put n 1 ++ B, false) 1 = (n.toNat, (B, false)) := rnum_put n 1 B (by omega) (by omega) h0 (by omega)
theorem rnum2 (n : Int) (B : List UInt8) (h0 : 0 ≤ n) (h : n ≤ 65535) : rnum (put n 2 ++ B, false) 2 = (n.toNat, (B, false)) := rnum_put n 2 B (by omega) (by omega) h0 (by omega)
theorem ent_encE (e : En) (B : List UInt8) (h1 : e.1.length ≤ 64) (h2 : e.2.1.length ≤ 100) : ent (encE e ++ B, false) = (markN e.2.2, e, (B, false)) := by
  obtain ⟨k, v, m⟩ := e
  simp only at h1 h2
  have hm := markN_le m
  have e1 : rnum (encE (k, v, m) ++ B, false) 1 = (markN m, (put (k.length : Int) 1 ++ (put (v.length : Int) 1 ++ (k ++ (v ++ B))), false)) := by
    have : encE (k, v, m) ++ B = put (markN m : Int) 1 ++ (put (k.length : Int) 1 ++ (put (v.length : Int) 1 ++ (k ++ (v ++ B)))) := by unfold encE; simp only [List.append_assoc]
    rw [this, rnum1 _ _ (by omega) (by omega)]; simp
  have e2 : rnum (put (k.length : Int) 1 ++ (put (v.length : Int) 1 ++ (k ++ (v ++ B))), false) 1 = (k.length, (put (v.length : Int) 1 ++ (k ++ (v ++ B)), false)) := by
    rw [rnum1 _ _ (by omega) (by omega)]; simp
  have e3 : rnum (put (v.length : Int) 1 ++ (k ++ (v ++ B)), false) 1 = (v.length, (k ++ (v ++ B), false)) := by
    rw [rnum1 _ _ (by omega) (by omega)]; simp
  unfold ent
  simp only [e1, e2, e3, rtext_app k (v ++ B) k.length rfl, rtext_app v B v.length rfl]
  cases m <;> simp [markN]
theorem ents_flat (L : List En) : ∀ (B : List UInt8) (acc : List En), (∀ e ∈ L, e.1.length ≤ 64 ∧ e.2.1.length ≤ 100) → ents L.length (L.flatMap encE ++ B, false) acc = some (acc ++ L, (B, false)) := by
  induction L with
  | nil => intro B acc _; simp [ents]
  | cons e L ih =>
    intro B acc h
    have he := h e (by simp)
    have hm := markN_le e.2.2
    simp only [List.length_cons, ents, List.flatMap_cons, List.append_assoc, ent_encE e _ he.1 he.2]
    rw [if_neg (by rintro (h | h); cases h; omega), ih B _ (fun q hq => h q (by simp [hq]))]
    simp
theorem headN_pre (p : Pg) (R : List UInt8) (h : inB p = true) (hf : 0 ≤ free p) : headN (pre p ++ R) = ((p.kind.toNat, p.level.toNat, p.right.toNat, p.high), p.es.length, (p.es.flatMap encE ++ R, false)) := by
  obtain ⟨h1, h2, h3, h4, h5, h6⟩ := inB_parts h
  have hc := es_count hf
  have e : pre p ++ R = put p.kind 1 ++ (put p.level 1 ++ (put p.right 2 ++ (put (p.high.length : Int) 1 ++ (put (p.es.length : Int) 2 ++ (p.high ++ (p.es.flatMap encE ++ R)))))) := by
    unfold pre head1 head2; simp only [List.append_assoc]
  unfold headN
  rw [e]
  simp only [rnum1 p.kind _ (show 0 ≤ p.kind by omega) h2.2, rnum1 p.level _ h3.1 h3.2, rnum2 p.right _ h4.1 h4.2, rnum1 (p.high.length : Int) _ (show (0 : Int) ≤ p.high.length by omega) (show (p.high.length : Int) ≤ 255 by omega), rnum2 (p.es.length : Int) _ (show (0 : Int) ≤ p.es.length by omega) (show (p.es.length : Int) ≤ 65535 by omega), Int.toNat_natCast, rtext_app p.high _ p.high.length rfl]
theorem noughts_rep (n : Nat) : noughts (List.replicate n 0) = true := by
  unfold noughts
  rw [List.all_eq_true]
  intro x hx
  simp [List.eq_of_mem_replicate hx]
theorem pageN_body (p : Pg) (h : inB p = true) (hf : 0 ≤ free p) : pageN (body p) = ({ p with lsn := 0 }, true) := by
  obtain ⟨h1, h2, h3, h4, h5, h6⟩ := inB_parts h
  have hh := headN_pre p (List.replicate (496 - (pre p).length) 0) h hf
  have hb : body p = pre p ++ List.replicate (496 - (pre p).length) 0 := rfl
  rw [← hb] at hh
  have hp : pgN (body p) p.es = { p with lsn := 0 } := by
    unfold pgN
    rw [hh]
    obtain ⟨a, b, c, d, e, f⟩ := p
    simp only at h2 h3 h4 ⊢
    rw [Int.toNat_of_nonneg (by omega), Int.toNat_of_nonneg (by omega), Int.toNat_of_nonneg (by omega)]
  have hi : inB { p with lsn := 0 } = true := by
    unfold inB at h ⊢
    simp only [Bool.and_eq_true] at h ⊢
    obtain ⟨⟨⟨⟨⟨_, a⟩, b⟩, c⟩, d⟩, e⟩ := h
    exact ⟨⟨⟨⟨⟨by decide, a⟩, b⟩, c⟩, d⟩, e⟩
  unfold pageN
  rw [hh]
  simp only
  rw [ents_flat p.es _ [] h6]
  simp only [List.nil_append, hp, hi, noughts_rep, Bool.not_false, Bool.and_self]
theorem lsnL_build (lsn : Int) (b : List UInt8) (h : btw 0 lsn 281474976710655 = true) (hb : b.length = 496) : (lsnL (build lsn b) : Int) = lsn := by
  obtain ⟨g1, g2, _, _, _⟩ := build_parts lsn b h hb
  rw [btw_iff] at h
  unfold lsnL
  rw [if_pos g1, g2]
  unfold get
  rw [if_pos (by rw [put_6 lsn h.1 h.2]; omega), put_6L lsn h.1 h.2, getN_put 6 lsn.toNat (by omega)]
  omega
theorem bodyL_build (lsn : Int) (b : List UInt8) (h : btw 0 lsn 281474976710655 = true) (hb : b.length = 496) : bodyL (build lsn b) = b := by
  obtain ⟨g1, _, _, g4, _⟩ := build_parts lsn b h hb
  unfold bodyL
  rw [if_pos g1, g4]
theorem whole_build (lsn : Int) (b : List UInt8) (h : btw 0 lsn 281474976710655 = true) (hb : b.length = 496) : whole (build lsn b) = true := by
  obtain ⟨g1, g2, g3, _, g5⟩ := build_parts lsn b h hb
  unfold whole
  simp [g1, g2, g3, g5]
theorem noughts_build (lsn : Int) (b : List UInt8) (h : btw 0 lsn 281474976710655 = true) (hb : b.length = 496) (hn : noughts b = false) : noughts (build lsn b) = false := by
  obtain ⟨_, _, _, g4, _⟩ := build_parts lsn b h hb
  rw [Bool.eq_false_iff]
  intro e
  have := noughts_take e 6 496
  rw [g4, hn] at this
  cases this
theorem body_some (p : Pg) (h : inB p = true) : noughts (body p) = false := by
  obtain ⟨_, h2, _⟩ := inB_parts h
  rw [Bool.eq_false_iff]
  intro e
  have hk : noughts (put p.kind 1) = true := by
    have : body p = put p.kind 1 ++ (put p.level 1 ++ put p.right 2 ++ head2 p ++ p.es.flatMap encE ++ List.replicate (496 - (pre p).length) 0) := by
      unfold body pre head1; simp only [List.append_assoc]
    rw [this] at e
    unfold noughts at e ⊢
    rw [List.all_append, Bool.and_eq_true] at e
    exact e.1
  have hz := rnum1 p.kind [] (by omega) h2.2
  rw [List.append_nil] at hz
  have hl := put_1 p.kind (by omega) h2.2
  unfold rnum at hz
  have ht : rtext (put p.kind 1, false) 1 = (put p.kind 1, ([], false)) := by
    have := rtext_app (put p.kind 1) [] 1 hl
    rwa [List.append_nil] at this
  rw [ht] at hz
  simp only [Prod.mk.injEq] at hz
  obtain ⟨x, hx⟩ : ∃ x, put p.kind 1 = [x] := List.length_eq_one_iff.1 hl
  rw [hx] at hz hk
  have : x = 0 := by simpa [noughts] using hk
  subst this
  have : get [0] = 0 := by decide
  omega
theorem decodeN_encode (p : Pg) (h : (encode p).2 = 0) : decodeN (encode p).1 = (p, 0) := by
  obtain ⟨hi, hf, he, hb, hl⟩ := encode_ok h
  have hg := (build_parts p.lsn (body p) hb hl).1
  rw [he]
  unfold decodeN
  rw [if_neg (by omega), if_neg (by omega), if_neg (by rw [noughts_build _ _ hb hl (body_some p hi)]; simp), if_pos (whole_build _ _ hb hl), bodyL_build _ _ hb hl, pageN_body p hi hf, if_pos rfl, lsnL_build _ _ hb hl]
theorem encode_inj (p q : Pg) (h1 : (encode p).2 = 0) (h2 : (encode q).2 = 0) : (encode p).1 = (encode q).1 ↔ p = q := by
  constructor
  · intro h
    have a := decodeN_encode p h1
    have b := decodeN_encode q h2
    rw [h, b] at a
    exact (Prod.mk.inj a).1.symm
  · intro h; rw [h]
/-- The body of a page with any number. -/
theorem decodeN_build (p : Pg) (lsn : Int) (h : (encode p).2 = 0) (hb : btw 0 lsn 281474976710655 = true) : decodeN (build lsn (bodyL (encode p).1)) = ({ p with lsn := lsn }, 0) := by
  obtain ⟨hi, hf, he, hb', hl⟩ := encode_ok h
  rw [he, bodyL_build _ _ hb' hl]
  have hg := (build_parts lsn (body p) hb hl).1
  unfold decodeN
  rw [if_neg (by omega), if_neg (by omega), if_neg (by rw [noughts_build _ _ hb hl (body_some p hi)]; simp), if_pos (whole_build _ _ hb hl), bodyL_build _ _ hb hl, pageN_body p hi hf, if_pos rfl, lsnL_build _ _ hb hl]
end Go.Proofs.YtaepbmcmggnmpaaDoor.M
