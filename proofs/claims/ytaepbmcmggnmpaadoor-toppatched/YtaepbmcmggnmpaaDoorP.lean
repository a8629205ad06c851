/-
  Plain mathematics of layer 5 (page): pages and their bytes. Nothing of the program is named here.
-/
import Derived.Test.YtaepbmcmggnmpaaDoorN
namespace Go.Proofs.YtaepbmcmggnmpaaDoor.M
open Go.RowKit

/-- An entry: its key, its value, whether it is marked. -/
abbrev En := List UInt8 × List UInt8 × Bool
structure Pg where
  lsn : Int
  kind : Int
  level : Int
  right : Int
  high : List UInt8
  es : List En
def szE (e : En) : Nat := 3 + e.1.length + e.2.1.length
def szs : List En → Nat
  | [] => 0
  | e :: L => szE e + szs L
theorem szs_snoc (L : List En) (e : En) : szs (L ++ [e]) = szs L + szE e := by
  induction L with
  | nil => simp [szs]
  | cons a L ih => simp only [List.cons_append, szs, ih]; omega
theorem szs_append (L K : List En) : szs (L ++ K) = szs L + szs K := by
  induction L with
  | nil => simp [szs]
  | cons a L ih => simp only [List.cons_append, szs, ih]; omega
def free (p : Pg) : Int := 489 - (p.high.length : Int) - (szs p.es : Int)
def longE (e : En) : Bool := decide (64 < e.1.length) || decide (100 < e.2.1.length)
def btw (a n b : Int) : Bool := decide (a ≤ n) && decide (n ≤ b)
def inB (p : Pg) : Bool := btw 0 p.lsn 281474976710655 && btw 1 p.kind 255 && btw 0 p.level 255 && btw 0 p.right 65535 && decide (p.high.length ≤ 64) && !p.es.any longE
def markN (b : Bool) : Nat := if b = true then 1 else 0
def encE (e : En) : List UInt8 := put (markN e.2.2 : Int) 1 ++ put (e.1.length : Int) 1 ++ put (e.2.1.length : Int) 1 ++ (e.1 ++ e.2.1)
def head1 (p : Pg) : List UInt8 := put p.kind 1 ++ put p.level 1 ++ put p.right 2
def head2 (p : Pg) : List UInt8 := put (p.high.length : Int) 1 ++ put (p.es.length : Int) 2 ++ p.high
def pre (p : Pg) : List UInt8 := head1 p ++ head2 p ++ p.es.flatMap encE
def body (p : Pg) : List UInt8 := pre p ++ List.replicate (496 - (pre p).length) 0
def build (lsn : Int) (b : List UInt8) : List UInt8 := if btw 0 lsn 281474976710655 = true ∧ b.length = 496 then sealL (put lsn 6 ++ b ++ put lsn 6) else []
def encode (p : Pg) : List UInt8 × Nat := if inB p = true then (if free p < 0 then ([], 8) else (build p.lsn (body p), 0)) else ([], 1)
def noughts (s : List UInt8) : Bool := s.all (· == 0)
def whole (s : List UInt8) : Bool := decide (s.length = 512) && (noughts s || (good s && (s.take 6 == (s.drop 502).take 6)))
def bodyL (s : List UInt8) : List UInt8 := if s.length = 512 then (s.drop 6).take 496 else []
def lsnL (s : List UInt8) : Nat := if s.length = 512 then get (s.take 6) else 0
/-- The reader's state: what is left, whether something wasn't there. -/
abbrev Rd := List UInt8 × Bool
def rtext (r : Rd) (n : Nat) : List UInt8 × Rd := if r.2 = true ∨ r.1.length < n then ([], (r.1, true)) else (r.1.take n, (r.1.drop n, r.2))
def rnum (r : Rd) (n : Nat) : Nat × Rd := (get (rtext r n).1, (rtext r n).2)
def rmark (r : Rd) (m : Nat) : Rd := if 1 < m then (r.1, true) else r
def rent (r : Rd) : En × Rd :=
  let m := rnum r 1
  let k := rnum m.2 1
  let v := rnum k.2 1
  let a := rtext (rmark v.2 m.1) k.1
  let b := rtext a.2 v.1
  ((a.1, b.1, decide (m.1 = 1)), b.2)
def rents : Nat → Rd → List En → List En × Rd
  | 0, r, acc => (acc, r)
  | n + 1, r, acc => if r.2 = true then (acc, r) else rents n (rent r).2 (acc ++ [(rent r).1])
def pageOf (b : List UInt8) : Pg × Bool :=
  let k := rnum (b, false) 1
  let l := rnum k.2 1
  let r := rnum l.2 2
  let h := rnum r.2 1
  let c := rnum h.2 2
  let t := rtext c.2 h.1
  let e := rents c.1 t.2 []
  let p : Pg := { lsn := 0, kind := k.1, level := l.1, right := r.1, high := t.1, es := e.1 }
  (p, !e.2.2 && noughts e.2.1 && inB p)
def zeroP : Pg := { lsn := 0, kind := 0, level := 0, right := 0, high := [], es := [] }
def decode (s : List UInt8) : Pg × Nat :=
  if s.length < 512 then (zeroP, 3) else if 512 < s.length then (zeroP, 6) else if noughts s = true then (zeroP, 0) else if whole s = true then
    (if (pageOf (bodyL s)).2 = true then ({ (pageOf (bodyL s)).1 with lsn := lsnL s }, 0) else (zeroP, 2)) else (zeroP, 5)
theorem put_len (n : Int) (z : Nat) (h1 : 1 ≤ z) (h7 : z ≤ 7) (h0 : 0 ≤ n) (h : n.toNat < 256 ^ z) : put n z = putL z n.toNat := by
  unfold put
  rw [if_pos ⟨by omega, by omega, h0, by rw [Int.toNat_natCast, Nat.pow_mul]; exact Nat.div_eq_of_lt h⟩, Int.toNat_natCast]
theorem put_length (n : Int) (z : Nat) (h1 : 1 ≤ z) (h7 : z ≤ 7) (h0 : 0 ≤ n) (h : n.toNat < 256 ^ z) : (put n z).length = z := by rw [put_len n z h1 h7 h0 h, putL_length]
theorem put_1 (n : Int) (h0 : 0 ≤ n) (h : n ≤ 255) : (put n 1).length = 1 := put_length n 1 (by decide) (by decide) h0 (by omega)
theorem put_2 (n : Int) (h0 : 0 ≤ n) (h : n ≤ 65535) : (put n 2).length = 2 := put_length n 2 (by decide) (by decide) h0 (by omega)
theorem put_6 (n : Int) (h0 : 0 ≤ n) (h : n ≤ 281474976710655) : (put n 6).length = 6 := put_length n 6 (by decide) (by decide) h0 (by omega)
theorem put_6L (n : Int) (h0 : 0 ≤ n) (h : n ≤ 281474976710655) : put n 6 = putL 6 n.toNat := put_len n 6 (by decide) (by decide) h0 (by omega)
theorem btw_iff {a n b : Int} : btw a n b = true ↔ a ≤ n ∧ n ≤ b := by simp [btw]
theorem inB_parts {p : Pg} (h : inB p = true) : (0 ≤ p.lsn ∧ p.lsn ≤ 281474976710655) ∧ (1 ≤ p.kind ∧ p.kind ≤ 255) ∧ (0 ≤ p.level ∧ p.level ≤ 255) ∧ (0 ≤ p.right ∧ p.right ≤ 65535) ∧ p.high.length ≤ 64 ∧ ∀ e ∈ p.es, e.1.length ≤ 64 ∧ e.2.1.length ≤ 100 := by
  unfold inB at h
  simp only [Bool.and_eq_true, btw_iff, decide_eq_true_eq, Bool.not_eq_true'] at h
  obtain ⟨⟨⟨⟨⟨h1, h2⟩, h3⟩, h4⟩, h5⟩, h6⟩ := h
  refine ⟨h1, h2, h3, h4, h5, fun e he => ?_⟩
  rw [List.any_eq_false] at h6
  have := h6 e he
  unfold longE at this
  simp at this
  omega
theorem markN_le (b : Bool) : markN b ≤ 1 := by unfold markN; split <;> omega
theorem encE_length (e : En) (h1 : e.1.length ≤ 64) (h2 : e.2.1.length ≤ 100) : (encE e).length = szE e := by
  have := markN_le e.2.2
  unfold encE szE
  simp only [List.length_append]
  rw [put_1 _ (by omega) (by omega), put_1 _ (by omega) (by omega), put_1 _ (by omega) (by omega)]
  omega
theorem flat_length (L : List En) (h : ∀ e ∈ L, e.1.length ≤ 64 ∧ e.2.1.length ≤ 100) : (L.flatMap encE).length = szs L := by
  induction L with
  | nil => rfl
  | cons e L ih =>
    have he := h e (by simp)
    simp only [List.flatMap_cons, List.length_append, szs, encE_length e he.1 he.2, ih (fun x hx => h x (by simp [hx]))]
theorem szs_ge (L : List En) : 3 * L.length ≤ szs L := by
  induction L with
  | nil => simp [szs]
  | cons e L ih => simp only [szs, szE, List.length_cons]; omega
theorem es_count {p : Pg} (hf : 0 ≤ free p) : p.es.length ≤ 163 := by
  have := szs_ge p.es
  unfold free at hf; omega
theorem head_length {p : Pg} (h : inB p = true) (hf : 0 ≤ free p) : (head1 p).length = 4 ∧ (head2 p).length = 3 + p.high.length := by
  obtain ⟨h1, h2, h3, h4, h5, h6⟩ := inB_parts h
  have := es_count hf
  unfold head1 head2
  simp only [List.length_append]
  rw [put_1 p.kind (by omega) (by omega), put_1 p.level (by omega) (by omega), put_2 p.right (by omega) (by omega), put_1 _ (by omega) (by omega), put_2 _ (by omega) (by omega)]
  omega
theorem pre_length {p : Pg} (h : inB p = true) (hf : 0 ≤ free p) : (pre p).length = 7 + p.high.length + szs p.es ∧ (pre p).length ≤ 496 := by
  obtain ⟨h1, h2, h3, h4, h5, h6⟩ := inB_parts h
  obtain ⟨l1, l2⟩ := head_length h hf
  unfold pre
  simp only [List.length_append, l1, l2, flat_length p.es h6]
  unfold free at hf; omega
theorem body_length {p : Pg} (h : inB p = true) (hf : 0 ≤ free p) : (body p).length = 496 := by
  have := (pre_length h hf).2
  unfold body
  rw [List.length_append, List.length_replicate]; omega
/-- What was built: its length, both numbers, its sum. -/
theorem build_parts (lsn : Int) (b : List UInt8) (h : btw 0 lsn 281474976710655 = true) (hb : b.length = 496) :
    (build lsn b).length = 512 ∧ (build lsn b).take 6 = put lsn 6 ∧ ((build lsn b).drop 502).take 6 = put lsn 6 ∧ ((build lsn b).drop 6).take 496 = b ∧ good (build lsn b) = true := by
  have hl : (put lsn 6).length = 6 := by
    rw [btw_iff] at h
    exact put_length lsn 6 (by decide) (by decide) h.1 (by omega)
  have e : build lsn b = put lsn 6 ++ (b ++ (put lsn 6 ++ tail4 (sum (put lsn 6 ++ b ++ put lsn 6)))) := by
    unfold build
    rw [if_pos ⟨h, hb⟩]; simp [sealL, List.append_assoc]
  refine ⟨?_, ?_, ?_, ?_, ?_⟩
  · rw [e]; simp [hl, hb, tail4]
  · rw [e, List.take_left' hl]
  · rw [e, show (502 : Nat) = 6 + 496 from rfl, ← List.drop_drop, List.drop_left' hl, List.drop_left' hb, List.take_left' hl]
  · rw [e, List.drop_left' hl, List.take_left' hb]
  · unfold build; rw [if_pos ⟨h, hb⟩]; exact sealL_good _
theorem encode_ok {p : Pg} (h : (encode p).2 = 0) : inB p = true ∧ 0 ≤ free p ∧ (encode p).1 = build p.lsn (body p) ∧ btw 0 p.lsn 281474976710655 = true ∧ (body p).length = 496 := by
  unfold encode at h ⊢
  split at h
  · rename_i hb
    split at h
    · simp at h
    · rename_i hf
      rw [if_pos hb, if_neg hf]
      have hf' : 0 ≤ free p := by omega
      refine ⟨hb, hf', rfl, ?_, body_length hb hf'⟩
      rw [btw_iff]; exact (inB_parts hb).1
  · simp at h
theorem put6_inj (a b : Int) (ha : btw 0 a 281474976710655 = true) (hb : btw 0 b 281474976710655 = true) (h : put a 6 = put b 6) : a = b := by
  rw [btw_iff] at ha hb
  rw [put_6L a ha.1 ha.2, put_6L b hb.1 hb.2] at h
  have e1 := getN_put 6 a.toNat (by omega)
  have e2 := getN_put 6 b.toNat (by omega)
  rw [h] at e1
  omega
theorem put6_zero (a : Int) (ha : btw 0 a 281474976710655 = true) (h : noughts (put a 6) = true) : a = 0 := by
  have e : put a 6 = put 0 6 := by
    have hl : (put a 6).length = 6 := by rw [btw_iff] at ha; exact put_length a 6 (by decide) (by decide) ha.1 (by omega)
    have h0 : put 0 6 = List.replicate 6 0 := by decide +kernel
    rw [h0, List.eq_replicate_iff]
    refine ⟨hl, fun x hx => ?_⟩
    unfold noughts at h
    rw [List.all_eq_true] at h
    simpa using h x hx
  exact put6_inj a 0 ha (by decide) e
theorem noughts_take {s : List UInt8} (h : noughts s = true) (a n : Nat) : noughts ((s.drop a).take n) = true := by
  unfold noughts at *
  rw [List.all_eq_true] at *
  intro x hx
  exact h x (List.mem_of_mem_drop (List.mem_of_mem_take hx))
/-- What is torn isn't whole: bytes whose two numbers aren't the same. -/
theorem torn (s : List UInt8) (a b : Int) (ha : btw 0 a 281474976710655 = true) (hb : btw 0 b 281474976710655 = true) (h1 : s.take 6 = put a 6) (h2 : (s.drop 502).take 6 = put b 6) (hne : a ≠ b) : whole s = false := by
  unfold whole
  rw [Bool.and_eq_false_iff]
  right
  rw [Bool.or_eq_false_iff]
  constructor
  · rw [Bool.eq_false_iff]
    intro hn
    have z1 := put6_zero a ha (by rw [← h1]; have := noughts_take hn 0 6; rwa [List.drop_zero] at this)
    have z2 := put6_zero b hb (by rw [← h2]; exact noughts_take hn 502 6)
    omega
  · rw [Bool.and_eq_false_iff]
    right
    rw [h1, h2, beq_eq_false_iff_ne]
    exact fun e => hne (put6_inj a b ha hb e)
theorem half_parts (s t : List UInt8) (hs : s.length = 512) : (s.take 256 ++ t.drop 256).take 6 = s.take 6 ∧ ((s.take 256 ++ t.drop 256).drop 502).take 6 = (t.drop 502).take 6 := by
  have l : (s.take 256).length = 256 := by rw [List.length_take]; omega
  refine ⟨?_, ?_⟩
  · rw [List.take_append_of_le_length (by omega), List.take_take]; rfl
  · rw [show (502 : Nat) = 256 + 246 from rfl, ← List.drop_drop, List.drop_left' l, List.drop_drop]
end Go.Proofs.YtaepbmcmggnmpaaDoor.M
