/-
  Plain mathematics of layer 6 (patch): pieces, what changes between two texts. Nothing of the program is named here.
-/
import Derived.Test.YtaepbmcmggnmpaaDoorXN
namespace Go.Proofs.YtaepbmcmggnmpaaDoor.Pt.M
open Go.RowKit
set_option maxRecDepth 100000

/-- A piece: its place and its bytes. -/
abbrev Pc := Int × List UInt8
def rightFrom : Int → List Pc → Bool
  | _, [] => true
  | f, p :: L => decide (f ≤ p.1) && decide (p.1 ≤ 65535) && !p.2.isEmpty && decide (p.2.length ≤ 65535) && rightFrom (p.1 + p.2.length) L
def right (L : List Pc) : Bool := rightFrom 0 L
theorem rightFrom_of (L : List Pc) : ∀ f : Int, (∀ p ∈ L, f ≤ p.1) → (∀ p ∈ L, p.1 ≤ 65535 ∧ p.2 ≠ [] ∧ p.2.length ≤ 65535) → L.Pairwise (fun p q : Pc => p.1 + (p.2.length : Int) ≤ q.1) → rightFrom f L = true := by
  induction L with
  | nil => intros; rfl
  | cons p L ih =>
    intro f h1 h2 h3
    rw [List.pairwise_cons] at h3
    have hp := h2 p (by simp)
    have hi := ih (p.1 + p.2.length) h3.1 (fun q hq => h2 q (by simp [hq])) h3.2
    simp only [rightFrom, hi, h1 p (by simp), hp.1, hp.2.2, decide_true, Bool.true_and, Bool.and_true]
    simpa using hp.2.1
theorem rightFrom_all (L : List Pc) : ∀ f : Int, 0 ≤ f → rightFrom f L = true → ∀ p ∈ L, 0 ≤ p.1 ∧ p.1 ≤ 65535 ∧ p.2 ≠ [] ∧ p.2.length ≤ 65535 := by
  induction L with
  | nil => intro f _ _ p hp; simp at hp
  | cons p L ih =>
    intro f hf h q hq
    simp only [rightFrom, Bool.and_eq_true, decide_eq_true_eq] at h
    obtain ⟨⟨⟨⟨h1, h2⟩, h3⟩, h4⟩, h5⟩ := h
    rcases List.mem_cons.1 hq with rfl | hq
    · exact ⟨by omega, h2, by simpa using h3, h4⟩
    · exact ih _ (by omega) h5 q hq
theorem right_all {L : List Pc} (h : right L = true) : ∀ p ∈ L, 0 ≤ p.1 ∧ p.1 ≤ 65535 ∧ p.2 ≠ [] ∧ p.2.length ≤ 65535 := rightFrom_all L 0 (by omega) h
/-- Where a piece is wrong. -/
theorem rightFrom_cons (f : Int) (p : Pc) (L : List Pc) : rightFrom f (p :: L) = if f ≤ p.1 ∧ p.1 ≤ 65535 ∧ p.2 ≠ [] ∧ p.2.length ≤ 65535 then rightFrom (p.1 + p.2.length) L else false := by
  simp only [rightFrom]
  split
  · rename_i h; simp [h.1, h.2.1, h.2.2.2, h.2.2.1]
  · rename_i h
    rw [Bool.eq_false_iff]
    intro e
    simp only [Bool.and_eq_true, decide_eq_true_eq] at e
    exact h ⟨e.1.1.1.1, e.1.1.1.2, by simpa using e.1.1.2, e.1.2⟩

def put1 (s : List UInt8) (a : Nat) (d : List UInt8) : List UInt8 := s.take a ++ d ++ s.drop (a + d.length)
theorem put1_length (s d : List UInt8) (a : Nat) (h : a + d.length ≤ s.length) : (put1 s a d).length = s.length := by
  simp only [put1, List.length_append, List.length_take, List.length_drop]; omega
def applyF : List UInt8 → List Pc → List UInt8 × Nat
  | s, [] => (s, 0)
  | s, p :: L => if (s.length : Int) < p.1 + p.2.length then ([], 6) else applyF (put1 s p.1.toNat p.2) L
def apply (s : List UInt8) (L : List Pc) : List UInt8 × Nat := if right L = true then applyF s L else ([], 1)
def puts (s : List UInt8) (L : List Pc) : List UInt8 := L.foldl (fun s p => put1 s p.1.toNat p.2) s
theorem puts_snoc (s : List UInt8) (L : List Pc) (p : Pc) : puts s (L ++ [p]) = put1 (puts s L) p.1.toNat p.2 := by simp [puts, List.foldl_append]
theorem puts_length (L : List Pc) : ∀ s : List UInt8, (∀ p ∈ L, 0 ≤ p.1 ∧ p.1 + p.2.length ≤ s.length) → (puts s L).length = s.length := by
  induction L with
  | nil => intros; rfl
  | cons p L ih =>
    intro s h
    have hp := h p (by simp)
    have e := put1_length s p.2 p.1.toNat (by omega)
    show (puts (put1 s p.1.toNat p.2) L).length = _
    rw [ih _ (fun q hq => by rw [e]; exact h q (by simp [hq])), e]
theorem applyF_none (L : List Pc) : ∀ s : List UInt8, (∀ p ∈ L, 0 ≤ p.1 ∧ p.1 + p.2.length ≤ s.length) → applyF s L = (puts s L, 0) := by
  induction L with
  | nil => intros; rfl
  | cons p L ih =>
    intro s h
    have hp := h p (by simp)
    have e := put1_length s p.2 p.1.toNat (by omega)
    simp only [applyF]
    rw [if_neg (by omega), ih _ (fun q hq => by rw [e]; exact h q (by simp [hq]))]
    rfl
theorem applyF_some (L : List Pc) : ∀ s : List UInt8, (∀ p ∈ L, 0 ≤ p.1) → (∃ p ∈ L, (s.length : Int) < p.1 + p.2.length) → applyF s L = ([], 6) := by
  induction L with
  | nil => intro s _ h; obtain ⟨p, hp, _⟩ := h; simp at hp
  | cons p L ih =>
    intro s h0 h
    have hp := h0 p (by simp)
    simp only [applyF]
    by_cases hb : (s.length : Int) < p.1 + p.2.length
    · rw [if_pos hb]
    · have e := put1_length s p.2 p.1.toNat (by omega)
      rw [if_neg hb, ih _ (fun q hq => h0 q (by simp [hq]))]
      obtain ⟨q, hq, hlt⟩ := h
      rcases List.mem_cons.1 hq with rfl | hq
      · exact absurd hlt hb
      · exact ⟨q, hq, by rw [e]; exact hlt⟩

def one (p : Pc) : List UInt8 := put p.1 2 ++ put p.2.length 2 ++ p.2
def putP (L : List Pc) : List UInt8 := if right L = true ∧ L.length ≤ 65535 then put L.length 2 ++ L.flatMap one else []
theorem put_two (n : Int) (h0 : 0 ≤ n) (h : n ≤ 65535) : put n 2 = putL 2 n.toNat := by
  unfold put
  rw [if_pos ⟨by decide, by decide, h0, Nat.div_eq_of_lt (by show n.toNat < 2 ^ (8 * 2); omega)⟩]; rfl
theorem put_two_len (n : Int) (h0 : 0 ≤ n) (h : n ≤ 65535) : (put n 2).length = 2 := by rw [put_two n h0 h, putL_length]
theorem get_two (n : Int) (h0 : 0 ≤ n) (h : n ≤ 65535) : (getN (put n 2) : Int) = n := by
  rw [put_two n h0 h, getN_put 2 _ (by show n.toNat < 256 ^ 2; omega)]; omega
theorem two_of (l : List UInt8) (h : l.length = 2) : put (getN l) 2 = l := by
  have hlt := getN_lt l
  rw [h] at hlt
  rw [put_two _ (by omega) (by omega), Int.toNat_natCast]
  exact eq_getN _ _ (by rw [putL_length, h]) (by rw [getN_putL]; exact Nat.mod_eq_of_lt hlt)
theorem one_length (p : Pc) (h0 : 0 ≤ p.1) (h : p.1 ≤ 65535) (hd : p.2.length ≤ 65535) : (one p).length = 4 + p.2.length := by
  simp only [one, List.length_append, put_two_len p.1 h0 h, put_two_len (p.2.length : Int) (by omega) (by omega)]

def getF : Nat → List UInt8 → List Pc → Nat → Option (List Pc × Nat)
  | 0, _, acc, u => some (acc, u)
  | n + 1, r, acc, u => if r.length < 4 then none else if r.length < 4 + getN ((r.drop 2).take 2) then none else
      getF n (r.drop (4 + getN ((r.drop 2).take 2))) (acc ++ [((getN (r.take 2) : Int), (r.drop 4).take (getN ((r.drop 2).take 2)))]) (u + (4 + getN ((r.drop 2).take 2)))
def getP (s : List UInt8) : List Pc × Nat × Nat := if s.length < 2 then ([], 0, 3) else match getF (getN (s.take 2)) (s.drop 2) [] 2 with
  | none => ([], 0, 3)
  | some (L, u) => if right L = true then (L, u, 0) else ([], 0, 2)
theorem getF_puts (L : List Pc) : ∀ (x : List UInt8) (acc : List Pc) (u : Nat), (∀ p ∈ L, 0 ≤ p.1 ∧ p.1 ≤ 65535 ∧ p.2.length ≤ 65535) →
    getF L.length (L.flatMap one ++ x) acc u = some (acc ++ L, u + (L.flatMap one).length) := by
  induction L with
  | nil => intro x acc u _; simp [getF]
  | cons p L ih =>
    intro x acc u h
    obtain ⟨h0, h1, h2⟩ := h p (by simp)
    have l1 := put_two_len p.1 h0 h1
    have l2 := put_two_len (p.2.length : Int) (by omega) (by omega)
    have hl := one_length p h0 h1 h2
    have e : (p :: L).flatMap one ++ x = put p.1 2 ++ (put p.2.length 2 ++ (p.2 ++ (L.flatMap one ++ x))) := by
      simp [List.flatMap_cons, one, List.append_assoc]
    have g2 : (((p :: L).flatMap one ++ x).drop 2).take 2 = put p.2.length 2 := by
      rw [e, List.drop_left' l1, List.take_left' l2]
    have g1 : ((p :: L).flatMap one ++ x).take 2 = put p.1 2 := by rw [e, List.take_left' l1]
    have n2 : getN (put (p.2.length : Int) 2) = p.2.length := by have := get_two (p.2.length : Int) (by omega) (by omega); omega
    have g4 : ((p :: L).flatMap one ++ x).drop 4 = p.2 ++ (L.flatMap one ++ x) := by
      rw [e, show (4 : Nat) = 2 + 2 from rfl, ← List.drop_drop, List.drop_left' l1, List.drop_left' l2]
    have gk : ((p :: L).flatMap one ++ x).drop (4 + p.2.length) = L.flatMap one ++ x := by
      rw [← List.drop_drop, g4, List.drop_left' rfl]
    have len : ((p :: L).flatMap one ++ x).length = 4 + p.2.length + (L.flatMap one ++ x).length := by
      rw [e]; simp only [List.length_append, l1, l2]; omega
    show getF (L.length + 1) _ _ _ = _
    simp only [getF]
    rw [g2, n2, if_neg (by rw [len]; omega), if_neg (by rw [len]; omega), gk, g1, g4, List.take_left' rfl, get_two p.1 h0 h1, ih x _ _ (fun q hq => h q (by simp [hq]))]
    simp only [List.append_assoc, List.cons_append, List.nil_append, List.flatMap_cons, List.length_append, hl, Option.some.injEq, Prod.mk.injEq]
    exact ⟨trivial, by omega⟩
theorem getP_putP (L : List Pc) (x : List UInt8) (h : right L = true) (hL : L.length ≤ 65535) : getP (putP L ++ x) = (L, (putP L).length, 0) := by
  have ha := right_all h
  have l1 := put_two_len (L.length : Int) (by omega) (by omega)
  have n1 : getN (put (L.length : Int) 2) = L.length := by have := get_two (L.length : Int) (by omega) (by omega); omega
  have hp : putP L = put L.length 2 ++ L.flatMap one := by unfold putP; rw [if_pos ⟨h, hL⟩]
  rw [hp]
  unfold getP
  rw [if_neg (by simp only [List.length_append, l1]; omega), List.append_assoc, List.take_left' l1, List.drop_left' l1, n1,
    getF_puts L x [] 2 (fun p hp => ⟨(ha p hp).1, (ha p hp).2.1, (ha p hp).2.2.2⟩)]
  simp only [List.nil_append, h, if_true, List.length_append, l1]
theorem getF_back : ∀ (n : Nat) (r : List UInt8) (acc L : List Pc) (u v : Nat), getF n r acc u = some (L, v) →
    ∃ M : List Pc, L = acc ++ M ∧ M.length = n ∧ u ≤ v ∧ v - u ≤ r.length ∧ M.flatMap one = r.take (v - u) := by
  intro n
  induction n with
  | zero => intro r acc L u v h; simp [getF] at h; obtain ⟨rfl, rfl⟩ := h; exact ⟨[], by simp, rfl, by omega, by omega, by simp⟩
  | succ n ih =>
    intro r acc L u v h
    simp only [getF] at h
    split at h
    · cases h
    · rename_i h4
      split at h
      · cases h
      · rename_i hk
        obtain ⟨M, h1, h2, h3, h5, h6⟩ := ih _ _ _ _ _ h
        have hk2 := getN_lt ((r.drop 2).take 2)
        have lk : ((r.drop 2).take 2).length = 2 := by rw [List.length_take, List.length_drop]; omega
        have la : (r.take 2).length = 2 := by rw [List.length_take]; omega
        have ha2 := getN_lt (r.take 2)
        rw [lk] at hk2
        rw [la] at ha2
        have e1 := two_of _ la
        have e2 := two_of _ lk
        generalize hkk : getN ((r.drop 2).take 2) = k at *
        refine ⟨((getN (r.take 2) : Int), (r.drop 4).take k) :: M, by rw [h1]; simp, by simp [h2], by omega, ?_, ?_⟩
        · rw [List.length_drop] at h5; omega
        · have lp : ((r.drop 4).take k).length = k := by rw [List.length_take, List.length_drop]; omega
          rw [List.flatMap_cons, h6]
          simp only [one]
          rw [e1, lp, e2]
          have : r.take (v - u) = r.take (4 + k) ++ (r.drop (4 + k)).take (v - (u + (4 + k))) := by
            rw [← List.take_add]; congr 1; omega
          rw [this]
          congr 1
          rw [show 4 + k = 2 + (2 + k) by omega, List.take_add, List.take_add, List.append_assoc, List.drop_drop]
theorem putP_getP (s : List UInt8) (L : List Pc) (u : Nat) (h : getP s = (L, u, 0)) : putP L = s.take u ∧ u ≤ s.length ∧ right L = true ∧ L.length ≤ 65535 := by
  unfold getP at h
  split at h
  · simp at h
  · rename_i h2
    split at h
    · simp at h
    · rename_i M v hg
      split at h
      · rename_i hr
        simp only [Prod.mk.injEq, and_true] at h
        obtain ⟨rfl, rfl⟩ := h
        obtain ⟨M', h1, h3, h4, h5, h6⟩ := getF_back _ _ _ _ _ _ hg
        simp only [List.nil_append] at h1
        subst h1
        have la : (s.take 2).length = 2 := by rw [List.length_take]; omega
        have ha2 := getN_lt (s.take 2)
        rw [la] at ha2
        rw [List.length_drop] at h5
        refine ⟨?_, by omega, hr, by omega⟩
        unfold putP
        rw [if_pos ⟨hr, by omega⟩, h6, h3, two_of _ la]
        rw [show v = 2 + (v - 2) by omega, List.take_add, show 2 + (v - 2) - 2 = v - 2 by omega]
      · simp at h

/-- Which bytes are not the same. -/
def dif (a b : List UInt8) (i : Nat) : Bool := a.getD i 0 != b.getD i 0
theorem dif_comm (a b : List UInt8) : dif a b = dif b a := by funext i; unfold dif; exact bne_comm
/-- The pieces' places and ends behind k bytes, the last one first. -/
def step (R : List (Nat × Nat)) (i : Nat) : List (Nat × Nat) := match R with
  | [] => [(i, i + 1)]
  | (s, e) :: R => if i < e + 4 then (s, i + 1) :: R else (i, i + 1) :: (s, e) :: R
def ivs (d : Nat → Bool) : Nat → List (Nat × Nat)
  | 0 => []
  | k + 1 => if d k = true then step (ivs d k) k else ivs d k
theorem ivs_skip (d : Nat → Bool) (q : Nat) : ∀ k, q ≤ k → (∀ j, q ≤ j → j < k → d j = false) → ivs d k = ivs d q := by
  intro k
  induction k with
  | zero => intro h _; rw [show q = 0 by omega]
  | succ k ih =>
    intro h hd
    by_cases e : q = k + 1
    · subst e; rfl
    · have := hd k (by omega) (by omega)
      simp only [ivs, this]
      exact ih (by omega) (fun j h1 h2 => hd j h1 (by omega))
theorem ivs_ok (d : Nat → Bool) (k : Nat) : (∀ p ∈ ivs d k, p.1 < p.2 ∧ p.2 ≤ k ∧ d p.1 = true) ∧ (ivs d k).Pairwise (fun q p => p.2 ≤ q.1) := by
  induction k with
  | zero => simp [ivs]
  | succ k ih =>
    obtain ⟨h1, h2⟩ := ih
    simp only [ivs]
    split
    · rename_i hd
      match hr : ivs d k with
      | [] => simp [step, hd]
      | (s, e) :: R =>
        rw [hr] at h1 h2
        rw [List.pairwise_cons] at h2
        have hs := h1 (s, e) (by simp)
        simp only at hs
        simp only [step]
        split
        · refine ⟨fun p hp => ?_, ?_⟩
          · rcases List.mem_cons.1 hp with rfl | hp
            · exact ⟨by simp only; omega, by simp only; omega, hs.2.2⟩
            · have := h1 p (by simp [hp]); exact ⟨this.1, by omega, this.2.2⟩
          · rw [List.pairwise_cons]; exact ⟨fun p hp => h2.1 p hp, h2.2⟩
        · refine ⟨fun p hp => ?_, ?_⟩
          · rcases List.mem_cons.1 hp with rfl | hp
            · exact ⟨by simp only; omega, by simp only; omega, hd⟩
            · have := h1 p hp; exact ⟨this.1, by omega, this.2.2⟩
          · rw [List.pairwise_cons]
            refine ⟨fun p hp => ?_, by rw [List.pairwise_cons]; exact h2⟩
            have := h1 p hp; simp only; omega
    · exact ⟨fun p hp => by have := h1 p hp; exact ⟨this.1, by omega, this.2.2⟩, h2⟩
theorem ivs_length (d : Nat → Bool) (k : Nat) : (ivs d k).length ≤ k := by
  induction k with
  | zero => simp [ivs]
  | succ k ih =>
    simp only [ivs]
    split
    · match hr : ivs d k with
      | [] => simp [step]
      | (s, e) :: R =>
        rw [hr] at ih
        simp only [List.length_cons] at ih
        simp only [step]
        split <;> simp only [List.length_cons] <;> omega
    · omega
theorem ivs_cover (d : Nat → Bool) (k : Nat) : ∀ j, j < k → d j = true → ∃ p ∈ ivs d k, p.1 ≤ j ∧ j < p.2 := by
  induction k with
  | zero => intro j h; omega
  | succ k ih =>
    intro j hj hd
    have hok := (ivs_ok d k).1
    simp only [ivs]
    by_cases hk : d k = true
    · rw [if_pos hk]
      match hr : ivs d k with
      | [] =>
        by_cases e : j = k
        · subst e; exact ⟨(j, j + 1), by simp [step], by simp only; omega, by simp only; omega⟩
        · obtain ⟨p, hp, _⟩ := ih j (by omega) hd
          rw [hr] at hp; simp at hp
      | (s, e) :: R =>
        rw [hr] at hok
        have hs := hok (s, e) (by simp)
        simp only at hs
        simp only [step]
        by_cases hjk : j = k
        · subst hjk
          split
          · exact ⟨_, List.mem_cons_self, by simp only; omega, by simp only; omega⟩
          · exact ⟨_, List.mem_cons_self, by simp only; omega, by simp only; omega⟩
        · obtain ⟨p, hp, h1, h2⟩ := ih j (by omega) hd
          rw [hr] at hp
          split
          · rcases List.mem_cons.1 hp with rfl | hp
            · exact ⟨_, List.mem_cons_self, h1, by simp only at h2 ⊢; omega⟩
            · exact ⟨p, by simp [hp], h1, h2⟩
          · exact ⟨p, by simp only [List.mem_cons] at hp ⊢; exact .inr hp, h1, h2⟩
    · rw [if_neg hk]
      have : j ≠ k := fun e => hk (e ▸ hd)
      exact ih j (by omega) hd
/-- A piece of b. -/
def pc (b : List UInt8) (p : Nat × Nat) : Pc := ((p.1 : Int), (b.drop p.1).take (p.2 - p.1))
def pcs (b : List UInt8) (R : List (Nat × Nat)) : List Pc := R.reverse.map (pc b)
theorem pc_length (b : List UInt8) (p : Nat × Nat) (h : p.2 ≤ b.length) (h1 : p.1 < p.2) : (pc b p).2.length = p.2 - p.1 := by
  simp only [pc, List.length_take, List.length_drop]; omega
theorem pcs_cons (b : List UInt8) (p : Nat × Nat) (R : List (Nat × Nat)) : pcs b (p :: R) = pcs b R ++ [pc b p] := by simp [pcs]
theorem pcs_length (b : List UInt8) (R : List (Nat × Nat)) : (pcs b R).length = R.length := by simp [pcs]
def diff (a b : List UInt8) : List Pc := if a.length = b.length ∧ b.length ≤ 65535 then pcs b (ivs (dif a b) b.length) else []
theorem diff_length (a b : List UInt8) : (diff a b).length ≤ b.length ∧ (diff a b).length ≤ 65535 := by
  unfold diff
  split
  · rename_i h
    rw [pcs_length]
    have := ivs_length (dif a b) b.length
    omega
  · simp
theorem pcs_right (b : List UInt8) (R : List (Nat × Nat)) (hb : b.length ≤ 65535) (h : ∀ p ∈ R, p.1 < p.2 ∧ p.2 ≤ b.length) (hp : R.Pairwise (fun q p => p.2 ≤ q.1)) : right (pcs b R) = true := by
  refine rightFrom_of _ 0 ?_ ?_ ?_
  · intro p hp
    obtain ⟨q, _, rfl⟩ := List.mem_map.1 hp
    simp [pc]
  · intro p hp
    obtain ⟨q, hq, rfl⟩ := List.mem_map.1 hp
    have hq' := h q (by simpa using hq)
    have hl := pc_length b q hq'.2 hq'.1
    refine ⟨by simp only [pc]; omega, ?_, by omega⟩
    intro e; rw [e] at hl; simp at hl; omega
  · unfold pcs
    rw [List.pairwise_map, List.pairwise_reverse]
    refine (List.Pairwise.and_mem.1 hp).imp ?_
    rintro q p ⟨hq, hpm, hle⟩
    have := h p hpm
    have hl := pc_length b p this.2 this.1
    rw [hl]; simp only [pc]; omega
theorem diff_right (a b : List UInt8) : right (diff a b) = true := by
  unfold diff
  split
  · rename_i h
    obtain ⟨h1, h2⟩ := ivs_ok (dif a b) b.length
    exact pcs_right b _ h.2 (fun p hp => ⟨(h1 p hp).1, (h1 p hp).2.1⟩) h2
  · rfl
theorem getElem?_put1 (s d : List UInt8) (a j : Nat) (h : a + d.length ≤ s.length) : (put1 s a d)[j]? = if a ≤ j ∧ j < a + d.length then d[j - a]? else s[j]? := by
  unfold put1
  have la : (s.take a).length = a := by rw [List.length_take]; omega
  split
  · rename_i hj
    rw [List.append_assoc, List.getElem?_append_right (by omega), la, List.getElem?_append_left (by omega)]
  · rename_i hj
    by_cases h1 : j < a
    · rw [List.append_assoc, List.getElem?_append_left (by omega), List.getElem?_take_of_lt h1]
    · rw [List.getElem?_append_right (by simp only [List.length_append, la]; omega), List.length_append, la, List.getElem?_drop]
      congr 1; omega
theorem puts_at (b : List UInt8) (I : List (Nat × Nat)) : ∀ s : List UInt8, s.length = b.length → (∀ p ∈ I, p.1 < p.2 ∧ p.2 ≤ b.length) → ∀ j,
    (puts s (I.map (pc b)))[j]? = if ∃ p ∈ I, p.1 ≤ j ∧ j < p.2 then b[j]? else s[j]? := by
  induction I with
  | nil => intro s _ _ j; simp [puts]
  | cons p I ih =>
    intro s hs h j
    have hp := h p (by simp)
    have hl := pc_length b p hp.2 hp.1
    have hq : p.1 + (pc b p).2.length ≤ s.length := by rw [hl]; omega
    show (puts (put1 s (pc b p).1.toNat (pc b p).2) (I.map (pc b)))[j]? = _
    have ep : (pc b p).1.toNat = p.1 := by simp [pc]
    rw [ep, ih _ (by rw [put1_length _ _ _ hq]; exact hs) (fun q hq => h q (by simp [hq])), getElem?_put1 _ _ _ _ hq, hl]
    by_cases h1 : ∃ q ∈ I, q.1 ≤ j ∧ j < q.2
    · rw [if_pos h1, if_pos (by obtain ⟨q, hq, e⟩ := h1; exact ⟨q, by simp [hq], e⟩)]
    · rw [if_neg h1]
      by_cases h2 : p.1 ≤ j ∧ j < p.2
      · rw [if_pos (by omega), if_pos ⟨p, by simp, h2⟩]
        simp only [pc]
        rw [List.getElem?_take_of_lt (by omega), List.getElem?_drop]
        congr 1; omega
      · rw [if_neg (by omega), if_neg]
        rintro ⟨q, hq, e⟩
        rcases List.mem_cons.1 hq with rfl | hq
        · exact h2 e
        · exact h1 ⟨q, hq, e⟩
theorem apply_diff (a b : List UInt8) (h : a.length = b.length) (hb : b.length ≤ 65535) : apply a (diff a b) = (b, 0) := by
  unfold apply
  rw [if_pos (diff_right a b)]
  unfold diff
  rw [if_pos ⟨h, hb⟩]
  obtain ⟨h1, h2⟩ := ivs_ok (dif a b) b.length
  rw [applyF_none]
  · congr 1
    unfold pcs
    apply List.ext_getElem?
    intro j
    rw [puts_at b _ a h (fun p hp => by have := h1 p (by simpa using hp); exact ⟨this.1, this.2.1⟩)]
    split
    · rfl
    · rename_i hn
      by_cases hj : j < b.length
      · have : dif a b j = false := by
          rw [Bool.eq_false_iff]
          intro e
          obtain ⟨p, hp, e2⟩ := ivs_cover (dif a b) b.length j hj e
          exact hn ⟨p, by simpa using hp, e2⟩
        unfold dif at this
        simp only [bne_eq_false_iff_eq, List.getD_eq_getElem?_getD] at this
        rw [List.getElem?_eq_getElem (by omega), List.getElem?_eq_getElem hj] at this ⊢
        simpa using this
      · rw [List.getElem?_eq_none (by omega), List.getElem?_eq_none (by omega)]
  · intro p hp
    obtain ⟨q, hq, rfl⟩ := List.mem_map.1 hp
    have := h1 q (by simpa using hq)
    have hl := pc_length b q this.2.1 this.1
    rw [hl]; simp only [pc]; omega
theorem apply_none (a : List UInt8) : apply a [] = (a, 0) := rfl
theorem diff_other (a b : List UInt8) (h : a.length ≠ b.length) : diff a b = [] := by unfold diff; rw [if_neg (fun e => h e.1)]
theorem diff_self (a : List UInt8) : diff a a = [] := by
  unfold diff
  split
  · have : ivs (dif a a) a.length = [] := by
      rw [ivs_skip (dif a a) 0 _ (Nat.zero_le _) (fun j _ _ => by simp [dif])]; rfl
    rw [this]; rfl
  · rfl
/-- Both ways: the same places, as long, not the same bytes. -/
theorem diff_back (a b : List UInt8) (h : a.length = b.length) (hb : b.length ≤ 65535) : (diff a b).length = (diff b a).length ∧ ((diff a b = []) ↔ a = b) ∧
    ∀ j (h1 : j < (diff a b).length) (h2 : j < (diff b a).length), (diff a b)[j].1 = (diff b a)[j].1 ∧ (diff a b)[j].2.length = (diff b a)[j].2.length ∧ (diff a b)[j].2 ≠ (diff b a)[j].2 := by
  have e1 : diff a b = pcs b (ivs (dif a b) b.length) := by unfold diff; rw [if_pos ⟨h, hb⟩]
  have e2 : diff b a = pcs a (ivs (dif a b) b.length) := by unfold diff; rw [if_pos ⟨h.symm, by omega⟩, dif_comm, h]
  refine ⟨by rw [e1, e2, pcs_length, pcs_length], ⟨fun he => ?_, fun he => by rw [he]; exact diff_self b⟩, ?_⟩
  · have := apply_diff a b h hb
    rw [he] at this
    exact (Prod.mk.inj this).1
  · rw [e1, e2]
    intro j h1 h2
    simp only [pcs, List.getElem_map]
    have hm : ∀ p ∈ ivs (dif a b) b.length, _ := (ivs_ok (dif a b) b.length).1
    have hj : j < (ivs (dif a b) b.length).reverse.length := by simpa [pcs] using h1
    have hq := hm ((ivs (dif a b) b.length).reverse[j]) (by simp)
    generalize (ivs (dif a b) b.length).reverse[j] = q at hq
    refine ⟨rfl, by rw [pc_length b q hq.2.1 hq.1, pc_length a q (by omega) hq.1], ?_⟩
    intro e
    have e0 := congrArg (fun l => l[0]?) e
    simp only [pc] at e0
    rw [List.getElem?_take_of_lt (by omega), List.getElem?_take_of_lt (by omega), List.getElem?_drop, List.getElem?_drop] at e0
    have hd := hq.2.2
    unfold dif at hd
    simp only [bne_iff_ne, ne_eq, List.getD_eq_getElem?_getD] at hd
    apply hd
    simp only [Nat.add_zero] at e0
    rw [e0]
end Go.Proofs.YtaepbmcmggnmpaaDoor.Pt.M
